import PyProof.Rows.All
import Wide.All
import OpenK.AllK
import Wide.FinOn
import KE.KExcSuper
import HandS.Base
import HandS.Call
import HandS.List
import HandS.Exc
import HandS.ExcOwn
import HandS.TryOnly
import HandS.WordsExc
import HandS.ForMost
import HandS.Wide
import HandS.IsInst
import HandS.Gcd
import HandS.Property
import HandS.Defaults
import HandS.Star
import KE.KOpsOwn
import HandS.CallSlots
import HandS.SlotsOwn
import KE.KStateDown
import HandS.Ends
import HandS.Head0
import HandS.Head1
import HandS.Head2
import HandS.Head3
import HandS.HeadEnd
import HandS.HeadHook1
import HandS.HeadHook2
import HandS.RaiseMore
import HandS.Dict
import PyProof.ReprRoads
import HandS.Text
import HandS.MapJoin
import HandS.Rev
import HandS.RevTup
import PyProof.NeKinds
import PyProof.EqKinds
import PyProof.FactsAll.dict
import HandS.OwnEq
import HandS.Iter
import KE.GoesMore
import HandS.Walk
import HandS.ExcIs
import HandS.TryMany
import HandS.Style
import HandS.TupLe
import HandS.DictComp
import PySem.Challenge.RW_anytempo_k11_maps_refused
set_option Elab.async false
set_option linter.all false
set_option maxRecDepth 100000
set_option maxHeartbeats 4000000
/-! Exception classes whose __init__ says super().__init__(a text) and stores its one argument. -/
namespace Xb
open PySem PySem.W PySem.Calls PyProof.Rows
abbrev arg2 (F : Str) (p1 p2 : Pos) : Arguments :=
  { posonlyargs := [], args := [{ arg := "self", annotation := none, pos := p1 }, { arg := F, annotation := none, pos := p2 }],
    vararg := none, kwonlyargs := [], kw_defaults := [], kwarg := none, defaults := [] }
abbrev bod2 (F txt : Str) (k : Nat) (q1 q2 q3 q4 q5 q6 q7 q8 q9 q10 : Pos) : List Stmt :=
  [.Expr (.Call (.Attribute (.Call (.Name "super" q1) [] [] q2) "__init__" q3) [.Constant (.str txt) k q4] [] q5) q6,
   .Assign [.Attribute (.Name "self" q7) F q8] (.Name F q9) q10]
abbrev sco2 (F : Str) : Scope :=
  { kind := .function, names := [(PySem.Str.ofString "self", .local), (F, .local), (PySem.Str.ofString "__class__", .free), (PySem.Str.ofString "super", .globalImplicit)],
    isGenerator := false, isCoroutine := false, more := [] }
/-- the names of the one field are no other names -/
structure Nm (F : Str) : Prop where
  s : (sco2 F).names.lookup ("super" : Str) = some .globalImplicit
  c : (sco2 F).names.lookup ("__class__" : Str) = some .free
  f : (sco2 F).names.lookup F = some .local
  l : (sco2 F).names.lookup ("self" : Str) = some .local
  ne : (F == ("self" : Str)) = false
  en : (("self" : Str) == F) = false
  db : (F == ("__debug__" : Str)) = false
  b : ∀ (q : Str) (bd : List Stmt) (kV doc pm : Value) (an : Option Addr) (cd ct : Value) (cc : Addr) (p1 p2 : Pos) (u v : Value),
    bindArgs (ksFn "__init__" q (arg2 F p1 p2) bd (sco2 F) .none kV doc pm an cd ct cc) ⟨[u, v], []⟩ = pure [(("self" : Str), u), (F, v)]
theorem mcall1 {o : Expr} {name : Str} {apos pos p4 : Pos} {txt : Str} {kk : Nat} {env : Env} (h : (apos.endLine == pos.line) = true) :
    eval (.Call (.Attribute o name apos) [.Constant (.str txt) kk p4] [] pos) env = (do
      let ov ← attributeBase o name env (eval o env)
      standAt apos.atName
      let (f, first) ← holding [ov] (getMethod ov name (do return (← importBound o env).getD true))
      callWith pos f first (backTo pos (starEach [.Constant (.str txt) kk p4] env)) []) := by
  have e : ∀ ov, methodCall o name apos pos env ov 1 (backTo pos (starEach [.Constant (.str txt) kk p4] env)) [] = (do
      let (f, first) ← holding [ov] (getMethod ov name (do return (← importBound o env).getD true))
      callWith pos f first (backTo pos (starEach [.Constant (.str txt) kk p4] env)) []) := fun ov => by
    have hf : methodCallForm 1 (backTo pos (starEach [.Constant (.str txt) kk p4] env)) [] = true := rfl
    unfold methodCall methodCallPos calleeOf
    simp only [hf, h, Bool.not_true, Bool.false_or, if_true, pure_bind]
  show (do
      let ov ← attributeBase o name env (eval o env)
      standAt apos.atName
      methodCall o name apos pos env ov 1 (backTo pos (starEach [.Constant (.str txt) kk p4] env)) []) = _
  simp only [e]
theorem nm_value : Nm "value" := ⟨rfl, rfl, rfl, rfl, by decide, by decide, by decide, fun _ _ _ _ _ _ _ _ _ _ _ _ _ => rfl⟩
/-- what the written part says of the class at C and of its __init__ at fI -/
structure Txt (file : Str) (K : Frag) (q F txt : Str) (C fI : Addr) : Prop where
  nm : Nm F
  cls : ∃ nm q' N bs bm sn sub ab col dd k0 k1 k2 k3 k5, K.lookup C = some (excClassObj nm q' C N bs bm true sn sub ab col dd k0 k1 k2 k3 k5 "ValueError.__new__") ∧ HandSPX.refsVE bm = true
  sa : findIn K (.ref C) "__setattr__" = some (some (.builtin "object.__setattr__"))
  ga : findIn K (.ref C) "__getattribute__" = some (some (.builtin "BaseException.__getattribute__"))
  gg : findIn K (.ref C) "__getattr__" = some none
  noF : findIn K (.ref C) F = some none
  iC : findIn K (.ref C) "__init__" = some (some (.ref fI))
  tC : typeIn K (.ref fI) = some (.type "function")
  kC : keepIn K (.ref C) = true
  exC : subIn K (.ref C) (.type "BaseException") = some true
  veC : subIn K (.ref C) (.type "ValueError") = some true
  tyC : typeIn K (.ref C) = some (.type "type")
  hdC : hasDictIn K C = true
  te : exmOne K (.ref C) (.ref C) = some true
  sup : ks_superIn K C C "__init__" = some (some (.builtin "ValueError.__init__"))
  slf : mroIn K C (.ref C) = some true
  gs : nsIn K mainGlobals "super" = some none
  tp : nsIn K cStatics "thirdparty.any" = some none
  fn : ∃ (oc : Value) (od : Option Addr) (kV doc pm : Value) (an : Option Addr) (cda : Addr) (ct : Value) (osl : Array (Option Value)) (cc : Addr) (p1 p2 : Pos) (kk : Nat) (q1 q2 q3 q4 q5 q6 q7 q8 q9 q10 : Pos),
    K.lookup fI = some ⟨oc, od, .func (ksFn "__init__" q (arg2 F p1 p2) (bod2 F txt kk q1 q2 q3 q4 q5 q6 q7 q8 q9 q10) (sco2 F) .none kV doc pm an (.ref cda) ct cc), osl⟩ ∧ codeIn K (.ref cda) q = true ∧ (q3.endLine == q5.line) = true ∧
    (∃ ccl cdd vs ccs tf, K.lookup cda = some ⟨ccl, cdd, .fields vs, ccs⟩ ∧ vs[2]? = some (.str file tf)) ∧ (∃ cl cld csl, K.lookup cc = some ⟨cl, cld, .cell (some (.ref C)), csl⟩)
/-- behind __init__ -/
structure Done (h h' : Heap) (x C dx t1 : Addr) (F : Str) (v : Value) : Prop where
  keep : ∀ b o, b ≠ x → h.get? b = some o → h'.get? b = some o
  obj : h'.get? x = some { cls := .ref C, dict := some dx, data := .fields #[.ref t1, .none, .none, .none, .bool false, .none] }
  dbig : h.objs.size ≤ dx
  dne : dx ≠ x
  ns : h'.Ns1 dx (fun y => if y = F then some v else none)
section
variable {prog : Program} {w : World} {A : Around} {E : Value → Shared → Prop} {h : Heap} {g : Array GenState} {d : Drawn} {t : Nat} {os : OsState}
variable {nm q : Str} {C N : Addr} {bs bm : List Value} {hdct : Bool} {sn : List Str} {sub : List Value} {ab : Bool} {col : Option Bool} {dd : Option Addr} {k0 k1 k2 k3 k5 : Option Value}
/-- the bound built-in __init__ is called -/
theorem mw_call {u e t0 : Addr} {rest : List Value} {Q : Value → Shared → Prop}
    (hC : h.get? C = some (excClassObj nm q C N bs bm hdct sn sub ab col dd k0 k1 k2 k3 k5 "ValueError.__new__")) (he : h.get? e = some (HandSPX.excO C t0))
    (hu : h.get? u = some (kxs_mw "ValueError.__init__" e)) (hz : rest.length ≤ sizeLine)
    (hq : ∀ h' t1, (∀ b o, b ≠ e → h.get? b = some o → h'.get? b = some o) → h'.get? e = some (HandSPX.excO C t1) → Q .none ⟨h', g, d, t, os⟩) :
    wpAny (model prog w) A (call (.ref u) rest) Q E ⟨h, g, d, t, os⟩ := by
  have FB := F.excBase_ValueError
  have c1 : (Value.type "method-wrapper" == Value.type "method" || Value.type "method-wrapper" == Value.type "builtin_function_or_method" || Value.type "method-wrapper" == Value.type "method-wrapper") = true := by decide
  refine wpAny_call (codeAny_of_tree ?_)
  show wpAny _ A.in1 (callAny (.ref u) ⟨rest, []⟩) _ _ _
  simp only [callAny]
  refine wpAny_bind (wpAny_load hu ?_)
  simp only [kxs_mw, c1, if_true]
  refine KFB.if_so (by decide) ?_
  refine wpAny_bind (check_bound_init (initId := "ValueError.__init__") FB.toExcCallFacts hC he rfl ?_)
  refine wpAny_bind (wpAny_pure (wpAny_pure ?_))
  refine ⟨plainId_quiet FB.init.plain _, codeAny_builtin FB.initEntry ?_⟩
  refine exc_init_tree (cls := .ref C) (t0 := t0) (dv := none) (c2 := .none) (c3 := .none) (b4 := .bool false) he hz fun h' k e' _ => ?_
  exact hq h' _ k e'
end
section
variable {prog : Program} {w : World} {A : Around} {E : Value → Shared → Prop} {R : Result → Shared → Prop} {s : Shared} {K : Frag} {q F txt : Str} {C fI : Addr} {mg mb : Str → Option Value}
theorem initX (T : Txt prog.main.file K q F txt C fI) {x t0 : Addr} {v : Value} (X : K.In s.heap) (hlim : s.heap.NoLimit) (hg : s.heap.Ns mainGlobals mg) (hb : s.heap.Ns builtinsNs mb) (hbs : mb "super" = some (.type "super"))
    (htop : (prog.main.scope.names.lookup ("super" : Str)).isSome = false) (hx : s.heap.get? x = some (HandSPX.excO C t0)) (hnx : K.lookup x = none) (hroom : A.depth < recursionLimit)
    (hq : ∀ h' tk dx t1, Done s.heap h' x C dx t1 F v → R (.ok (.ret .none)) { s with heap := h', toks := tk }) :
    codeAny (model prog w) A (.call (.ref fI) ⟨[.ref x, v], []⟩) R s := by
  obtain ⟨oc, od, kV, doc, pm, an, cda, ct, osl, cc, p1, p2, kk, q1, q2, q3, q4, q5, q6, q7, q8, q9, q10, ho, hcd, hpl, ⟨ccl, cdd, vs, ccs, tf, hcode, hvs⟩, cl, cld, csl, hcell⟩ := T.fn
  obtain ⟨nm, q', N, bs, bm, sn, sub, ab, col, dd, k0, k1, k2, k3, k5, hC, hbm⟩ := T.cls
  have hcl : clsIn K C = some { name := nm, bases := bs, mro := .ref C :: bm, ns := N, qualname := q', hasDict := true, slotNames := sn, subclasses := sub, abstract := ab, collection := col, hasDel := false } := by unfold clsIn; rw [hC] <;> rfl
  refine ks_codeAny_call_defAt (fd := ksFn "__init__" q (arg2 F p1 p2) (bod2 F txt kk q1 q2 q3 q4 q5 q6 q7 q8 q9 q10) (sco2 F) .none kV doc pm an (.ref cda) ct cc) (binds := [("self", .ref x), (F, v)]) hroom (X _ _ ho) rfl hlim (codeRec_of X hcd) rfl
    (BindsTo.of_eq (T.nm.b _ _ _ _ _ _ _ _ _ _ _ _ _)) (fun y hy => ?_) (fun y hy => ?_) (fun h₁ hns hk => ?_)
  · simp only [List.mem_cons, List.not_mem_nil, or_false] at hy
    rcases hy with rfl | rfl | rfl | rfl <;> (intro z; cases z)
  · simp only [List.mem_cons, List.not_mem_nil, or_false] at hy
    rcases hy with rfl | rfl
    · exact T.nm.l
    · exact T.nm.f
  have X1 : K.In h₁ := X.keeps hk
  have g1 : h₁.Ns mainGlobals mg := hg.keeps hk
  have b1 : h₁.Ns builtinsNs mb := hb.keeps hk
  have x1 := hk _ _ hx
  have vS : ([(PySem.Str.ofString "self", Value.ref x), (F, v)] : List (Str × Value)).reverse.lookup ("self" : Str) = some (.ref x) := by
    show List.lookup ("self" : Str) [(F, v), (("self" : Str), Value.ref x)] = _
    simp [List.lookup, T.nm.en]
  have vF : ([(PySem.Str.ofString "self", Value.ref x), (F, v)] : List (Str × Value)).reverse.lookup F = some v := by
    show List.lookup F [(F, v), (("self" : Str), Value.ref x)] = _
    simp [List.lookup]
  show _root_.PySem.wpAt _ _ _ (execs (_ :: _) _) _ _ _
  refine ks_wpAt_execs_cons (ks_wpAt_Expr_any (ks_wpAt_MethodCall ?_ (mcall1 hpl)))
  obtain ⟨oD, hD1, hD2⟩ : ∃ oD, h₁.get? C = some oD ∧ oD.data = .cls { name := nm, bases := bs, mro := .ref C :: bm, ns := N, qualname := q', hasDict := true, slotNames := sn, subclasses := sub, abstract := ab, collection := col, hasDel := false } := ⟨_, X1 _ _ hC, rfl⟩
  have I1 : InstAt h₁ x (HandSPX.excO C t0) C none := ⟨x1, rfl, rfl, trivial⟩
  refine ks_wpAt_super_base T.nm.s T.nm.c (by decide) rfl (X1 _ _ ho) rfl rfl rfl (X1 _ _ hcode) rfl hvs (beq_self_eq_true _) htop ?_
  refine ks_loadName_global rfl T.nm.s (loadGlobal_builtin g1 (mg_none_of X1 g1 T.gs) b1 hbs ⟨rfl, ?_⟩)
  refine wpAny_loadName_free rfl T.nm.c (by rfl) ⟨_, X1 _ _ hcell, rfl⟩ ?_
  refine wpAny_loadName_local rfl T.nm.l hns vS ?_
  refine ks_wpAny_isType_cls hD1 hD2 ⟨rfl, ?_⟩
  refine ks_wpAny_call_super hD1 hD2 x1 rfl (fun c e => by cases e) (looks_mroIn X1 T.slf) (fun h₂ e2 k2' => ?_)
  have X2 : K.In h₂ := X1.keeps k2'
  have x2 := k2' _ _ x1
  have n2 : h₂.Ns s.heap.objs.size (fun y => ([(PySem.Str.ofString "self", Value.ref x), (F, v)] : List (Str × Value)).reverse.lookup y) := hns.keeps k2'
  have I2 : InstAt h₂ x (HandSPX.excO C t0) C none := ⟨x2, rfl, rfl, trivial⟩
  have hxC : x ≠ C := ks_ne X2 I2 hcl
  have hsup := T.sup
  unfold ks_superIn at hsup
  rw [hcl] at hsup
  have hI : Looks (model prog w) h₂ (isInstance (.ref x) (.type "ValueError")) true := I2.type.andThen (looks_subIn X2 T.veC)
  show wpAny _ _ (getMethod (.ref h₁.objs.size) "__init__" _) _ _ _
  refine kxs_getMethod kxs_ValueError e2 (looks_opaque X2 T.tp) (l₀ := .ref C :: bm) (fun A Q E s k z => wpAny_bind ((looks_clsIn X2 hcl) A _ E s k (wpAny_pure z))) rfl X2 hsup hI hxC (by decide) ?_
  have k3' : ∀ b o, h₂.get? b = some o → (h₂.push (kxs_mw "ValueError.__init__" x)).get? b = some o := fun b o e => Heap.get?_push_of_some _ e
  have u3 : (h₂.push (kxs_mw "ValueError.__init__" x)).get? h₂.objs.size = some (kxs_mw "ValueError.__init__" x) := Heap.get?_push_size _ rfl
  refine kxs_callWith (i := "ValueError.__init__") (x := x) rfl (evalArgs_plain (spliced_cons (Constant_str (k := kk) (pos := q4) (spliced_nil ⟨u3, ?_⟩))))
  refine mw_call (k3' _ _ (X2 _ _ hC)) (k3' _ _ x2) u3 (by show 1 ≤ sizeLine; rw [sizeLine_eq]; omega) fun h₄ t1 k4 x4 => ?_
  have X4 : K.In h₄ := fun a o e => k4 a o (fun z => by rw [z, hnx] at e; cases e) (k3' _ _ (X2 _ _ e))
  have hxL : s.heap.objs.size ≠ x := Nat.ne_of_gt (Heap.lt_size hx)
  have n4 : h₄.Ns s.heap.objs.size (fun y => ([(PySem.Str.ofString "self", Value.ref x), (F, v)] : List (Str × Value)).reverse.lookup y) := by
    obtain ⟨o, es, ep, e, r⟩ := n2
    exact ⟨o, es, ep, k4 _ _ hxL (k3' _ _ e), r⟩
  show _root_.PySem.wpAt _ _ _ (execs (_ :: _) _) _ _ _
  refine wpAt_of_wpAny (wpAny_execs_cons (plainObj_wpAny_Assign_Attribute ?_))
  refine wpAny_Name (wpAny_loadName_local rfl T.nm.f n4 vF ?_) T.nm.db
  refine wpAny_Name (wpAny_loadName_local rfl T.nm.l n4 vS ?_) (by decide)
  refine set_plain X4 (ox := HandSPX.excO C t1) (od := none) ⟨x4, rfl, rfl, trivial⟩ T.sa ?_
  refine HandSPX.exc_osa X4 x4 hcl (show HandSPX.refsVE (.ref C :: bm) = true from hbm) rfl T.noF (fun h₅ tk₅ dx k₅ dn dne hx₅ hn₅ => ?_)
  show wpAny _ _ (execs _ _) _ _ _
  have z4 : ∀ b o, b ≠ x → s.heap.get? b = some o → h₄.get? b = some o := fun b o hb e => k4 b o hb (k3' _ _ (k2' _ _ (hk _ _ e)))
  refine wpAny_execs_nil (hq h₅ tk₅ dx t1 ⟨fun b o hb e => k₅ b o hb (z4 b o hb e), hx₅, ?_, dne, hn₅⟩)
  obtain ⟨o4, es4, ep4, e4, _⟩ := n4
  exact Nat.le_of_lt (Nat.lt_of_lt_of_le (Heap.lt_size e4) dn)

/-- a made one -/
structure Made (h h' : Heap) (e C d : Addr) (F : Str) (v : Value) : Prop where
  keep : ∀ b o, h.get? b = some o → h'.get? b = some o
  new : h.objs.size ≤ e
  obj : ∃ t1 : Addr, h'.get? e = some { cls := .ref C, dict := some d, data := .fields #[.ref t1, .none, .none, .none, .bool false, .none] }
  dbig : h.objs.size ≤ d
  dne : d ≠ e
  ns : h'.Ns1 d (fun y => if y = F then some v else none)
theorem madeX (T : Txt prog.main.file K q F txt C fI) {v : Value} (X : K.In s.heap) (hlim : s.heap.NoLimit) (hg : s.heap.Ns mainGlobals mg) (hb : s.heap.Ns builtinsNs mb) (hbs : mb "super" = some (.type "super"))
    (htop : (prog.main.scope.names.lookup ("super" : Str)).isSome = false) (hroom : A.depth + 1 < recursionLimit)
    (hq : ∀ h' tk e d, Made s.heap h' e C d F v → R (.ok (.ret (.ref e))) { s with heap := h', toks := tk }) :
    codeAny (model prog w) A (.call (.ref C) ⟨[v], []⟩) R s := by
  obtain ⟨nm, q', N, bs, bm, sn, sub, ab, col, dd, k0, k1, k2, k3, k5, hC, hbm⟩ := T.cls
  obtain ⟨hp, g, dr, tk, os⟩ := s
  have k : ∀ b o, hp.get? b = some o → ((hp.push (kdv_tup [v])).push (HandSPX.excO C hp.objs.size)).get? b = some o := fun b o e => Heap.get?_push_of_some _ (Heap.get?_push_of_some _ e)
  have hget : ((hp.push (kdv_tup [v])).push (HandSPX.excO C hp.objs.size)).get? (hp.objs.size + 1) = some (HandSPX.excO C hp.objs.size) := by heap_get
  have hnx : K.lookup (hp.objs.size + 1) = none := by
    cases e : K.lookup (hp.objs.size + 1) with
    | none => rfl
    | some o =>
      have z : hp.get? (hp.objs.size + 1) = some o := X _ _ e
      exact absurd (Nat.lt_of_succ_lt (Heap.lt_size z)) (Nat.lt_irrefl _)
  refine HandSPX.call_own _root_.PySem.F.excBase_ValueError (fun X => HandSPX.refsVE_contains X bm hbm) (X _ _ hC) (looks_findIn X T.iC) (fun self => bind_fn X self T.tC) (by show 1 ≤ sizeLine; rw [sizeLine_eq]; omega) ?_
  refine initX (s := ⟨(hp.push (kdv_tup [v])).push (HandSPX.excO C hp.objs.size), g, dr, tk, os⟩) T (X.keeps k) (hlim.keeps k) (hg.keeps k) (hb.keeps k) hbs htop hget hnx ?_ fun h' tk' dx t1 D => ?_
  · show A.depth + 1 < recursionLimit
    exact hroom
  · have old : ∀ b o, hp.get? b = some o → h'.get? b = some o := fun b o e => D.keep b o (Nat.ne_of_lt (Nat.lt_succ_of_lt (Heap.lt_size e))) (k b o e)
    have z : hp.objs.size + 1 + 1 ≤ dx := by
      have q := D.dbig
      simp only [Heap.size_push] at q
      exact q
    exact ⟨rfl, hq h' tk' (hp.objs.size + 1) dx ⟨old, Nat.le_succ _, ⟨_, D.obj⟩, Nat.le_trans (Nat.le_trans (Nat.le_succ _) (Nat.le_succ _)) z, D.dne, D.ns⟩⟩
end
end Xb
set_option Elab.async false
set_option linter.all false
set_option maxRecDepth 100000
set_option maxHeartbeats 4000000
namespace Xb
open PySem PySem.Spec PyProof.Rows L2
theorem boot_super : bootBuiltins "super" = some (.type "super") := by decide +kernel
theorem relO_one {F : Str} {v : V} {v' : Value} (r : RelV v v') (f : Str) : RelO (List.lookup f [(F, v)]) (if f = F then some v' else none) := by
  by_cases hw : f = F
  · subst hw
    rw [if_pos rfl]
    have q : List.lookup f [(f, v)] = some v := by simp [List.lookup]
    rw [q]
    exact r
  · rw [if_neg hw]
    have qw : (f == F) = false := by simpa using hw
    have q2 : List.lookup f [(F, v)] = none := by simp [List.lookup, qw]
    rw [q2]
    trivial
section
variable {X : Cx} {C fI : Addr} {q F txt : Str}
/-- C(e), to be raised -/
def tMkX (C : Addr) (F : Str) (ta : TA) : L2.St → Hp → XK → Prop := fun σ H Q => ta σ H fun vs H1 => ∃ v, vs = [v] ∧ ∀ d, H1 d = none → Q (.ref C) (some d) (upd H1 d (.xd [(F, v)]))
theorem pmk_x {x : Str} {a : Expr} {ta : TA} {p pos : Pos} {k : Nat} (T : Txt X.prog.main.file X.K q F txt C fI) (hm : X.mg x = some (.ref C)) (htop : (X.prog.main.scope.names.lookup ("super" : Str)).isSome = false) (hr : Room k X.A) (ha : PA X [a] ta) (hg : Gl X x := by rfl)
    (hdb : (x == ("__debug__" : Str)) = false := by decide)
    (he : starEach (a :: []) X.env = (false, eval a X.env) :: starEach [] X.env := by rfl) (hpl : (backTo pos (starEach [] X.env)).any (·.1) = false := by rfl) :
    PMk X (.Call (.Name x p) [a] [] pos) (tMkX C F ta) := by
  intro pins s σ H Q I h
  refine wpAny_Call_Name_kw (ld_glob I hg hm ?_ hdb)
  refine PySem.W.callWith_K (h₀ := X.base) I.ok.mod.kin T.kC (thn (ha.run pos pins s σ H _ I h) fun us s1 hh => ?_) he hpl
  obtain ⟨vs, H1, I1, r1, v, ev, q1⟩ := hh
  subst ev
  refine ⟨I1.kIn, ?_⟩
  cases r1 with
  | cons rv rn =>
    rename_i v' us'
    cases rn
    show wpAny _ _ (call (.ref C) [v']) _ _ _
    have hlim := I1.nolimit
    have M := I1.mod
    have hns : s1.heap.Ns mainGlobals X.mg := M.glob.keeps I1.bk
    obtain ⟨mb, hb, hbb⟩ := M.blt
    have hb1 : s1.heap.Ns builtinsNs mb := hb.keeps I1.bk
    have hbs : mb "super" = some (.type "super") := (hbb _ (by decide)).trans boot_super
    obtain ⟨hp, g, dr, tk, os⟩ := s1
    refine wpAny_call (madeX T I1.kIn hlim hns hb1 hbs htop (by have := hr.dp; omega) fun h' tk' e d M => ?_)
    show MkP X pins σ Q (.ref e) ⟨h', g, dr, tk', os⟩
    obtain ⟨t1, hoe⟩ := M.obj
    obtain ⟨G', g1, g2⟩ := restrict h' fun b => decide (b ≠ e)
    have gk : ∀ b, b ≠ e → G'.get? b = h'.get? b := fun b hb => g1 b (decide_eq_true hb)
    have ge : G'.get? e = none := g2 e (by simp)
    have old : ∀ b o, hp.get? b = some o → G'.get? b = some o := fun b o q => (gk b (Nat.ne_of_lt (Nat.lt_of_lt_of_le (Heap.lt_size q) M.new))).trans (M.keep b o q)
    have ob : ObjOk X.prog X.w (upd H1 d (.xd [(F, v)])) G' d (.xd [(F, v)]) :=
      ⟨_, M.ns.at (fun o q => (gk d M.dne).trans q), fun f => relO_one rv f⟩
    have J : Inv X pins σ (upd H1 d (.xd [(F, v)])) ⟨G', g, dr, tk', os⟩ := I1.laid (t' := tk') old M.dbig ob
    refine ⟨e, _, _, ⟨G', g, dr, tk', os⟩, _, .ref C, some d, rfl, J, fun b o q => ?_, ge, hoe, ⟨rfl, rfl⟩, rfl, rfl, ?_, rfl, I1.bare, raises_own T.exC T.tyC, q1 d (I1.hok.fresh M.dbig)⟩
    · by_cases hb : b = e
      · have q' : G'.get? b = some o := q
        rw [hb, ge] at q'; cases q'
      · exact (gk b hb).symm.trans q
    · rw [upd_ne (Ne.symm M.dne)]
      exact I1.hok.fresh M.new
/-- raise C(e) -/
def tRaiseX (C : Addr) (F : Str) (W : WX) (ta : TA) : TS := fun _ σ H => tMkX C F ta σ H fun cls d H' => W cls d σ H'
theorem ps_raiseX {x : Str} {a : Expr} {ta : TA} {W : WX} {p pos pos2 : Pos} {k : Nat} (hc : X.calm = true) (T : Txt X.prog.main.file X.K q F txt C fI) (hm : X.mg x = some (.ref C)) (htop : (X.prog.main.scope.names.lookup ("super" : Str)).isSome = false) (hr : Room k X.A) (tk : Takes X W) (ha : PA X [a] ta) (hg : Gl X x := by rfl)
    (hdb : (x == ("__debug__" : Str)) = false := by decide)
    (he : starEach (a :: []) X.env = (false, eval a X.env) :: starEach [] X.env := by rfl) (hpl : (backTo pos (starEach [] X.env)).any (·.1) = false := by rfl) :
    PS X (.Raise (some (.Call (.Name x p) [a] [] pos)) none pos2) (tRaiseX C F W ta) := ps_raise hc tk (pmk_x T hm htop hr ha hg hdb he hpl)
/-- e.F, e the exception that the suite holds (at a; its class cls, its dict d) -/
def tByX (C : Addr) (F : Str) (a : Addr) (cls : Value) (d : Option Addr) (te : TE) : TE := fun σ H Q => te σ H fun x H1 => x = .ref a ∧ cls = .ref C ∧ ∃ (dd : Addr) (v : V), d = some dd ∧ H1 dd = some (.xd [(F, v)]) ∧ Q v H1
theorem pe_byX {a : Addr} {oe : Obj} {cls : Value} {d : Option Addr} {pn : List (Addr × Obj)} {e : Expr} {te : TE} {pos : Pos} (T : Txt X.prog.main.file X.K q F txt C fI) (hz : Zc cls d oe) (hf : ∃ vs, oe.data = .fields vs) (he : PE (X.suite a ((a, oe) :: pn)) e te)
    (hb : attributeBase e F X.env (eval e X.env) = eval e X.env := by rfl) :
    PE (X.suite a ((a, oe) :: pn)) (.Attribute e F pos) (tByX C F a cls d te) := by
  refine ⟨fun pins s σ H Q I h => ?_⟩
  refine attr_of hb (thn (he.run pins s σ H _ I h) fun u s1 hh => ?_)
  obtain ⟨x, H1, I1, rx, ex, ec, dd, v, ed, ea, q⟩ := hh
  subst ex
  obtain rfl : u = Value.ref a := rx
  subst ec
  subst ed
  obtain ⟨ha, _⟩ := I1.pin (a, oe) (List.mem_append_left _ List.mem_cons_self)
  obtain ⟨vs, hd⟩ := hf
  have hx : ObjOk X.prog X.w H1 s1.heap dd (.xd [(F, v)]) := I1.hok dd _ ea
  obtain ⟨mA, hns, hr⟩ := hx
  obtain ⟨od, ho, hl⟩ := lookIn_ns hns
  have l : List.lookup F [(F, v)] = some v := by simp [List.lookup]
  obtain ⟨u, hu, ru⟩ := RelO.some_of (v := v) (o := mA F) (by rw [← l]; exact hr F)
  have J : PySem.W.InstAt s1.heap a oe C (some od) := ⟨ha, hz.1, by unfold PySem.W.notCls; rw [hd] <;> rfl, by rw [hz.2]; exact ho⟩
  exact HandSPX.exc_get I1.kIn J T.ga T.gg T.exC (PySem.W.findObj_own T.hdC T.noF rfl (by rw [hl, hu])) (handed_of ru) ⟨v, H1, I1.tok _, ru, q⟩
end
end Xb
set_option Elab.async false
set_option linter.all false
set_option maxRecDepth 100000
set_option maxHeartbeats 4000000
namespace Fa
open PySem PySem.Spec PyProof.Rows L2
/-! ### the draws of the laws: a box of three ints -/
/-- a box at p, of which fewer than n draws were taken by the second way -/
def Box (H : Hp) (p : Addr) (n : Nat) : Prop := ∃ a b c : Int, H p = some (.lst [.int a, .int b, .int c]) ∧ 0 ≤ a ∧ 0 ≤ b ∧ b < 2147483648 ∧ 0 ≤ c ∧ c ≤ (n : Int)
theorem Box.mono {H : Hp} {p : Addr} {n m : Nat} (h : Box H p n) (e : n ≤ m) : Box H p m := by
  obtain ⟨a, b, c, h1, h2, h3, h4, h5, h6⟩ := h
  exact ⟨a, b, c, h1, h2, h3, h4, h5, by omega⟩
/-- all but p is as it was -/
def But (p : Addr) (H H' : Hp) : Prop := ∀ q, q ≠ p → H' q = H q
theorem But.refl (p : Addr) (H : Hp) : But p H H := fun _ _ => rfl
theorem But.trans {p : Addr} {H H1 H2 : Hp} (a : But p H H1) (b : But p H1 H2) : But p H H2 := fun q h => (b q h).trans (a q h)
theorem But.upd {p : Addr} {H : Hp} {o : HO} : But p H (upd H p o) := fun _ h => upd_ne h
def spCel (K : PySem.W.Frag) : Sp := fun vs H Q _ => ∃ (l : Addr) (ns : List Int) (j : Nat), vs = [.ref l, .int (j : Int)] ∧ SqL K H l (ns.map V.int) ∧ j ≤ 1000 ∧ ∀ z : Int, Q (.int z) H
def spBox : Sp := fun vs H Q _ => ∃ c : Int, vs = [.int c] ∧ ∀ p H', H p = none → (∀ q, q ≠ p → H' q = H q) → Box H' p 0 → Q (.ref p) H'
def spTake : Sp := fun vs H Q _ => ∃ (p : Addr) (m : Int) (n : Nat), vs = [.ref p, .int m] ∧ Box H p n ∧ n ≤ 1000000 ∧ 0 < m ∧ m < 2 ^ 1000 ∧ ∀ (z : Int) (H' : Hp), 0 ≤ z → z < m → Box H' p (n + 1) → But p H H' → Q (.int z) H'
theorem cdivW {a m : Int} (h : 0 < m) (h2 : m < 2 ^ 1000) : CDivW a m := ⟨h, by
  have e : m.natAbs < 2 ^ 1000 := by omega
  exact Nat.lt_of_lt_of_le ((Nat.log2_lt (by omega)).mpr e) (by omega)⟩
theorem atI3 {α : Type} {a b c : α} (i : Int) (h0 : i = 0 ∨ i = 1 ∨ i = 2) : atI [a, b, c] i = some (if i = 0 then a else if i = 1 then b else c) := by
  rcases h0 with rfl | rfl | rfl <;> rfl
end Fa
set_option Elab.async false
set_option linter.all false
set_option maxRecDepth 100000
set_option maxHeartbeats 4000000
namespace K11
open PySem PySem.Spec PyProof.Rows L2 Fa
def top (i : Nat) : Stmt := PySem.Challenge.pw_anytempo_k11_maps_refused.main.body.getD i (.Pass ⟨0, 0, 0, 0⟩)
abbrev FnP (K : PySem.W.Frag) (x : Str) (st : Stmt) (f : Addr) (fd : FuncData) : Prop := FunD K x x (defArgs st) (defBody st) (defScope st) [] [] f fd


abbrev sCell : Stmt := top 26
abbrev sBox : Stmt := top 27
abbrev sTake : Stmt := top 28
theorem scCell : FnScope ["_law_script", "_law_index"] ["_law_script", "_law_index"] (defScope sCell) := ⟨rfl, rfl, rfl, by decide +kernel, rfl, by decide +kernel, by decide +kernel⟩
theorem scBox : FnScope ["_law_cell_here"] ["_law_cell_here"] (defScope sBox) := ⟨rfl, rfl, rfl, by decide +kernel, rfl, by decide +kernel, by decide +kernel⟩
theorem scTake : FnScope ["_law_bag_here", "_law_many", "_law_digit", "_law_mixed"] ["_law_bag_here", "_law_many"] (defScope sTake) := ⟨rfl, rfl, rfl, by decide +kernel, rfl, by decide +kernel, by decide +kernel⟩
section
variable {P : Program} {w : World} {K : PySem.W.Frag} {mg : Str → Option Value} {base : Heap} {f : Addr} {fd : FuncData}
theorem ok_cell (F : FnP K "_law_cell" sCell f fd) (mL : mg "len" = none) : FnOk P w K mg base CX0 1 f fd ["_law_script", "_law_index"] (spCel K) := by
  refine F.ok scCell (fun vs H Q E h => ?_) (fun cdv A outer s H vs Q E hr h => ?_)
  · obtain ⟨l, ns, j, rfl, _⟩ := h
    rfl
  · obtain ⟨l, ns, j, rfl, hs, hj, q⟩ := h
    refine ⟨_, PSs.nox (pss_cons (ps_if (pt_cmpR op_lt (pv 1) (pe_callB call_len rfl mL boot_len (pa_cons (pv 0) pa_nil)) (nomark _)) (pss_one (ps_ret (pe_ix ix_list (pv 0) (pv 1) (fun _ _ => rfl)))) pss_nil)
      (pss_one (ps_ret (pe_op op_add (pe_op op_mul pe_int (pv 1)) pe_int)))), ?_⟩
    refine ⟨_, rfl, _, rfl, _, (ns.map V.int).length, rfl, .inl ⟨_, hs, rfl⟩, _, _, rfl, rfl, _, rfl, ?_⟩
    refine ite2 (fun c => ?_) (fun c => ?_)
    · have c2 := of_decide_eq_true c
      have c3 : j < ns.length := by
        rw [List.length_map] at c2
        omega
      have e : atI (ns.map V.int) (j : Int) = some (.int ns[j]) := atI_nat (by
        rw [List.getElem?_map, List.getElem?_eq_getElem c3]
        rfl)
      exact ⟨_, rfl, _, rfl, l, _, _, _, rfl, rfl, hs, e, q _⟩
    · refine ⟨_, rfl, _, _, rfl, rfl, .inl ⟨by decide, by decide⟩, _, _, rfl, rfl, q _⟩
theorem ok_box (F : FnP K "_law_bag" sBox f fd) (mM : mg "max" = none) : FnOk P w K mg base CX0 1 f fd ["_law_cell_here"] spBox := by
  refine F.ok scBox (fun vs H Q E h => ?_) (fun cdv A outer s H vs Q E hr h => ?_)
  · obtain ⟨c, rfl, _⟩ := h
    rfl
  · obtain ⟨c, rfl, q⟩ := h
    refine ⟨_, PSs.nox (pss_one (ps_ret (pe_lst (pa_cons (pe_callB (call_max2 rfl) rfl mM (by decide +kernel) (pa_cons pe_int (pa_cons (pe_op op_sub (pv 0) (pe_op op_pow pe_int pe_int)) pa_nil)))
      (pa_cons (pe_op op_mod (pv 0) pe_int) (pa_cons pe_int pa_nil)))))), ?_⟩
    refine ⟨_, rfl, _, _, rfl, rfl, ⟨by decide, by decide, by decide⟩, _, _, rfl, rfl, _, _, rfl, ?_⟩
    refine ⟨_, rfl, _, _, rfl, rfl, (by show (0 : Int) < 2147483629; decide), (by show 3 ≤ sizeLine; decide), fun p hp => ?_⟩
    refine q p _ hp (fun z hz => upd_ne hz) ⟨_, _, _, upd_same, ?_, ?_, ?_, by decide, by decide⟩
    · split <;> omega
    · exact Int.emod_nonneg _ (by decide)
    · exact Int.lt_trans (Int.emod_lt_of_pos _ (by decide)) (by decide)
theorem ok_take (F : FnP K "_law_take" sTake f fd) : FnOk P w K mg base CX0 1 f fd ["_law_bag_here", "_law_many"] spTake := by
  refine F.ok scTake (fun vs H Q E h => ?_) (fun cdv A outer s H vs Q E hr h => ?_)
  · obtain ⟨p, m, n, rfl, _⟩ := h
    rfl
  · obtain ⟨p, m, n, rfl, ⟨a, b, c, hp, ha, hb, hb2, hc, hc2⟩, hn, hm, hm2, q⟩ := h
    refine ⟨_, PSs.nox (pss_cons (ps_if (pt_cmpR op_gt (pe_ix ix_list (pv 0) pe_int (fun _ _ => rfl)) pe_int (nomark _))
        (pss_cons (ps_set (i := 2) scTake.nd rfl (Or.inl rfl) (pe_op op_mod (pe_ix ix_list (pv 0) pe_int (fun _ _ => rfl)) (pv 1)))
        (pss_cons (ps_asg (pe_op op_fdivW (pe_ix ix_list (pv 0) pe_int (fun _ _ => rfl)) (pv 1)) (pg_sub (pv 0) pe_int set_list))
        (pss_one (ps_ret (pv 2))))) pss_nil)
      (pss_cons (ps_asg (pe_op op_add (pe_ix ix_list (pv 0) pe_int (fun _ _ => rfl)) pe_int) (pg_sub (pv 0) pe_int set_list))
      (pss_cons (ps_set (i := 3) scTake.nd rfl (Or.inl rfl) (pe_op op_mod (pe_op op_pow (pe_op op_add (pe_op op_add (pe_ix ix_list (pv 0) pe_int (fun _ _ => rfl)) (pe_op op_mul pe_int (pe_ix ix_list (pv 0) pe_int (fun _ _ => rfl)))) pe_int) pe_int) pe_int))
      (pss_cons (ps_set (i := 3) scTake.nd rfl (Or.inl rfl) (pe_op op_mod (pe_op op_pow (pe_op op_add (pv 3) (pe_op op_mul pe_int (pe_ix ix_list (pv 0) pe_int (fun _ _ => rfl)))) pe_int) pe_int))
      (pss_one (ps_ret (pe_op op_mod (pe_op op_fdiv (pv 3) pe_int) (pv 1)))))))), ?_⟩
    refine ⟨_, rfl, p, _, _, _, rfl, rfl, SqL.of hp, rfl, _, _, rfl, rfl, _, rfl, ?_⟩
    refine ite2 (fun t => ?_) (fun t => ?_)
    · have t2 : (0 : Int) < a := of_decide_eq_true t
      refine ⟨_, rfl, p, _, _, _, rfl, rfl, SqL.of hp, rfl, _, rfl, _, _, rfl, rfl, hm, ?_⟩
      refine ⟨_, rfl, p, _, _, _, rfl, rfl, SqL.of hp, rfl, _, rfl, _, _, rfl, rfl, cdivW hm hm2, ?_⟩
      refine ⟨_, rfl, p, _, _, _, rfl, rfl, hp, rfl, ?_⟩
      refine ⟨_, rfl, ?_⟩
      refine q _ _ (Int.emod_nonneg _ (by omega)) (Int.emod_lt_of_pos _ hm) ⟨_, _, _, upd_same, Int.ediv_nonneg ha (by omega), hb, hb2, hc, by omega⟩ But.upd
    · refine ⟨_, rfl, p, _, _, _, rfl, rfl, SqL.of hp, rfl, _, _, rfl, rfl, _, rfl, p, _, _, _, rfl, rfl, hp, rfl, ?_⟩
      have s1 : SqL K (upd H p (.lst [.int a, .int b, .int (c + 1)])) p [.int a, .int b, .int (c + 1)] := SqL.of upd_same
      refine ⟨_, rfl, p, _, _, _, rfl, rfl, s1, rfl, _, rfl, p, _, _, _, rfl, rfl, s1, rfl, _, _, rfl, rfl, .inl ⟨by decide, by decide⟩, _, _, rfl, rfl, _, _, rfl, rfl, _, _, rfl, rfl, ⟨by decide, by decide, ?_⟩, _, _, rfl, rfl, (by show (0 : Int) < 2147483647; decide), ?_⟩
      · show (b + 512927377 * (c + 1) + 433).natAbs < 2 ^ 64
        omega
      have g1 : 0 ≤ (b + 512927377 * (c + 1) + 433) ^ Int.toNat 5 % 2147483647 := Int.emod_nonneg _ (by decide)
      have g2 : (b + 512927377 * (c + 1) + 433) ^ Int.toNat 5 % 2147483647 < 2147483647 := Int.emod_lt_of_pos _ (by decide)
      refine ⟨_, rfl, _, rfl, p, _, _, _, rfl, rfl, s1, rfl, _, _, rfl, rfl, .inl ⟨by decide, by decide⟩, _, _, rfl, rfl, _, _, rfl, rfl, ⟨by decide, by decide, ?_⟩, _, _, rfl, rfl, (by show (0 : Int) < 2147483587; decide), ?_⟩
      · show ((b + 512927377 * (c + 1) + 433) ^ Int.toNat 5 % 2147483647 + 103217 * (c + 1)).natAbs < 2 ^ 64
        omega
      refine ⟨_, rfl, _, _, rfl, rfl, ⟨by decide, by decide⟩, _, rfl, _, _, rfl, rfl, hm, ?_⟩
      exact q _ _ (Int.emod_nonneg _ (by omega)) (Int.emod_lt_of_pos _ hm) ⟨_, _, _, upd_same, ha, hb, hb2, by omega, by omega⟩ But.upd
end


end K11
set_option Elab.async false
set_option linter.all false
set_option maxRecDepth 100000
set_option maxHeartbeats 4000000
namespace Fb
open PySem PySem.W PySem.Calls PyProof.Rows
section
variable {prog : Program} {w : World} {A : Around} {E : Value → Shared → Prop} {s : Shared} {K : Frag} {x C L f : Addr} {h₀ : Heap} {m : Str → Option Value} {ox : Obj} {od : Option Obj} {T : String}
/-- x op b, x an instance with its own def for op, b of a built-in type T (b may be an object) -/
theorem bin_any {op : Operator} {b : Value} {fo ro rc : Option Value} {Q : Value → Shared → Prop}
    (X : K.In s.heap) (I : InstAt s.heap x ox C od) (hb : ∀ M : Model, Looks M s.heap (typeOf b) (.type T)) (hc : selfFirst K C = true)
    (hs : findIn K (.ref C) (PySem.dunder op.info.2) = some (some (.ref f))) (hf : isFn K (.ref f) = true)
    (hr : findIn K (.ref C) (dunderR op.info.2) = some rc) (hp : rc = none ∨ ∃ g : Addr, rc = some (.ref g))
    (h1 : findIn K (.type T) (PySem.dunder op.info.2) = some fo) (h2 : findIn K (.type T) (dunderR op.info.2) = some ro) (hsub : subIn K (.type T) (.ref C) = some false)
    (h : wpAny (model prog w) A (call (.ref f) [.ref x, b]) (W.CmpBack Q) E s) : wpAny (model prog w) A (binaryOp op (.ref x) b) Q E s := by
  obtain ⟨cd, rest, hcd, hm⟩ := ksp_first hc
  rcases hi : op.info with ⟨sym, nm⟩
  rw [hi] at hs hr h1 h2
  dsimp only at hs hr h1 h2
  have one := ksp_try X I hs hf h
  obtain ⟨hh, g, d, tt, os⟩ := s
  have A1 : Looks (model prog w) hh (typeOf (.ref x)) (.ref C) := I.type
  have A2 : Looks (model prog w) hh (typeOf b) (.type T) := hb _
  have A3 : Looks (model prog w) hh (fillsNumberSlot (.ref C) nm) true := fills_K X hcd hm hs
  have A4 := ksp_fillsT (M := model prog w) (nm := nm) (T := T) X h1 h2
  have A5 : Looks (model prog w) hh (isSubtype (.type T) (.ref C)) false := looks_subIn X hsub
  have A6 : Looks (model prog w) hh (numberSlotInPython (.ref C) nm) true := ksp_inPy X hs hr hp
  have A7 : Looks (model prog w) hh (numberSlotInPython (.type T) nm) false := Looks.of_pure rfl
  have A8 : Looks (model prog w) hh (typeLookup (.type T) (dunderR nm)) ro := looks_findIn X h2
  generalize ((fo.isSome && !isSeqSlot fo) || (ro.isSome && !isSeqSlot ro)) = rt at A4
  have ne : (Value.ref C == Value.type T) = false := Bool.eq_false_iff.mpr fun z => by cases beq_iff_eq.mp z
  simp only [binaryOp, hi]
  refine wpAny_holding (wpAny_bind ?_)
  unfold binaryOp1
  refine wpAny_bind (A1.at (wpAny_bind (A2.at (wpAny_bind (A3.at ?_)))))
  simp only [ne, Bool.false_eq_true, if_false]
  cases rt <;>
  · ksp_lk
    refine wpAny_mono one (fun r s' z => ?_) fun _ _ e => e
    obtain ⟨v, rfl, hq⟩ := z
    ksp_lk
    exact hq
end
end Fb
namespace Fb
open PySem PySem.Spec PyProof.Rows L2
/-- an own operator of the class C, at the def f -/
structure OwnOp (K : PySem.W.Frag) (C : Addr) (nm : String) (f : Addr) : Prop where
  sf : PySem.W.selfFirst K C = true
  at_ : PySem.W.findIn K (.ref C) (PySem.dunder nm) = some (some (.ref f))
  fn : PySem.W.isFn K (.ref f) = true
  nr : PySem.W.findIn K (.ref C) (dunderR nm) = some none
/-- a built-in type at the right of it -/
def TyOp (K : PySem.W.Frag) (C : Addr) (nm : String) (T : String) : Prop := ∃ fo ro, PySem.W.findIn K (.type T) (PySem.dunder nm) = some fo ∧ PySem.W.findIn K (.type T) (dunderR nm) = some ro ∧ PySem.W.subIn K (.type T) (.ref C) = some false
/-- what may stand at the right -/
def RK (K : PySem.W.Frag) (C : Addr) (nm : String) (H : Hp) (y : V) : Prop := (∃ q dy gs, y = .ref q ∧ H q = some (.ins C dy gs)) ∨ ∃ T, TyX K H y (.type T) ∧ TyOp K C nm T
def tBinX (K : PySem.W.Frag) (C : Addr) (nm : String) (sp : Sp) (E : L2.St → XK) (ta tb : TE) : TE := fun σ H Q => ta σ H fun x H1 => tb σ H1 fun y H2 => ∃ p dx fs, x = .ref p ∧ H2 p = some (.ins C dx fs) ∧ RK K C nm H2 y ∧ sp [x, y] H2 Q (E σ)
def tUnX (C : Addr) (sp : Sp) (E : L2.St → XK) (ta : TE) : TE := fun σ H Q => ta σ H fun x H1 => ∃ p dx fs, x = .ref p ∧ H1 p = some (.ins C dx fs) ∧ sp [x] H1 Q (E σ)
section
variable {X : Cx} {CX : CXT} {k : Nat} {f C : Addr} {fd : FuncData} {ps : List Str} {sp : Sp} {E : L2.St → XK} {a b : Expr} {ta tb : TE} {pos : Pos}
theorem pe_binX {op : Operator} (W : OwnOp X.K C op.info.2 f) (F : FnOk X.prog X.w X.K X.mg X.base CX k f fd ps sp) (hr : Room k X.A) (hb : Binds X.K fd ps []) (hx : ∀ σ, PassesAt CX X σ (E σ)) (ha : PE X a ta) (hb2 : PE X b tb) :
    PE X (.BinOp a op b pos) (tBinX X.K C op.info.2 sp E ta tb) := by
  refine ⟨fun pins s σ H Q I h => ?_⟩
  refine wpAny_BinOp (bin ha hb2 I h fun v u s2 x y H2 I2 rx ry q => ?_)
  obtain ⟨p, dx, fs, ex, hp, rk, q⟩ := q
  subst ex
  obtain rfl : v = Value.ref p := rx
  obtain ⟨mA, O, _⟩ := ins_get I2.hok hp
  obtain ⟨od, J, _⟩ := O.look
  have go : wpAny (model X.prog X.w) X.A (call (.ref f) [.ref p, u]) (PySem.W.CmpBack (EP X pins σ Q)) X.xe s2 :=
    wpAny_mono (run_fnSD (dvs := []) (ds := []) (us := [.ref p, u]) (vs := [.ref p, y]) F hr hb .nil (hx σ) I2 (.cons rfl (.cons ry .nil)) q) (fun z s' hz => by
      obtain ⟨z', H', I', rz, qz⟩ := hz
      exact SlX.cmpback rz ⟨z', H', I', rz, qz⟩) fun _ _ x => x
  obtain ⟨m, hF⟩ := I2.fr
  rcases rk with ⟨q', dy, gs, ey, hq'⟩ | ⟨T, ty, fo, ro, h1, h2, h3⟩
  · subst ey
    obtain rfl : u = Value.ref q' := ry
    obtain ⟨mB, O', _⟩ := ins_get I2.hok hq'
    obtain ⟨od', J', _⟩ := O'.look
    exact PySem.W.binop_K hF I2.ok.mod.kin J J'.type W.sf W.at_ W.fn go
  · obtain ⟨P, Z, hP, _⟩ := kit_of I2 ry ty
    exact bin_any I2.kIn J (fun M => Z.ty M _ I2.kIn hP) W.sf W.at_ W.fn W.nr (.inl rfl) h1 h2 h3 go
/-- -a -/
theorem pe_negX (at_ : PySem.W.findIn X.K (.ref C) "__neg__" = some (some (.ref f))) (fn : PySem.W.isFn X.K (.ref f) = true) (F : FnOk X.prog X.w X.K X.mg X.base CX k f fd ps sp) (hr : Room k X.A) (hb : Binds X.K fd ps []) (hx : ∀ σ, PassesAt CX X σ (E σ)) (ha : PE X a ta) :
    PE X (.UnaryOp .USub a pos) (tUnX C sp E ta) := by
  refine ⟨fun pins s σ H Q I h => ?_⟩
  refine UnaryOp_ (thn (ha.run pins s σ H _ I h) fun v s1 ⟨x, H1, I1, r1, q1⟩ => ?_)
  obtain ⟨p, dx, fs, ex, hp, q⟩ := q1
  subst ex
  obtain rfl : v = Value.ref p := r1
  obtain ⟨mA, O, _⟩ := ins_get I1.hok hp
  obtain ⟨od, J, _⟩ := O.look
  obtain ⟨m, hF⟩ := I1.fr
  exact PySem.W.ksp_neg hF I1.ok.mod.kin J at_ fn (run_fnSD (dvs := []) (ds := []) (us := [.ref p]) (vs := [.ref p]) F hr hb .nil (hx σ) I1 (.cons rfl .nil) q)
/-- a == b, a an instance -/
theorem pe_eqX (at_ : PySem.W.findIn X.K (.ref C) "__eq__" = some (some (.ref f))) (fn : PySem.W.isFn X.K (.ref f) = true) (F : FnOk X.prog X.w X.K X.mg X.base CX k f fd ps sp) (hr : Room k X.A) (hb : Binds X.K fd ps []) (hx : ∀ σ, PassesAt CX X σ (E σ)) (ha : PE X a ta) (hb2 : PE X b tb) :
    PC X .Eq a b (fun σ H Q => ta σ H fun x H1 => tb σ H1 fun y H2 => ∃ p dx fs, x = .ref p ∧ H2 p = some (.ins C dx fs) ∧ ((∃ q dy gs, y = .ref q ∧ H2 q = some (.ins C dy gs)) ∨ ∃ T, TyX X.K H2 y (.type T) ∧ PySem.W.subIn X.K (.type T) (.ref C) = some false) ∧ sp [x, y] H2 Q (E σ)) := by
  refine ⟨fun pins s σ H Q I h => ?_⟩
  refine bin ha hb2 I h fun v u s2 x y H2 I2 rx ry q => ?_
  obtain ⟨p, dx, fs, ex, hp, rk, q⟩ := q
  subst ex
  obtain rfl : v = Value.ref p := rx
  obtain ⟨mA, O, _⟩ := ins_get I2.hok hp
  obtain ⟨od, J, _⟩ := O.look
  have go : wpAny (model X.prog X.w) X.A (call (.ref f) [.ref p, u]) (PySem.W.CmpBack (EP X pins σ Q)) X.xe s2 :=
    wpAny_mono (run_fnSD (dvs := []) (ds := []) (us := [.ref p, u]) (vs := [.ref p, y]) F hr hb .nil (hx σ) I2 (.cons rfl (.cons ry .nil)) q) (fun z s' hz => by
      obtain ⟨z', H', I', rz, qz⟩ := hz
      exact SlX.cmpback rz ⟨z', H', I', rz, qz⟩) fun _ _ x => x
  obtain ⟨m, hF⟩ := I2.fr
  rcases rk with ⟨q', dy, gs, ey, hq'⟩ | ⟨T, ty, h3⟩
  · subst ey
    obtain rfl : u = Value.ref q' := ry
    obtain ⟨mB, O', _⟩ := ins_get I2.hok hq'
    obtain ⟨od', J', _⟩ := O'.look
    exact PySem.W.cmp_K (op := .Eq) (tb := .ref C) hr.units0 hF I2.ok.mod.kin J J'.type (by simp [PySem.W.notFirst]) at_ fn go
  · obtain ⟨P, Z, hP, _⟩ := kit_of I2 ry ty
    exact PySem.W.cmp_K (op := .Eq) (tb := .type T) hr.units0 hF I2.ok.mod.kin J (fun A Q E s k z => Z.ty _ _ I2.kIn hP A Q E s k z) (by simp [PySem.W.notFirst, h3]) at_ fn go
end
end Fb
set_option Elab.async false
set_option linter.all false
set_option maxRecDepth 100000
set_option maxHeartbeats 4000000
namespace Fb
open PySem PySem.Spec PyProof.Rows L2
section
variable {X : Cx} {CX : CXT} {k : Nat} {f C : Addr} {fd : FuncData} {ps : List Str} {sp : Sp} {E : L2.St → XK} {a b : Expr} {ta tb : TE} {pos p : Pos}
theorem pe_absX (at_ : PySem.W.findIn X.K (.ref C) "__abs__" = some (some (.ref f))) (fn : PySem.W.isFn X.K (.ref f) = true) (F : FnOk X.prog X.w X.K X.mg X.base CX k f fd ps sp) (hr : Room (k + 2) X.A) (hb : Binds X.K fd ps []) (hx : ∀ σ, PassesAt CX X σ (E σ)) (hg : Gl X "abs") (hm : X.mg "abs" = none) (ha : PE X a ta)
    (he : starEach [a] X.env = (false, eval a X.env) :: starEach [] X.env := by rfl) (hpl : (backTo pos (starEach [] X.env)).any (·.1) = false := by rfl) :
    PE X (.Call (.Name "abs" p) [a] [] pos) (tUnX C sp E ta) := by
  refine ⟨fun pins s σ H Q I h => ?_⟩
  refine wpAny_Call_Name_kw (ld_blt I hg hm (by decide +kernel : bootBuiltins "abs" = some (.builtin "abs")) ?_)
  refine PyProof.Rows.callWith_builtin1 ?_ he hpl
  rw [he]
  show wpAny _ _ (spliced ((false, eval a X.env) :: backTo pos (starEach [] X.env))) _ _ s
  refine Calls.spliced_cons (thn (ha.run pins s σ H _ I h) fun v s1 ⟨x, H1, I1, r1, q1⟩ => Calls.spliced_nil ?_)
  obtain ⟨q0, dx, fs, ex, hp, q⟩ := q1
  subst ex
  obtain rfl : v = Value.ref q0 := r1
  obtain ⟨mA, O, _⟩ := ins_get I1.hok hp
  obtain ⟨od, J, _⟩ := O.look
  refine Calls.call_function_entry kind_abs plain_abs entry_abs (args_abs _) ?_
  have hr2 : Room k X.A.in1 := (show Room (k + 1) X.A.in1 from Room.in1 hr).mono (Nat.le_succ _)
  have hl : ([Value.ref q0]).length = ps.length := by
    rw [← F.len _ _ _ _ q]
    rfl
  have go : wpAny (model X.prog X.w) X.A.in1 (call (.ref f) [.ref q0]) (EP X pins σ Q) X.xe s1 := by
    refine wpAny_call (codeAny_mono (F.run X.A.in1 X.stack s1 H1 ⟨[.ref q0], []⟩ [.ref q0] [.ref q0] Q (E σ) hr2 I1.env0.in1 (hb s1 [.ref q0] I1.kIn hl) (.cons rfl .nil) q) fun r s' hq => ?_)
    cases r with
    | error e => exact hx σ pins H1 s1 e s' I1 hq
    | ok fl =>
      cases fl with
      | ret u => exact I1.after hq
      | next => exact False.elim hq
      | brk => exact False.elim hq
      | cont => exact False.elim hq
  unfold Builtin.«abs»
  refine wpAny_bind (m := oneArg "abs" _) (wpAny_pure ?_)
  refine wpAny_bind (m := callSpecial? (.ref q0) (Str.ofString "__abs__")) (PySem.W.special_fn I1.kIn J at_ (beq_iff_eq.mp fn) (wpAny_mono go (fun v' s' hv => ?_) fun _ _ y => y))
  exact wpAny_pure ⟨_, rfl, hv⟩
end
end Fb
set_option maxRecDepth 100000
namespace Am
/-- in lowest terms, the bottom above 0 -/
def Red (t u : Int) : Prop := 0 < u ∧ Nat.gcd t.natAbs u.natAbs = 1
theorem mk (a b : Int) (hb : b ≠ 0) (c : Int) (hc : c = (if b < 0 then -((Nat.gcd a.natAbs b.natAbs : Nat) : Int) else ((Nat.gcd a.natAbs b.natAbs : Nat) : Int))) :
    c ≠ 0 ∧ c.natAbs ≤ b.natAbs ∧ Red (a.fdiv c) (b.fdiv c) ∧ a.fdiv c * b = a * b.fdiv c ∧ (a.fdiv c).natAbs ≤ a.natAbs ∧ (b.fdiv c).natAbs ≤ b.natAbs := by
  have hbp : 0 < b.natAbs := Int.natAbs_pos.mpr hb
  have hg : 0 < Nat.gcd a.natAbs b.natAbs := Nat.gcd_pos_of_pos_right _ hbp
  have hgb : Nat.gcd a.natAbs b.natAbs ≤ b.natAbs := Nat.le_of_dvd hbp (Nat.gcd_dvd_right _ _)
  have hn : c.natAbs = Nat.gcd a.natAbs b.natAbs := by
    rw [hc]
    split <;> omega
  have h0 : c ≠ 0 := by omega
  have da : c ∣ a := Int.natAbs_dvd_natAbs.mp (by rw [hn]; exact Nat.gcd_dvd_left _ _)
  have db : c ∣ b := Int.natAbs_dvd_natAbs.mp (by rw [hn]; exact Nat.gcd_dvd_right _ _)
  obtain ⟨t, ht⟩ := da
  obtain ⟨u, hu⟩ := db
  have ea : a.fdiv c = t := by
    rw [ht]
    exact Int.mul_fdiv_cancel_left _ h0
  have eb : b.fdiv c = u := by
    rw [hu]
    exact Int.mul_fdiv_cancel_left _ h0
  have na : a.natAbs = c.natAbs * t.natAbs := by rw [ht, Int.natAbs_mul]
  have nb : b.natAbs = c.natAbs * u.natAbs := by rw [hu, Int.natAbs_mul]
  have hcp : 0 < c.natAbs := by omega
  have co : Nat.gcd t.natAbs u.natAbs = 1 := by
    have e : c.natAbs = c.natAbs * Nat.gcd t.natAbs u.natAbs := by
      rw [← Nat.gcd_mul_left, ← na, ← nb]
      exact hn
    exact Nat.eq_of_mul_eq_mul_left hcp (by rw [← e, Nat.mul_one])
  rw [ea, eb]
  have up : 0 < u := by
    by_cases h : b < 0
    · have c0 : c < 0 := by
        rw [hc, if_pos h]
        omega
      have : 0 < c * u ∨ ¬ 0 < c * u := Classical.em _
      rcases Int.lt_or_le 0 u with q | q
      · exact q
      · have z : 0 ≤ c * u := Int.mul_nonneg_of_nonpos_of_nonpos (Int.le_of_lt c0) q
        omega
    · have c0 : 0 < c := by
        rw [hc, if_neg h]
        omega
      rcases Int.lt_or_le 0 u with q | q
      · exact q
      · have z : c * u ≤ 0 := Int.mul_nonpos_of_nonneg_of_nonpos (Int.le_of_lt c0) q
        omega
  refine ⟨h0, by omega, ⟨up, co⟩, ?_, ?_, ?_⟩
  · rw [ht, hu]
    rw [Int.mul_left_comm, Int.mul_assoc]
  · rw [na]
    exact Nat.le_mul_of_pos_left _ hcp
  · rw [nb]
    exact Nat.le_mul_of_pos_left _ hcp
theorem uniq {t u n d : Int} (h : Red t u) (h' : Red n d) (e : t * d = n * u) : t = n ∧ u = d := by
  obtain ⟨hu, ht⟩ := h
  obtain ⟨hd, hn⟩ := h'
  have e1 : t.natAbs * d.natAbs = n.natAbs * u.natAbs := by rw [← Int.natAbs_mul, ← Int.natAbs_mul, e]
  have d1 : u.natAbs ∣ d.natAbs := by
    have z : u.natAbs ∣ t.natAbs * d.natAbs := by
      rw [e1]
      exact Nat.dvd_mul_left _ _
    exact (Nat.Coprime.dvd_of_dvd_mul_left (show Nat.Coprime u.natAbs t.natAbs by rw [Nat.coprime_comm]; exact ht) z)
  have d2 : d.natAbs ∣ u.natAbs := by
    have z : d.natAbs ∣ n.natAbs * u.natAbs := by
      rw [← e1]
      exact Nat.dvd_mul_left _ _
    exact (Nat.Coprime.dvd_of_dvd_mul_left (show Nat.Coprime d.natAbs n.natAbs by rw [Nat.coprime_comm]; exact hn) z)
  have e2 : u.natAbs = d.natAbs := Nat.dvd_antisymm d1 d2
  have e3 : u = d := by omega
  subst e3
  exact ⟨Int.eq_of_mul_eq_mul_right (by omega) e, rfl⟩
/-- what a pair of ints is worth: (t, u) in lowest terms and (n, d), d not 0 -/
def Is (t u n d : Int) : Prop := Red t u ∧ d ≠ 0 ∧ t * d = n * u
theorem is_of {t u a b n d : Int} (h : Red t u) (hb : b ≠ 0) (e : t * b = a * u) (hd : d ≠ 0) (e2 : a * d = n * b) : Is t u n d := by
  refine ⟨h, hd, ?_⟩
  have z : (t * d) * b = (n * u) * b := by
    calc (t * d) * b = (t * b) * d := by rw [Int.mul_assoc, Int.mul_comm d b, ← Int.mul_assoc]
      _ = (a * u) * d := by rw [e]
      _ = (a * d) * u := by rw [Int.mul_assoc, Int.mul_comm u d, ← Int.mul_assoc]
      _ = (n * b) * u := by rw [e2]
      _ = (n * u) * b := by rw [Int.mul_assoc, Int.mul_comm b u, ← Int.mul_assoc]
  exact Int.eq_of_mul_eq_mul_right hb z
theorem gcd_step {x y : Nat} (hy : 0 < y) : Nat.gcd y (x % y) = Nat.gcd x y := by
  rw [Nat.gcd_comm y, ← Nat.gcd_rec, Nat.gcd_comm]
end Am
set_option Elab.async false
set_option linter.all false
set_option maxRecDepth 100000
set_option maxHeartbeats 0
namespace Hd
open PySem PySem.Spec PyProof.Rows L2
def hookB (n : Nat) (chk : PySem.W.Frag → Bool) : PySem.W.Hook where
  α := Bool
  obs := fun s => chk (He.frG s.heap.get? (He.asD s.heap.get? n))
  val := fun _ => true
  says := fun _ h => ∃ K : PySem.W.Frag, K.In h ∧ chk K = true
  of := fun _ _ e => ⟨_, He.frG_in, e⟩
  keeps := fun _ _ _ ⟨K, hK, c⟩ k => ⟨K, PySem.W.Frag.In.keeps hK k, c⟩
def obT (n : Nat) (chk : PySem.W.Frag → Bool) (s : PySem.W.SharedT) : Bool := chk (He.frG (HandSHeadRun.getT s) (He.asD (HandSHeadRun.getT s) n))
theorem obT_eq (n : Nat) (chk : PySem.W.Frag → Bool) (s : PySem.W.SharedT) : obT n chk s = (hookB n chk).obs s.abs := by
  have e : HandSHeadRun.getT s = s.abs.heap.get? := funext fun a => HandSHeadRun.getT_eq s a
  unfold obT
  rw [e]
  rfl
end Hd
set_option Elab.async false
set_option linter.all false
set_option maxRecDepth 100000
set_option maxHeartbeats 4000000
/-! The facts that a law leans on, read off the heap behind the top by one run. -/
namespace Hd
open PySem PySem.Spec PyProof.Rows L2
/-- a def of the text: where it stands, and what it is -/
structure Def where
  ad : PySem.W.Frag → Addr
  name : Str
  qual : Str
  st : Stmt
  cl : List Str := []
  dfl : List He.Dv := []
abbrev FnZ : Type := Option (Str × Str × Arguments × FuncBody × Scope × Addr × List Str × Addr)
def obs1 (K : PySem.W.Frag) (f : Addr) : FnZ := match K.lookup f with
  | some ⟨_, _, .func fd, _⟩ => some (fd.name, fd.qualname, fd.params, fd.body, fd.scope, fd.globals, fd.closure.map (·.1), fd.builtins)
  | _ => none
def Def.val (d : Def) : FnZ := some (d.name, d.qual, defArgs d.st, .stmts (defBody d.st), defScope d.st, mainGlobals, d.cl, builtinsNs)
def Def.ok (K : PySem.W.Frag) (d : Def) : Bool := PySem.W.keepIn K (.ref (d.ad K)) && (match K.lookup (d.ad K) with
  | some ⟨_, _, .func fd, _⟩ => PySem.W.codeIn K fd.code d.qual && He.dflB K fd.defaults (d.dfl.map (He.Dv.v K))
  | _ => false)
/-- what is known of one def -/
structure Got (K : PySem.W.Frag) (d : Def) (fd : FuncData) : Prop where
  kp : PySem.W.keepIn K (.ref (d.ad K)) = true
  ex : ∃ (oc : Value) (od : Option Addr) (dV kV doc pm : Value) (an : Option Addr) (cdv ct : Value) (osl : Array (Option Value)) (cl : List (Str × Addr)),
    fd = PySem.W.fnX d.name d.qual (defArgs d.st) (defBody d.st) (defScope d.st) cl dV kV doc pm an cdv ct ∧ K.lookup (d.ad K) = some ⟨oc, od, .func fd, osl⟩ ∧ PySem.W.codeIn K cdv d.qual = true ∧
    DflV K dV (d.dfl.map (He.Dv.v K)) ∧ cl.map (·.1) = d.cl
theorem got {K : PySem.W.Frag} {d : Def} (e : obs1 K (d.ad K) = d.val) (c : d.ok K = true) : ∃ fd, Got K d fd := by
  obtain ⟨kp, c2⟩ := He.ba c
  unfold obs1 at e
  cases q : K.lookup (d.ad K) with
  | none =>
    rw [q] at c2
    cases c2
  | some o =>
    obtain ⟨oc, od, dt, osl⟩ := o
    rw [q] at c2 e
    cases dt with
    | func fd =>
      obtain ⟨n1, n2, n3, n4, n5, n6, n7, n8, n9, n10, n11, n12, n13, n14, n15⟩ := fd
      have e2 : (some (n1, n2, n3, n4, n5, n6, n7.map (·.1), n15) : FnZ) = some (d.name, d.qual, defArgs d.st, .stmts (defBody d.st), defScope d.st, mainGlobals, d.cl, builtinsNs) := e
      simp only [Option.some.injEq, Prod.mk.injEq] at e2
      obtain ⟨h1, h2, h3, h4, h5, h6, h7, h8⟩ := e2
      subst h1 h2 h3 h4 h5 h6 h8
      obtain ⟨k1, k2⟩ := He.ba (show (PySem.W.codeIn K n13 d.qual && He.dflB K n8 (d.dfl.map (He.Dv.v K))) = true from c2)
      exact ⟨_, kp, oc, od, n8, n9, n10, n11, n12, n13, n14, osl, n7, rfl, q, k1, He.dflB_ok k2, h7⟩
    | _ => cases c2
theorem Got.funD {K : PySem.W.Frag} {d : Def} {fd : FuncData} (g : Got K d fd) (h : d.cl = [] := by rfl) : FunD K d.name d.qual (defArgs d.st) (defBody d.st) (defScope d.st) (d.dfl.map (He.Dv.v K)) [] (d.ad K) fd := by
  obtain ⟨oc, od, dV, kV, doc, pm, an, cdv, ct, osl, cl, h1, h2, h3, h4, h5⟩ := g.ex
  rw [h] at h5
  have h6 : cl = [] := List.map_eq_nil_iff.mp h5
  subst h6
  exact ⟨⟨oc, od, dV, kV, doc, pm, an, cdv, ct, osl, h1, h2, h3, h4, .inl rfl⟩, g.kp⟩
/-- all of them, and a further check -/
abbrev Al : Type := List FnZ × Bool × Bool
def obsK (ds : List Def) (chk : PySem.W.Frag → Bool) (K : PySem.W.Frag) : Al := (ds.map fun d => obs1 K (d.ad K), ds.all fun d => d.ok K, chk K)
def valK (ds : List Def) : Al := (ds.map Def.val, true, true)
def grow (g : Addr → Option Obj) : Nat → List Addr
  | 0 => [mainGlobals, cStatics]
  | n + 1 => He.growD g (grow g n)
def hook (n : Nat) (ds : List Def) (chk : PySem.W.Frag → Bool) : PySem.W.Hook where
  α := Al
  obs := fun s => obsK ds chk (He.frG s.heap.get? (grow s.heap.get? n))
  val := fun _ => valK ds
  says := fun _ h => ∃ K : PySem.W.Frag, K.In h ∧ obsK ds chk K = valK ds
  of := fun _ _ e => ⟨_, He.frG_in, e⟩
  keeps := fun _ _ _ ⟨K, hK, c⟩ k => ⟨K, PySem.W.Frag.In.keeps hK k, c⟩
def ob (n : Nat) (ds : List Def) (chk : PySem.W.Frag → Bool) (s : PySem.W.SharedT) : Al := obsK ds chk (He.frG (HandSHeadRun.getT s) (grow (HandSHeadRun.getT s) n))
theorem ob_eq (n : Nat) (ds : List Def) (chk : PySem.W.Frag → Bool) (s : PySem.W.SharedT) : ob n ds chk s = (hook n ds chk).obs s.abs := by
  have e : HandSHeadRun.getT s = s.abs.heap.get? := funext fun a => HandSHeadRun.getT_eq s a
  unfold ob
  rw [e]
  rfl
section
variable {K : PySem.W.Frag} {ds : List Def} {chk : PySem.W.Frag → Bool}
theorem says_def (c : obsK ds chk K = valK ds) (i : Nat) {d : Def} (h : ds[i]? = some d := by rfl) : ∃ fd, Got K d fd := by
  have e : ds.map (fun d => obs1 K (d.ad K)) = ds.map Def.val := congrArg (fun z : Al => z.1) c
  have c2 : (ds.all fun d => d.ok K) = true := congrArg (fun z : Al => z.2.1) c
  have e2 : (ds.map fun d => obs1 K (d.ad K))[i]? = (ds.map Def.val)[i]? := by rw [e]
  rw [List.getElem?_map, List.getElem?_map, h] at e2
  exact got (Option.some.inj e2) (List.all_eq_true.mp c2 d (List.mem_of_getElem? h))
theorem says_chk (c : obsK ds chk K = valK ds) : chk K = true := congrArg (fun z : Al => z.2.2) c
end
/-- a list of checks -/
def allB (l : List Bool) : Bool := l.all id
theorem allB_at {l : List Bool} (h : allB l = true) (i : Nat) {b : Bool} (e : l[i]? = some b := by rfl) : b = true := List.all_eq_true.mp h b (List.mem_of_getElem? e)
/-! ### an exception class -/
def clsVE (K : PySem.W.Frag) (C : Addr) : Bool := match K.lookup C with
  | some ⟨.type t, _, .cls cd, sl⟩ => (match cd.mro, sl.toList with
    | .ref C' :: bm, [_, _, _, _, some (.builtin n), _] => decide (t = "type") && (decide (C' = C) && (decide (n = "ValueError.__new__") && (!cd.hasDel && (cd.hasDict && HandSPX.refsVE bm))))
    | _, _ => false)
  | _ => false
theorem clsVE_ok {K : PySem.W.Frag} {C : Addr} (h : clsVE K C = true) : ∃ nm q' N bs bm sn sub ab col dd k0 k1 k2 k3 k5, K.lookup C = some (excClassObj nm q' C N bs bm true sn sub ab col dd k0 k1 k2 k3 k5 "ValueError.__new__") ∧ HandSPX.refsVE bm = true := by
  unfold clsVE at h
  split at h
  · rename_i t dd cd sl ho
    split at h
    · rename_i C' bm k0 k1 k2 k3 n k5 hm hs
      obtain ⟨h0, h⟩ := He.ba h
      obtain ⟨h1, h⟩ := He.ba h
      obtain ⟨h2, h⟩ := He.ba h
      obtain ⟨h3, h⟩ := He.ba h
      obtain ⟨h4, h5⟩ := He.ba h
      have h0 := of_decide_eq_true h0
      have h1 := of_decide_eq_true h1
      have h2 := of_decide_eq_true h2
      subst h0 h1 h2
      obtain ⟨nm, bs, mro, ns, qn, hd, sn, sub, ab, col, del⟩ := cd
      dsimp only at hm h3 h4
      subst hm h4
      have h3 : del = false := by simpa using h3
      subst h3
      have hsl : sl = #[k0, k1, k2, k3, some (.builtin "ValueError.__new__"), k5] := by
        obtain ⟨l⟩ := sl
        simp only at hs
        rw [hs]
      subst hsl
      exact ⟨_, _, _, _, _, _, _, _, _, _, _, _, _, _, _, ho, h5⟩
    · cases h
  · cases h
def fileB (file : Str) (vs : Array Value) : Bool := match vs[2]? with
  | some (Value.str fl _) => decide (fl = file)
  | _ => false
theorem fileB_ok {file : Str} {vs : Array Value} (h : fileB file vs = true) : ∃ tf, vs[2]? = some (Value.str file tf) := by
  unfold fileB at h
  split at h
  · rename_i fl tf e
    have z := of_decide_eq_true h
    subst z
    exact ⟨tf, e⟩
  · cases h
/-- the further facts of the class x whose one field is F -/
def excB (file : Str) (K : PySem.W.Frag) (x F : Str) : Bool :=
  let C := He.ga K x
  let fI := He.ma K C "__init__"
  allB [He.eqO (PySem.W.nsIn K mainGlobals x) (some (some (.ref C))), clsVE K C, He.eqO (PySem.W.findIn K (.ref C) "__setattr__") (some (some (.builtin "object.__setattr__"))),
    He.eqO (PySem.W.findIn K (.ref C) "__getattribute__") (some (some (.builtin "BaseException.__getattribute__"))), He.eqO (PySem.W.findIn K (.ref C) "__getattr__") (some none), He.eqO (PySem.W.findIn K (.ref C) F) (some none),
    He.eqO (PySem.W.findIn K (.ref C) "__init__") (some (some (.ref fI))), decide (PySem.W.typeIn K (.ref fI) = some (.type "function")), PySem.W.keepIn K (.ref C), decide (PySem.W.subIn K (.ref C) (.type "BaseException") = some true),
    decide (PySem.W.subIn K (.ref C) (.type "ValueError") = some true), decide (PySem.W.typeIn K (.ref C) = some (.type "type")), PySem.W.hasDictIn K C, decide (PySem.W.exmOne K (.ref C) (.ref C) = some true),
    He.eqO (PySem.W.ks_superIn K C C "__init__") (some (some (.builtin "ValueError.__init__"))), decide (PySem.W.mroIn K C (.ref C) = some true), He.eqO (PySem.W.nsIn K mainGlobals "super") (some none), He.eqO (PySem.W.nsIn K cStatics "thirdparty.any") (some none),
    (match K.lookup fI with
      | some ⟨_, _, .func fd, _⟩ => (match fd.code, fd.closure with
        | .ref cda, [(_, cc)] => (match K.lookup cda with
          | some ⟨_, _, .fields vs, _⟩ => fileB file vs
          | _ => false) && (match K.lookup cc with
          | some ⟨_, _, .cell (some (.ref D)), _⟩ => decide (D = C)
          | _ => false)
        | _, _ => false)
      | _ => false)]
/-- the def of its __init__ -/
def excD (x q : Str) (st : Stmt) : Def := { ad := fun K => He.ma K (He.ga K x) "__init__", name := "__init__", qual := q, st := st, cl := ["__class__"] }
theorem exc_txt {file : Str} {K : PySem.W.Frag} {x q F txt : Str} {st : Stmt} {fd : FuncData} (nm : Xb.Nm F) (g : Got K (excD x q st) fd) (c : excB file K x F = true)
    (hst : ∃ (p1 p2 : Pos) (kk : Nat) (q1 q2 q3 q4 q5 q6 q7 q8 q9 q10 : Pos), defArgs st = Xb.arg2 F p1 p2 ∧ defBody st = Xb.bod2 F txt kk q1 q2 q3 q4 q5 q6 q7 q8 q9 q10 ∧ defScope st = Xb.sco2 F ∧ (q3.endLine == q5.line) = true) :
    Xb.Txt file K q F txt (He.ga K x) (He.ma K (He.ga K x) "__init__") := by
  obtain ⟨oc, od, dV, kV, doc, pm, an, cdv, ct, osl, cl, h1, h2, h3, h4, h5⟩ := g.ex
  obtain ⟨p1, p2, kk, q1, q2, q3, q4, q5, q6, q7, q8, q9, q10, s1, s2, s3, s4⟩ := hst
  have hdV : dV = .none := by
    rcases h4 with ⟨_, e⟩ | ⟨e, _⟩
    · exact e
    · exact absurd rfl e
  have last := allB_at c 18
  have lk : K.lookup (He.ma K (He.ga K x) "__init__") = some ⟨oc, od, .func fd, osl⟩ := h2
  rw [lk] at last
  rw [h1] at last
  refine ⟨nm, clsVE_ok (allB_at c 1), He.eqO_ok (allB_at c 2), He.eqO_ok (allB_at c 3), He.eqO_ok (allB_at c 4), He.eqO_ok (allB_at c 5), He.eqO_ok (allB_at c 6), of_decide_eq_true (allB_at c 7), allB_at c 8, of_decide_eq_true (allB_at c 9), of_decide_eq_true (allB_at c 10),
    of_decide_eq_true (allB_at c 11), allB_at c 12, of_decide_eq_true (allB_at c 13), He.eqO_ok (allB_at c 14), of_decide_eq_true (allB_at c 15), He.eqO_ok (allB_at c 16), He.eqO_ok (allB_at c 17), ?_⟩
  cases cdv with
  | ref cda =>
    cases cl with
    | nil => cases h5
    | cons y r =>
      obtain ⟨y1, cc⟩ := y
      cases r with
      | cons _ _ => cases h5
      | nil =>
        have e1 : y1 = ("__class__" : Str) := (List.cons.inj h5).1
        subst e1
        obtain ⟨l1, l2⟩ := He.ba (show ((match K.lookup cda with
          | some ⟨_, _, .fields vs, _⟩ => fileB file vs
          | _ => false) && (match K.lookup cc with
          | some ⟨_, _, .cell (some (.ref D)), _⟩ => decide (D = He.ga K x)
          | _ => false)) = true from last)
        refine ⟨oc, od, kV, doc, pm, an, cda, ct, osl, cc, p1, p2, kk, q1, q2, q3, q4, q5, q6, q7, q8, q9, q10, ?_, h3, s4, ?_, ?_⟩
        · rw [lk, h1, hdV]
          show some (⟨oc, od, .func (PySem.W.fnX "__init__" q (defArgs st) (defBody st) (defScope st) [("__class__", cc)] .none kV doc pm an (.ref cda) ct), osl⟩ : Obj) = _
          rw [s1, s2, s3]
        · split at l1
          · rename_i ccl cdd vs ccs hk
            obtain ⟨tf, e⟩ := fileB_ok l1
            exact ⟨_, _, _, _, tf, hk, e⟩
          · cases l1
        · split at l2
          · rename_i a b D c2 hk
            have e := of_decide_eq_true l2
            subst e
            exact ⟨_, _, _, hk⟩
          · cases l2
  | _ => cases last
end Hd
set_option Elab.async false
set_option linter.all false
set_option maxRecDepth 100000
set_option maxHeartbeats 4000000
namespace K11
open PySem PySem.Spec PyProof.Rows L2 Fa Fb
theorem if_true_of {c : Bool} {A B : Prop} (hc : c = true) (h : A) : if c = true then A else B := by
  rw [if_pos hc]
  exact h
theorem if_false_of {c : Bool} {A B : Prop} (hc : c = false) (h : B) : if c = true then A else B := by
  rw [hc, if_neg Bool.false_ne_true]
  exact h


abbrev CA (K : PySem.W.Frag) : Addr := He.ga K "Amount"
abbrev CI (K : PySem.W.Frag) : Addr := He.ga K "InvalidInteger"
abbrev CV (K : PySem.W.Frag) : Addr := He.ga K "InvalidAmount"
abbrev aI (K : PySem.W.Frag) : Addr := He.ma K (CA K) "__init__"
abbrev sWhole : Stmt := top 10
abbrev sIsA : Stmt := top 14
abbrev sAsA : Stmt := top 15
abbrev sInit : Stmt := inClass (top 13) 0
abbrev sTop : Stmt := inClass (top 13) 1
abbrev sBot : Stmt := inClass (top 13) 2
abbrev sEq : Stmt := inClass (top 13) 3
theorem scWhole : FnScope ["value"] ["value"] (defScope sWhole) := ⟨rfl, rfl, rfl, by decide +kernel, rfl, by decide +kernel, by decide +kernel⟩
theorem scIsA : FnScope ["value"] ["value"] (defScope sIsA) := ⟨rfl, rfl, rfl, by decide +kernel, rfl, by decide +kernel, by decide +kernel⟩
theorem scAsA : FnScope ["value"] ["value"] (defScope sAsA) := ⟨rfl, rfl, rfl, by decide +kernel, rfl, by decide +kernel, by decide +kernel⟩
theorem scInit : FnScope ["self", "top", "bottom", "common"] ["self", "top", "bottom"] (defScope sInit) := ⟨rfl, rfl, rfl, by decide +kernel, rfl, by decide +kernel, by decide +kernel⟩
theorem scTop : FnScope ["self"] ["self"] (defScope sTop) := ⟨rfl, rfl, rfl, by decide +kernel, rfl, by decide +kernel, by decide +kernel⟩
theorem scBot : FnScope ["self"] ["self"] (defScope sBot) := ⟨rfl, rfl, rfl, by decide +kernel, rfl, by decide +kernel, by decide +kernel⟩
theorem scEq : FnScope ["self", "other"] ["self", "other"] (defScope sEq) := ⟨rfl, rfl, rfl, by decide +kernel, rfl, by decide +kernel, by decide +kernel⟩
/-- the fields of an amount -/
def fl (t u : Int) : List (Str × V) := putF "_bottom" (.int u) (putF "_top" (.int t) [])
theorem tb : ¬ (("_top" : Str) = "_bottom") := by decide +kernel
theorem fl_top (t u : Int) : (fl t u).lookup ("_top" : Str) = some (.int t) := by
  unfold fl
  rw [lookup_putF, if_neg tb, lookup_putF, if_pos rfl]
theorem fl_bot (t u : Int) : (fl t u).lookup ("_bottom" : Str) = some (.int u) := by
  unfold fl
  rw [lookup_putF, if_pos rfl]
theorem fl_no (t u : Int) {m : Str} (h1 : ¬ m = "_bottom") (h2 : ¬ m = "_top") : (fl t u).lookup m = none := by
  unfold fl
  rw [lookup_putF, if_neg h1, lookup_putF, if_neg h2]
  rfl
/-- x is an amount, in lowest terms, of less than n bits -/
def IsA (K : PySem.W.Frag) (H : Hp) (x : V) (t u : Int) (n : Nat) : Prop := ∃ p dx, x = .ref p ∧ H p = some (.ins (CA K) dx (fl t u)) ∧ Am.Red t u ∧ t.natAbs < 2 ^ n ∧ u.natAbs < 2 ^ n
theorem IsA.same {K : PySem.W.Frag} {H H' : Hp} {x : V} {t u : Int} {n : Nat} (h : IsA K H x t u n) (s : Same H H') : IsA K H' x t u n := by
  obtain ⟨p, dx, e, h1, h2⟩ := h
  exact ⟨p, dx, e, s _ _ h1, h2⟩
/-- whether a value counts as a whole number -/
def Wh (K : PySem.W.Frag) (H : Hp) (x : V) (b : Bool) : Prop := ∃ t b1 b2, TyX K H x t ∧ PySem.W.kitOne K t (.type "int") = some b1 ∧ PySem.W.kitOne K t (.type "bool") = some b2 ∧ b = (b1 && !b2)
theorem wh_int {K : PySem.W.Frag} {H : Hp} (i : Int) : Wh K H (.int i) true := ⟨_, true, false, .base (.int i), kit_ty (by decide +kernel), kit_ty (by decide +kernel), rfl⟩
def tys : List String := ["int", "bool", "NoneType", "str", "list", "tuple", "dict"]
/-- what the written part says of the class -/
structure AF (K : PySem.W.Frag) (mg : Str → Option Value) : Prop where
  cl : Cls K (CA K)
  noT : NoAttr K (CA K) "_top"
  noB : NoAttr K (CA K) "_bottom"
  mkA : Mk K (CA K) (aI K)
  g : mg "Amount" = some (.ref (CA K))
  isi : mg "isinstance" = none
  int : mg "int" = none
  bool : mg "bool" = none
  gcd : mg "gcd" = some (.builtin "math.gcd")
  gI : mg "InvalidInteger" = some (.ref (CI K))
  gV : mg "InvalidAmount" = some (.ref (CV K))
  kI : PySem.W.kitOne K (.ref (CA K)) (.type "int") = some false
  kB : PySem.W.kitOne K (.ref (CA K)) (.type "bool") = some false
  kS : PySem.W.kitOne K (.ref (CA K)) (.ref (CA K)) = some true
  kT : ∀ T ∈ tys, PySem.W.kitOne K (.type T) (.ref (CA K)) = some false
  ca : PySem.W.findIn K (.ref (CA K)) "__class__" = some (some (.builtin "object.__class__"))
  cn : PySem.W.specialIn K (.builtin "object.__class__") "__get__" = some (some (.builtin "getset_descriptor.__get__"))
  ct : PySem.W.takesIn K (.builtin "object.__class__") = some true
  cm : PySem.W.mroIn K (CA K) (.type "object") = some true
section
variable {K : PySem.W.Frag} {mg : Str → Option Value}
theorem AF.ty (T : AF K mg) {H : Hp} {p dx : Addr} {fs : List (Str × V)} (h : H p = some (.ins (CA K) dx fs)) : TyX K H (.ref p) (.ref (CA K)) := .base (.ins h T.cl T.ca T.cn T.ct T.cm)
theorem AF.wh (T : AF K mg) {H : Hp} {p dx : Addr} {fs : List (Str × V)} (h : H p = some (.ins (CA K) dx fs)) : Wh K H (.ref p) false := ⟨_, false, false, T.ty h, T.kI, T.kB, rfl⟩
end
def spWhole (K : PySem.W.Frag) : Sp := fun vs H Q _ => ∃ x b, vs = [x] ∧ Wh K H x b ∧ Q (.bl b) H
/-- an error of the class at C with the one field value = v -/
def Err (C : Addr) (v : V) (H : Hp) (E : XK) : Prop := ∀ d, H d = none → E (.ref C) (some d) (upd H d (.xd [("value", v)]))
def spInit (K : PySem.W.Frag) : Sp := fun vs H Q E => ∃ (p dx : Addr) (x y : V) (bx bz : Bool), vs = [.ref p, x, y] ∧ H p = some (.ins (CA K) dx []) ∧ Wh K H x bx ∧ Wh K H y bz ∧
  (bx = false → Err (CI K) x H E) ∧ (bx = true → bz = false → Err (CI K) y H E) ∧
  (bx = true → bz = true → ∃ a b : Int, x = .int a ∧ y = .int b ∧ (b = 0 → Err (CI K) y H E) ∧
    (b ≠ 0 → b.natAbs < 2 ^ 8000 ∧ ∀ t u : Int, Am.Red t u → t * b = a * u → t.natAbs ≤ a.natAbs → u.natAbs ≤ b.natAbs → Q .non (upd H p (.ins (CA K) dx (fl t u)))))
section
variable {X : Cx}
theorem op_fdivX : OpR X (binaryOp .FloorDiv) (rI (fun _ j => j ≠ 0 ∧ j.natAbs.log2 < 9000) fun i j => .int (i.fdiv j)) := opI fun _ _ _ _ _ _ _ hc q => floordiv_int hc.1 q (.inl (PyProof.noPylong_of_log2 hc.2))
theorem boot_isi : bootBuiltins "isinstance" = some (.builtin "isinstance") := by decide +kernel
theorem pe_isi {e c : Expr} {te tc : TE} {p pos : Pos} (hm : X.mg "isinstance" = none) (he : PE X e te) (hc : PE X c tc) (hg : Gl X "isinstance" := by rfl)
    (hs : starEach (e :: [c]) X.env = (false, eval e X.env) :: starEach [c] X.env := by rfl) (hs2 : starEach (c :: []) X.env = (false, eval c X.env) :: starEach [] X.env := by rfl) (hpl : (backTo pos (starEach [c] X.env)).any (·.1) = false := by rfl) : PE X (.Call (.Name "isinstance" p) [e, c] [] pos) (tCB (rIsi X.K) (tCons te (tCons tc tNil))) :=
  pe_callB call_isi hg hm boot_isi (pa_cons he (pa_cons hc pa_nil hs2) hs) (by decide) (by decide) hs hpl
theorem pe_ty {x : Str} {n : String} {p : Pos} (hm : X.mg x = none) (hv : bootBuiltins x = some (.type n)) (hg : Gl X x := by rfl) (hn : x ≠ "__name__" := by decide) (hd : (x == ("__debug__" : Str)) = false := by decide) : PE X (.Name x p) (tC (.ty n)) := pe_bltn hg hm hv rfl hn hd
theorem boot_int' : bootBuiltins "int" = some (.type "int") := by decide +kernel
theorem boot_bool' : bootBuiltins "bool" = some (.type "bool") := by decide +kernel
end
section
variable {P : Program} {w : World} {K : PySem.W.Frag} {mg : Str → Option Value} {base : Heap} {f fW : Addr} {fd fdW : FuncData} {F' : Str} {qi ti qv tv : Str} {fI fV : Addr}
theorem ok_whole (F : FnP K "is_whole" sWhole f fd) (T : AF K mg) {CX : CXT} : FnOk P w K mg base CX 1 f fd ["value"] (spWhole K) := by
  refine F.ok scWhole (fun vs H Q E h => ?_) (fun cdv A outer s H vs Q E hr h => ?_)
  · obtain ⟨x, b, rfl, _⟩ := h
    rfl
  · obtain ⟨x, b, rfl, ⟨t, b1, b2, ty, k1, k2, rfl⟩, q⟩ := h
    refine ⟨_, pss_one (ps_ret (pe_and (pe_isi T.isi (pv 0) (pe_ty T.int boot_int')) (pe_one (pe_not (pe_isi T.isi (pv 0) (pe_ty T.bool boot_bool')))))), ?_⟩
    refine ⟨_, rfl, x, _, t, _, b1, rfl, .ty "int", ty, k1, b1, rfl, ?_⟩
    cases b1 with
    | false => exact iteF q
    | true => exact iteT ⟨_, rfl, x, _, t, _, b2, rfl, .ty "bool", ty, k2, b2, rfl, q⟩
theorem ok_init (F : FunD K "__init__" "Amount.__init__" (defArgs sInit) (defBody sInit) (defScope sInit) [.int 1] [] f fd) (T : AF K mg) (FW : FnP K "is_whole" sWhole fW fdW) (gW : mg "is_whole" = some (.ref fW))
    (XI : Xb.Txt P.main.file K qi "value" ti (CI K) fI) (htop : (P.main.scope.names.lookup ("super" : Str)).isSome = false) : FnOk P w K mg base (L2.CX P w) 4 f fd ["self", "top", "bottom"] (spInit K) := by
  have GW : FnOk P w K mg base (L2.CX P w) 1 fW fdW ["value"] (spWhole K) := ok_whole FW T
  have bW : Binds K fdW ["value"] [] := FW.bindsN fun _ _ _ _ _ _ us hl => match us, hl with | [_], _ => rfl
  refine F.ok scInit (fun vs H Q E h => ?_) (fun cdv A outer s H vs Q E hr h => ?_)
  · obtain ⟨p, dx, x, y, bx, bz, rfl, _⟩ := h
    rfl
  · obtain ⟨p, dx, x, y, bx, bz, rfl, hp, wx, wy, e1, e2, e3⟩ := h
    have hr1 := hr.mono (show 1 ≤ 3 by decide)
    refine ⟨_, pss_cons (ps_if (pt_not (pt_val (pe_call GW hr1 rfl gW FW.kp bW .nil passL (pa_cons (pv 1) pa_nil)))) (pss_one (Xb.ps_raiseX (W := fun cls d _ H => E cls d H) rfl XI T.gI htop hr1 (takes_of rfl rfl rfl rfl) (pa_cons (pv 1) pa_nil))) pss_nil)
      (pss_cons (ps_if (PW.pt (pw_or (pt_not (pt_val (pe_call GW hr1 rfl gW FW.kp bW .nil passL (pa_cons (pv 2) pa_nil)))) (pw_or1 (pt_cmpR op_eq (pv 2) pe_int (nomark _)))))
        (pss_one (Xb.ps_raiseX (W := fun cls d _ H => E cls d H) rfl XI T.gI htop hr1 (takes_of rfl rfl rfl rfl) (pa_cons (pv 2) pa_nil))) pss_nil)
      (pss_cons (ps_set (i := 3) scInit.nd rfl (Or.inl rfl) (pe_callBfun cr_gcd rfl T.gcd (pa_cons (pv 1) (pa_cons (pv 2) pa_nil))))
      (pss_cons (ps_if (pt_cmpR op_lt (pv 2) pe_int (nomark _)) (pss_one (ps_set (i := 3) scInit.nd rfl (Or.inl rfl) (pe_un un_neg (pv 3)))) pss_nil)
      (pss_cons (ps_fld (pv 0) (pe_op op_fdivX (pv 1) (pv 3)) rfl)
      (pss_one (ps_fld (pv 0) (pe_op op_fdivX (pv 2) (pv 3)) rfl)))))), ?_⟩
    refine ⟨_, rfl, x, bx, rfl, wx, bx, rfl, ?_⟩
    cases bx with
    | false => exact iteT ⟨_, rfl, _, rfl, e1 rfl⟩
    | true =>
      refine iteF ⟨_, rfl, y, bz, rfl, wy, bz, rfl, ?_⟩
      cases bz with
      | false => exact iteT (iteT ⟨_, rfl, _, rfl, e2 rfl rfl⟩)
      | true =>
        obtain ⟨a, b, rfl, rfl, e4, e5⟩ := e3 rfl rfl
        refine iteF ⟨_, rfl, rfl, _, rfl, ?_⟩
        by_cases hb : b = 0
        · subst hb
          refine if_true_of (decide_eq_true rfl) ⟨_, rfl, _, rfl, e4 rfl⟩
        · refine if_false_of (decide_eq_false fun z => hb (V.int.inj z)) ?_
          obtain ⟨e6, e7⟩ := e5 hb
          obtain ⟨m1, m2, m3, m4, m5, m6⟩ := Am.mk a b hb _ rfl
          refine ⟨_, rfl, _, rfl, a, b, rfl, ?_⟩
          have fin : ∀ c : Int, c = (if b < 0 then -((Nat.gcd a.natAbs b.natAbs : Nat) : Int) else ((Nat.gcd a.natAbs b.natAbs : Nat) : Int)) →
              tSeq (sFld K (tVar 0) (tOp (rI (fun _ j => j ≠ 0 ∧ j.natAbs.log2 < 9000) fun i j => .int (i.fdiv j)) (tVar 1) (tVar 3)) "_top") (sFld K (tVar 0) (tOp (rI (fun _ j => j ≠ 0 ∧ j.natAbs.log2 < 9000) fun i j => .int (i.fdiv j)) (tVar 2) (tVar 3)) "_bottom")
                { nx := fun _ H' => Q .non H', rt := Q } [some (.ref p), some (.int a), some (.int b), some (.int c)] H := fun c hc => by
            rw [← hc] at m1 m2 m3 m4 m5 m6
            have lg : c.natAbs.log2 < 9000 := Nat.lt_trans ((Nat.log2_lt (by omega)).mpr (Nat.lt_of_le_of_lt m2 e6)) (by decide)
            refine ⟨_, rfl, _, rfl, _, _, rfl, rfl, ⟨m1, lg⟩, _, rfl, p, CA K, dx, [], rfl, hp, T.cl, T.noT, (by show 0 < 1000; decide), ?_⟩
            refine ⟨_, rfl, _, rfl, _, _, rfl, rfl, ⟨m1, lg⟩, _, rfl, p, CA K, dx, _, rfl, upd_same, T.cl, T.noB, (by show 1 < 1000; decide), ?_⟩
            rw [upd_upd]
            exact e7 _ _ m3 m4 m5 m6
          refine ⟨_, rfl, _, _, rfl, rfl, _, rfl, ?_⟩
          refine ite2 (fun c => ?_) (fun c => ?_)
          · have c2 : b < 0 := of_decide_eq_true c
            refine ⟨_, rfl, _, rfl, ?_⟩
            exact fin _ (by rw [if_pos c2])
          · have c2 : ¬ b < 0 := fun z => c (decide_eq_true z)
            exact fin _ (by rw [if_neg c2])
end

end K11
set_option Elab.async false
set_option linter.all false
set_option maxRecDepth 100000
set_option maxHeartbeats 4000000
namespace K11
open PySem PySem.Spec PyProof.Rows L2 Fa Fb


/-- an argument that counts as an amount -/
def Arg (K : PySem.W.Frag) (H : Hp) (x : V) (t u : Int) (n : Nat) : Prop := IsA K H x t u n ∨ (x = .int t ∧ u = 1 ∧ t.natAbs < 2 ^ n ∧ 1 ≤ n)
/-- one that doesn't -/
def Bad (K : PySem.W.Frag) (H : Hp) (x : V) : Prop := ∃ T, T ∈ tys ∧ TyX K H x (.type T) ∧ Wh K H x false
def spIsA (K : PySem.W.Frag) : Sp := fun vs H Q _ => ∃ x t b1 b2, vs = [x] ∧ TyX K H x t ∧ PySem.W.kitOne K t (.ref (CA K)) = some b1 ∧ Wh K H x b2 ∧ Q (.bl (b1 || b2)) H
def spAs (K : PySem.W.Frag) : Sp := fun vs H Q E => ∃ x, vs = [x] ∧ ((Bad K H x ∧ Err (CV K) x H E) ∨ ∃ t u n, Arg K H x t u n ∧ ∀ y H', Same H H' → IsA K H' y t u n → Q y H')
def spEq (K : PySem.W.Frag) : Sp := fun vs H Q _ => ∃ x y t u n, vs = [x, y] ∧ IsA K H x t u n ∧ ((∃ t2 u2 m, IsA K H y t2 u2 m ∧ Q (.bl (decide (t = t2) && decide (u = u2))) H) ∨ (∃ T, TyX K H y (.type T) ∧ PySem.W.kitOne K (.type T) (.ref (CA K)) = some false ∧ Q (.bl false) H))
section
variable {K : PySem.W.Frag} {mg : Str → Option Value}
theorem make_read (T : AF K mg) {H : Hp} {Q : VK} {E : XK} {a b : Int} {n : Nat} (hb : b ≠ 0) (hs : n ≤ 8000) (ha : a.natAbs < 2 ^ n) (hbn : b.natAbs < 2 ^ n)
    (k : ∀ y H' t u, Same H H' → IsA K H' y t u n → t * b = a * u → Q y H') : ∀ x dx, H x = none → H dx = none → dx ≠ x →
    spInit K [.ref x, .int a, .int b] (upd (upd H dx (.own x)) x (.ins (CA K) dx [])) (fun v H2 => v = .non ∧ Q (.ref x) H2) E := by
  intro x dx hx hdx hne
  refine ⟨x, dx, .int a, .int b, true, true, rfl, upd_same, wh_int _, wh_int _, (fun z => by cases z), (fun _ z => by cases z), fun _ _ => ⟨a, b, rfl, rfl, fun z => absurd z hb, fun _ => ⟨?_, fun t u r e h1 h2 => ⟨rfl, ?_⟩⟩⟩⟩
  · exact Nat.lt_of_lt_of_le hbn (Nat.pow_le_pow_right (by decide) hs)
  · refine k _ _ t u (fun c o z => ?_) ⟨x, dx, rfl, upd_same, r, Nat.lt_of_le_of_lt h1 ha, Nat.lt_of_le_of_lt h2 hbn⟩ e
    rw [upd_upd, upd_ne (ne_of_none z hx), upd_ne (ne_of_none z hdx)]
    exact z
theorem spInit_imp {vs : List V} {H : Hp} {Q Q' : VK} {E : XK} (h : spInit K vs H Q E) (k : ∀ v H2, Q v H2 → Q' v H2) : spInit K vs H Q' E := by
  obtain ⟨p, dx, x, y, bx, bz, e, hp, wx, wy, e1, e2, e3⟩ := h
  refine ⟨p, dx, x, y, bx, bz, e, hp, wx, wy, e1, e2, fun h1 h2 => ?_⟩
  obtain ⟨a, b, ea, eb, f1, f2⟩ := e3 h1 h2
  exact ⟨a, b, ea, eb, f1, fun hb => ⟨(f2 hb).1, fun t u r e4 e5 e6 => k _ _ ((f2 hb).2 t u r e4 e5 e6)⟩⟩
def MadeA (K : PySem.W.Frag) (H H2 : Hp) (x : Addr) (a b : Int) (n : Nat) : Prop := ∃ t u, Same H H2 ∧ IsA K H2 (.ref x) t u n ∧ t * b = a * u
theorem make_fact (T : AF K mg) {H : Hp} {E : XK} {a b : Int} {n : Nat} (hb : b ≠ 0) (hs : n ≤ 8000) (ha : a.natAbs < 2 ^ n) (hbn : b.natAbs < 2 ^ n) {x dx : Addr} (hx : H x = none) (hdx : H dx = none) (hne : dx ≠ x) :
    spInit K [.ref x, .int a, .int b] (upd (upd H dx (.own x)) x (.ins (CA K) dx [])) (fun v H2 => v = .non ∧ MadeA K H H2 x a b n) E := by
  refine ⟨x, dx, .int a, .int b, true, true, rfl, upd_same, wh_int _, wh_int _, (fun z => by cases z), (fun _ z => by cases z), fun _ _ => ⟨a, b, rfl, rfl, fun z => absurd z hb, fun _ => ⟨?_, fun t u r e h1 h2 => ⟨rfl, t, u, fun c o z => ?_, ⟨x, dx, rfl, upd_same, r, Nat.lt_of_le_of_lt h1 ha, Nat.lt_of_le_of_lt h2 hbn⟩, e⟩⟩⟩⟩
  · exact Nat.lt_of_lt_of_le hbn (Nat.pow_le_pow_right (by decide) hs)
  · rw [upd_upd, upd_ne (ne_of_none z hx), upd_ne (ne_of_none z hdx)]
    exact z
theorem one_pow {n : Nat} (h : 1 ≤ n) : (1 : Nat) < 2 ^ n := Nat.one_lt_two_pow (by omega)
theorem lt_pow_mul {a b n m : Nat} (h1 : a < 2 ^ n) (h2 : b < 2 ^ m) : a * b < 2 ^ (n + m) := by
  rw [Nat.pow_add]
  exact Nat.mul_lt_mul'' h1 h2
theorem mulW_of {i j : Int} {n m : Nat} (h1 : i.natAbs < 2 ^ n) (h2 : j.natAbs < 2 ^ m) (h : n + m < 900000) : CMulW i j := by
  have l : ∀ (x : Int) (k : Nat), x.natAbs < 2 ^ k → x.natAbs.log2 ≤ k := fun x k hx => by
    by_cases z : x.natAbs = 0
    · rw [z]
      exact Nat.zero_le _
    · exact Nat.le_of_lt ((Nat.log2_lt z).mpr hx)
  have a1 := l i n h1
  have a2 := l j m h2
  show i.natAbs.log2 + j.natAbs.log2 < 1000000
  omega
theorem abs_mul_lt {i j : Int} {n m : Nat} (h1 : i.natAbs < 2 ^ n) (h2 : j.natAbs < 2 ^ m) : (i * j).natAbs < 2 ^ (n + m) := by
  rw [Int.natAbs_mul]
  exact lt_pow_mul h1 h2
theorem abs_add_lt {i j : Int} {n : Nat} (h1 : i.natAbs < 2 ^ n) (h2 : j.natAbs < 2 ^ n) : (i + j).natAbs < 2 ^ (n + 1) := by
  have := Int.natAbs_add_le i j
  rw [Nat.pow_succ]
  omega
theorem abs_sub_lt {i j : Int} {n : Nat} (h1 : i.natAbs < 2 ^ n) (h2 : j.natAbs < 2 ^ n) : (i - j).natAbs < 2 ^ (n + 1) := by
  have := Int.natAbs_sub_le i j
  rw [Nat.pow_succ]
  omega
theorem pow_step {a n m : Nat} (h : a < 2 ^ n) (hm : n ≤ m) : a < 2 ^ m := Nat.lt_of_lt_of_le h (Nat.pow_le_pow_right (by decide) hm)
theorem IsA.one (h : IsA K H x t u n) : 1 ≤ n := by
  obtain ⟨p, dx, _, _, ⟨h1, _⟩, _, h2⟩ := h
  rcases Nat.eq_zero_or_pos n with z | z
  · subst z
    have : u.natAbs < 1 := h2
    omega
  · exact z
end
section
variable {P : Program} {w : World} {K : PySem.W.Frag} {mg : Str → Option Value} {base : Heap} {f fW : Addr} {fd fdW fdI fdA : FuncData} {qi ti qv tv : Str} {fI fV fAs : Addr}
theorem ok_top (F : FunD K "top" "Amount.top" (defArgs sTop) (defBody sTop) (defScope sTop) [] [] f fd) (T : AF K mg) {CX : CXT} : FnOk P w K mg base CX 1 f fd ["self"] (getSp (CA K) "_top") := by
  refine F.ok scTop (fun vs H Q E h => ?_) (fun cdv A outer s H vs Q E hr h => ?_)
  · obtain ⟨a, dx, fs, v, rfl, _⟩ := h
    rfl
  · obtain ⟨a, dx, fs, v, rfl, h1, h2, q⟩ := h
    exact ⟨_, pss_one (ps_ret (pe_fld (pv 0) rfl)), .ref a, rfl, a, CA K, dx, fs, v, rfl, h1, T.cl, T.noT, h2, q⟩
theorem ok_bot (F : FunD K "bottom" "Amount.bottom" (defArgs sBot) (defBody sBot) (defScope sBot) [] [] f fd) (T : AF K mg) {CX : CXT} : FnOk P w K mg base CX 1 f fd ["self"] (getSp (CA K) "_bottom") := by
  refine F.ok scBot (fun vs H Q E h => ?_) (fun cdv A outer s H vs Q E hr h => ?_)
  · obtain ⟨a, dx, fs, v, rfl, _⟩ := h
    rfl
  · obtain ⟨a, dx, fs, v, rfl, h1, h2, q⟩ := h
    exact ⟨_, pss_one (ps_ret (pe_fld (pv 0) rfl)), .ref a, rfl, a, CA K, dx, fs, v, rfl, h1, T.cl, T.noB, h2, q⟩
theorem ok_eq (F : FunD K "__eq__" "Amount.__eq__" (defArgs sEq) (defBody sEq) (defScope sEq) [] [] f fd) (T : AF K mg) {CX : CXT} : FnOk P w K mg base CX 1 f fd ["self", "other"] (spEq K) := by
  refine F.ok scEq (fun vs H Q E h => ?_) (fun cdv A outer s H vs Q E hr h => ?_)
  · obtain ⟨x, y, t, u, n, rfl, _⟩ := h
    rfl
  · obtain ⟨x, y, t, u, n, rfl, ⟨p, dx, rfl, hp, _⟩, q⟩ := h
    refine ⟨_, pss_one (ps_ret (pe_and (pe_isi T.isi (pv 1) (pe_glob (v := .ref (CA K)) rfl T.g rfl)) (pe_and (pe_cmpR op_eq (pe_fld (pv 0) rfl) (pe_fld (pv 1) rfl) (nomark _)) (pe_one (pe_cmpR op_eq (pe_fld (pv 0) rfl) (pe_fld (pv 1) rfl) (nomark _)))))), ?_⟩
    rcases q with ⟨t2, u2, m, ⟨p2, dx2, rfl, hp2, _⟩, q⟩ | ⟨Ty, ty, hk, q⟩
    · refine ⟨_, rfl, .ref p2, _, _, _, true, rfl, .own _, T.ty hp2, T.kS, true, rfl, iteT ?_⟩
      refine ⟨_, rfl, p, CA K, dx, _, _, rfl, hp, T.cl, T.noT, fl_top _ _, _, rfl, p2, CA K, dx2, _, _, rfl, hp2, T.cl, T.noT, fl_top _ _, rfl, decide (V.int t = V.int t2), rfl, ?_⟩
      by_cases e : t = t2
      · subst e
        refine if_true_of (decide_eq_true rfl) ?_
        refine ⟨_, rfl, p, CA K, dx, _, _, rfl, hp, T.cl, T.noB, fl_bot _ _, _, rfl, p2, CA K, dx2, _, _, rfl, hp2, T.cl, T.noB, fl_bot _ _, rfl, ?_⟩
        rw [decide_eq_true rfl, Bool.true_and] at q
        by_cases e2 : u = u2
        · subst e2
          rw [decide_eq_true rfl] at q
          show Q (.bl (decide (V.int u = V.int u))) H
          rw [decide_eq_true rfl]
          exact q
        · rw [decide_eq_false e2] at q
          show Q (.bl (decide (V.int u = V.int u2))) H
          rw [decide_eq_false fun z => e2 (V.int.inj z)]
          exact q
      · refine if_false_of (decide_eq_false fun z => e (V.int.inj z)) ?_
        rw [decide_eq_false e, Bool.false_and] at q
        exact q
    · exact ⟨_, rfl, y, _, _, _, false, rfl, .own _, ty, hk, false, rfl, iteF q⟩
theorem ok_isA (F : FnP K "is_amount" sIsA f fd) (T : AF K mg) (FW : FnP K "is_whole" sWhole fW fdW) (gW : mg "is_whole" = some (.ref fW)) : FnOk P w K mg base (L2.CX P w) 2 f fd ["value"] (spIsA K) := by
  have GW : FnOk P w K mg base (L2.CX P w) 1 fW fdW ["value"] (spWhole K) := ok_whole FW T
  have bW : Binds K fdW ["value"] [] := FW.bindsN fun _ _ _ _ _ _ us hl => match us, hl with | [_], _ => rfl
  refine F.ok scIsA (fun vs H Q E h => ?_) (fun cdv A outer s H vs Q E hr h => ?_)
  · obtain ⟨x, t, b1, b2, rfl, _⟩ := h
    rfl
  · obtain ⟨x, t, b1, b2, rfl, ty, k1, wh, q⟩ := h
    refine ⟨_, pss_one (ps_ret (pe_or (pe_isi T.isi (pv 0) (pe_glob (v := .ref (CA K)) rfl T.g rfl)) (pe_one (pe_call GW hr rfl gW FW.kp bW .nil passL (pa_cons (pv 0) pa_nil))))), ?_⟩
    refine ⟨_, rfl, x, _, t, _, b1, rfl, .own _, ty, k1, b1, rfl, ?_⟩
    cases b1 with
    | true => exact iteT q
    | false => exact iteF ⟨_, rfl, x, b2, rfl, wh, q⟩
theorem ok_as (F : FnP K "as_amount" sAsA f fd) (T : AF K mg) (FW : FnP K "is_whole" sWhole fW fdW) (gW : mg "is_whole" = some (.ref fW)) (FA : FnP K "is_amount" sIsA fAs fdA) (gA : mg "is_amount" = some (.ref fAs))
    (FI : FunD K "__init__" "Amount.__init__" (defArgs sInit) (defBody sInit) (defScope sInit) [.int 1] [] (aI K) fdI)
    (XI : Xb.Txt P.main.file K qi "value" ti (CI K) fI) (XV : Xb.Txt P.main.file K qv "value" tv (CV K) fV) (htop : (P.main.scope.names.lookup ("super" : Str)).isSome = false) : FnOk P w K mg base (L2.CX P w) 6 f fd ["value"] (spAs K) := by
  have GA : FnOk P w K mg base (L2.CX P w) 2 fAs fdA ["value"] (spIsA K) := ok_isA FA T FW gW
  have bA : Binds K fdA ["value"] [] := FA.bindsN fun _ _ _ _ _ _ us hl => match us, hl with | [_], _ => rfl
  have GI : FnOk P w K mg base (L2.CX P w) 4 (aI K) fdI ["self", "top", "bottom"] (spInit K) := ok_init FI T FW gW XI htop
  obtain ⟨ds, hds, bI⟩ := FI.binds1 (ps := ["self", "top", "bottom"]) 2 0 (by simp) rfl (fun _ _ _ _ _ _ _ us its hu hi => match us, its, hu, hi with | [_, _], [_], _, _ => ⟨_, rfl, rfl⟩)
  refine F.ok scAsA (fun vs H Q E h => ?_) (fun cdv A outer s H vs Q E hr h => ?_)
  · obtain ⟨x, rfl, _⟩ := h
    rfl
  · obtain ⟨x, rfl, q⟩ := h
    have hr1 := hr.mono (show 2 ≤ 5 by decide)
    refine ⟨_, pss_cons (ps_if (pt_not (pt_val (pe_call GA hr1 rfl gA FA.kp bA .nil passL (pa_cons (pv 0) pa_nil)))) (pss_one (Xb.ps_raiseX (W := fun cls d _ H => E cls d H) rfl XV T.gV htop hr1 (takes_of rfl rfl rfl rfl) (pa_cons (pv 0) pa_nil))) pss_nil)
      (pss_one (ps_ret (pe_ifExp (pt_val (pe_isi T.isi (pv 0) (pe_glob (v := .ref (CA K)) rfl T.g rfl))) (pv 0) (pe_make T.mkA GI hr rfl T.g bI hds passL (pa_cons (pv 0) pa_nil))))), ?_⟩
    rcases q with ⟨⟨Ty, hT, ty, wh⟩, er⟩ | ⟨t, u, n, ar, q⟩
    · refine ⟨_, rfl, x, _, false, false, rfl, ty, T.kT Ty hT, wh, false, rfl, iteT ⟨_, rfl, _, rfl, er⟩⟩
    · rcases ar with ia | ⟨rfl, rfl, hn, h1⟩
      · obtain ⟨p, dx, rfl, hp, r⟩ := id ia
        refine ⟨_, rfl, .ref p, _, true, false, rfl, T.ty hp, T.kS, T.wh hp, true, rfl, iteF ?_⟩
        exact ⟨_, rfl, .ref p, _, _, _, true, rfl, .own _, T.ty hp, T.kS, true, rfl, iteT ⟨_, rfl, q _ _ (Same.refl _) ia⟩⟩
      · have kI := T.kT "int" (by simp [tys])
        refine ⟨_, rfl, .int t, _, false, true, rfl, .base (.int t), kI, wh_int t, true, rfl, iteF ?_⟩
        refine ⟨_, rfl, .int t, _, _, _, false, rfl, .own _, .base (.int t), kI, false, rfl, iteF ⟨_, rfl, ?_⟩⟩
        intro y dy hy hdy hne
        refine ⟨y, dy, .int t, .int 1, true, true, rfl, upd_same, wh_int _, wh_int _, (fun z => by cases z), (fun _ z => by cases z), fun _ _ => ⟨t, 1, rfl, rfl, (fun z => by cases z), fun _ => ⟨by decide, fun t' u' r e h2 h3 => ⟨rfl, ?_⟩⟩⟩⟩
        have eu : u' = 1 := by
          have r0 := r.1
          have : u'.natAbs ≤ 1 := h3
          omega
        subst eu
        have et : t' = t := by omega
        subst et
        refine q _ _ (fun c o z => ?_) ⟨y, dy, rfl, upd_same, r, hn, by show (1 : Nat) < _; exact one_pow h1⟩
        rw [upd_upd, upd_ne (ne_of_none z hy), upd_ne (ne_of_none z hdy)]
        exact z
end

end K11
set_option Elab.async false
set_option linter.all false
set_option maxRecDepth 100000
set_option maxHeartbeats 4000000
set_option exponentiation.threshold 100000
namespace K11
open PySem PySem.Spec PyProof.Rows L2 Fa Fb


theorem IsA.mono {K : PySem.W.Frag} {H : Hp} {x : V} {t u : Int} {n m : Nat} (h : IsA K H x t u n) (e : n ≤ m) : IsA K H x t u m := by
  obtain ⟨p, dx, h1, h2, h3, h4, h5⟩ := h
  exact ⟨p, dx, h1, h2, h3, pow_step h4 e, pow_step h5 e⟩
abbrev gFl (K : PySem.W.Frag) (i : Nat) (f : Str) : TE := tFld K (tVar i) f
/-- a two-place operation: num and den are the fraction that is due -/
def spOp (K : PySem.W.Frag) (num den : Int → Int → Int → Int → Int) : Sp := fun vs H Q E => ∃ x y t u n, vs = [x, y] ∧ IsA K H x t u n ∧ ((Bad K H y ∧ Err (CV K) y H E) ∨ ∃ t2 u2 m, Arg K H y t2 u2 m ∧ n + m < 7000 ∧
  ∀ z H' t' u', Same H H' → IsA K H' z t' u' (n + m + 1) → t' * den t u t2 u2 = num t u t2 u2 * u' → Q z H')
def spDiv (K : PySem.W.Frag) : Sp := fun vs H Q E => ∃ x y t u n, vs = [x, y] ∧ IsA K H x t u n ∧ ((Bad K H y ∧ Err (CV K) y H E) ∨ ∃ t2 u2 m, Arg K H y t2 u2 m ∧ n + m < 7000 ∧
  (t2 = 0 → ∀ H', Same H H' → Err (CV K) y H' E) ∧ (t2 ≠ 0 → ∀ z H' t' u', Same H H' → IsA K H' z t' u' (n + m + 1) → t' * (u * t2) = (t * u2) * u' → Q z H'))
def spCmp (K : PySem.W.Frag) : Sp := fun vs H Q E => ∃ x y t u n, vs = [x, y] ∧ IsA K H x t u n ∧ ((Bad K H y ∧ Err (CV K) y H E) ∨ ∃ t2 u2 m, Arg K H y t2 u2 m ∧ n + m < 7000 ∧
  ∀ H', Same H H' → Q (.int (if t * u2 - t2 * u = 0 then 0 else if 0 < t * u2 - t2 * u then 1 else -1)) H')
def spUn (K : PySem.W.Frag) (g : Int → Int) : Sp := fun vs H Q _ => ∃ x t u n, vs = [x] ∧ IsA K H x t u n ∧ n ≤ 8000 ∧ ∀ z H' t' u', Same H H' → IsA K H' z t' u' n → t' * u = g t * u' → Q z H'
section
variable {P : Program} {w : World} {K : PySem.W.Frag} {mg : Str → Option Value} {base : Heap} {f fS : Addr} {fd fdS fdI : FuncData} {qv tv : Str} {fV : Addr}

abbrev sAdd : Stmt := inClass (top 13) 4
theorem scAdd : FnScope ["self", "other", "right"] ["self", "other"] (defScope sAdd) := ⟨rfl, rfl, rfl, by decide +kernel, rfl, by decide +kernel, by decide +kernel⟩
theorem ok_add (F : FunD K "__add__" "Amount.__add__" (defArgs sAdd) (defBody sAdd) (defScope sAdd) [] [] f fd) (T : AF K mg) (GS : FnOk P w K mg base (L2.CX P w) 6 fS fdS ["value"] (spAs K)) (gS : mg "as_amount" = some (.ref fS)) (kS : PySem.W.keepIn K (.ref fS) = true) (bS : Binds K fdS ["value"] [])
    (GI : FnOk P w K mg base (L2.CX P w) 4 (aI K) fdI ["self", "top", "bottom"] (spInit K)) (bI : Binds K fdI ["self", "top", "bottom"] []) : FnOk P w K mg base (L2.CX P w) 7 f fd ["self", "other"] (spOp K (fun t u t2 u2 => t * u2 + t2 * u) (fun _ u _ u2 => u * u2)) := by
  refine F.ok scAdd (fun vs H Q E h => ?_) (fun cdv A outer s H vs Q E hr h => ?_)
  · obtain ⟨x, y, t, u, n, rfl, _⟩ := h
    rfl
  · obtain ⟨x, y, t, u, n, rfl, ix, q⟩ := h
    have hr1 := hr.mono (show 5 ≤ 6 by decide)
    refine ⟨_, pss_cons (ps_set (i := 2) scAdd.nd rfl (Or.inl rfl) (pe_callS GS hr rfl gS kS bS (fun σ => passAt (W := fun cls d _ H => E cls d H) (takes_of rfl rfl rfl rfl) σ) (pa_cons (pv 1) pa_nil)))
      (pss_one (ps_ret (pe_make T.mkA GI hr1 rfl T.g bI .nil passL (pa_cons (pe_op op_add (pe_op op_mulW (pe_fld (pv 0) rfl) (pe_fld (pv 2) rfl)) (pe_op op_mulW (pe_fld (pv 2) rfl) (pe_fld (pv 0) rfl))) (pa_cons (pe_op op_mulW (pe_fld (pv 0) rfl) (pe_fld (pv 2) rfl)) pa_nil))))), ?_⟩
    refine ⟨_, rfl, y, rfl, ?_⟩
    rcases q with ⟨hb, er⟩ | ⟨t2, u2, m, ar, hnm, q⟩
    · exact .inl ⟨hb, er⟩
    · refine .inr ⟨t2, u2, m, ar, fun z H' sm iz => ?_⟩
      have ix' := ix.same sm
      obtain ⟨p, dx, rfl, hp, r, b1, b2⟩ := id ix'
      obtain ⟨p2, dx2, rfl, hp2, r2, b3, b4⟩ := id iz
      refine ⟨_, rfl, p, CA K, dx, _, _, rfl, hp, T.cl, T.noT, fl_top _ _, ?_⟩
      refine ⟨_, rfl, p2, CA K, dx2, _, _, rfl, hp2, T.cl, T.noB, fl_bot _ _, ?_⟩
      refine ⟨_, _, rfl, rfl, mulW_of b1 b4 (by omega), ?_⟩
      refine ⟨_, rfl, p2, CA K, dx2, _, _, rfl, hp2, T.cl, T.noT, fl_top _ _, ?_⟩
      refine ⟨_, rfl, p, CA K, dx, _, _, rfl, hp, T.cl, T.noB, fl_bot _ _, ?_⟩
      refine ⟨_, _, rfl, rfl, mulW_of b3 b2 (by omega), _, _, rfl, rfl, ?_⟩
      refine ⟨_, rfl, p, CA K, dx, _, _, rfl, hp, T.cl, T.noB, fl_bot _ _, ?_⟩
      refine ⟨_, rfl, p2, CA K, dx2, _, _, rfl, hp2, T.cl, T.noB, fl_bot _ _, ?_⟩
      refine ⟨_, _, rfl, rfl, mulW_of b2 b4 (by omega), ?_⟩
      have hu : u * u2 ≠ 0 := Int.mul_ne_zero (by have := r.1; omega) (by have := r2.1; omega)
      refine make_read T (n := n + m + 1) hu (by omega) ?_ ?_ fun y' H2 t' u' s2 i2 e => q y' H2 t' u' (sm.trans s2) i2 e
      · exact abs_add_lt (abs_mul_lt b1 b4) (by rw [Nat.add_comm]; exact abs_mul_lt b3 b2)
      · exact pow_step (abs_mul_lt b2 b4) (by omega)

abbrev sSub : Stmt := inClass (top 13) 5
theorem scSub : FnScope ["self", "other", "right"] ["self", "other"] (defScope sSub) := ⟨rfl, rfl, rfl, by decide +kernel, rfl, by decide +kernel, by decide +kernel⟩
theorem ok_sub (F : FunD K "__sub__" "Amount.__sub__" (defArgs sSub) (defBody sSub) (defScope sSub) [] [] f fd) (T : AF K mg) (GS : FnOk P w K mg base (L2.CX P w) 6 fS fdS ["value"] (spAs K)) (gS : mg "as_amount" = some (.ref fS)) (kS : PySem.W.keepIn K (.ref fS) = true) (bS : Binds K fdS ["value"] [])
    (GI : FnOk P w K mg base (L2.CX P w) 4 (aI K) fdI ["self", "top", "bottom"] (spInit K)) (bI : Binds K fdI ["self", "top", "bottom"] []) : FnOk P w K mg base (L2.CX P w) 7 f fd ["self", "other"] (spOp K (fun t u t2 u2 => t * u2 - t2 * u) (fun _ u _ u2 => u * u2)) := by
  refine F.ok scSub (fun vs H Q E h => ?_) (fun cdv A outer s H vs Q E hr h => ?_)
  · obtain ⟨x, y, t, u, n, rfl, _⟩ := h
    rfl
  · obtain ⟨x, y, t, u, n, rfl, ix, q⟩ := h
    have hr1 := hr.mono (show 5 ≤ 6 by decide)
    refine ⟨_, pss_cons (ps_set (i := 2) scSub.nd rfl (Or.inl rfl) (pe_callS GS hr rfl gS kS bS (fun σ => passAt (W := fun cls d _ H => E cls d H) (takes_of rfl rfl rfl rfl) σ) (pa_cons (pv 1) pa_nil)))
      (pss_one (ps_ret (pe_make T.mkA GI hr1 rfl T.g bI .nil passL (pa_cons (pe_op op_sub (pe_op op_mulW (pe_fld (pv 0) rfl) (pe_fld (pv 2) rfl)) (pe_op op_mulW (pe_fld (pv 2) rfl) (pe_fld (pv 0) rfl))) (pa_cons (pe_op op_mulW (pe_fld (pv 0) rfl) (pe_fld (pv 2) rfl)) pa_nil))))), ?_⟩
    refine ⟨_, rfl, y, rfl, ?_⟩
    rcases q with ⟨hb, er⟩ | ⟨t2, u2, m, ar, hnm, q⟩
    · exact .inl ⟨hb, er⟩
    · refine .inr ⟨t2, u2, m, ar, fun z H' sm iz => ?_⟩
      have ix' := ix.same sm
      obtain ⟨p, dx, rfl, hp, r, b1, b2⟩ := id ix'
      obtain ⟨p2, dx2, rfl, hp2, r2, b3, b4⟩ := id iz
      refine ⟨_, rfl, p, CA K, dx, _, _, rfl, hp, T.cl, T.noT, fl_top _ _, ?_⟩
      refine ⟨_, rfl, p2, CA K, dx2, _, _, rfl, hp2, T.cl, T.noB, fl_bot _ _, ?_⟩
      refine ⟨_, _, rfl, rfl, mulW_of b1 b4 (by omega), ?_⟩
      refine ⟨_, rfl, p2, CA K, dx2, _, _, rfl, hp2, T.cl, T.noT, fl_top _ _, ?_⟩
      refine ⟨_, rfl, p, CA K, dx, _, _, rfl, hp, T.cl, T.noB, fl_bot _ _, ?_⟩
      refine ⟨_, _, rfl, rfl, mulW_of b3 b2 (by omega), _, _, rfl, rfl, ?_⟩
      refine ⟨_, rfl, p, CA K, dx, _, _, rfl, hp, T.cl, T.noB, fl_bot _ _, ?_⟩
      refine ⟨_, rfl, p2, CA K, dx2, _, _, rfl, hp2, T.cl, T.noB, fl_bot _ _, ?_⟩
      refine ⟨_, _, rfl, rfl, mulW_of b2 b4 (by omega), ?_⟩
      have hu : u * u2 ≠ 0 := Int.mul_ne_zero (by have := r.1; omega) (by have := r2.1; omega)
      refine make_read T (n := n + m + 1) hu (by omega) ?_ ?_ fun y' H2 t' u' s2 i2 e => q y' H2 t' u' (sm.trans s2) i2 e
      · exact abs_sub_lt (abs_mul_lt b1 b4) (by rw [Nat.add_comm]; exact abs_mul_lt b3 b2)
      · exact pow_step (abs_mul_lt b2 b4) (by omega)

abbrev sMul : Stmt := inClass (top 13) 6
theorem scMul : FnScope ["self", "other", "right"] ["self", "other"] (defScope sMul) := ⟨rfl, rfl, rfl, by decide +kernel, rfl, by decide +kernel, by decide +kernel⟩
theorem ok_mul (F : FunD K "__mul__" "Amount.__mul__" (defArgs sMul) (defBody sMul) (defScope sMul) [] [] f fd) (T : AF K mg) (GS : FnOk P w K mg base (L2.CX P w) 6 fS fdS ["value"] (spAs K)) (gS : mg "as_amount" = some (.ref fS)) (kS : PySem.W.keepIn K (.ref fS) = true) (bS : Binds K fdS ["value"] [])
    (GI : FnOk P w K mg base (L2.CX P w) 4 (aI K) fdI ["self", "top", "bottom"] (spInit K)) (bI : Binds K fdI ["self", "top", "bottom"] []) : FnOk P w K mg base (L2.CX P w) 7 f fd ["self", "other"] (spOp K (fun t _ t2 _ => t * t2) (fun _ u _ u2 => u * u2)) := by
  refine F.ok scMul (fun vs H Q E h => ?_) (fun cdv A outer s H vs Q E hr h => ?_)
  · obtain ⟨x, y, t, u, n, rfl, _⟩ := h
    rfl
  · obtain ⟨x, y, t, u, n, rfl, ix, q⟩ := h
    have hr1 := hr.mono (show 5 ≤ 6 by decide)
    refine ⟨_, pss_cons (ps_set (i := 2) scMul.nd rfl (Or.inl rfl) (pe_callS GS hr rfl gS kS bS (fun σ => passAt (W := fun cls d _ H => E cls d H) (takes_of rfl rfl rfl rfl) σ) (pa_cons (pv 1) pa_nil)))
      (pss_one (ps_ret (pe_make T.mkA GI hr1 rfl T.g bI .nil passL (pa_cons (pe_op op_mulW (pe_fld (pv 0) rfl) (pe_fld (pv 2) rfl)) (pa_cons (pe_op op_mulW (pe_fld (pv 0) rfl) (pe_fld (pv 2) rfl)) pa_nil))))), ?_⟩
    refine ⟨_, rfl, y, rfl, ?_⟩
    rcases q with ⟨hb, er⟩ | ⟨t2, u2, m, ar, hnm, q⟩
    · exact .inl ⟨hb, er⟩
    · refine .inr ⟨t2, u2, m, ar, fun z H' sm iz => ?_⟩
      have ix' := ix.same sm
      obtain ⟨p, dx, rfl, hp, r, b1, b2⟩ := id ix'
      obtain ⟨p2, dx2, rfl, hp2, r2, b3, b4⟩ := id iz
      refine ⟨_, rfl, p, CA K, dx, _, _, rfl, hp, T.cl, T.noT, fl_top _ _, ?_⟩
      refine ⟨_, rfl, p2, CA K, dx2, _, _, rfl, hp2, T.cl, T.noT, fl_top _ _, ?_⟩
      refine ⟨_, _, rfl, rfl, mulW_of b1 b3 (by omega), ?_⟩
      refine ⟨_, rfl, p, CA K, dx, _, _, rfl, hp, T.cl, T.noB, fl_bot _ _, ?_⟩
      refine ⟨_, rfl, p2, CA K, dx2, _, _, rfl, hp2, T.cl, T.noB, fl_bot _ _, ?_⟩
      refine ⟨_, _, rfl, rfl, mulW_of b2 b4 (by omega), ?_⟩
      have hu : u * u2 ≠ 0 := Int.mul_ne_zero (by have := r.1; omega) (by have := r2.1; omega)
      refine make_read T (n := n + m + 1) hu (by omega) ?_ ?_ fun y' H2 t' u' s2 i2 e => q y' H2 t' u' (sm.trans s2) i2 e
      · exact pow_step (abs_mul_lt b1 b3) (by omega)
      · exact pow_step (abs_mul_lt b2 b4) (by omega)
end

end K11
set_option Elab.async false
set_option linter.all false
set_option maxRecDepth 100000
set_option maxHeartbeats 4000000
set_option exponentiation.threshold 100000
namespace K11
open PySem PySem.Spec PyProof.Rows L2 Fa Fb


abbrev sNeg : Stmt := inClass (top 13) 7
abbrev sAbs : Stmt := inClass (top 13) 8
abbrev sDiv : Stmt := inClass (top 13) 9
abbrev sCmp : Stmt := inClass (top 13) 10
theorem scNeg : FnScope ["self"] ["self"] (defScope sNeg) := ⟨rfl, rfl, rfl, by decide +kernel, rfl, by decide +kernel, by decide +kernel⟩
theorem scAbs : FnScope ["self"] ["self"] (defScope sAbs) := ⟨rfl, rfl, rfl, by decide +kernel, rfl, by decide +kernel, by decide +kernel⟩
theorem scDiv : FnScope ["self", "other", "right"] ["self", "other"] (defScope sDiv) := ⟨rfl, rfl, rfl, by decide +kernel, rfl, by decide +kernel, by decide +kernel⟩
theorem scCmp : FnScope ["self", "other", "right", "difference"] ["self", "other"] (defScope sCmp) := ⟨rfl, rfl, rfl, by decide +kernel, rfl, by decide +kernel, by decide +kernel⟩
section
variable {P : Program} {w : World} {K : PySem.W.Frag} {mg : Str → Option Value} {base : Heap} {f fS : Addr} {fd fdS fdI : FuncData} {qv tv : Str} {fV : Addr}
theorem ok_neg (F : FunD K "__neg__" "Amount.__neg__" (defArgs sNeg) (defBody sNeg) (defScope sNeg) [] [] f fd) (T : AF K mg) (GI : FnOk P w K mg base (L2.CX P w) 4 (aI K) fdI ["self", "top", "bottom"] (spInit K)) (bI : Binds K fdI ["self", "top", "bottom"] []) : FnOk P w K mg base (L2.CX P w) 6 f fd ["self"] (spUn K fun t => -t) := by
  refine F.ok scNeg (fun vs H Q E h => ?_) (fun cdv A outer s H vs Q E hr h => ?_)
  · obtain ⟨x, t, u, n, rfl, _⟩ := h
    rfl
  · obtain ⟨x, t, u, n, rfl, ix, hn, q⟩ := h
    obtain ⟨p, dx, rfl, hp, r, b1, b2⟩ := id ix
    refine ⟨_, pss_one (ps_ret (pe_make T.mkA GI hr rfl T.g bI .nil passL (pa_cons (pe_un un_neg (pe_fld (pv 0) rfl)) (pa_cons (pe_fld (pv 0) rfl) pa_nil)))), ?_⟩
    refine ⟨_, rfl, p, CA K, dx, _, _, rfl, hp, T.cl, T.noT, fl_top _ _, _, rfl, ?_⟩
    refine ⟨_, rfl, p, CA K, dx, _, _, rfl, hp, T.cl, T.noB, fl_bot _ _, ?_⟩
    exact make_read T (n := n) (by have := r.1; omega) hn (by rw [Int.natAbs_neg]; exact b1) b2 fun y' H2 t' u' s2 i2 e => q y' H2 t' u' s2 i2 e
theorem ok_abs (F : FunD K "__abs__" "Amount.__abs__" (defArgs sAbs) (defBody sAbs) (defScope sAbs) [] [] f fd) (T : AF K mg) (mA : mg "abs" = none) (GI : FnOk P w K mg base (L2.CX P w) 4 (aI K) fdI ["self", "top", "bottom"] (spInit K)) (bI : Binds K fdI ["self", "top", "bottom"] []) : FnOk P w K mg base (L2.CX P w) 6 f fd ["self"] (spUn K fun t => if t < 0 then -t else t) := by
  refine F.ok scAbs (fun vs H Q E h => ?_) (fun cdv A outer s H vs Q E hr h => ?_)
  · obtain ⟨x, t, u, n, rfl, _⟩ := h
    rfl
  · obtain ⟨x, t, u, n, rfl, ix, hn, q⟩ := h
    obtain ⟨p, dx, rfl, hp, r, b1, b2⟩ := id ix
    refine ⟨_, pss_one (ps_ret (pe_make T.mkA GI hr rfl T.g bI .nil passL (pa_cons (pe_callB call_abs rfl mA (by decide +kernel) (pa_cons (pe_fld (pv 0) rfl) pa_nil)) (pa_cons (pe_fld (pv 0) rfl) pa_nil)))), ?_⟩
    refine ⟨_, rfl, p, CA K, dx, _, _, rfl, hp, T.cl, T.noT, fl_top _ _, _, rfl, ?_⟩
    refine ⟨_, rfl, p, CA K, dx, _, _, rfl, hp, T.cl, T.noB, fl_bot _ _, ?_⟩
    exact make_read T (n := n) (by have := r.1; omega) hn (by split <;> omega) b2 fun y' H2 t' u' s2 i2 e => q y' H2 t' u' s2 i2 e
theorem ok_div (F : FunD K "divided" "Amount.divided" (defArgs sDiv) (defBody sDiv) (defScope sDiv) [] [] f fd) (T : AF K mg) (GS : FnOk P w K mg base (L2.CX P w) 6 fS fdS ["value"] (spAs K)) (gS : mg "as_amount" = some (.ref fS)) (kS : PySem.W.keepIn K (.ref fS) = true) (bS : Binds K fdS ["value"] [])
    (GI : FnOk P w K mg base (L2.CX P w) 4 (aI K) fdI ["self", "top", "bottom"] (spInit K)) (bI : Binds K fdI ["self", "top", "bottom"] []) (XV : Xb.Txt P.main.file K qv "value" tv (CV K) fV) (htop : (P.main.scope.names.lookup ("super" : Str)).isSome = false) :
    FnOk P w K mg base (L2.CX P w) 7 f fd ["self", "other"] (spDiv K) := by
  refine F.ok scDiv (fun vs H Q E h => ?_) (fun cdv A outer s H vs Q E hr h => ?_)
  · obtain ⟨x, y, t, u, n, rfl, _⟩ := h
    rfl
  · obtain ⟨x, y, t, u, n, rfl, ix, q⟩ := h
    have hr1 := hr.mono (show 5 ≤ 6 by decide)
    refine ⟨_, pss_cons (ps_set (i := 2) scDiv.nd rfl (Or.inl rfl) (pe_callS GS hr rfl gS kS bS (fun σ => passAt (W := fun cls d _ H => E cls d H) (takes_of rfl rfl rfl rfl) σ) (pa_cons (pv 1) pa_nil)))
      (pss_cons (ps_if (pt_cmpR op_eq (pe_fld (pv 2) rfl) pe_int (nomark _)) (pss_one (Xb.ps_raiseX (W := fun cls d _ H => E cls d H) rfl XV T.gV htop hr1 (takes_of rfl rfl rfl rfl) (pa_cons (pv 1) pa_nil))) pss_nil)
      (pss_one (ps_ret (pe_make T.mkA GI hr1 rfl T.g bI .nil passL (pa_cons (pe_op op_mulW (pe_fld (pv 0) rfl) (pe_fld (pv 2) rfl)) (pa_cons (pe_op op_mulW (pe_fld (pv 0) rfl) (pe_fld (pv 2) rfl)) pa_nil)))))), ?_⟩
    refine ⟨_, rfl, y, rfl, ?_⟩
    rcases q with ⟨hb, er⟩ | ⟨t2, u2, m, ar, hnm, qz, q⟩
    · exact .inl ⟨hb, er⟩
    · refine .inr ⟨t2, u2, m, ar, fun z H' sm iz => ?_⟩
      have ix' := ix.same sm
      obtain ⟨p, dx, rfl, hp, r, b1, b2⟩ := id ix'
      obtain ⟨p2, dx2, rfl, hp2, r2, b3, b4⟩ := id iz
      refine ⟨_, rfl, p2, CA K, dx2, _, _, rfl, hp2, T.cl, T.noT, fl_top _ _, rfl, _, rfl, ?_⟩
      by_cases h0 : t2 = 0
      · subst h0
        exact if_true_of (decide_eq_true rfl) ⟨_, rfl, _, rfl, qz rfl _ sm⟩
      · refine if_false_of (decide_eq_false fun z => h0 (V.int.inj z)) ?_
        refine ⟨_, rfl, p, CA K, dx, _, _, rfl, hp, T.cl, T.noT, fl_top _ _, ?_⟩
        refine ⟨_, rfl, p2, CA K, dx2, _, _, rfl, hp2, T.cl, T.noB, fl_bot _ _, ?_⟩
        refine ⟨_, _, rfl, rfl, mulW_of b1 b4 (by omega), ?_⟩
        refine ⟨_, rfl, p, CA K, dx, _, _, rfl, hp, T.cl, T.noB, fl_bot _ _, ?_⟩
        refine ⟨_, rfl, p2, CA K, dx2, _, _, rfl, hp2, T.cl, T.noT, fl_top _ _, ?_⟩
        refine ⟨_, _, rfl, rfl, mulW_of b2 b3 (by omega), ?_⟩
        have hu : u * t2 ≠ 0 := Int.mul_ne_zero (by have := r.1; omega) h0
        refine make_read T (n := n + m + 1) hu (by omega) ?_ ?_ fun y' H2 t' u' s2 i2 e => q h0 y' H2 t' u' (sm.trans s2) i2 e
        · exact pow_step (abs_mul_lt b1 b4) (by omega)
        · exact pow_step (abs_mul_lt b2 b3) (by omega)
theorem ok_cmp (F : FunD K "compare" "Amount.compare" (defArgs sCmp) (defBody sCmp) (defScope sCmp) [] [] f fd) (T : AF K mg) (GS : FnOk P w K mg base (L2.CX P w) 6 fS fdS ["value"] (spAs K)) (gS : mg "as_amount" = some (.ref fS)) (kS : PySem.W.keepIn K (.ref fS) = true) (bS : Binds K fdS ["value"] []) :
    FnOk P w K mg base (L2.CX P w) 7 f fd ["self", "other"] (spCmp K) := by
  refine F.ok scCmp (fun vs H Q E h => ?_) (fun cdv A outer s H vs Q E hr h => ?_)
  · obtain ⟨x, y, t, u, n, rfl, _⟩ := h
    rfl
  · obtain ⟨x, y, t, u, n, rfl, ix, q⟩ := h
    refine ⟨_, pss_cons (ps_set (i := 2) scCmp.nd rfl (Or.inl rfl) (pe_callS GS hr rfl gS kS bS (fun σ => passAt (W := fun cls d _ H => E cls d H) (takes_of rfl rfl rfl rfl) σ) (pa_cons (pv 1) pa_nil)))
      (pss_cons (ps_set (i := 3) scCmp.nd rfl (Or.inl rfl) (pe_op op_sub (pe_op op_mulW (pe_fld (pv 0) rfl) (pe_fld (pv 2) rfl)) (pe_op op_mulW (pe_fld (pv 2) rfl) (pe_fld (pv 0) rfl))))
      (pss_cons (ps_if (pt_cmpR op_eq (pv 3) pe_int (nomark _)) (pss_one (ps_ret pe_int)) pss_nil)
      (pss_one (ps_ret (pe_ifExp (pt_cmpR op_gt (pv 3) pe_int (nomark _)) pe_int (pe_un un_neg pe_int)))))), ?_⟩
    refine ⟨_, rfl, y, rfl, ?_⟩
    rcases q with ⟨hb, er⟩ | ⟨t2, u2, m, ar, hnm, q⟩
    · exact .inl ⟨hb, er⟩
    · refine .inr ⟨t2, u2, m, ar, fun z H' sm iz => ?_⟩
      have ix' := ix.same sm
      have q := q H' sm
      obtain ⟨p, dx, rfl, hp, r, b1, b2⟩ := id ix'
      obtain ⟨p2, dx2, rfl, hp2, r2, b3, b4⟩ := id iz
      refine ⟨_, rfl, p, CA K, dx, _, _, rfl, hp, T.cl, T.noT, fl_top _ _, ?_⟩
      refine ⟨_, rfl, p2, CA K, dx2, _, _, rfl, hp2, T.cl, T.noB, fl_bot _ _, ?_⟩
      refine ⟨_, _, rfl, rfl, mulW_of b1 b4 (by omega), ?_⟩
      refine ⟨_, rfl, p2, CA K, dx2, _, _, rfl, hp2, T.cl, T.noT, fl_top _ _, ?_⟩
      refine ⟨_, rfl, p, CA K, dx, _, _, rfl, hp, T.cl, T.noB, fl_bot _ _, ?_⟩
      refine ⟨_, _, rfl, rfl, mulW_of b3 b2 (by omega), _, _, rfl, rfl, ?_⟩
      refine ⟨_, rfl, rfl, _, rfl, ?_⟩
      by_cases h0 : t * u2 - t2 * u = 0
      · rw [if_pos h0] at q
        refine if_true_of (decide_eq_true (congrArg V.int h0)) q
      · rw [if_neg h0] at q
        refine if_false_of (decide_eq_false fun z => h0 (V.int.inj z)) ?_
        refine ⟨_, rfl, _, _, rfl, rfl, _, rfl, ?_⟩
        by_cases h1 : 0 < t * u2 - t2 * u
        · rw [if_pos h1] at q
          exact if_true_of (decide_eq_true h1) q
        · rw [if_neg h1] at q
          exact if_false_of (decide_eq_false h1) ⟨_, rfl, q⟩
end

end K11
set_option Elab.async false
set_option linter.all false
set_option maxRecDepth 100000
set_option maxHeartbeats 4000000
/-! Defs that show lists: the guards of repr stand empty around them. -/
namespace Fg
open PySem PySem.Spec PyProof.Rows L2
/-- a def's promise where no repr is under way -/
structure FnG (P : Program) (w : World) (K : PySem.W.Frag) (mg : Str → Option Value) (base : Heap) (CX : CXT) (k : Nat) (f : Addr) (fd : FuncData) (ps : List Str) (sp : Sp) : Prop where
  len : ∀ vs H Q E, sp vs H Q E → vs.length = ps.length
  run : ∀ (A : Around) (ou : List Env) (s : Shared) (H : Hp) (ar : Args) (us : List Value) (vs : List V) (Q : VK) (E : XK), A.guards = some [] → Room k A → Env0 P w K mg base A ou s H → BindsTo s fd ar (ps.zip us) →
    Vals vs us → sp vs H Q E → codeAny (model P w) A (.call (.ref f) ar) (CR CX ou P w H s Q E) s
section
variable {CX : CXT} {P : Program} {w : World} {K : PySem.W.Frag} {mg : Str → Option Value} {base : Heap} {k : Nat} {f : Addr} {fd : FuncData} {x qual : Str} {params : Arguments} {body : List Stmt} {scope : Scope} {dvs : List V} {kws : List (Str × V)} {N ps : List Str} {sp : Sp}
theorem okG (F : FunD K x qual params body scope dvs kws f fd) (S : FnScope N ps scope) (len : ∀ vs H Q E, sp vs H Q E → vs.length = ps.length)
    (hb : ∀ (cdv : Value) (A : Around) (ou : List Env) (s : Shared) (H : Hp) (vs : List V) (Q : VK) (E : XK), A.guards = some [] → Room k (A.deeper (envOfC qual scope s.heap.objs.size f cdv)) → sp vs H Q E →
      ∃ t, PSs (cxOf CX P w K mg base N qual scope f cdv A ou s H E) body t ∧ t { nx := fun _ H' => Q .non H', rt := Q } (start N vs) H) : FnG P w K mg base CX (k + 1) f fd ps sp := by
  obtain ⟨oc, od, dV, kV, doc, pm, an, cdv, ct, osl, rfl, lk, hcd, _, _⟩ := F.ex
  constructor
  · exact len
  intro A ou s H ar us vs Q E hg hr e0 bi rv hsp
  have keep : ∀ b o, base.get? b = some o → s.heap.get? b = some o := fun b o e => (e0.bs b o e).1
  have inK : K.In s.heap := e0.mod.kin.keeps keep
  have noL : s.heap.NoLimit := e0.mod.nolimit.keeps keep
  have kinds : ∀ y ∈ ps.zip us, scope.names.lookup y.1 = some .local ∨ (scope.names.lookup y.1 = some .cell ∧ ((cellsFrom (s.heap.objs.size + 1) scope.names []).lookup y.1).isSome = true) := by
    rintro ⟨n, v⟩ hy
    exact (S.par n (List.of_mem_zip hy).1).imp id fun q => ⟨q, PySem.W.cellsFrom_some _ _ _ (.inl q)⟩
  refine codeAny_call_function hr.depth (inK _ _ lk) rfl S.co S.gen rfl (PySem.W.codeRec_of inK hcd) (bi _ _ _ _ ?_)
  refine wpAny_newFunctionEnv_cells S.kind kinds fun env he s1 ic => ?_
  cases he
  refine ⟨noL.keeps ic.toInCall.keep, codeAny_func ?_⟩
  obtain ⟨t, pt, tq⟩ := hb cdv A ou s H vs Q E hg (hr.deeper _) hsp
  have J : Inv (cxOf CX P w K mg base N qual scope f cdv A ou s H E) [] (start N vs) H s1 := inv_start S hr.hd e0 (len _ _ _ _ hsp) rv ic
  refine wpAny_mono (pt.run [] s1 (start N vs) H _ J tq) (fun fl s2 h2 => ?_) fun _ _ h2 => h2
  match fl, h2 with
  | .ret u, h2 =>
    obtain ⟨v, σ2, H2, J2, ru, q2⟩ := h2
    exact ⟨v, H2, J2.os, J2.bare, J2.base, J2.hok, ru, q2⟩
  | .next, h2 =>
    obtain ⟨σ2, H2, J2, q2⟩ := h2
    exact ⟨V.non, H2, J2.os, J2.bare, J2.base, J2.hok, rfl, q2⟩
  | .brk, h2 => exact (let ⟨_, _, _, z⟩ := h2; False.elim z)
  | .cont, h2 => exact (let ⟨_, _, _, z⟩ := h2; False.elim z)
end
section
variable {X : Cx} {CX : CXT} {k : Nat} {f : Addr} {fd : FuncData} {ps : List Str} {sp : Sp} {E : L2.St → XK} {x : Str} {p pos : Pos} {e : Expr} {es : List Expr} {t : TA}
theorem run_G {pn : List (Addr × Obj)} {σ : L2.St} {H : Hp} {s : Shared} {Q : VK} {us : List Value} {vs : List V} (G : X.A.guards = some []) (F : FnG X.prog X.w X.K X.mg X.base CX k f fd ps sp) (hr : Room k X.A) (hb : Binds X.K fd ps []) (px : PassesAt CX X σ (E σ))
    (I : Inv X pn σ H s) (r : Vals vs us) (h : sp vs H Q (E σ)) : wpAny (model X.prog X.w) X.A (call (.ref f) us) (EP X pn σ Q) X.xe s := by
  have bi := hb s us I.kIn (by rw [List.append_nil, ← r.length]; exact F.len _ _ _ _ h)
  rw [List.append_nil] at bi
  refine wpAny_call (codeAny_mono (F.run X.A X.stack s H ⟨us, []⟩ us vs Q (E σ) G hr I.env0 bi r h) fun res s2 out => ?_)
  match res, out with
  | .error er, out => exact px pn H s er s2 I out
  | .ok (.ret u), out => exact I.after out
  | .ok .next, out => exact out.elim
  | .ok .brk, out => exact out.elim
  | .ok .cont, out => exact out.elim
theorem pe_callG (G : X.A.guards = some []) (F : FnG X.prog X.w X.K X.mg X.base CX k f fd ps sp) (hr : Room k X.A) (hg : Gl X x) (hm : X.mg x = some (.ref f)) (hk : PySem.W.keepIn X.K (.ref f) = true) (hb : Binds X.K fd ps []) (px : ∀ σ, PassesAt CX X σ (E σ))
    (ha : PA X (e :: es) t) (nd : (x == ("__debug__" : Str)) = false := by decide) (he : starEach (e :: es) X.env = (false, eval e X.env) :: starEach es X.env := by rfl) (hpl : (backTo pos (starEach es X.env)).any (·.1) = false := by rfl) :
    PE X (.Call (.Name x p) (e :: es) [] pos) (tCallS sp E t) := by
  constructor
  intro pn s σ H Q I h
  refine wpAny_Call_Name_kw (ld_glob I hg hm ?_ nd)
  refine PySem.W.callWith_K (h₀ := X.base) I.ok.mod.kin hk (thn (ha.run pos pn s σ H _ I h) ?_) he hpl
  rintro us s1 ⟨vs, H1, I1, r, q⟩
  exact ⟨I1.kIn, run_G G F hr hb (px σ) I1 r q⟩
theorem pe_callG0 (G : X.A.guards = some []) (F : FnG X.prog X.w X.K X.mg X.base CX k f fd ps sp) (hr : Room k X.A) (hg : Gl X x) (hm : X.mg x = some (.ref f)) (hk : PySem.W.keepIn X.K (.ref f) = true) (hb : Binds X.K fd ps []) (px : ∀ σ, PassesAt CX X σ (E σ))
    (nd : (x == ("__debug__" : Str)) = false := by decide) : PE X (.Call (.Name x p) [] [] pos) (tCallS sp E tNil) := by
  constructor
  intro pn s σ H Q I h
  exact wpAny_Call_Name_kw (ld_glob I hg hm (PySem.W.callWith_K0 I.kIn hk (run_G (us := []) G F hr hb (px σ) I .nil h)) nd)
end
/-! ### repr of what is tracked -/
/-- the object of sys.modules is a dict of the written part -/
def SysD (K : PySem.W.Frag) : Prop := ∃ c dd es ep sl, K.lookup sysModules = some ⟨c, dd, .dict es ep, sl⟩
def Sh (X : Cx) (H : Hp) (v : V) (d : PyData) : Prop := ∀ (pn : List (Addr × Obj)) (σ : L2.St) (s : Shared) (u : Value), Inv X pn σ H s → RelV v u → ∃ as, Reads s.heap u d as ∧ sysModules ∉ as
inductive ShA (X : Cx) (H : Hp) : List V → List PyData → Prop
  | nil : ShA X H [] []
  | cons {v : V} {vs : List V} {d : PyData} {ds : List PyData} : Sh X H v d → ShA X H vs ds → ShA X H (v :: vs) (d :: ds)
section
variable {X : Cx} {H : Hp}
theorem ShA.reads {pn : List (Addr × Obj)} {σ : L2.St} {s : Shared} (I : Inv X pn σ H s) : ∀ {vs : List V} {ds : List PyData} {us : List Value}, ShA X H vs ds → Vals vs us → ∃ as, ReadsAll s.heap us ds as ∧ sysModules ∉ as
  | _, _, _, .nil, .nil => ⟨[], .nil, by simp⟩
  | _, _, _, .cons h hs, .cons r rs => by
    obtain ⟨as, a1, a2⟩ := h _ _ _ _ I r
    obtain ⟨bs, b1, b2⟩ := ShA.reads I hs rs
    exact ⟨as ++ bs, .cons a1 b1, by simp [a2, b2]⟩
theorem sh_non : Sh X H .non .none := fun _ _ _ u _ r => by
  cases r
  exact ⟨[], .none, by simp⟩
theorem sh_bl (b : Bool) : Sh X H (.bl b) (.bool b) := fun _ _ _ u _ r => by
  cases r
  exact ⟨[], .bool b, by simp⟩
theorem sh_int (i : Int) : Sh X H (.int i) (.int i) := fun _ _ _ u _ ⟨t, e⟩ => by
  cases e
  exact ⟨[], .int i t, by simp⟩
theorem sh_str (x : Str) : Sh X H (.str x) (.str x) := fun _ _ _ u _ ⟨t, e⟩ => by
  cases e
  exact ⟨[], .str x t, by simp⟩
theorem sh_lst (S : SysD X.K) {a : Addr} {xs : List V} {ds : List PyData} (h : H a = some (.lst xs)) (hs : ShA X H xs ds) : Sh X H (.ref a) (.list ds) := fun pn σ s u I r => by
  cases r
  obtain ⟨its, rv, ⟨o, n, ho, hc, _, hd⟩, _⟩ := I.list (SqL.of (K := X.K) h)
  obtain ⟨as, a1, a2⟩ := hs.reads I rv
  refine ⟨a :: as, .list ho hc hd a1, fun z => ?_⟩
  rcases List.mem_cons.mp z with z | z
  · obtain ⟨c, dd, es, ep, sl, hk⟩ := S
    have h2 := I.kIn _ _ hk
    rw [z, ho] at h2
    cases h2
    cases hd
  · exact a2 z
theorem sh_tup {a : Addr} {xs : List V} {ds : List PyData} (h : H a = some (.tup xs)) (hs : ShA X H xs ds) : Sh X H (.ref a) (.tuple ds) := fun pn σ s u I r => by
  cases r
  obtain ⟨its, rv, ⟨o, ho, hc, n, hd⟩, _⟩ := I.tuple (SqT.of (K := X.K) h)
  obtain ⟨as, a1, a2⟩ := hs.reads I rv
  exact ⟨as, .tuple ho hc hd a1, a2⟩
theorem sh_dict0 {a : Addr} (h : H a = some (.dK [])) : Sh X H (.ref a) (.dict []) := fun pn σ s u I r => by
  cases r
  obtain ⟨_, h1, vs, kv, hd⟩ := dk_of I.hok h
  obtain ⟨o, es, ep, ho, hc, hdat, _, hp, _⟩ := hd
  cases kv
  have el : es.toList = [] := List.eq_nil_of_length_eq_zero hp.length
  refine ⟨a :: [] ++ [], Reads.dict ho hc.1 hdat (by rw [el]; exact .nil) (by rw [el]; exact .nil), fun z => ?_⟩
  have z2 : sysModules = a := by simpa using z
  rw [← z2] at h1
  simp at h1
mutual
/-- what is shown of a value, by the tracked heap alone -/
inductive Sv (H : Hp) : V → PyData → Prop
  | non : Sv H .non .none
  | bl (b : Bool) : Sv H (.bl b) (.bool b)
  | int (i : Int) : Sv H (.int i) (.int i)
  | str (x : Str) : Sv H (.str x) (.str x)
  | lst {a : Addr} {xs : List V} {ds : List PyData} : H a = some (.lst xs) → SvA H xs ds → Sv H (.ref a) (.list ds)
  | tup {a : Addr} {xs : List V} {ds : List PyData} : H a = some (.tup xs) → SvA H xs ds → Sv H (.ref a) (.tuple ds)
  | dic {a : Addr} : H a = some (.dK []) → Sv H (.ref a) (.dict [])
inductive SvA (H : Hp) : List V → List PyData → Prop
  | nil : SvA H [] []
  | cons {v : V} {vs : List V} {d : PyData} {ds : List PyData} : Sv H v d → SvA H vs ds → SvA H (v :: vs) (d :: ds)
end
mutual
theorem Sv.sh (S : SysD X.K) : ∀ {d : PyData} {v : V}, Sv H v d → Sh X H v d
  | _, _, .non => sh_non
  | _, _, .bl b => sh_bl b
  | _, _, .int i => sh_int i
  | _, _, .str x => sh_str x
  | _, _, .lst h hs => sh_lst S h (SvA.sh S hs)
  | _, _, .tup h hs => sh_tup h (SvA.sh S hs)
  | _, _, .dic h => sh_dict0 h
theorem SvA.sh (S : SysD X.K) : ∀ {ds : List PyData} {vs : List V}, SvA H vs ds → ShA X H vs ds
  | _, _, .nil => .nil
  | _, _, .cons h hs => .cons (Sv.sh S h) (SvA.sh S hs)
end
mutual
theorem Sv.same {H' : Hp} (s : ∀ a o, H a = some o → H' a = some o) : ∀ {d : PyData} {v : V}, Sv H v d → Sv H' v d
  | _, _, .non => .non
  | _, _, .bl b => .bl b
  | _, _, .int i => .int i
  | _, _, .str x => .str x
  | _, _, .lst h hs => .lst (s _ _ h) (SvA.same s hs)
  | _, _, .tup h hs => .tup (s _ _ h) (SvA.same s hs)
  | _, _, .dic h => .dic (s _ _ h)
theorem SvA.same {H' : Hp} (s : ∀ a o, H a = some o → H' a = some o) : ∀ {ds : List PyData} {vs : List V}, SvA H vs ds → SvA H' vs ds
  | _, _, .nil => .nil
  | _, _, .cons h hs => .cons (Sv.same s h) (SvA.same s hs)
end
theorem call_reprD (S : SysD X.K) (G : X.A.guards = some []) (hu : X.A.units + 64 < cLine) : CallR X (.builtin "repr") (fun xs H Q => ∃ a d, xs = [.ref a] ∧ Sv H (.ref a) d ∧ d.showable = true ∧ d.depth ≤ 20 ∧ d.shown.length ≤ sizeLine ∧ Q (.str d.shown) H) := by
  intro pn s σ H xs us Q I r h
  obtain ⟨a, d, rfl, sv, h1, h2, h3, q⟩ := h
  obtain ⟨u, rfl, r1⟩ := vals1 r
  obtain rfl : u = Value.ref a := r1
  obtain ⟨as, rd, ns⟩ := sv.sh S _ _ _ _ I rfl
  exact repr_of_reads' rd h1 (fun _ => ns) G (by omega) (fun _ _ e => e) (fun h' u tk hk => ⟨.str d.shown, H, I.kept (t' := tk) hk, ⟨u, rfl⟩, q⟩) h3
end
theorem deeper_guards {A : Around} {env : Env} : (A.deeper env).guards = A.guards := rfl
end Fg
set_option Elab.async false
set_option linter.all false
set_option maxRecDepth 100000
set_option maxHeartbeats 4000000
/-! sep.join(reversed(a list of texts)) -/
namespace Fj
open PySem PySem.Spec PyProof.Rows PySem.Builtin PySem.Builtin.Str RT
section
variable {prog : Program} {w : World} {A : Around} {E : Value → Shared → Prop} {s : Shared}
theorem join_rev {x : Str} {t : Tok} {ys : List Str} {it l : Addr} {items : Array Value} {Q : Value → Shared → Prop} (hh : A.handled = none) (hit : s.heap.IsRevIter it l ((items.size : Int) - 1)) (hl : s.heap.IsList l items) (hne : l ≠ it) (hn : items.size ≤ sizeLine)
    (hP : ∀ acc : Array Value, ItemsOf (fun i v => items[items.size - 1 - i]? = some v) acc items.size → StrsAre acc.toList ys) (hok : (ys.map (·.length)).sum + ys.length * x.length ≤ 16777216)
    (hq : ∀ h' t' k, (∀ b o, b ≠ it → s.heap.get? b = some o → h'.get? b = some o) → Q (.str (Txt.join x ys) t') { s with heap := h', toks := k }) :
    wpAny (model prog w) A (call (.builtin "str.join") [.str x t, .ref it]) Q E s := by
  refine wpAny_call (codeAny_call_builtin F.slot_str_join.plain F.entry_str_join (F.slot_str_join.check _ _ _ _ _ _ _ _ (typeIs_str _ _ _) (F.args_str_join_2 _ _) ?_))
  have ty : s.TypeIs (.ref it) "list_reverseiterator" := hit.typeIs
  rw [join_tree_other]
  refine wpAny_bind (wpAny_typeOf ty ?_)
  show wpAny _ A.in1 ((pyIter (.ref it)).tryCatch _ >>= fun z => collect z >>= fun got => joinTail x got) _ _ s
  refine wpAny_bind (wpAny_tryCatch (wpAny_pyIter_revIter hit ?_))
  refine wpAny_bind (collect_rev (A := A.in1) hh hit hl hne hn fun h' tk acc hk hacc => ?_)
  obtain ⟨vals, hv, ht⟩ := strsAre_values (hP acc hacc)
  subst ht
  rw [hv]
  have fits := joinOk_of hok
  unfold JoinOk at fits
  rw [Bool.not_eq_true'] at fits
  have made : Gives (joinTail x (strValues vals)) (joinMade x vals) := by
    have z := gives_joinTail x vals fits
    cases vals with
    | nil => exact z
    | cons p1 rest => cases rest with
      | nil => exact z
      | cons p2 rest2 => exact z
  exact made prog w A (wants Q E) _ (post_join vals ⟨joinFit_length fits, fun t' k => hq h' t' k hk⟩)
end
end Fj
namespace Fj
open PySem PySem.Spec PyProof.Rows L2
section
variable {X : Cx}
/-- sep.join(reversed(xs)), xs a list of texts -/
def tJoinRev (K : PySem.W.Frag) (to te : TE) : TE := fun σ H Q => to σ H fun x H1 => (∃ a, x = .str a) ∧ te σ H1 fun v H2 => ∃ (a : Str) (q : Addr) (ys : List Str), x = .str a ∧ v = .ref q ∧ SqL K H2 q (ys.map V.str) ∧ (ys.map (·.length)).sum + ys.length * a.length ≤ 16777216 ∧ Q (.str (Txt.join a ys.reverse)) H2
theorem sum_rev : ∀ l : List Nat, l.reverse.sum = l.sum
  | [] => rfl
  | a :: l => by
    rw [List.reverse_cons, List.sum_append, sum_rev l, List.sum_cons, List.sum_cons, List.sum_nil]
    omega
theorem pe_joinRev {o e : Expr} {to te : TE} {apos pos p pos2 : Pos} (hc : X.calm = true) (ho : PE X o to) (hg : Gl X "reversed") (hm : X.mg "reversed" = none) (he : PE X e te)
    (hs1 : starEach [.Call (.Name "reversed" p) [e] [] pos2] X.env = [(false, eval (.Call (.Name "reversed" p) [e] [] pos2) X.env)] := by rfl) (hs : starEach [e] X.env = (false, eval e X.env) :: starEach [] X.env := by rfl)
    (hbase : attributeBase o "join" X.env (eval o X.env) = eval o X.env := by rfl) (hline : (apos.endLine == pos.line) = true := by rfl) :
    PE X (.Call (.Attribute o "join" apos) [.Call (.Name "reversed" p) [e] [] pos2] [] pos) (tJoinRev X.K to te) := by
  constructor
  intro pn s σ H Q I h
  refine PySem.Call_method1 hbase hs1 hline (thn (ho.run pn s σ H _ I h) ?_)
  rintro v s1 ⟨x, H1, I1, r1, ⟨a, rfl⟩, q1⟩
  obtain ⟨t, rfl⟩ := _root_.id r1
  refine ⟨"str", _, F.plainAttrs_str, F.slot_str_join, F.type_str_join, typeIs_str _ _ _, (fun _ e => nomatch e), Calls.callWith_builtin rfl (Calls.evalArgs_plain (Calls.spliced_cons ?_))⟩
  refine Call_ (ld_blt I1 hg hm PyProof.Rows.boot_reversed (PyProof.Rows.callWith_type1 (args_cons (thn (he.run pn s1 σ H1 _ I1 q1) fun u s2 ⟨v2, H2, I2, r2, q2⟩ => args_nil ?_) hs) hs rfl))
  obtain ⟨a', q, ys, ea, rfl, hq, fits, q3⟩ := q2
  cases ea
  cases r2
  obtain ⟨its, rv, pl, hz⟩ := I2.list hq
  refine call_reversed_list pl.isList (Calls.spliced_nil ?_)
  have keep : ∀ b o, s2.heap.get? b = some o → (s2.heap.push (revObj q ((its.toArray.size : Int) - 1))).get? b = some o := fun b o e => Heap.get?_push_of_some _ e
  have J : Inv X pn σ H2 { s2 with heap := s2.heap.push (revObj q ((its.toArray.size : Int) - 1)) } := I2.kept (t' := s2.toks) keep
  obtain ⟨f0, f1, f2, f3, f4, f5⟩ := I2.fpOk (H' := H2) (b := s2.heap.objs.size) (Nat.le_refl _) (I2.hok.fresh (Nat.le_refl _))
  have hl := pl.isList
  obtain ⟨ol, hol, _⟩ := id hl
  have ne : q ≠ s2.heap.objs.size := Nat.ne_of_lt (Heap.lt_size hol)
  have hn : its.toArray.size ≤ sizeLine := by rw [List.size_toArray, ← rv.length]; exact hz
  refine join_rev (s := { s2 with heap := s2.heap.push (revObj q ((its.toArray.size : Int) - 1)) }) (ys := ys.reverse) (I2.ok.hd hc) ⟨_, Heap.get?_push_size _ rfl, rfl, rfl⟩ (hl.push _) ne hn (fun acc hacc => ?_) ?_ fun h' t' k hk => ?_
  · have z := RT.vals_rev rv hacc
    rw [← List.map_reverse] at z
    exact strs_of_vals z
  · rw [List.map_reverse, sum_rev, List.length_reverse]
    exact fits
  · exact ⟨.str _, H2, J.turned (t' := k) (fun b o hb e => hk b o hb e) f0 f1 f3 f4 f5, ⟨t', rfl⟩, q3⟩
end
end Fj
set_option Elab.async false
set_option linter.all false
set_option maxRecDepth 100000
set_option maxHeartbeats 4000000
/-! xs != [], xs == [] of lists of any items. -/
namespace Fk
open PySem PySem.Spec PyProof.Rows L2
theorem op_neNil {X : Cx} (hu : X.A.units + 64 < cLine) : OpR X (compareOp .NotEq) (fun x y H Q => ∃ (a b : Addr) (xs : List V), x = .ref a ∧ y = .ref b ∧ SqL X.K H a xs ∧ SqL X.K H b [] ∧ Q (.bl (!xs.isEmpty)) H) := by
  intro pn s σ H x y v u Q I rx ry h
  obtain ⟨a, b, xs, rfl, rfl, ha, hb, q⟩ := h
  cases rx
  cases ry
  obtain ⟨its, rv, pl, _⟩ := I.list ha
  obtain ⟨its2, rv2, pl2, _⟩ := I.list hb
  cases rv2
  show wpAny (model X.prog X.w) X.A (richCompare .NotEq (.ref a) (.ref b)) (EP X pn σ Q) X.xe s
  have hu1 : X.A.units < cLine := by omega
  cases rv with
  | nil => exact SeqAt.RcNeAt.lists (e := fun _ => true) pl.isList pl2.isList rfl hu1 (fun j h1 _ => absurd h1 (by simp)) X.prog X.w X.xe _ ⟨.bl _, H, I, rfl, q⟩
  | cons r rs => exact SeqAt.RcNeAt.lists_lengths pl.isList pl2.isList (by simp) hu1 X.prog X.w X.xe _ ⟨.bl _, H, I, rfl, q⟩
theorem op_eqNil {X : Cx} (hu : X.A.units + 64 < cLine) : OpR X (compareOp .Eq) (fun x y H Q => ∃ (a b : Addr) (xs : List V), x = .ref a ∧ y = .ref b ∧ SqL X.K H a xs ∧ SqL X.K H b [] ∧ Q (.bl xs.isEmpty) H) := by
  intro pn s σ H x y v u Q I rx ry h
  obtain ⟨a, b, xs, rfl, rfl, ha, hb, q⟩ := h
  cases rx
  cases ry
  obtain ⟨its, rv, pl, _⟩ := I.list ha
  obtain ⟨its2, rv2, pl2, _⟩ := I.list hb
  cases rv2
  show wpAny (model X.prog X.w) X.A (richCompare .Eq (.ref a) (.ref b)) (EP X pn σ Q) X.xe s
  have hu1 : X.A.units < cLine := by omega
  cases rv with
  | nil => exact SeqAt.RcAt.lists (e := fun _ => true) pl.isList pl2.isList rfl hu1 (fun j h1 _ => absurd h1 (by simp)) X.prog X.w X.xe _ ⟨.bl _, H, I, rfl, q⟩
  | cons r rs => exact SeqAt.RcAt.lists_lengths pl.isList pl2.isList (by simp) hu1 X.prog X.w X.xe _ ⟨.bl _, H, I, rfl, q⟩
end Fk
set_option Elab.async false
set_option linter.all false
set_option maxRecDepth 100000
set_option maxHeartbeats 4000000
/-! a dict == a text: False -/
namespace Fd
open PySem PySem.SeqAt
open AutoSeq1 (wpAny_loadPart')
open MeetsSeq MeetsSeq2 MeetsSeq3 SeqRoads2
theorem dict_eq_declines_str (l : Addr) (o : Obj) (b : Str) (u : Tok) :
    Meets (Builtin.«dict.__eq__» ⟨[.ref l, .str b u], []⟩) (fun _ R s => (s.heap.get? l = some o ∧ o.cls = .type "dict" ∧ ∃ es ep, o.data = .dict es ep) ∧ R (.ok (.ret .notImplemented)) s) :=
  .of_wp fun prog w A R s h => by
    obtain ⟨hp, g, d, tk, os⟩ := s
    obtain ⟨⟨hl, hc, es, ep, hd⟩, h⟩ := h
    obtain ⟨c, dd, da, sl⟩ := o
    simp only at hc hd
    subst hc hd
    have f1 := F.sub_str_dict
    wp_walk using wpAny_loadPart' hl, wpAny_load hl
    exact ⟨_, rfl, h⟩
theorem str_eq_declines_dict (l : Addr) (o : Obj) (b : Str) (u : Tok) :
    Meets (Builtin.«str.__eq__» ⟨[.str b u, .ref l], []⟩) (fun _ R s => (s.heap.get? l = some o ∧ o.cls = .type "dict" ∧ ∃ es ep, o.data = .dict es ep) ∧ R (.ok (.ret .notImplemented)) s) :=
  .of_wp fun prog w A R s h => by
    obtain ⟨hp, g, d, tk, os⟩ := s
    obtain ⟨⟨hl, hc, es, ep, hd⟩, h⟩ := h
    obtain ⟨c, dd, da, sl⟩ := o
    simp only at hc hd
    subst hc hd
    wp_walk using wpAny_loadPart' hl, wpAny_load hl
    exact ⟨_, rfl, h⟩
end Fd
namespace Fd
open PySem PySem.Spec PyProof.Rows L2
theorem op_eqDS {X : Cx} (hu : X.A.units < cLine) : OpR X (compareOp .Eq) (fun x y H Q => ∃ a kvs z, x = .ref a ∧ y = .str z ∧ H a = some (.dK kvs) ∧ Q (.bl false) H) := by
  intro pins s σ H x y v u Q I rx ry h
  obtain ⟨a, kvs, z, rfl, rfl, ha, q⟩ := h
  cases rx
  obtain ⟨t, rfl⟩ := ry
  obtain ⟨_, h1, vs, kv, hd⟩ := dk_of I.hok ha
  obtain ⟨o, es, ep, ho, hc, hdat, _⟩ := hd
  have f : s.heap.get? a = some o ∧ o.cls = .type "dict" ∧ ∃ es ep, o.data = .dict es ep := ⟨ho, hc.1, es, ep, hdat⟩
  show wpAny (model X.prog X.w) X.A (richCompare .Eq (.ref a) (.str z t)) (EP X pins σ Q) X.xe s
  exact SeqAt.rc_eq_decline_or (k := false) ⟨_, ho, hc.1⟩ (typeIs_str s z t) (by decide) F.sub_str_dict F.slot_dict_eq F.slot_str_eq_refl
    (fun _ hq => call_meets F.slot_dict_eq ⟨_, ho, hc.1⟩ F.entry_dict_eq (F.args_dict_eq_2 _ _) (dict_eq_declines_str a o z t) ⟨f, hq⟩)
    (fun _ hq => call_meets F.slot_str_eq_refl (typeIs_str s z t) F.entry_str_eq (F.args_str_eq_2 _ _) (str_eq_declines_dict a o z t) ⟨f, hq⟩)
    (fun _ hq => wpAny_of_eq (rfl : isSame (.ref a) (.str z t) = pure false) hq) (.inr hu) ⟨.bl false, H, I, rfl, q⟩
end Fd
set_option Elab.async false
set_option linter.all false
set_option maxRecDepth 100000
set_option maxHeartbeats 4000000
/-! a != b by an own == of the class, != being object's. -/
namespace PySem.W
open PySem PySem.Spec PySem.Calls PyProof.Rows
theorem one_plain : plainId "object.__ne__" = true := by decide +kernel
theorem one_entry : entryFor table "object.__ne__" = some Builtin.«object.__ne__» := entryFor_of_fast (by kernel_rfl)
theorem one_args (a b : Value) : argsOk "object.__ne__" ⟨[a, b], []⟩ := by unfold argsOk; kernel_rfl
theorem one_bind (self : Value) : bindSpecial (.builtin "object.__ne__") self = pure (.builtin "object.__ne__", [self]) :=
  (Slot.of (T := "object") (name := "__ne__") (owner := "object") (n := "__ne__") (by rw [typeLookup_type, builtinLookup_eq_fast]; kernel_rfl) (by decide +kernel) (by decide +kernel) (by decide +kernel)
    (.inl (by decide +kernel)) (by rw [isSubtype_type]; kernel_rfl)).bind self
section
variable {prog : Program} {w : World} {A A₀ : Around} {E : Value → Shared → Prop} {s : Shared} {K : Frag} {x C L f : Addr} {h₀ : Heap} {m : Str → Option Value} {ox : Obj} {od : Option Obj} {name : Str} {b tb : Value}
theorem ifBound_B {M : Model} {args : List Value} {id : String} {Q : Option Value → Shared → Prop} (X : K.In s.heap) (I : InstAt s.heap x ox C od) (hs : findIn K (.ref C) name = some (some (.builtin id))) (hb : ∀ self, bindSpecial (.builtin id) self = pure (.builtin id, [self]))
    (h : wpAny M A (call (.builtin id) (.ref x :: args)) (fun v => Q (some v)) E s) : wpAny M A (callSpecialIfBound? (.ref x) name args) Q E s := by
  simp only [callSpecialIfBound?, bindSpecialIfBound?]
  refine wpAny_holding (wpAny_bind (wpAny_bind (wpAny_bind (I.type.here ((looks_findIn X hs).here ?_)))))
  refine wpAny_bind (wpAny_askSetting (wpAny_ite ?_))
  have fin : wpAny M A (call (.builtin id) ([.ref x] ++ args) >>= fun v => pure (some v)) Q E s := wpAny_bind (wpAny_mono h (fun v s' h' => wpAny_pure h') fun _ _ h' => h')
  split
  · exact wpAny_bind (wpAny_of_eq (hb _) (wpAny_pure (by exact fin)))
  · exact wpAny_tryCatch (wpAny_bind (wpAny_of_eq (hb _) (wpAny_pure (by exact fin))))
theorem ne_call {Q : Value → Shared → Prop} (hu : A.in1.units < cLine) (X : K.In s.heap) (I : InstAt s.heap x ox C od) (ho : subIn K (.ref C) (.type "object") = some true) (hs : findIn K (.ref C) "__eq__" = some (some (.ref f))) (hf : isFn K (.ref f) = true)
    (h : wpAny (model prog w) A.in1 (call (.ref f) [.ref x, b]) (fun v s' => ∃ k, v = .bool k ∧ Q (.bool (!k)) s') E s) : wpAny (model prog w) A (call (.builtin "object.__ne__") [.ref x, b]) Q E s := by
  refine wpAny_call (codeAny_call_builtin one_plain one_entry ?_)
  refine @check_slot (model prog w) _ _ s "object.__ne__" "object" "__ne__" (.ref x) [b] [] _ (by decide +kernel) (by decide +kernel) (I.type.andThen (looks_subIn X ho)) (one_args _ _) ?_
  unfold Builtin.«object.__ne__»
  refine wpAny_bind (wpAny_of_eq (a := ((Value.ref x : Value), [b])) (by first | rfl | (simp only [slotArgs]; rfl)) ?_)
  refine wpAny_bind (wpAny_cRoomFor hu ?_)
  refine wpAny_bind (ifBound_K X I hs hf (wpAny_mono h (fun v s' hv => ?_) fun _ _ e => e))
  obtain ⟨k, rfl, q⟩ := hv
  refine wpAny_bind (wpAny_truthy_bool ?_)
  exact wpAny_pure q
theorem ne_K {Q : Value → Shared → Prop} (hu : A.units < cLine) (hu1 : A.in1.units < cLine) (X : K.In s.heap) (I : InstAt s.heap x ox C od) (hb : Looks (model prog w) s.heap (typeOf b) tb) (hn : notFirst K C tb = true)
    (hne : findIn K (.ref C) "__ne__" = some (some (.builtin "object.__ne__"))) (ho : subIn K (.ref C) (.type "object") = some true) (hs : findIn K (.ref C) "__eq__" = some (some (.ref f))) (hf : isFn K (.ref f) = true)
    (h : wpAny (model prog w) A.in1 (call (.ref f) [.ref x, b]) (fun v s' => ∃ k, v = .bool k ∧ Q (.bool (!k)) s') E s) : wpAny (model prog w) A (richCompare .NotEq (.ref x) b) Q E s := by
  have one : wpAny (model prog w) A (tryCompare (.ref x) (cmpInfo .NotEq).2.1 b) (fun r s' => ∃ v, r = some v ∧ Q v s') E s := by
    unfold tryCompare
    have two : wpAny (model prog w) A (call (.builtin "object.__ne__") [.ref x, b]) (fun v s' => ∃ k, v = .bool k ∧ Q v s') E s := ne_call hu1 X I ho hs hf (wpAny_mono h (fun v s' hv => by
      obtain ⟨k, rfl, q⟩ := hv
      exact ⟨k, rfl, _, rfl, q⟩) fun _ _ e => e)
    refine wpAny_bind (ifBound_B X I hne one_bind (wpAny_mono two (fun v s' hv => ?_) fun _ _ e => e))
    obtain ⟨k, rfl, q⟩ := hv
    exact wpAny_pure ⟨_, rfl, q⟩
  unfold richCompare
  simp only [oneThing_ref]
  refine wpAny_holding (wpAny_bind (wpAny_cRoomFor hu ?_))
  refine wpAny_bind (I.type.here (wpAny_bind (hb.here ?_)))
  split
  · rename_i q
    have e : subIn K tb (.ref C) = some false := by
      rcases Bool.or_eq_true_iff.mp hn with e | e
      · rw [beq_iff_eq.mp e] at q; simp at q
      · exact beq_iff_eq.mp e
    refine wpAny_bind ((looks_subIn X e).here ?_)
    simp only [Bool.false_eq_true, if_false]
    refine wpAny_bind (wpAny_mono one (fun r s' z => ?_) fun _ _ e => e)
    obtain ⟨v, rfl, hq⟩ := z
    exact wpAny_pure hq
  · refine wpAny_bind (wpAny_pure ?_)
    simp only [Bool.false_eq_true, if_false]
    refine wpAny_bind (wpAny_mono one (fun r s' z => ?_) fun _ _ e => e)
    obtain ⟨v, rfl, hq⟩ := z
    exact wpAny_pure hq
end
end PySem.W
namespace Fn
open PySem PySem.Spec PyProof.Rows L2
section
variable {X : Cx} {CX : CXT} {k : Nat} {f C : Addr} {fd : FuncData} {ps : List Str} {sp : Sp} {E : L2.St → XK} {a b : Expr} {ta tb : TE} {pos p : Pos}
/-- a != b, a an instance, by its own == -/
theorem pe_neX (at_ : PySem.W.findIn X.K (.ref C) "__eq__" = some (some (.ref f))) (fn : PySem.W.isFn X.K (.ref f) = true) (hne : PySem.W.findIn X.K (.ref C) "__ne__" = some (some (.builtin "object.__ne__"))) (ho : PySem.W.subIn X.K (.ref C) (.type "object") = some true)
    (F : FnOk X.prog X.w X.K X.mg X.base CX k f fd ps sp) (hr : Room (k + 2) X.A) (hb : Binds X.K fd ps []) (hx : ∀ σ, PassesAt CX X σ (E σ)) (ha : PE X a ta) (hb2 : PE X b tb) :
    PC X .NotEq a b (fun σ H Q => ta σ H fun x H1 => tb σ H1 fun y H2 => ∃ p dx fs, x = .ref p ∧ H2 p = some (.ins C dx fs) ∧ ((∃ q dy gs, y = .ref q ∧ H2 q = some (.ins C dy gs)) ∨ ∃ T, TyX X.K H2 y (.type T) ∧ PySem.W.subIn X.K (.type T) (.ref C) = some false) ∧
      sp [x, y] H2 (fun v H3 => ∃ k : Bool, v = .bl k ∧ Q (.bl (!k)) H3) (E σ)) := by
  refine ⟨fun pins s σ H Q I h => ?_⟩
  refine bin ha hb2 I h fun v u s2 x y H2 I2 rx ry q => ?_
  obtain ⟨p, dx, fs, ex, hp, rk, q⟩ := q
  subst ex
  obtain rfl : v = Value.ref p := rx
  obtain ⟨mA, O, _⟩ := ins_get I2.hok hp
  obtain ⟨od, J, _⟩ := O.look
  have hr2 : Room k X.A.in1 := (show Room (k + 1) X.A.in1 from Room.in1 hr).mono (Nat.le_succ _)
  have hl : ([V.ref p, y]).length = ps.length := F.len _ _ _ _ q
  have go : wpAny (model X.prog X.w) X.A.in1 (call (.ref f) [.ref p, u]) (fun v s' => ∃ k, v = .bool k ∧ EP X pins σ Q (.bool (!k)) s') X.xe s2 := by
    refine wpAny_call (codeAny_mono (F.run X.A.in1 X.stack s2 H2 ⟨[.ref p, u], []⟩ [.ref p, u] [.ref p, y] _ (E σ) hr2 I2.env0.in1 (by
      have z := hb s2 [.ref p, u] I2.kIn (by simpa using hl)
      simpa using z) (.cons rfl (.cons ry .nil)) q) fun r s' hq => ?_)
    cases r with
    | error e => exact hx σ pins H2 s2 e s' I2 hq
    | ok fl =>
      cases fl with
      | ret u =>
        obtain ⟨z, H', I', rz, kk, ez, q2⟩ := I2.after hq
        subst ez
        cases rz
        exact ⟨kk, rfl, .bl (!kk), H', I', rfl, q2⟩
      | next => exact False.elim hq
      | brk => exact False.elim hq
      | cont => exact False.elim hq
  obtain ⟨m, hF⟩ := I2.fr
  have u1 : X.A.in1.units < cLine := (Room.in1 (show Room (k + 1 + 1) X.A from hr)).units0
  rcases rk with ⟨q', dy, gs, ey, hq'⟩ | ⟨T, ty, h3⟩
  · subst ey
    obtain rfl : u = Value.ref q' := ry
    obtain ⟨mB, O', _⟩ := ins_get I2.hok hq'
    obtain ⟨od', J', _⟩ := O'.look
    exact PySem.W.ne_K (tb := .ref C) hr.units0 u1 I2.kIn J J'.type (by simp [PySem.W.notFirst]) hne ho at_ fn go
  · obtain ⟨P, Z, hP, _⟩ := kit_of I2 ry ty
    exact PySem.W.ne_K (tb := .type T) hr.units0 u1 I2.kIn J (fun A Q E s k z => Z.ty _ _ I2.kIn hP A Q E s k z) (by simp [PySem.W.notFirst, h3]) hne ho at_ fn go
end
end Fn
set_option Elab.async false
set_option linter.all false
set_option maxRecDepth 100000
set_option maxHeartbeats 4000000
/-! enumerate(tuple) -/
namespace PySem
open Sem (wp)
open AutoSeq1 (wpAny_loadPart')
theorem meets_enumerate_newT (l : Addr) (items : Array Value) (n : Nat) (dct : Option Addr) (sl : Array (Option Value)) :
    Meets (Builtin.«enumerate.__new__» ⟨[.type "enumerate", .ref l], []⟩) (fun _ R s => s.heap.get? l = some { cls := .type "tuple", dict := dct, data := .seq items n, slots := sl } ∧
      R (.ok (.ret (.ref (s.heap.push { cls := .type "tuple_iterator", data := .fields #[.ref l, .int 0 0] }).objs.size)))
        { s with heap := (s.heap.push { cls := .type "tuple_iterator", data := .fields #[.ref l, .int 0 0] }).push { cls := .type "enumerate", data := .fields #[.none, .bool false, .ref s.heap.objs.size, rawInt 0, .none, .none] } }) :=
  .of_wp fun prog w A R s h => by
    obtain ⟨hp, g, d, tk, os⟩ := s; obtain ⟨hl, h⟩ := h
    have hsub := sub_enumerate
    have hL : Heap.IsTuple (Shared.heap ⟨hp, g, d, tk, os⟩) l items := ⟨_, hl, rfl, n, rfl⟩
    wp_walk using wpAny_loadPart' hl
    refine wpAny_stack_any fun st => wpAny_pure ?_
    split
    · rename_i c _ _ _ _ _
      cases (c == Value.type "enumerate")
      · wp_walk using wpAny_loadPart' hl, wpAny_pyIter_tuple hL
        exact ⟨_, rfl, h⟩
      · wp_walk using wpAny_loadPart' hl, wpAny_pyIter_tuple hL
        exact ⟨_, rfl, h⟩
    · wp_walk using wpAny_loadPart' hl, wpAny_pyIter_tuple hL
      exact ⟨_, rfl, h⟩
section
variable {prog : Program} {w : World} {A : Around} {E : Value → Shared → Prop} {s : Shared}
theorem call_enumerate_tuple {l : Addr} {items : Array Value} {Q : Value → Shared → Prop} (hL : s.heap.IsTuple l items)
    (h : ∀ h', IsEnum h' (s.heap.objs.size + 1) s.heap.objs.size 0 .none → h'.IsTupleIter s.heap.objs.size l 0 → h'.objs.size = s.heap.objs.size + 2 →
      (∀ b o, s.heap.get? b = some o → h'.get? b = some o) → Q (.ref (s.heap.objs.size + 1)) { s with heap := h' }) :
    wpAny (model prog w) A (call (.type "enumerate") [.ref l]) Q E s := by
  obtain ⟨⟨c, dct, dt, sl⟩, hl, hc, n, hd⟩ := hL
  replace hc : c = .type "tuple" := hc
  replace hd : dt = .seq items n := hd
  subst hc hd
  refine callType_new F.called_enumerate (by decide) (F.typeCall_enumerate_1 _) (F.newCall_enumerate_1 _) (fun obj => F.args_object_init_2 obj _) F.entry_enumerate_new
    (meets_enumerate_newT l items n dct sl) ⟨hl, ?_⟩
  have hz : (s.heap.push { cls := .type "tuple_iterator", data := .fields #[.ref l, .int 0 0] }).objs.size = s.heap.objs.size + 1 := Heap.size_push ..
  show _ ∧ _
  rw [hz]
  have he : IsEnum ((s.heap.push { cls := .type "tuple_iterator", data := .fields #[.ref l, .int 0 0] }).push
      { cls := .type "enumerate", data := .fields #[.none, .bool false, .ref s.heap.objs.size, rawInt 0, .none, .none] }) (s.heap.objs.size + 1) s.heap.objs.size 0 .none := by
    have := Heap.get?_push_size (s.heap.push { cls := .type "tuple_iterator", data := .fields #[.ref l, .int 0 0] })
      (o := { cls := .type "enumerate", data := .fields #[.none, .bool false, .ref s.heap.objs.size, rawInt 0, .none, .none] }) rfl
    rw [hz] at this; exact this
  refine ⟨⟨_, he, rfl⟩, h _ he ⟨_, Heap.get?_push_of_some _ (Heap.get?_push_size _ rfl), rfl, rfl⟩ (by rw [Heap.size_push, hz]) fun b o x => Heap.get?_push_of_some _ (Heap.get?_push_of_some _ x)⟩
end
end PySem
namespace Fp
open PySem PySem.Spec PyProof.Rows L2
def IteT (K : PySem.W.Frag) (a : Addr) : It :=
  ⟨fun i H => ∃ (xs : List V) (x : V), SqT K H a xs ∧ xs[i]? = some x, fun i H v H' => ∃ T x, v = .ref T ∧ H T = none ∧ H' = upd H T (.tup [.int (i : Nat), x]) ∧ ∀ xs, SqT K H a xs → xs[i]? = some x, fun i H => ∃ xs : List V, SqT K H a xs ∧ xs.length ≤ i⟩
theorem turn_enumT {P : Program} {w : World} {K : PySem.W.Frag} {elts : List Expr} {kk : Nat} {tpos : Pos} (a e it : Addr) (hna : a ≠ it) (hne0 : a ≠ e) :
    Turn P w K (.Tuple elts kk tpos) (IteT K a) [e, it] e (fun i h => (∃ old, IsEnum h e it ((i : Nat) : Int) old) ∧ h.IsTupleIter it a i ∧ e ≠ it) where
  mem := by simp
  obj := fun i h st b hb => by
    obtain ⟨⟨old, he⟩, ⟨o, ho, hc, hd⟩, _⟩ := st
    have e' : b = e ∨ b = it := by simpa using hb
    rcases e' with z | z
    · rw [z]; exact ⟨_, he, fun v q => nomatch q⟩
    · rw [z]; exact ⟨o, ho, fun v q => by rw [hd] at q; cases q⟩
  keep := fun i h h' st k => let ⟨⟨old, he⟩, hi, hne⟩ := st; ⟨⟨old, k e (by simp) _ he⟩, hi.at fun o q => k it (by simp) o q, hne⟩
  item := by
    intro X hP hw hK hc i pins s σ H E I hf st hg
    subst hP hw hK
    obtain ⟨⟨old, he⟩, hit, hne⟩ := st
    obtain ⟨xs, x, hq, hx⟩ := hg
    obtain ⟨its, rv, p, hz⟩ := I.tuple hq
    obtain ⟨u, hu, ru⟩ := rv.get hx
    have hel : e < s.heap.objs.size := Heap.lt_size he
    have hil : it < s.heap.objs.size := by obtain ⟨_, q, _⟩ := hit; exact Heap.lt_size q
    have hi : i < its.toArray.size := by
      rw [List.size_toArray]
      exact (List.getElem?_eq_some_iff.mp hu).1
    have D := Draws.tuple (prog := X.prog) (w := X.w) (A := X.A.in1) (show X.A.in1.handled = none from I.ok.hd hc) it a hna its.toArray
    refine wpAny_pyNext_enum_itemD D he ⟨hit, p⟩ hi hne (by simp [hne, Ne.symm hne0]) fun x0 h' tk hP0 ho hit' hT hsz hk => ?_
    have hxu : x0 = u := by
      rw [show its.toArray[i]? = some u by simpa using hu] at hP0
      exact (Option.some.inj hP0).symm
    subst hxu
    refine ⟨_, rfl, wpAny_letOwnedTupleGo_enum (s := { s with heap := h', toks := tk + 1 }) ho fun h'' he' sb => ?_⟩
    have hT2 : h''.get? s.heap.objs.size = some { cls := .type "tuple", data := .seq #[.int i tk, x0] } := (sb.2 _ (Nat.ne_of_gt hel)).trans hT
    have new : ObjOk X.prog X.w (upd H s.heap.objs.size (.tup [.int (i : Nat), x])) h'' s.heap.objs.size (.tup [.int (i : Nat), x]) :=
      ⟨by show 2 ≤ sizeLine; decide, [.int i tk, x0], .cons ⟨_, rfl⟩ (.cons ru .nil), ⟨_, hT2, rfl, _, rfl⟩⟩
    have I1 : Inv X pins σ (upd H s.heap.objs.size (.tup [.int (i : Nat), x])) { s with heap := h'', toks := tk + 1 } :=
      I.turnedNew (ch := [e, it]) (fun b ob hb q => (sb.2 b (fun z => hb (by simp [z]))).trans (hk b ob (fun z => hb (by simp [z])) (fun z => hb (by simp [z])) q)) hf (Nat.le_refl _) new
    refine ⟨.ref s.heap.objs.size, _, I1, rfl, ⟨_, x, rfl, I.hok.fresh (Nat.le_refl _), rfl, fun ys hy => by rw [I.tuple_inj hy hq]; exact hx⟩, ⟨⟨x0, ?_⟩, hit'.1.at fun o q => (sb.2 it (Ne.symm hne)).trans q, hne⟩, fun b hb => ?_⟩
    · have e1 : ((i + 1 : Nat) : Int) = (i : Int) + 1 := by omega
      rw [e1]; exact he'
    · have hb' : b < s.heap.objs.size := by
        have e' : b = e ∨ b = it := by simpa using hb
        rcases e' with z | z
        · rw [z]; exact hel
        · rw [z]; exact hil
      rw [upd_ne (Nat.ne_of_lt hb')]
      exact (hf b hb).1
  done := by
    intro X hP hw hK hc i pins s σ H E I hf st hg
    subst hP hw hK
    obtain ⟨⟨old, he⟩, hit, hne⟩ := st
    obtain ⟨xs, hq, hx⟩ := hg
    obtain ⟨its, rv, p, hz⟩ := I.tuple hq
    obtain ⟨f0, f1, f2, f3, f4, f5⟩ := hf it (by simp)
    have hl := rv.length
    have hT : s.TypeIs (.ref e) "enumerate" := ⟨_, he, rfl⟩
    unfold pyNext
    refine wpAny_bind (wpAny_attempt (wpAny_callSpecial?_slot (name := Str.ofString "__next__") hT F.slot_enumerate_next
      (wpAny_call_entry F.slot_enumerate_next hT F.entry_enumerate_next ?_ (F.args_enumerate_next_1 _))))
    show wpAny _ _ (field (.ref e) 2 >>= _) _ _ _
    refine wpAny_bind (wpAny_field he rfl (x := .ref it) rfl ?_)
    refine wpAny_bind (wpAny_nextOf_tuple_end (show X.A.in1.handled = none from I.ok.hd hc) hit p (by simp; omega) fun h' x he' hx' => ?_)
    obtain ⟨o, ho, hc'⟩ := hx'
    refine wpAny_bind (wpAny_isInstance (T := "StopIteration") (b := true) ⟨o, ho, hc'⟩ isSubtype_stop ?_)
    exact wpAny_pure ⟨rfl, I.turned (t' := s.toks) (fun b o hb q => he' b o hb q) f0 f1 f3 f4 f5⟩
  self := fun A i s Q E st h => let ⟨⟨_, he⟩, _⟩ := st; wpAny_pyIter_enum he h
def iEnumT (K : PySem.W.Frag) (ta : TA) : TI := fun σ H R => ta σ H fun vs H1 => ∃ a xs, vs = [.ref a] ∧ SqT K H1 a xs ∧ R (IteT K a) H1
theorem pi_enumT {X : Cx} {e : Expr} {ta : TA} {p pos tpos : Pos} {elts : List Expr} {kk : Nat} (hg : Gl X "enumerate") (hm : X.mg "enumerate" = none) (ha : PA X [e] ta) (hs : starEach [e] X.env = [(false, eval e X.env)] := by rfl) :
    PI X (.Tuple elts kk tpos) (.Call (.Name "enumerate" p) [e] [] pos) (iEnumT X.K ta) := by
  refine ⟨fun pins s σ H R I h => ?_⟩
  refine Call_ (ld_blt I hg hm boot_enumerate (PyProof.Rows.callWith_type1 (thn (ha.run pos pins s σ H _ I h) fun us s1 ⟨vs, H1, I1, r1, q1⟩ => ?_) hs rfl))
  obtain ⟨a, xs, ex, hq, q⟩ := q1
  subst ex
  cases r1 with
  | cons r rr =>
    cases rr
    cases r
    obtain ⟨its, rv, p', hz⟩ := I1.tuple hq
    have hal : a < s1.heap.objs.size := by
      obtain ⟨o, ho, _⟩ := id p'
      exact Heap.lt_size ho
    refine call_enumerate_tuple p' fun h' he hit hsz hk => wpAny_pyIter_enum he ?_
    have I2 : Inv X pins σ H1 { s1 with heap := h' } := I1.kept (t' := s1.toks) hk
    refine ⟨s1.heap.objs.size + 1, [s1.heap.objs.size + 1, s1.heap.objs.size], _, _, H1, rfl, I2, turn_enumT a (s1.heap.objs.size + 1) s1.heap.objs.size (Nat.ne_of_lt hal) (Nat.ne_of_lt (Nat.lt_succ_of_lt hal)), ⟨⟨.none, he⟩, hit, Nat.succ_ne_self _⟩, fun b hb => ?_, q⟩
    have e' : b = s1.heap.objs.size + 1 ∨ b = s1.heap.objs.size := by simpa using hb
    have hle : s1.heap.objs.size ≤ b := by
      rcases e' with z | z
      · rw [z]; exact Nat.le_add_right _ _
      · rw [z]; exact Nat.le_refl _
    exact I1.fpOk hle (I1.hok.fresh hle)
/-- one of two walks -/
theorem pi_or {X : Cx} {tg it : Expr} {w1 w2 : TI} (h1 : PI X tg it w1) (h2 : PI X tg it w2) : PI X tg it (fun σ H R => w1 σ H R ∨ w2 σ H R) :=
  ⟨fun pins s σ H R I h => h.elim (h1.run pins s σ H R I) (h2.run pins s σ H R I)⟩
end Fp
set_option Elab.async false
set_option linter.all false
set_option maxRecDepth 100000
set_option maxHeartbeats 1000000
set_option exponentiation.threshold 100000
namespace K11
open PySem PySem.Spec PyProof.Rows L2 Fa Fb
structure OpF (K : PySem.W.Frag) (nm : String) (f : Addr) : Prop where
  own : OwnOp K (CA K) nm f
  ty : ∀ T ∈ tys, TyOp K (CA K) nm T
theorem OpF.arg {K : PySem.W.Frag} {nm : String} {f : Addr} (o : OpF K nm f) {H : Hp} {x : V} {t u : Int} {n : Nat} (h : Arg K H x t u n) : RK K (CA K) nm H x := by
  rcases h with ⟨p, dx, e, hp, _⟩ | ⟨e, _⟩
  · exact .inl ⟨p, dx, _, e, hp⟩
  · rw [e]
    exact .inr ⟨"int", .base (.int t), o.ty "int" (by simp [tys])⟩
structure Fn (P : Program) (w : World) (K : PySem.W.Frag) (mg : Str → Option Value) (base : Heap) (x : Str) (lev : Nat) (ps : List Str) (sp : Sp) (f : Addr) (fd : FuncData) : Prop where
  ok : FnOk P w K mg base (L2.CX P w) lev f fd ps sp
  g : mg x = some (.ref f)
  k : PySem.W.keepIn K (.ref f) = true
  b : Binds K fd ps []
structure OpK (P : Program) (w : World) (K : PySem.W.Frag) (mg : Str → Option Value) (base : Heap) (nm : String) (lev : Nat) (sp : Sp) (f : Addr) (fd : FuncData) : Prop where
  op : OpF K nm f
  ok : FnOk P w K mg base (L2.CX P w) lev f fd ["self", "other"] sp
  b : Binds K fd ["self", "other"] []
structure MeK (P : Program) (w : World) (K : PySem.W.Frag) (mg : Str → Option Value) (base : Heap) (m : Str) (lev : Nat) (sp : Sp) (f : Addr) (fd : FuncData) : Prop where
  me : Meth K (CA K) m f
  ok : FnOk P w K mg base (L2.CX P w) lev f fd ["self", "other"] sp
  b : Binds K fd ["self", "other"] []
abbrev spAdd (K : PySem.W.Frag) : Sp := spOp K (fun t u t2 u2 => t * u2 + t2 * u) (fun _ u _ u2 => u * u2)
abbrev spSub (K : PySem.W.Frag) : Sp := spOp K (fun t u t2 u2 => t * u2 - t2 * u) (fun _ u _ u2 => u * u2)
abbrev spMul (K : PySem.W.Frag) : Sp := spOp K (fun t _ t2 _ => t * t2) (fun _ u _ u2 => u * u2)


theorem passS {X : Cx} (σ : L2.St) : PassesAt (L2.CX X.prog X.w) X σ ((fun _ => E0 : L2.St → XK) σ) := fun pins H s e s' i c => passL pins σ H s e s' i c
structure EqK (P : Program) (w : World) (K : PySem.W.Frag) (mg : Str → Option Value) (base : Heap) (f : Addr) (fd : FuncData) : Prop where
  at_ : PySem.W.findIn K (.ref (CA K)) "__eq__" = some (some (.ref f))
  fn : PySem.W.isFn K (.ref f) = true
  ok : FnOk P w K mg base (L2.CX P w) 1 f fd ["self", "other"] (spEq K)
  b : Binds K fd ["self", "other"] []
  ne : PySem.W.findIn K (.ref (CA K)) "__ne__" = some (some (.builtin "object.__ne__"))
  ob : PySem.W.subIn K (.ref (CA K)) (.type "object") = some true
theorem pss_imp {X : Cx} {b : List Stmt} {u S : TS} (h : PSs X b u) (k : ∀ D σ H, S D σ H → u D σ H) : PSs X b S := ⟨fun pn s σ H D I z => h.run pn s σ H D I (k D σ H z)⟩
theorem Same.upd {H : Hp} {p : Addr} {o : HO} (h : H p = none) : Same H (upd H p o) := fun c u z => by
  rw [upd_ne (ne_of_none z h)]
  exact z
theorem same_put {H H' : Hp} {D : Addr} {o : HO} (s : Same H H') (h : H D = none) : Same H (upd H' D o) := fun c u z => by
  rw [upd_ne (ne_of_none z h)]
  exact s c u z
/-- a point: the tuple at q of the amounts at a and b -/
structure Pg where
  q : Addr
  a : Addr
  b : Addr
  t : Int
  u : Int
  t2 : Int
  u2 : Int
def PgOk (K : PySem.W.Frag) (H : Hp) (g : Pg) : Prop := H g.q = some (.tup [.ref g.a, .ref g.b]) ∧ IsA K H (.ref g.a) g.t g.u 200 ∧ IsA K H (.ref g.b) g.t2 g.u2 200
theorem PgOk.same {K : PySem.W.Frag} {H H' : Hp} {g : Pg} (h : PgOk K H g) (s : Same H H') : PgOk K H' g := ⟨s _ _ h.1, h.2.1.same s, h.2.2.same s⟩
def Rises (g h : Pg) : Prop := g.t * h.u < h.t * g.u ∧ g.t2 * h.u2 < h.t2 * g.u2
structure PtL (K : PySem.W.Frag) (H : Hp) (p : Addr) (gs : List Pg) : Prop where
  l : H p = some (.lst (gs.map fun g => V.ref g.q))
  ok : ∀ g ∈ gs, PgOk K H g
  up : ∀ (i : Nat) g h, gs[i]? = some g → gs[i + 1]? = some h → Rises g h
  n : gs.length ≤ 20
theorem PtL.same {K : PySem.W.Frag} {H H' : Hp} {p : Addr} {gs : List Pg} (h : PtL K H p gs) (s : Same H H') : PtL K H' p gs := ⟨s _ _ h.l, fun g hg => (h.ok g hg).same s, h.up, h.n⟩
def spLs (K : PySem.W.Frag) : Sp := fun vs H Q _ => ∃ x t b, vs = [x] ∧ (∀ J, Same H J → TyX K J x t) ∧ PySem.W.kitAny K t [.type "list", .type "tuple"] = some b ∧ ∀ H', Same H H' → Q (.bl b) H'
def spRise (K : PySem.W.Frag) : Sp := fun vs H Q _ => ∃ g h : Pg, vs = [.ref g.q, .ref h.q] ∧ PgOk K H g ∧ PgOk K H h ∧ ∀ H', Same H H' → Q (.bl (decide (g.t * h.u < h.t * g.u) && decide (g.t2 * h.u2 < h.t2 * g.u2))) H'
def spPace (K : PySem.W.Frag) : Sp := fun vs H Q _ => ∃ (p : Addr) (gs : List Pg) (i : Nat), vs = [.ref p, .int (i : Int)] ∧ PtL K H p gs ∧ i ≤ gs.length ∧ ∀ y H' t u, Same H H' → IsA K H' y t u 810 → Q y H'
def spRch (K : PySem.W.Frag) : Sp := fun vs H Q _ => ∃ (p : Addr) (gs : List Pg) (y : V) (t u : Int), vs = [.ref p, y] ∧ PtL K H p gs ∧ IsA K H y t u 200 ∧ ∀ (n : Nat) H', n ≤ gs.length → Same H H' → Q (.int (n : Int)) H'

abbrev sRise : Stmt := top 19
theorem scRise : FnScope ["one", "other"] ["one", "other"] (defScope sRise) := ⟨rfl, rfl, rfl, by decide +kernel, rfl, by decide +kernel, by decide +kernel⟩
abbrev sPace : Stmt := top 21
theorem scPace : FnScope ["points", "index", "beat", "second", "next_beat", "next_second"] ["points", "index"] (defScope sPace) := ⟨rfl, rfl, rfl, by decide +kernel, rfl, by decide +kernel, by decide +kernel⟩
abbrev sRch : Stmt := top 22
theorem scRch : FnScope ["points", "beat", "low", "high", "middle"] ["points", "beat"] (defScope sRch) := ⟨rfl, rfl, rfl, by decide +kernel, rfl, by decide +kernel, by decide +kernel⟩
abbrev sLs : Stmt := top 11
theorem scLs : FnScope ["value"] ["value"] (defScope sLs) := ⟨rfl, rfl, rfl, by decide +kernel, rfl, by decide +kernel, by decide +kernel⟩
section
variable {P : Program} {w : World} {K : PySem.W.Frag} {mg : Str → Option Value} {base : Heap} {f fC fD fA fS fM fE : Addr} {fd fdC fdD fdA fdS fdM fdE fdI : FuncData}
theorem ok_ls (F : FnP K "is_listing" sLs f fd) (T : AF K mg) (mLi : mg "list" = none) (mTu : mg "tuple" = none) : FnOk P w K mg base (L2.CX P w) 1 f fd ["value"] (spLs K) := by
  refine F.ok scLs (fun vs H Q E h => ?_) (fun cdv A outer s H vs Q E hr h => ?_)
  · obtain ⟨x, t, b, rfl, _⟩ := h
    rfl
  · obtain ⟨x, t, b, rfl, ty, kt, q⟩ := h
    refine ⟨_, pss_one (ps_ret (pe_callB call_isiT rfl T.isi (by decide +kernel) (pa_cons (pv 0) (pa_cons (pe_tup (pa_cons (pe_ty mLi (by decide +kernel : bootBuiltins "list" = some (.type "list"))) (pa_cons (pe_ty mTu (by decide +kernel : bootBuiltins "tuple" = some (.type "tuple"))) pa_nil))) pa_nil)))), ?_⟩
    refine ⟨_, rfl, by show 2 ≤ sizeLine; decide, fun tp htp => ?_⟩
    exact ⟨x, tp, _, t, [.type "list", .type "tuple"], b, rfl, upd_same, .cons (.ty _) (.cons (.ty _) .nil), ty _ (Same.upd htp), kt, q _ (Same.upd htp)⟩
theorem ok_rise (F : FnP K "_rises" sRise f fd) (T : AF K mg) (MC : MeK P w K mg base "compare" 7 (spCmp K) fC fdC) : FnOk P w K mg base (L2.CX P w) 8 f fd ["one", "other"] (spRise K) := by
  refine F.ok scRise (fun vs H Q E h => ?_) (fun cdv A outer s H vs Q E hr h => ?_)
  · obtain ⟨g, h, rfl, _⟩ := h
    rfl
  · obtain ⟨g, h, rfl, hg, hh, q⟩ := h
    have hu : (A.deeper (envOfC "_rises" (defScope sRise) s.heap.objs.size f cdv)).units + 64 < cLine := by
      have := hr.un
      omega
    have hr1 := hr.mono (show 1 ≤ 7 by decide)
    have hr2 := hr.mono (show 2 ≤ 7 by decide)
    have hr3 := hr.mono (show 3 ≤ 7 by decide)
    have hr5 := hr.mono (show 5 ≤ 7 by decide)
    have hr6 := hr.mono (show 6 ≤ 7 by decide)
    have hr7 := hr.mono (show 7 ≤ 7 by decide)
    refine ⟨_, (pss_one (ps_ret (pe_and (pe_cmpR op_lt (pe_meth (pe_ix ix_tup (pv 0) pe_int (fun _ _ => rfl)) T.cl MC.me MC.ok hr7 MC.b .nil passL (pa_cons (pe_ix ix_tup (pv 1) pe_int (fun _ _ => rfl)) pa_nil)) pe_int (nomark _)) (pe_one (pe_cmpR op_lt (pe_meth (pe_ix ix_tup (pv 0) pe_int (fun _ _ => rfl)) T.cl MC.me MC.ok hr7 MC.b .nil passL (pa_cons (pe_ix ix_tup (pv 1) pe_int (fun _ _ => rfl)) pa_nil)) pe_int (nomark _)))))), ?_⟩
    obtain ⟨hq, ia, ib⟩ := hg
    obtain ⟨hq2, ia2, ib2⟩ := hh
    obtain ⟨pa, da, ea, hpa, ⟨ua, _⟩, _⟩ := id ia
    obtain ⟨pb, db, eb, hpb, ⟨ub, _⟩, _⟩ := id ib
    have sg : ∀ d : Int, decide ((if d = 0 then (0 : Int) else if 0 < d then 1 else -1) < 0) = decide (d < 0) := fun d => by
      by_cases c : d = 0
      · subst c
        rfl
      · by_cases c2 : 0 < d
        · rw [if_neg c, if_pos c2, decide_eq_false (by omega), decide_eq_false (by omega)]
        · rw [if_neg c, if_neg c2, decide_eq_true (by omega), decide_eq_true (by omega)]
    refine ⟨_, rfl, _, _, _, _, rfl, rfl, SqT.of hq, rfl, pa, da, _, ea, hpa, fl_no _ _ (by decide +kernel) (by decide +kernel), _, rfl, _, _, _, _, rfl, rfl, SqT.of hq2, rfl, ?_⟩
    refine ⟨_, _, _, _, _, rfl, ia, .inr ⟨_, _, _, .inl ia2, by omega, fun H1 s1 => ?_⟩⟩
    refine ⟨_, _, rfl, rfl, _, rfl, ?_⟩
    have e1 : decide (g.t * h.u - h.t * g.u < 0) = decide (g.t * h.u < h.t * g.u) := by
      by_cases c : g.t * h.u < h.t * g.u
      · rw [decide_eq_true c, decide_eq_true (by omega)]
      · rw [decide_eq_false c, decide_eq_false (by omega)]
    have e2 : decide (g.t2 * h.u2 - h.t2 * g.u2 < 0) = decide (g.t2 * h.u2 < h.t2 * g.u2) := by
      by_cases c : g.t2 * h.u2 < h.t2 * g.u2
      · rw [decide_eq_true c, decide_eq_true (by omega)]
      · rw [decide_eq_false c, decide_eq_false (by omega)]
    rw [sg, e1]
    by_cases c : g.t * h.u < h.t * g.u
    · refine if_true_of (decide_eq_true c) ?_
      refine ⟨_, rfl, _, _, _, _, rfl, rfl, SqT.of (s1 _ _ hq), rfl, pb, db, _, eb, s1 _ _ hpb, fl_no _ _ (by decide +kernel) (by decide +kernel), _, rfl, _, _, _, _, rfl, rfl, SqT.of (s1 _ _ hq2), rfl, ?_⟩
      refine ⟨_, _, _, _, _, rfl, ib.same s1, .inr ⟨_, _, _, .inl (ib2.same s1), by omega, fun H2 s2 => ?_⟩⟩
      refine ⟨_, _, rfl, rfl, ?_⟩
      have q' := q H2 (s1.trans s2)
      rw [decide_eq_true c, Bool.true_and] at q'
      show Q (V.bl (decide (_ < _))) H2
      rw [sg, e2]
      exact q'
    · refine if_false_of (decide_eq_false c) ?_
      have q' := q H1 s1
      rw [decide_eq_false c, Bool.false_and] at q'
      exact q'

theorem rise_ne {a b c d : Int} (hb : 0 < b) (hd : 0 < d) (h : a * d < c * b) : c * b - a * d ≠ 0 := by omega
theorem ok_pace (F : FnP K "_pace" sPace f fd) (T : AF K mg) (mL : mg "len" = none) (OS : OpK P w K mg base "sub" 7 (spSub K) fS fdS) (MD : MeK P w K mg base "divided" 7 (spDiv K) fD fdD) (GI : FnOk P w K mg base (L2.CX P w) 4 (aI K) fdI ["self", "top", "bottom"] (spInit K)) {ds : List Value} (hds : Vals [.int 1] ds) (bI : Binds K fdI ["self", "top", "bottom"] ds) :
    FnOk P w K mg base (L2.CX P w) 8 f fd ["points", "index"] (spPace K) := by
  refine F.ok scPace (fun vs H Q E h => ?_) (fun cdv A outer s H vs Q E hr h => ?_)
  · obtain ⟨p, gs, i, rfl, _⟩ := h
    rfl
  · obtain ⟨p, gs, i, rfl, hp, hi, q⟩ := h
    have hu : (A.deeper (envOfC "_pace" (defScope sPace) s.heap.objs.size f cdv)).units + 64 < cLine := by
      have := hr.un
      omega
    have hr1 := hr.mono (show 1 ≤ 7 by decide)
    have hr2 := hr.mono (show 2 ≤ 7 by decide)
    have hr3 := hr.mono (show 3 ≤ 7 by decide)
    have hr5 := hr.mono (show 5 ≤ 7 by decide)
    have hr6 := hr.mono (show 6 ≤ 7 by decide)
    have hr7 := hr.mono (show 7 ≤ 7 by decide)
    refine ⟨_, (pss_cons (ps_if (PW.pt (pw_or (pt_cmpR op_eq (pv 1) pe_int (nomark _)) (pw_or1 (pt_cmpR op_eq (pv 1) (pe_callB call_len rfl mL PySem.boot_len (pa_cons (pv 0) pa_nil)) (nomark _))))) (pss_one (ps_ret (pe_make T.mkA GI hr5 rfl T.g bI hds passL (pa_cons pe_int pa_nil)))) pss_nil)
      (pss_cons (ps_asg (pe_ix ix_list (pv 0) (pe_op op_sub (pv 1) pe_int) (fun _ _ => rfl)) (pg_tup (by rfl) (pgs_cons (pg_name (i := 2) scPace.nd rfl (Or.inl rfl)) (pgs_cons (pg_name (i := 3) scPace.nd rfl (Or.inl rfl)) pgs_nil))))
      (pss_cons (ps_asg (pe_ix ix_list (pv 0) (pv 1) (fun _ _ => rfl)) (pg_tup (by rfl) (pgs_cons (pg_name (i := 4) scPace.nd rfl (Or.inl rfl)) (pgs_cons (pg_name (i := 5) scPace.nd rfl (Or.inl rfl)) pgs_nil))))
      (pss_one (ps_ret (pe_meth (pe_binX (op := .Sub) OS.op.own OS.ok hr7 OS.b passS (pv 5) (pv 3)) T.cl MD.me MD.ok hr7 MD.b .nil passL (pa_cons (pe_binX (op := .Sub) OS.op.own OS.ok hr7 OS.b passS (pv 4) (pv 2)) pa_nil))))))), ?_⟩
    have one : ∀ (D : Ends), D.rt = Q → tMake (CA K) (spInit K) [.int 1] E0 (tCons (tC (.int 1)) tNil) [some (.ref p), some (.int (i : Int)), none, none, none, none] H (fun v H' => D.rt v H') := fun D hD => by
      refine fun y dy hy hdy hne => spInit_imp (make_fact T (n := 200) (a := 1) (b := 1) (by decide) (by decide) (by decide) (by decide) hy hdy hne) fun v2 H2 ⟨hv, t2, u2, s2, iy, e2⟩ => ⟨hv, ?_⟩
      rw [hD]
      exact q _ _ _ _ s2 (iy.mono (by decide))
    refine ⟨_, rfl, rfl, _, rfl, ?_⟩
    by_cases c0 : i = 0
    · subst c0
      refine if_true_of (by rfl) (iteT ?_)
      exact one _ rfl
    · refine if_false_of (decide_eq_false fun z => c0 (by have := V.int.inj z; omega)) ?_
      refine ⟨_, rfl, _, rfl, _, _, rfl, .inl ⟨_, SqL.of hp.l, rfl⟩, rfl, _, rfl, ?_⟩
      by_cases cn : i = gs.length
      · refine if_true_of (decide_eq_true (by rw [cn, List.length_map])) ?_
        exact one _ rfl
      · refine if_false_of (decide_eq_false fun z => cn (by have := V.int.inj z; rw [List.length_map] at this; omega)) ?_
        obtain ⟨j, rfl⟩ : ∃ j, i = j + 1 := ⟨i - 1, by omega⟩
        have hj1 : j + 1 < gs.length := by omega
        have hj : j < gs.length := by omega
        have eg : gs[j]? = some gs[j] := List.getElem?_eq_getElem hj
        have eh : gs[j + 1]? = some gs[j + 1] := List.getElem?_eq_getElem hj1
        have og := hp.ok _ (List.getElem_mem hj)
        have oh := hp.ok _ (List.getElem_mem hj1)
        obtain ⟨r1, r2⟩ := hp.up j _ _ eg eh
        generalize gs[j] = g at eg og r1 r2
        generalize gs[j + 1] = h at eh oh r1 r2
        obtain ⟨gq, ga, gb⟩ := og
        obtain ⟨hq, ha, hb⟩ := oh
        obtain ⟨pga, dga, ega, hga, ⟨uga, _⟩, _⟩ := id ga
        obtain ⟨pha, dha, eha, hha, ⟨uha, _⟩, _⟩ := id ha
        obtain ⟨phb, dhb, ehb, hhb, ⟨uhb, _⟩, _⟩ := id hb
        refine ⟨_, rfl, _, rfl, _, _, rfl, rfl, p, _, _, _, rfl, rfl, SqL.of hp.l, ?_, g.q, _, rfl, SqT.of gq, rfl, _, _, rfl, _, _, rfl, rfl, ?_⟩
        · have e : ((j + 1 : Nat) : Int) - 1 = (j : Int) := by omega
          show atI _ (((j + 1 : Nat) : Int) - 1) = _
          rw [e]
          exact atI_nat (by rw [List.getElem?_map, eg]; rfl)
        refine ⟨_, rfl, _, rfl, p, _, _, _, rfl, rfl, SqL.of hp.l, atI_nat (by rw [List.getElem?_map, eh]; rfl), h.q, _, rfl, SqT.of hq, rfl, _, _, rfl, _, _, rfl, rfl, ?_⟩
        refine ⟨_, rfl, _, rfl, phb, dhb, _, ehb, hhb, OS.op.arg (.inl gb), _, _, _, _, _, rfl, hb, .inr ⟨_, _, _, .inl gb, by omega, fun z H1 t1 u1 s1 iz ez => ?_⟩⟩
        obtain ⟨pz, dz, eqz, hz, ⟨uz, _⟩, _⟩ := id iz
        refine ⟨pz, dz, _, eqz, hz, fl_no _ _ (by decide +kernel) (by decide +kernel), ?_⟩
        refine ⟨_, rfl, _, rfl, pha, dha, _, eha, s1 _ _ hha, OS.op.arg (.inl (ga.same s1)), _, _, _, _, _, rfl, ha.same s1, .inr ⟨_, _, _, .inl (ga.same s1), by omega, fun y H2 t2 u2 s2 iy ey => ?_⟩⟩
        obtain ⟨_, _, _, _, ⟨uy, _⟩, _⟩ := id iy
        have dn : h.t * g.u - g.t * h.u ≠ 0 := by omega
        have t20 : t2 ≠ 0 := fun e => by
          rw [e, Int.zero_mul] at ey
          rcases Int.mul_eq_zero.mp ey.symm with z | z
          · exact dn z
          · omega
        exact ⟨_, _, _, _, _, rfl, iz.same s2, .inr ⟨_, _, _, .inl iy, by omega, fun e => absurd e t20, fun _ y3 H3 t3 u3 s3 iy3 _ => q y3 H3 t3 u3 (s1.trans (s2.trans s3)) (iy3.mono (by decide))⟩⟩

theorem ok_rch (F : FnP K "_reached" sRch f fd) (T : AF K mg) (mL : mg "len" = none) (MC : MeK P w K mg base "compare" 7 (spCmp K) fC fdC) : FnOk P w K mg base (L2.CX P w) 8 f fd ["points", "beat"] (spRch K) := by
  refine F.ok scRch (fun vs H Q E h => ?_) (fun cdv A outer s H vs Q E hr h => ?_)
  · obtain ⟨p, gs, y, t, u, rfl, _⟩ := h
    rfl
  · obtain ⟨p, gs, y, t, u, rfl, hp, iy, q⟩ := h
    have hu : (A.deeper (envOfC "_reached" (defScope sRch) s.heap.objs.size f cdv)).units + 64 < cLine := by
      have := hr.un
      omega
    have hr1 := hr.mono (show 1 ≤ 7 by decide)
    have hr2 := hr.mono (show 2 ≤ 7 by decide)
    have hr3 := hr.mono (show 3 ≤ 7 by decide)
    have hr5 := hr.mono (show 5 ≤ 7 by decide)
    have hr6 := hr.mono (show 6 ≤ 7 by decide)
    have hr7 := hr.mono (show 7 ≤ 7 by decide)
    refine ⟨_, (pss_cons (ps_par (by rfl) scRch.nd (i := 2) (j := 3) rfl rfl (by decide) rfl rfl (pa_cons pe_int (pa_cons (pe_callB call_len rfl mL PySem.boot_len (pa_cons (pv 0) pa_nil)) pa_nil)) (by rfl))
      (pss_cons (ps_while (passes_of rfl) (pt_cmpR op_lt (pv 2) (pv 3) (nomark _))
      (pss_cons (ps_set (i := 4) scRch.nd rfl (Or.inl rfl) (pe_op op_fdiv (pe_op op_add (pv 2) (pv 3)) pe_int))
      (pss_one (ps_if (pt_cmpR op_le (pe_meth (pe_ix ix_tup (pe_ix ix_list (pv 0) (pv 4) (fun _ _ => rfl)) pe_int (fun _ _ => rfl)) T.cl MC.me MC.ok hr7 MC.b .nil passL (pa_cons (pv 1) pa_nil)) pe_int (nomark _)) (pss_one (ps_set (i := 2) scRch.nd rfl (Or.inl rfl) (pe_op op_add (pv 4) pe_int))) (pss_one (ps_set (i := 3) scRch.nd rfl (Or.inl rfl) (pv 4)))))))
      (pss_one (ps_ret (pv 2))))), ?_⟩
    refine ⟨_, rfl, _, (gs.map fun g => V.ref g.q).length, rfl, .inl ⟨_, SqL.of hp.l, rfl⟩, _, _, rfl, ?_⟩
    rw [List.length_map]
    refine while_by (fun σ H' => Same H H' ∧ ∃ (lo hi : Nat) (v4 : Option V), lo ≤ hi ∧ hi ≤ gs.length ∧ σ = [some (.ref p), some y, some (.int (lo : Int)), some (.int (hi : Int)), v4])
      (fun σ _ => match σ with | [_, _, some (.int a), some (.int b), _] => (b - a).toNat | _ => 0) ⟨Same.refl _, 0, gs.length, _, Nat.zero_le _, Nat.le_refl _, rfl⟩ ?_ ?_
    · rintro σ H1 ⟨s1, lo, hi, v4, hlh, hh, rfl⟩
      refine ⟨_, rfl, _, rfl, _, _, rfl, rfl, _, rfl, ?_⟩
      by_cases c : lo < hi
      · refine if_true_of (decide_eq_true (by omega)) ?_
        refine ⟨_, rfl, _, rfl, _, _, rfl, rfl, _, _, rfl, rfl, ⟨by decide, by decide⟩, ?_⟩
        obtain ⟨m, hm⟩ : ∃ m : Nat, ((lo : Int) + (hi : Int)) / 2 = (m : Int) := ⟨(lo + hi) / 2, by omega⟩
        have hml : lo ≤ m ∧ m < hi := by omega
        show gName 4 (V.int (((lo : Int) + (hi : Int)) / 2)) _ _ _
        rw [hm]
        have hmg : m < gs.length := by omega
        have eg : gs[m]? = some gs[m] := List.getElem?_eq_getElem hmg
        have og := (hp.ok _ (List.getElem_mem hmg)).same s1
        generalize gs[m] = g at eg og
        obtain ⟨gq, ga, gb⟩ := og
        obtain ⟨pga, dga, ega, hga, _, _⟩ := id ga
        refine ⟨_, rfl, _, rfl, p, _, _, _, rfl, rfl, SqL.of (hp.same s1).l, atI_nat (by rw [List.getElem?_map, eg]; rfl), g.q, _, _, _, rfl, rfl, SqT.of gq, rfl, pga, dga, _, ega, hga, fl_no _ _ (by decide +kernel) (by decide +kernel), _, rfl, _, _, _, _, _, rfl, ga, .inr ⟨_, _, _, .inl (iy.same s1), by omega, fun H2 s2 => ?_⟩⟩
        refine ⟨_, _, rfl, rfl, _, rfl, ?_⟩
        have s12 := s1.trans s2
        refine ite2 (fun _ => ?_) (fun _ => ?_)
        · refine ⟨_, rfl, _, _, rfl, rfl, ⟨s12, m + 1, hi, _, by omega, hh, rfl⟩, ?_⟩
          show ((hi : Int) - ((m : Int) + 1)).toNat < ((hi : Int) - (lo : Int)).toNat
          omega
        · refine ⟨_, rfl, ⟨s12, lo, m, _, by omega, by omega, rfl⟩, ?_⟩
          show ((m : Int) - (lo : Int)).toNat < ((hi : Int) - (lo : Int)).toNat
          omega
      · refine if_false_of (decide_eq_false (by omega)) ?_
        exact ⟨_, rfl, q lo H1 (by omega) s1⟩
    · intro σ H' Q1 Q2 k h
      obtain ⟨v, h1, v2, h1', i, j, h2, h3, b', h4, h5⟩ := h
      exact ⟨v, h1, v2, h1', i, j, h2, h3, b', h4, k _ _ h5⟩

end
end K11
set_option Elab.async false
set_option linter.all false
set_option maxRecDepth 100000
set_option maxHeartbeats 1000000
set_option exponentiation.threshold 100000
namespace K11
open PySem PySem.Spec PyProof.Rows L2 Fa Fb
def tNeY (K : PySem.W.Frag) (C : Addr) (sp : Sp) (E : L2.St → XK) (ta tb : TE) : TE := fun σ H Q => ta σ H fun x H1 => tb σ H1 fun y H2 => ∃ p dx fs, x = .ref p ∧ H2 p = some (.ins C dx fs) ∧ ((∃ q dy gs, y = .ref q ∧ H2 q = some (.ins C dy gs)) ∨ ∃ T, TyX K H2 y (.type T) ∧ PySem.W.subIn K (.type T) (.ref C) = some false) ∧
      sp [x, y] H2 (fun v H3 => ∃ k : Bool, v = .bl k ∧ Q (.bl (!k)) H3) (E σ)
theorem pe_neY {X : Cx} {CX : CXT} {k : Nat} {f C : Addr} {fd : FuncData} {ps : List Str} {sp : Sp} {E : L2.St → XK} {a b : Expr} {ta tb : TE} (at_ : PySem.W.findIn X.K (.ref C) "__eq__" = some (some (.ref f))) (fn : PySem.W.isFn X.K (.ref f) = true) (hne : PySem.W.findIn X.K (.ref C) "__ne__" = some (some (.builtin "object.__ne__"))) (ho : PySem.W.subIn X.K (.ref C) (.type "object") = some true)
    (F : FnOk X.prog X.w X.K X.mg X.base CX k f fd ps sp) (hr : Room (k + 2) X.A) (hb : Binds X.K fd ps []) (hx : ∀ σ, PassesAt CX X σ (E σ)) (ha : PE X a ta) (hb2 : PE X b tb) : PC X .NotEq a b (tNeY X.K C sp E ta tb) := Fn.pe_neX at_ fn hne ho F hr hb hx ha hb2
def spTak (K : PySem.W.Frag) : Sp := fun vs H Q _ => ∃ (p : Addr) (gs : List Pg) (y : V) (t u : Int), vs = [.ref p, y] ∧ PtL K H p gs ∧ 0 < gs.length ∧ IsA K H y t u 200 ∧ ∀ z H' t' u', Same H H' → IsA K H' z t' u' 1500 → Q z H'
def TupsOk (H : Hp) (rs : List V) : Prop := ∀ r ∈ rs, ∃ q x y, r = .ref q ∧ H q = some (.tup [x, y])
theorem TupsOk.same {H H' : Hp} {rs : List V} (h : TupsOk H rs) (s : Same H H') : TupsOk H' rs := fun r hr => by
  obtain ⟨q, x, y, e, hq⟩ := h r hr
  exact ⟨q, x, y, e, s _ _ hq⟩
def spExc : Sp := fun vs H Q _ => ∃ (q : Addr) (rs : List V), vs = [.ref q] ∧ H q = some (.lst rs) ∧ TupsOk H rs ∧ rs.length ≤ 30 ∧ ∀ H' r, Same H H' → Q (.ref r) H'
def spStd (K : PySem.W.Frag) : Sp := fun vs H Q _ => ∃ (p : Addr) (gs : List Pg), vs = [.ref p] ∧ PtL K H p gs ∧ ∀ H' q rs, Same H H' → H' q = some (.lst rs) → rs ≠ [] → TupsOk H' rs → rs.length ≤ 30 → Q (.ref q) H'
abbrev sTak : Stmt := top 23
theorem scTak : FnScope ["points", "beat", "index", "from_beat", "from_second"] ["points", "beat"] (defScope sTak) := ⟨rfl, rfl, rfl, by decide +kernel, rfl, by decide +kernel, by decide +kernel⟩
abbrev sExc : Stmt := top 24
theorem scExc : FnScope ["points", "beat", "second"] ["points"] (defScope sExc) := ⟨rfl, rfl, rfl, by decide +kernel, rfl, by decide +kernel, by decide +kernel⟩
abbrev sStd : Stmt := top 20
theorem scStd : FnScope ["points", "paces", "found", "index"] ["points"] (defScope sStd) := ⟨rfl, rfl, rfl, by decide +kernel, rfl, by decide +kernel, by decide +kernel⟩
section
variable {P : Program} {w : World} {K : PySem.W.Frag} {mg : Str → Option Value} {base : Heap} {f fC fD fA fS fM fE fR fP fT : Addr} {fd fdC fdD fdA fdS fdM fdE fdI fdR fdP fdT : FuncData}
theorem ok_tak (F : FnP K "_taken" sTak f fd) (T : AF K mg) (mMax : mg "max" = none) (OA : OpK P w K mg base "add" 7 (spAdd K) fA fdA) (OS : OpK P w K mg base "sub" 7 (spSub K) fS fdS) (OM : OpK P w K mg base "mul" 7 (spMul K) fM fdM)
    (RC : Fn P w K mg base "_reached" 8 ["points", "beat"] (spRch K) fR fdR) (PC : Fn P w K mg base "_pace" 8 ["points", "index"] (spPace K) fP fdP) : FnOk P w K mg base (L2.CX P w) 9 f fd ["points", "beat"] (spTak K) := by
  refine F.ok scTak (fun vs H Q E h => ?_) (fun cdv A outer s H vs Q E hr h => ?_)
  · obtain ⟨p, gs, y, t, u, rfl, _⟩ := h
    rfl
  · obtain ⟨p, gs, y, t, u, rfl, hp, h0, iy, q⟩ := h
    have hu : (A.deeper (envOfC "_taken" (defScope sTak) s.heap.objs.size f cdv)).units + 64 < cLine := by
      have := hr.un
      omega
    have hr1 := hr.mono (show 1 ≤ 8 by decide)
    have hr2 := hr.mono (show 2 ≤ 8 by decide)
    have hr3 := hr.mono (show 3 ≤ 8 by decide)
    have hr5 := hr.mono (show 5 ≤ 8 by decide)
    have hr6 := hr.mono (show 6 ≤ 8 by decide)
    have hr7 := hr.mono (show 7 ≤ 8 by decide)
    have hr8 := hr.mono (show 8 ≤ 8 by decide)
    refine ⟨_, (pss_cons (ps_set (i := 2) scTak.nd rfl (Or.inl rfl) (pe_call RC.ok hr8 rfl RC.g RC.k RC.b .nil passL (pa_cons (pv 0) (pa_cons (pv 1) pa_nil))))
      (pss_cons (ps_asg (pe_ix ix_list (pv 0) (pe_callB (call_max2 rfl) rfl mMax (by decide +kernel) (pa_cons (pe_op op_sub (pv 2) pe_int) (pa_cons pe_int pa_nil))) (fun _ _ => rfl)) (pg_tup (by rfl) (pgs_cons (pg_name (i := 3) scTak.nd rfl (Or.inl rfl)) (pgs_cons (pg_name (i := 4) scTak.nd rfl (Or.inl rfl)) pgs_nil))))
      (pss_one (ps_ret (pe_binX (op := .Add) OA.op.own OA.ok hr7 OA.b passS (pv 4) (pe_binX (op := .Mult) OM.op.own OM.ok hr7 OM.b passS (pe_binX (op := .Sub) OS.op.own OS.ok hr7 OS.b passS (pv 1) (pv 3)) (pe_call PC.ok hr8 rfl PC.g PC.k PC.b .nil passL (pa_cons (pv 0) (pa_cons (pv 2) pa_nil))))))))), ?_⟩
    refine ⟨_, rfl, _, rfl, p, gs, y, _, _, rfl, hp, iy, fun n H1 hn s1 => ?_⟩
    refine ⟨_, rfl, _, rfl, _, _, rfl, rfl, _, _, rfl, ?_⟩
    obtain ⟨m, hm, hml⟩ : ∃ m : Nat, (if (0 : Int) > (n : Int) - 1 then (0 : Int) else (n : Int) - 1) = (m : Int) ∧ m < gs.length := by
      by_cases c : n = 0
      · exact ⟨0, by rw [if_pos (by omega)]; rfl, h0⟩
      · exact ⟨n - 1, by rw [if_neg (by omega)]; omega, by omega⟩
    have eg : gs[m]? = some gs[m] := List.getElem?_eq_getElem hml
    have og := (hp.ok _ (List.getElem_mem hml)).same s1
    generalize gs[m] = g at eg og
    obtain ⟨gq, ga, gb⟩ := og
    obtain ⟨pga, dga, ega, hga, _⟩ := id ga
    obtain ⟨pgb, dgb, egb, hgb, _⟩ := id gb
    refine ⟨p, _, _, _, rfl, rfl, SqL.of (hp.same s1).l, ?_, g.q, _, rfl, SqT.of gq, rfl, _, _, rfl, _, _, rfl, rfl, ?_⟩
    · show atI _ (if (0 : Int) > (n : Int) - 1 then (0 : Int) else (n : Int) - 1) = _
      rw [hm]
      exact atI_nat (by rw [List.getElem?_map, eg]; rfl)
    have iy1 := iy.same s1
    obtain ⟨py, dy, eqy, hy, _⟩ := id iy1
    refine ⟨_, rfl, _, rfl, _, rfl, py, dy, _, eqy, hy, OS.op.arg (.inl ga), _, _, _, _, _, rfl, iy1, .inr ⟨_, _, _, .inl ga, by omega, fun z1 H2 t1 u1 s2 iz1 _ => ?_⟩⟩
    refine ⟨_, rfl, _, rfl, p, gs, n, rfl, hp.same (s1.trans s2), hn, fun z2 H3 t2 u2 s3 iz2 => ?_⟩
    obtain ⟨pz, dz, eqz, hz, _⟩ := id (iz1.same s3)
    refine ⟨pz, dz, _, eqz, hz, OM.op.arg (.inl iz2), _, _, _, _, _, rfl, iz1.same s3, .inr ⟨_, _, _, .inl iz2, by omega, fun z3 H4 t3 u3 s4 iz3 _ => ?_⟩⟩
    have s14 := s2.trans (s3.trans s4)
    refine ⟨pgb, dgb, _, egb, s14 _ _ hgb, OA.op.arg (.inl iz3), _, _, _, _, _, rfl, gb.same s14, .inr ⟨_, _, _, .inl iz3, by omega, fun z4 H5 t4 u4 s5 iz4 _ => ?_⟩⟩
    exact q _ _ _ _ (s1.trans (s14.trans s5)) (iz4.mono (by decide))
theorem ok_exc (F : FnP K "_exchanged" sExc f fd) : FnOk P w K mg base (L2.CX P w) 1 f fd ["points"] spExc := by
  refine F.ok scExc (fun vs H Q E h => ?_) (fun cdv A outer s H vs Q E hr h => ?_)
  · obtain ⟨q, rs, rfl, _⟩ := h
    rfl
  · obtain ⟨q, rs, rfl, hq, ht, hl, k⟩ := h
    have hu : (A.deeper (envOfC "_exchanged" (defScope sExc) s.heap.objs.size f cdv)).units + 64 < cLine := by
      have := hr.un
      omega
    refine ⟨_, (pss_one (ps_ret (pe_lc (own := [("beat", 1), ("second", 2)]) (g := gTup K 2 (gCons (gName 1) (gCons (gName 2) gNil)))  (by rfl) scExc.nd (pi_list (pv 0)) (blkOk_by (own := [("beat", 1), ("second", 2)]) (N := ["points", "beat", "second"]) (sc := defScope sExc) (by decide +kernel)) (fun _ _ _ _ _ => (pg_tup (by rfl) (pgs_cons (pg_name (i := 1) scExc.nd rfl (Or.inl rfl)) (pgs_cons (pg_name (i := 2) scExc.nd rfl (Or.inl rfl)) pgs_nil)))) (fun _ _ _ _ _ => pts_nil) (fun _ _ _ _ _ => (pe_tup (pa_cons (pv 2) (pa_cons (pv 1) pa_nil))))))), ?_⟩
    refine ⟨_, rfl, q, rfl, ⟨_, SqL.of hq⟩, fun D hD => ?_⟩
    refine lc_list (K := K) (a := q) (xs := rs) (fun i H' => Same H H' ∧ ∃ acc, H' D = some (.lst acc) ∧ acc.length = i) ⟨Same.upd hD, _, upd_same, rfl⟩ (fun i H' _ ⟨s, _⟩ => SqL.of (s _ _ hq)) ?_ ?_
    · rintro i x H1 hx ⟨s1, acc, ha, hn⟩
      obtain ⟨r, y, z, rfl, hr⟩ := ht x (List.mem_of_getElem? hx)
      refine ⟨r, _, rfl, SqT.of (s1 _ _ hr), rfl, _, _, rfl, _, _, rfl, rfl, ?_⟩
      refine ⟨rfl, _, rfl, _, rfl, by show 2 ≤ sizeLine; decide, fun t1 h1 => ?_⟩
      have ne : t1 ≠ D := fun e => by
        rw [e, ha] at h1
        cases h1
      refine ⟨acc, by rw [upd_ne ne.symm]; exact ha, ?_, same_put (s1.trans (Same.upd h1)) hD, _, upd_same, by rw [List.length_append, hn]; rfl⟩
      have := (List.getElem?_eq_some_iff.mp hx).1
      exact Nat.lt_of_lt_of_le (show acc.length < 100 by omega) (by decide)
    · rintro H1 ⟨s1, acc, ha, hn⟩
      exact k _ _ s1

theorem ok_std (F : FnP K "_standard" sStd f fd) (T : AF K mg) (mL : mg "len" = none) (mG : mg "range" = none) (EQ : EqK P w K mg base fE fdE) (PC : Fn P w K mg base "_pace" 8 ["points", "index"] (spPace K) fP fdP) (TK : Fn P w K mg base "_taken" 9 ["points", "beat"] (spTak K) fT fdT)
    (GI : FnOk P w K mg base (L2.CX P w) 4 (aI K) fdI ["self", "top", "bottom"] (spInit K)) {ds : List Value} (hds : Vals [.int 1] ds) (bI : Binds K fdI ["self", "top", "bottom"] ds) : FnOk P w K mg base (L2.CX P w) 10 f fd ["points"] (spStd K) := by
  refine F.ok scStd (fun vs H Q E h => ?_) (fun cdv A outer s H vs Q E hr h => ?_)
  · obtain ⟨p, gs, rfl, _⟩ := h
    rfl
  · obtain ⟨p, gs, rfl, hp, q⟩ := h
    have hu : (A.deeper (envOfC "_standard" (defScope sStd) s.heap.objs.size f cdv)).units + 64 < cLine := by
      have := hr.un
      omega
    have hr1 := hr.mono (show 1 ≤ 9 by decide)
    have hr2 := hr.mono (show 2 ≤ 9 by decide)
    have hr3 := hr.mono (show 3 ≤ 9 by decide)
    have hr5 := hr.mono (show 5 ≤ 9 by decide)
    have hr6 := hr.mono (show 6 ≤ 9 by decide)
    have hr7 := hr.mono (show 7 ≤ 9 by decide)
    have hr8 := hr.mono (show 8 ≤ 9 by decide)
    have hr9 := hr.mono (show 9 ≤ 9 by decide)
    refine ⟨_, (pss_cons (ps_if (pt_cmpR op_eq (pe_callB call_len rfl mL PySem.boot_len (pa_cons (pv 0) pa_nil)) pe_int (nomark _)) (pss_one (ps_ret (pe_lst (pa_cons (pe_tup (pa_cons (pe_make T.mkA GI hr5 rfl T.g bI hds passL (pa_cons pe_int pa_nil)) (pa_cons (pe_make T.mkA GI hr5 rfl T.g bI hds passL (pa_cons pe_int pa_nil)) pa_nil))) pa_nil)))) pss_nil)
      (pss_cons (ps_set (i := 1) scStd.nd rfl (Or.inr rfl) (pe_lc (own := [("index", 3)]) (g := gName 3)  (by rfl) scStd.nd (pi_range1 rfl mG (pa_cons (pe_op op_add (pe_callB call_len rfl mL PySem.boot_len (pa_cons (pv 0) pa_nil)) pe_int) pa_nil)) (blkOk_by (own := [("index", 3)]) (N := ["points", "paces", "found", "index"]) (sc := defScope sStd) (by decide +kernel)) (fun _ _ _ _ _ => (pg_name (i := 3) scStd.nd rfl (Or.inl rfl))) (fun _ _ _ _ _ => pts_nil) (fun _ _ _ _ _ => (pe_call PC.ok hr8 rfl PC.g PC.k PC.b .nil passL (pa_cons (pv 0) (pa_cons (pv 3) pa_nil))))))
      (pss_cons (ps_setLc (i := 2) (own := [("index", 3)]) (g := gName 3) (tt := tB (tNeY K (CA K) (spEq K) (fun _ => E0) (tOp (rIxL K) (tVar 1) (tVar 3)) (tOp (rIxL K) (tVar 1) (tOp (rI0 fun i j => V.int (i + j)) (tVar 3) (tC (.int 1)))))) (te := tOp (rIxL K) (tVar 0) (tVar 3)) (by rfl) scStd.nd rfl rfl (sw_true rfl rfl rfl (by decide +kernel)) (pi_range1 rfl mG (pa_cons (pe_callB call_len rfl mL PySem.boot_len (pa_cons (pv 0) pa_nil)) pa_nil)) (blkOk_by (own := [("index", 3)]) (N := ["points", "paces", "found", "index"]) (sc := defScope sStd) (by decide +kernel)) (fun _ _ _ _ _ => (pg_name (i := 3) scStd.nd rfl (Or.inl rfl))) (fun _ _ _ _ _ => pts_one (pt_cmp (pe_neY EQ.at_ EQ.fn EQ.ne EQ.ob EQ.ok hr3 EQ.b passS (pe_ix ix_list (pv 1) (pv 3) (fun _ _ => rfl)) (pe_ix ix_list (pv 1) (pe_op op_add (pv 3) pe_int) (fun _ _ => rfl))))) (fun _ _ _ _ _ => (pe_ix ix_list (pv 0) (pv 3) (fun _ _ => rfl))))
      (pss_one (ps_ret (pe_ifExp (pt_cmpR op_gt (pe_callB call_len rfl mL PySem.boot_len (pa_cons (pv 2) pa_nil)) pe_int (nomark _)) (pv 2) (pe_lst (pa_cons (pe_tup (pa_cons (pe_make T.mkA GI hr5 rfl T.g bI hds passL (pa_cons pe_int pa_nil)) (pa_cons (pe_call TK.ok hr9 rfl TK.g TK.k TK.b .nil passL (pa_cons (pv 0) (pa_cons (pe_make T.mkA GI hr5 rfl T.g bI hds passL (pa_cons pe_int pa_nil)) pa_nil))) pa_nil))) pa_nil)))))))), ?_⟩
    have gl := hp.n
    refine ⟨_, rfl, _, (gs.map fun g => V.ref g.q).length, rfl, .inl ⟨_, SqL.of hp.l, rfl⟩, rfl, _, rfl, ?_⟩
    rw [List.length_map]
    by_cases c0 : gs.length = 0
    · refine if_true_of (decide_eq_true (by rw [c0]; rfl)) ?_
      refine fun y1 dy1 h1 hd1 n1 => spInit_imp (make_fact T (n := 200) (a := 0) (b := 1) (by decide) (by decide) (by decide) (by decide) h1 hd1 n1) fun v1 H1 ⟨hv1, _, _, s1, _, _⟩ => ⟨hv1, ?_⟩
      refine fun y2 dy2 h2 hd2 n2 => spInit_imp (make_fact T (n := 200) (a := 0) (b := 1) (by decide) (by decide) (by decide) (by decide) h2 hd2 n2) fun v2 H2 ⟨hv2, _, _, s2, _, _⟩ => ⟨hv2, ?_⟩
      refine ⟨by show 2 ≤ sizeLine; decide, fun t1 h3 => ⟨by show 1 ≤ sizeLine; decide, fun l hl => ?_⟩⟩
      have s3 := Same.upd (o := .tup [.ref y1, .ref y2]) h3
      have s4 := Same.upd (o := .lst [.ref t1]) hl
      refine q _ l _ (s1.trans (s2.trans (s3.trans s4))) upd_same (by simp) (fun r hr => ?_) (by show 1 ≤ 30; decide)
      rw [List.mem_singleton] at hr
      exact ⟨t1, _, _, hr, s4 _ _ upd_same⟩
    · refine if_false_of (decide_eq_false fun z => c0 (by have := V.int.inj z; omega)) ?_
      refine ⟨_, rfl, _, (gs.map fun g => V.ref g.q).length, rfl, .inl ⟨_, SqL.of hp.l, rfl⟩, _, _, rfl, rfl, _, rfl, ?_, ?_, fun D1 hD1 => ?_⟩
      · rw [List.length_map]
        omega
      · rw [List.length_map]
        omega
      rw [List.length_map]
      have eN : ((gs.length : Int) + 1).toNat = gs.length + 1 := by omega
      have sD1 := Same.upd (o := .lst []) hD1
      refine lc_range (lo := 0) (n := ((gs.length : Int) + 1).toNat) (fun i H' => Same H H' ∧ ∃ ys : List (V × Int × Int), ys.length = i ∧ H' D1 = some (.lst (ys.map fun y => y.1)) ∧ ∀ y ∈ ys, IsA K H' y.1 y.2.1 y.2.2 810) ⟨sD1, [], rfl, upd_same, by simp⟩ ?_ ?_
      · rintro i H1 hi ⟨s1, ys, hn, hD, hy⟩
        rw [Int.zero_add]
        refine ⟨rfl, _, rfl, _, rfl, p, gs, i, rfl, hp.same s1, by omega, fun y H2 t u s2 iy => ?_⟩
        have hD2 := s2 _ _ hD
        have kt : ∀ z t u, IsA K H2 z t u 810 → IsA K (upd H2 D1 (.lst ((ys.map fun y => y.1) ++ [y]))) z t u 810 := fun z t u ⟨pz, dz, e, h1, h2⟩ => ⟨pz, dz, e, by
          rw [upd_ne (fun x => by rw [x, hD2] at h1; cases h1)]
          exact h1, h2⟩
        refine ⟨_, hD2, ?_, same_put (s1.trans s2) hD1, ys ++ [(y, t, u)], by rw [List.length_append, hn]; rfl, ?_, ?_⟩
        · rw [List.length_map]
          exact Nat.lt_of_lt_of_le (show ys.length < 100 by omega) (by decide)
        · rw [upd_same, List.map_append]
          rfl
        · intro z hz
          rcases List.mem_append.mp hz with m | m
          · exact kt _ _ _ ((hy z m).same s2)
          · rw [List.mem_singleton] at m
            subst m
            exact kt _ _ _ iy
      rintro H1 ⟨s1, ys, hn, hD, hy⟩
      rw [eN] at hn
      have ix : ∀ (J : Hp) (j : Nat), Same H1 J → j < gs.length + 1 → ∃ v t u pv dv, atI (ys.map fun y => y.1) (j : Int) = some v ∧ IsA K J v t u 810 ∧ v = .ref pv ∧ J pv = some (.ins (CA K) dv (fl t u)) := fun J j sJ hj => by
        have e : ys[j]? = some ys[j] := List.getElem?_eq_getElem (by omega)
        have o := (hy _ (List.getElem_mem (show j < ys.length by omega))).same sJ
        obtain ⟨pv, dv, ev, hv, _⟩ := id o
        exact ⟨_, _, _, pv, dv, atI_nat (by rw [List.getElem?_map, e]; rfl), o, ev, hv⟩
      refine ⟨_, rfl, _, (gs.map fun g => V.ref g.q).length, rfl, .inl ⟨_, SqL.of (s1 _ _ hp.l), rfl⟩, _, rfl, ?_, ?_, fun D2 hD2 => ?_⟩
      · rw [List.length_map]
        omega
      · rw [List.length_map]
        omega
      rw [List.length_map]
      refine lc_range (lo := 0) (n := ((gs.length : Int)).toNat) (fun i H' => Same H1 H' ∧ ∃ rs : List V, H' D2 = some (.lst rs) ∧ rs.length ≤ i ∧ ∀ r ∈ rs, ∃ g ∈ gs, r = V.ref g.q) ⟨Same.upd hD2, [], upd_same, Nat.le_refl _, by simp⟩ ?_ ?_
      · rintro i H2 hi ⟨s2, rs, hr2, hrn, hrs⟩
        rw [Int.zero_add]
        obtain ⟨v1, t1, u1, p1, d1, a1, i1, e1, q1⟩ := ix H2 i s2 (by omega)
        obtain ⟨v2, t2, u2, p2, d2, a2, i2, e2, q2⟩ := ix H2 (i + 1) s2 (by omega)
        refine ⟨rfl, _, rfl, _, rfl, D1, _, _, _, rfl, rfl, SqL.of (s2 _ _ hD), a1, _, rfl, _, rfl, _, _, rfl, rfl, D1, _, _, _, rfl, rfl, SqL.of (s2 _ _ hD), a2, p1, d1, _, e1, q1, .inl ⟨p2, d2, _, e2, q2⟩, ?_⟩
        refine ⟨_, _, _, _, _, rfl, i1, .inl ⟨_, _, _, i2, _, rfl, _, rfl, ?_⟩⟩
        refine ite2 (fun _ => ?_) (fun _ => ⟨s2, rs, hr2, by omega, hrs⟩)
        have hi2 : i < gs.length := by omega
        have eg : gs[i]? = some gs[i] := List.getElem?_eq_getElem hi2
        refine ⟨_, rfl, _, rfl, p, _, _, _, rfl, rfl, SqL.of ((s1.trans s2) _ _ hp.l), atI_nat (by rw [List.getElem?_map, eg]; rfl), rs, hr2, ?_, same_put s2 hD2, _, upd_same, by rw [List.length_append]; exact Nat.add_le_add_right hrn 1, ?_⟩
        · exact Nat.lt_of_lt_of_le (show rs.length < 100 by omega) (by decide)
        · intro r hr
          rcases List.mem_append.mp hr with m | m
          · exact hrs r m
          · rw [List.mem_singleton] at m
            exact ⟨_, List.getElem_mem hi2, m⟩
      rintro H2 ⟨s2, rs, hr2, hrn, hrs⟩
      have s12 := s1.trans s2
      refine ⟨_, rfl, _, rs.length, rfl, .inl ⟨_, SqL.of hr2, rfl⟩, _, _, rfl, rfl, _, rfl, ?_⟩
      by_cases c1 : 0 < rs.length
      · refine if_true_of (decide_eq_true (by omega)) ⟨_, rfl, q H2 D2 rs s12 hr2 (fun e => by rw [e] at c1; cases c1) (fun r hr => ?_) (by omega)⟩
        obtain ⟨g, hg, rfl⟩ := hrs r hr
        exact ⟨g.q, _, _, rfl, s12 _ _ (hp.ok g hg).1⟩
      · refine if_false_of (decide_eq_false (by omega)) ?_
        refine fun y1 dy1 h1 hd1 n1 => spInit_imp (make_fact T (n := 200) (a := 0) (b := 1) (by decide) (by decide) (by decide) (by decide) h1 hd1 n1) fun v1 H3 ⟨hv1, _, _, s3, _, _⟩ => ⟨hv1, ?_⟩
        refine ⟨_, rfl, ?_⟩
        refine fun y2 dy2 h2 hd2 n2 => spInit_imp (make_fact T (n := 200) (a := 0) (b := 1) (by decide) (by decide) (by decide) (by decide) h2 hd2 n2) fun v2 H4 ⟨hv2, _, _, s4, i4, _⟩ => ⟨hv2, ?_⟩
        refine ⟨p, gs, _, _, _, rfl, hp.same (s12.trans (s3.trans s4)), by omega, i4, fun z H5 t5 u5 s5 i5 => ?_⟩
        refine ⟨by show 2 ≤ sizeLine; decide, fun t1 h3 => ⟨by show 1 ≤ sizeLine; decide, fun l hl => ?_⟩⟩
        have s6 := Same.upd (o := .tup [.ref y1, z]) h3
        have s7 := Same.upd (o := .lst [.ref t1]) hl
        refine q _ l _ (s12.trans (s3.trans (s4.trans (s5.trans (s6.trans s7))))) upd_same (by simp) (fun r hr => ?_) (by show 1 ≤ 30; decide)
        rw [List.mem_singleton] at hr
        exact ⟨t1, _, _, hr, s7 _ _ upd_same⟩
end
end K11
set_option Elab.async false
set_option linter.all false
set_option maxRecDepth 100000
set_option maxHeartbeats 1000000
set_option exponentiation.threshold 100000
namespace K11
open PySem PySem.Spec PyProof.Rows L2 Fa Fb
abbrev CP (K : PySem.W.Frag) : Addr := He.ga K "InvalidPart"
abbrev CQ (K : PySem.W.Frag) : Addr := He.ga K "InvalidPoint"
abbrev CF (K : PySem.W.Frag) : Addr := He.ga K "Falling"
def ErrX (C : Addr) (fld : Str) (v : V) (H : Hp) (E : XK) : Prop := ∀ d, H d = none → E (.ref C) (some d) (upd H d (.xd [(fld, v)]))
/-- an item: the list at l of the amounts at a and b -/
def GdI (K : PySem.W.Frag) (H : Hp) (l : Addr) (g : Pg) : Prop := H l = some (.lst [.ref g.a, .ref g.b]) ∧ IsA K H (.ref g.a) g.t g.u 200 ∧ IsA K H (.ref g.b) g.t2 g.u2 200
theorem GdI.same {K : PySem.W.Frag} {H H' : Hp} {l : Addr} {g : Pg} (h : GdI K H l g) (s : Same H H') : GdI K H' l g := ⟨s _ _ h.1, h.2.1.same s, h.2.2.same s⟩
inductive BadI (K : PySem.W.Frag) (H : Hp) : V → Prop
  | nl {x : V} (t : Value) (ty : ∀ J, Same H J → TyX K J x t) (k : PySem.W.kitAny K t [.type "list", .type "tuple"] = some false) : BadI K H x
  | len {l : Addr} {ys : List V} (h : H l = some (.lst ys)) (n : ys.length ≠ 2) : BadI K H (.ref l)
  | b0 {l : Addr} {y z : V} (h : H l = some (.lst [y, z])) (b : ∀ J, Same H J → Bad K J y) : BadI K H (.ref l)
  | b1 {l : Addr} {y z : V} {t u : Int} (h : H l = some (.lst [y, z])) (a : IsA K H y t u 200) (b : ∀ J, Same H J → Bad K J z) : BadI K H (.ref l)
theorem BadI.same {K : PySem.W.Frag} {H H' : Hp} {x : V} (h : BadI K H x) (s : Same H H') : BadI K H' x := by
  cases h with
  | nl t ty k => exact .nl t (fun J sJ => ty J (s.trans sJ)) k
  | len h n => exact .len (s _ _ h) n
  | b0 h b => exact .b0 (s _ _ h) fun J sJ => b J (s.trans sJ)
  | b1 h a b => exact .b1 (s _ _ h) (a.same s) fun J sJ => b J (s.trans sJ)
/-- how a list of items ends: all good, or the first that is not -/
def TPEnd (K : PySem.W.Frag) (H : Hp) (xs : List V) (gs : List Pg) (E : XK) (all : Prop) : Prop :=
  (gs.length = xs.length ∧ all) ∨ (∃ y, xs[gs.length]? = some y ∧ BadI K H y ∧ ∀ J, Same H J → ErrX (CQ K) "value" y J E) ∨
  (∃ g l h, xs[gs.length]? = some (V.ref l) ∧ GdI K H l g ∧ 0 < gs.length ∧ gs[gs.length - 1]? = some h ∧ ¬ Rises h g ∧ ∀ J, Same H J → ErrX (CF K) "index" (.int (gs.length : Int)) J E)
structure TPOk (K : PySem.W.Frag) (H : Hp) (a : Addr) (xs : List V) (gs : List Pg) : Prop where
  seq : H a = some (.lst xs) ∨ H a = some (.tup xs)
  n : xs.length ≤ 20
  le : gs.length ≤ xs.length
  ok : ∀ (i : Nat) g, gs[i]? = some g → ∃ l, xs[i]? = some (V.ref l) ∧ GdI K H l g
  up : ∀ (i : Nat) g h, gs[i]? = some g → gs[i + 1]? = some h → Rises g h
def NotL (K : PySem.W.Frag) (H : Hp) (x : V) (E : XK) : Prop := ∃ t, (∀ J, Same H J → TyX K J x t) ∧ PySem.W.kitAny K t [.type "list", .type "tuple"] = some false ∧ ∀ J, Same H J → ErrX (CP K) "value" x J E
def spTP (K : PySem.W.Frag) : Sp := fun vs H Q E => ∃ x, vs = [x] ∧ (NotL K H x E ∨ ∃ a xs gs, x = .ref a ∧ TPOk K H a xs gs ∧ TPEnd K H xs gs E (∀ H' p ps, Same H H' → PtL K H' p ps → Q (.ref p) H'))
def SameV (g h : Pg) : Prop := g.t = h.t ∧ g.u = h.u ∧ g.t2 = h.t2 ∧ g.u2 = h.u2
/-- behind i items: the list at l -/
structure TPI (K : PySem.W.Frag) (H : Hp) (gs : List Pg) (l : Addr) (i : Nat) (H' : Hp) : Prop where
  s : Same H H'
  le : i ≤ gs.length
  new : H l = none
  pts : ∃ ps, PtL K H' l ps ∧ ps.length = i ∧ ∀ (j : Nat) g, ps[j]? = some g → ∃ h, gs[j]? = some h ∧ SameV g h
theorem TPI.same {K : PySem.W.Frag} {H : Hp} {gs : List Pg} {l : Addr} {i : Nat} {H' H'' : Hp} (h : TPI K H gs l i H') (s : Same H' H'') : TPI K H gs l i H'' := by
  obtain ⟨h1, h2, h3, ps, h4, h5, h6⟩ := h
  exact ⟨h1.trans s, h2, h3, ps, h4.same s, h5, h6⟩
theorem none_of {H H' : Hp} {p : Addr} (s : Same H H') (h : H' p = none) : H p = none := by
  cases e : H p with
  | none => rfl
  | some o =>
    rw [s _ _ e] at h
    cases h
def sTPb (K : PySem.W.Frag) (x : V) (xs : List V) (gs : List Pg) (H : Hp) : TS := fun D σ H' => ∃ (l : Addr) (i : Nat) (y : V) (v4 : Option V), σ = [some x, some (.ref l), some (.int (i : Int)), some y, v4] ∧ xs[i]? = some y ∧ TPI K H gs l i H' ∧
  ∀ v4' H'', TPI K H gs l (i + 1) H'' → D.nx [some x, some (.ref l), some (.int (i : Int)), some y, v4'] H''
theorem rises_sv {g g' h h' : Pg} (a : SameV g g') (b : SameV h h') : Rises g h ↔ Rises g' h' := by
  obtain ⟨a1, a2, a3, a4⟩ := a
  obtain ⟨b1, b2, b3, b4⟩ := b
  unfold Rises
  rw [a1, a2, a3, a4, b1, b2, b3, b4]
theorem PgOk.put {K : PySem.W.Frag} {H : Hp} {g : Pg} {l : Addr} {xs : List V} {o : HO} (hl : H l = some (.lst xs)) (h : PgOk K H g) : PgOk K (upd H l o) g := by
  obtain ⟨h1, ⟨pa, da, ea, ha, ra⟩, ⟨pb, db, eb, hb, rb⟩⟩ := h
  refine ⟨?_, ⟨pa, da, ea, ?_, ra⟩, ⟨pb, db, eb, ?_, rb⟩⟩
  · rw [upd_ne fun e => by rw [e, hl] at h1; cases h1]
    exact h1
  · rw [upd_ne fun e => by rw [e, hl] at ha; cases ha]
    exact ha
  · rw [upd_ne fun e => by rw [e, hl] at hb; cases hb]
    exact hb
theorem PtL.push {K : PySem.W.Frag} {H : Hp} {l : Addr} {ps : List Pg} {g : Pg} (h : PtL K H l ps) (hg : PgOk K H g) (hn : ps.length < 20) (hup : ∀ h', ps[ps.length - 1]? = some h' → Rises h' g) :
    PtL K (upd H l (.lst ((ps.map fun g => V.ref g.q) ++ [.ref g.q]))) l (ps ++ [g]) := by
  refine ⟨by rw [upd_same, List.map_append]; rfl, fun x hx => ?_, fun i a b ha hb => ?_, by rw [List.length_append]; exact hn⟩
  · rcases List.mem_append.mp hx with m | m
    · exact (h.ok x m).put h.l
    · rw [List.mem_singleton] at m
      subst m
      exact hg.put h.l
  · have li : i + 1 < (ps ++ [g]).length := (List.getElem?_eq_some_iff.mp hb).1
    rw [List.length_append, List.length_singleton] at li
    rw [List.getElem?_append_left (by omega)] at ha
    by_cases c : i + 1 < ps.length
    · rw [List.getElem?_append_left c] at hb
      exact h.up i a b ha hb
    · have ei : i + 1 = ps.length := by omega
      rw [List.getElem?_append_right (by omega), ei, Nat.sub_self] at hb
      cases hb
      exact hup a (by rw [← ei]; exact ha)
theorem kT {K : PySem.W.Frag} {A B : String} (h : kitB A B = some true) : PySem.W.kitOne K (.type A) (.type B) = some true := kit_ty h
theorem kF {K : PySem.W.Frag} {A B : String} (h : kitB A B = some false) : PySem.W.kitOne K (.type A) (.type B) = some false := kit_ty h
theorem ka_list {K : PySem.W.Frag} : PySem.W.kitAny K (.type "list") [.type "list", .type "tuple"] = some true := by
  unfold PySem.W.kitAny
  rw [kT (by decide +kernel)]
theorem ka_tuple {K : PySem.W.Frag} : PySem.W.kitAny K (.type "tuple") [.type "list", .type "tuple"] = some true := by
  unfold PySem.W.kitAny
  rw [kF (by decide +kernel)]
  unfold PySem.W.kitAny
  rw [kT (by decide +kernel)]
theorem ka_no {K : PySem.W.Frag} {T : String} (h1 : kitB T "list" = some false) (h2 : kitB T "tuple" = some false) : PySem.W.kitAny K (.type T) [.type "list", .type "tuple"] = some false := by
  unfold PySem.W.kitAny
  rw [kit_ty h1]
  unfold PySem.W.kitAny
  rw [kit_ty h2]
  rfl
theorem atI_last {α : Type} {xs : List α} {v : α} (h : xs[xs.length - 1]? = some v) : atI xs (-1) = some v := by
  have hl : 0 < xs.length := by
    rcases Nat.eq_zero_or_pos xs.length with e | e
    · have : xs = [] := List.eq_nil_of_length_eq_zero e
      subst this
      cases h
    · exact e
  have e : ixN xs.length (-1) = some (xs.length - 1) := by
    unfold ixN
    rw [if_neg (by decide), if_pos (by omega)]
    congr 1
    omega
  unfold atI
  rw [e]
  exact h
theorem pss_never {X : Cx} {b : List Stmt} : PSs X b (fun _ _ _ => False) := ⟨fun _ _ _ _ _ _ h => h.elim⟩
theorem walk_enumT {K : PySem.W.Frag} {a : Addr} {xs : List V} : Walk (Fp.IteT K a) xs.length (fun H => SqT K H a xs) (YPair (fun i => some (.int (i : Nat))) (fun i => xs[i]?)) := by
  refine ⟨fun i _ hi q => ⟨xs, xs[i], q, by simp [hi]⟩, fun _ q => ⟨xs, q, Nat.le_refl _⟩, fun i H v H' _ q y => ?_⟩
  obtain ⟨T, x, h1, h2, h3, h4⟩ := y
  exact ⟨T, .int (i : Nat), x, h1, h2, h3, rfl, h4 xs q⟩
abbrev sTP : Stmt := top 18
theorem scTP : FnScope ["points", "found", "index", "item", "point"] ["points"] (defScope sTP) := ⟨rfl, rfl, rfl, by decide +kernel, rfl, by decide +kernel, by decide +kernel⟩
section
variable {P : Program} {w : World} {K : PySem.W.Frag} {mg : Str → Option Value} {base : Heap} {f fL fA fI fR fP fQ fF : Addr} {fd fdL fdA fdI fdR : FuncData} {qp tp qq tq qf tf : Str}
theorem ok_tp (F : FnP K "_told_points" sTP f fd) (T : AF K mg) (mL : mg "len" = none) (mE : mg "enumerate" = none) (LS : Fn P w K mg base "is_listing" 1 ["value"] (spLs K) fL fdL) (IA : Fn P w K mg base "is_amount" 2 ["value"] (spIsA K) fA fdA) (AS : Fn P w K mg base "as_amount" 6 ["value"] (spAs K) fI fdI)
    (RS : Fn P w K mg base "_rises" 8 ["one", "other"] (spRise K) fR fdR) (gP : mg "InvalidPart" = some (.ref (CP K))) (gQ : mg "InvalidPoint" = some (.ref (CQ K))) (gF : mg "Falling" = some (.ref (CF K)))
    (XP : Xb.Txt P.main.file K qp "value" tp (CP K) fP) (XQ : Xb.Txt P.main.file K qq "value" tq (CQ K) fQ) (XF : Xb.Txt P.main.file K qf "index" tf (CF K) fF) (htop : (P.main.scope.names.lookup ("super" : Str)).isSome = false) :
    FnOk P w K mg base (L2.CX P w) 9 f fd ["points"] (spTP K) := by
  refine F.ok scTP (fun vs H Q E h => ?_) (fun cdv A outer s H vs Q E hr h => ?_)
  · obtain ⟨x, rfl, _⟩ := h
    rfl
  · obtain ⟨x, rfl, h⟩ := h
    have hu : (A.deeper (envOfC "_told_points" (defScope sTP) s.heap.objs.size f cdv)).units + 64 < cLine := by
      have := hr.un
      omega
    have hr1 := hr.mono (show 1 ≤ 8 by decide)
    have hr2 := hr.mono (show 2 ≤ 8 by decide)
    have hr3 := hr.mono (show 3 ≤ 8 by decide)
    have hr5 := hr.mono (show 5 ≤ 8 by decide)
    have hr6 := hr.mono (show 6 ≤ 8 by decide)
    have hr7 := hr.mono (show 7 ≤ 8 by decide)
    have hr8 := hr.mono (show 8 ≤ 8 by decide)

    rcases h with ⟨t, ty, kt, er⟩ | ⟨a, xs, gs, rfl, tk, te⟩
    · refine ⟨_, pss_cons (ps_if (pt_not (pt_val (pe_call LS.ok hr1 rfl LS.g LS.k LS.b .nil passL (pa_cons (pv 0) pa_nil)))) (pss_one (Xb.ps_raiseX (W := fun cls d _ H => E cls d H) rfl XP gP htop hr1 (takes_of rfl rfl rfl rfl) (pa_cons (pv 0) pa_nil))) pss_nil) pss_never, ?_⟩
      exact ⟨_, rfl, x, t, false, rfl, ty, kt, fun H1 s1 => ⟨_, rfl, iteT ⟨_, rfl, _, rfl, fun d hd => er H1 s1 d hd⟩⟩⟩
    · generalize hx : V.ref a = x
      refine ⟨_, (pss_cons (ps_if (pt_not (pt_val (pe_call LS.ok hr1 rfl LS.g LS.k LS.b .nil passL (pa_cons (pv 0) pa_nil)))) (pss_one (Xb.ps_raiseX (W := fun cls d _ H => E cls d H) rfl XP gP htop hr1 (takes_of rfl rfl rfl rfl) (pa_cons (pv 0) pa_nil))) pss_nil)
      (pss_cons (ps_set (i := 1) scTP.nd rfl (Or.inl rfl) (pe_lst pa_nil))
      (pss_cons (ps_for (passes_of rfl) rfl (Fp.pi_or (pi_enum rfl mE (pa_cons (pv 0) pa_nil)) (Fp.pi_enumT rfl mE (pa_cons (pv 0) pa_nil))) (pg_tup (by rfl) (pgs_cons (pg_name (i := 2) scTP.nd rfl (Or.inl rfl)) (pgs_cons (pg_name (i := 3) scTP.nd rfl (Or.inl rfl)) pgs_nil)))
      (pss_imp (S := sTPb K x xs gs H) (pss_cons (ps_if (PW.pt (pw_or (pt_not (pt_val (pe_call LS.ok hr1 rfl LS.g LS.k LS.b .nil passL (pa_cons (pv 3) pa_nil)))) (pw_or (pt_cmpR op_ne (pe_callB call_len rfl mL PySem.boot_len (pa_cons (pv 3) pa_nil)) pe_int (nomark _)) (pw_or (pt_not (pt_val (pe_call IA.ok hr2 rfl IA.g IA.k IA.b .nil passL (pa_cons (pe_ix ix_list (pv 3) pe_int (fun _ _ => rfl)) pa_nil)))) (pw_or1 (pt_not (pt_val (pe_call IA.ok hr2 rfl IA.g IA.k IA.b .nil passL (pa_cons (pe_ix ix_list (pv 3) pe_int (fun _ _ => rfl)) pa_nil))))))))) (pss_one (Xb.ps_raiseX (W := fun cls d _ H => E cls d H) rfl XQ gQ htop hr1 (takes_of rfl rfl rfl rfl) (pa_cons (pv 3) pa_nil))) pss_nil)
      (pss_cons (ps_set (i := 4) scTP.nd rfl (Or.inl rfl) (pe_tup (pa_cons (pe_call AS.ok hr6 rfl AS.g AS.k AS.b .nil passL (pa_cons (pe_ix ix_list (pv 3) pe_int (fun _ _ => rfl)) pa_nil)) (pa_cons (pe_call AS.ok hr6 rfl AS.g AS.k AS.b .nil passL (pa_cons (pe_ix ix_list (pv 3) pe_int (fun _ _ => rfl)) pa_nil)) pa_nil))))
      (pss_cons (ps_if (PW.pt (pw_and (pt_cmpR op_gt (pv 2) pe_int (nomark _)) (pw_and1 (pt_not (pt_val (pe_call RS.ok hr rfl RS.g RS.k RS.b .nil passL (pa_cons (pe_ix ix_list (pv 1) (pe_un un_neg pe_int) (fun _ _ => rfl)) (pa_cons (pv 4) pa_nil)))))))) (pss_one (Xb.ps_raiseX (W := fun cls d _ H => E cls d H) rfl XF gF htop hr1 (takes_of rfl rfl rfl rfl) (pa_cons (pv 2) pa_nil))) pss_nil)
      (pss_one (ps_expr (pe_bm PySem.F.plainAttrs_list PySem.F.slot_list_append PySem.F.type_list_append mt_append (pv 1) (pa_cons (pv 4) pa_nil))))))) ?body))
      (pss_one (ps_ret (pv 1)))))), ?_⟩
      case body =>
        subst hx
        rintro D σ H1 ⟨l, i, y, v4, rfl, hy, ⟨s1, le, lnew, ps, hps, pn, psv⟩, k⟩
        have r2 : 2 ≤ sizeLine := by decide
        have hi20 : i < 20 := by
          have := (List.getElem?_eq_some_iff.mp hy).1
          have := tk.n
          omega
        have cases : (∃ l0 g, y = .ref l0 ∧ GdI K H l0 g ∧ ((i < gs.length ∧ ∃ h, gs[i]? = some h ∧ SameV g h ∧ ∀ h', gs[i - 1]? = some h' → 0 < i → Rises h' h) ∨
            (0 < i ∧ ∃ h', gs[i - 1]? = some h' ∧ ¬ Rises h' g ∧ ∀ J, Same H J → ErrX (CF K) "index" (.int (i : Int)) J E))) ∨ (BadI K H y ∧ ∀ J, Same H J → ErrX (CQ K) "value" y J E) := by
          rcases Nat.lt_or_ge i gs.length with c | c
          · have e : gs[i]? = some gs[i] := List.getElem?_eq_getElem c
            obtain ⟨l0, h1, h2⟩ := tk.ok i _ e
            rw [hy] at h1
            cases h1
            refine .inl ⟨l0, _, rfl, h2, .inl ⟨c, _, e, ⟨rfl, rfl, rfl, rfl⟩, fun h' eh h0 => ?_⟩⟩
            exact tk.up (i - 1) _ _ eh (by rw [Nat.sub_add_cancel h0]; exact e)
          · have ei : i = gs.length := by omega
            rcases te with ⟨e, _⟩ | ⟨y', hy', bad, er⟩ | ⟨g, l0, h', hy', gd, h0, eh, nr, er⟩
            · have := (List.getElem?_eq_some_iff.mp hy).1
              omega
            · rw [← ei, hy] at hy'
              cases hy'
              exact .inr ⟨bad, er⟩
            · rw [← ei] at hy' h0 eh er
              rw [hy] at hy'
              cases hy'
              exact .inl ⟨l0, g, rfl, gd, .inr ⟨h0, h', eh, nr, er⟩⟩
        rcases cases with ⟨l0, g, rfl, gd, out⟩ | ⟨bad, er⟩
        · have gd1 := gd.same s1
          refine ⟨_, rfl, _, .type "list", true, rfl, fun J sJ => .base (.lst (sJ _ _ gd1.1)), ka_list, fun H2 s2 => ⟨_, rfl, iteF ?_⟩⟩
          have gd2 := gd1.same s2
          have i0 : ∀ x y : V, atI [x, y] 0 = some x := fun _ _ => rfl
          have i1 : ∀ x y : V, atI [x, y] 1 = some y := fun _ _ => rfl
          obtain ⟨hl2, ia, ib⟩ := id gd2
          obtain ⟨pga, dga, ega, hga, _⟩ := id ia
          obtain ⟨pgb, dgb, egb, hgb, _⟩ := id ib
          cases ega
          cases egb
          refine ⟨_, rfl, _, _, rfl, .inl ⟨_, SqL.of hl2, rfl⟩, rfl, _, rfl, if_false_of (by rfl) ?_⟩
          refine ⟨_, rfl, l0, _, _, _, rfl, rfl, SqL.of hl2, i0 _ _, _, .ref (CA K), true, false, rfl, T.ty hga, T.kS, T.wh hga, _, rfl, iteF ?_⟩
          refine ⟨_, rfl, l0, _, _, _, rfl, rfl, SqL.of hl2, i1 _ _, _, .ref (CA K), true, false, rfl, T.ty hgb, T.kS, T.wh hgb, _, rfl, iteF ?_⟩
          refine ⟨_, rfl, l0, _, _, _, rfl, rfl, SqL.of hl2, i0 _ _, _, rfl, .inr ⟨_, _, _, .inl ia, fun ya H3 s3 iya => ?_⟩⟩
          refine ⟨_, rfl, l0, _, _, _, rfl, rfl, SqL.of (s3 _ _ hl2), i1 _ _, _, rfl, .inr ⟨_, _, _, .inl (ib.same s3), fun yb H4 s4 iyb => ⟨r2, fun q0 hq0 => ?_⟩⟩⟩
          obtain ⟨pya, dya, eya, hya, _⟩ := id iya
          obtain ⟨pyb, dyb, eyb, hyb, _⟩ := id iyb
          cases eya
          cases eyb
          have s5 := Same.upd (o := .tup [.ref pya, .ref pyb]) hq0
          have s15 : Same H1 _ := s2.trans (s3.trans (s4.trans s5))
          have pg : PgOk K (upd H4 q0 (.tup [.ref pya, .ref pyb])) ⟨q0, pya, pyb, g.t, g.u, g.t2, g.u2⟩ := ⟨upd_same, iya.same (s4.trans s5), iyb.same s5⟩
          generalize upd H4 q0 (.tup [.ref pya, .ref pyb]) = H5 at s5 s15 pg
          have hp5 := hps.same s15
          have app : i < gs.length → (∃ h, gs[i]? = some h ∧ SameV g h) → (∀ h', ps[ps.length - 1]? = some h' → Rises h' ⟨q0, pya, pyb, g.t, g.u, g.t2, g.u2⟩) → ∀ H6, Same H5 H6 → TPI K H gs l (i + 1) (upd H6 l (.lst ((ps.map fun g => V.ref g.q) ++ [.ref q0]))) := fun hi ⟨h, eh, sv⟩ up H6 s6 => by
            refine ⟨same_put (s1.trans (s15.trans s6)) lnew, hi, lnew, _, (hp5.same s6).push (pg.same s6) (by omega) up, by rw [List.length_append, pn]; rfl, fun j g' hj => ?_⟩
            rcases Nat.lt_or_ge j ps.length with c | c
            · rw [List.getElem?_append_left c] at hj
              exact psv j g' hj
            · have ej : j = i := by
                have := (List.getElem?_eq_some_iff.mp hj).1
                rw [List.length_append, List.length_singleton] at this
                omega
              rw [List.getElem?_append_right c, ej, pn, Nat.sub_self] at hj
              cases hj
              exact ⟨h, by rw [ej]; exact eh, sv⟩
          refine ⟨_, rfl, _, _, rfl, rfl, _, rfl, ?_⟩
          by_cases c0 : 0 < i
          · refine if_true_of (decide_eq_true (by omega)) ?_
            have el : ps[ps.length - 1]? = some ps[ps.length - 1] := List.getElem?_eq_getElem (by omega)
            have ol := hp5.ok _ (List.getElem_mem (show ps.length - 1 < ps.length by omega))
            obtain ⟨hv, ehv, svl⟩ := psv _ _ el
            rw [pn] at ehv
            refine ⟨_, rfl, _, rfl, l, _, _, _, rfl, rfl, SqL.of hp5.l, atI_last (by rw [List.length_map, List.getElem?_map, el]; rfl), _, rfl, _, ⟨q0, pya, pyb, g.t, g.u, g.t2, g.u2⟩, rfl, ol, pg, fun H6 s6 => ⟨_, rfl, ?_⟩⟩
            generalize ps[ps.length - 1] = last at el ol svl
            rcases out with ⟨hi, h, eh, sv, ris⟩ | ⟨_, h', eh', nr, er⟩
            · have rr : Rises last ⟨q0, pya, pyb, g.t, g.u, g.t2, g.u2⟩ := (rises_sv svl (show SameV ⟨q0, pya, pyb, g.t, g.u, g.t2, g.u2⟩ h from sv)).mpr (ris hv ehv c0)
              refine if_false_of (by
                have r1 := rr.1
                have r2 := rr.2
                rw [decide_eq_true r1, decide_eq_true r2]
                rfl) ?_
              refine ⟨_, rfl, .inl ⟨rfl, _, SqL.of (hp5.same s6).l⟩, _, rfl, l, _, _, rfl, rfl, (hp5.same s6).l, ?_, ?_⟩
              · rw [List.length_map]
                exact Nat.lt_of_lt_of_le (show ps.length < 100 by omega) (by decide)
              · exact k _ _ (app hi ⟨h, eh, sv⟩ (fun h' e' => by rw [el] at e'; cases e'; exact rr) H6 s6)
            · rw [ehv] at eh'
              cases eh'
              have nn : ¬ Rises last ⟨q0, pya, pyb, g.t, g.u, g.t2, g.u2⟩ := fun z => nr ((rises_sv svl (show SameV ⟨q0, pya, pyb, g.t, g.u, g.t2, g.u2⟩ g from ⟨rfl, rfl, rfl, rfl⟩)).mp z)
              refine if_true_of (by
                by_cases a1 : last.t * g.u < g.t * last.u
                · have a2 : ¬ last.t2 * g.u2 < g.t2 * last.u2 := fun z => nn ⟨a1, z⟩
                  rw [decide_eq_false a2, Bool.and_false]
                  rfl
                · rw [decide_eq_false a1, Bool.false_and]
                  rfl) ?_
              exact ⟨_, rfl, _, rfl, fun d hd => er _ (s1.trans (s15.trans s6)) d hd⟩
          · refine if_false_of (decide_eq_false (by omega)) ?_
            rcases out with ⟨hi, h, eh, sv, ris⟩ | ⟨h0, _⟩
            · refine ⟨_, rfl, .inl ⟨rfl, _, SqL.of hp5.l⟩, _, rfl, l, _, _, rfl, rfl, hp5.l, ?_, ?_⟩
              · rw [List.length_map]
                exact Nat.lt_of_lt_of_le (show ps.length < 100 by omega) (by decide)
              · refine k _ _ (app hi ⟨h, eh, sv⟩ (fun h' e' => ?_) H5 (Same.refl _))
                have := (List.getElem?_eq_some_iff.mp e').1
                omega
            · exact absurd h0 c0
        · have bad1 := bad.same s1
          cases bad1 with
          | nl t ty kt => exact ⟨_, rfl, _, t, false, rfl, ty, kt, fun H2 s2 => ⟨_, rfl, iteT ⟨_, rfl, _, rfl, fun d hd => er _ (s1.trans s2) d hd⟩⟩⟩
          | len h n =>
            refine ⟨_, rfl, _, .type "list", true, rfl, fun J sJ => .base (.lst (sJ _ _ h)), ka_list, fun H2 s2 => ⟨_, rfl, iteF ?_⟩⟩
            refine ⟨_, rfl, _, _, rfl, .inl ⟨_, SqL.of (s2 _ _ h), rfl⟩, rfl, _, rfl, if_true_of ?_ ⟨_, rfl, _, rfl, fun d hd => er _ (s1.trans s2) d hd⟩⟩
            rw [decide_eq_false fun z => n (by have := V.int.inj z; omega)]
            rfl
          | b0 h b =>
            refine ⟨_, rfl, _, .type "list", true, rfl, fun J sJ => .base (.lst (sJ _ _ h)), ka_list, fun H2 s2 => ⟨_, rfl, iteF ?_⟩⟩
            obtain ⟨Ty, hT, ty, wh⟩ := b H2 s2
            refine ⟨_, rfl, _, _, rfl, .inl ⟨_, SqL.of (s2 _ _ h), rfl⟩, rfl, _, rfl, if_false_of (by rfl) ?_⟩
            exact ⟨_, rfl, _, _, _, _, rfl, rfl, SqL.of (s2 _ _ h), rfl, _, .type Ty, false, false, rfl, ty, T.kT Ty hT, wh, _, rfl, iteT ⟨_, rfl, _, rfl, fun d hd => er _ (s1.trans s2) d hd⟩⟩
          | b1 h ia b =>
            refine ⟨_, rfl, _, .type "list", true, rfl, fun J sJ => .base (.lst (sJ _ _ h)), ka_list, fun H2 s2 => ⟨_, rfl, iteF ?_⟩⟩
            obtain ⟨Ty, hT, ty, wh⟩ := b H2 s2
            obtain ⟨pga, dga, ega, hga, _⟩ := id (ia.same s2)
            cases ega
            refine ⟨_, rfl, _, _, rfl, .inl ⟨_, SqL.of (s2 _ _ h), rfl⟩, rfl, _, rfl, if_false_of (by rfl) ?_⟩
            refine ⟨_, rfl, _, _, _, _, rfl, rfl, SqL.of (s2 _ _ h), rfl, _, .ref (CA K), true, false, rfl, T.ty hga, T.kS, T.wh hga, _, rfl, iteF ?_⟩
            exact ⟨_, rfl, _, _, _, _, rfl, rfl, SqL.of (s2 _ _ h), rfl, _, .type Ty, false, false, rfl, ty, T.kT Ty hT, wh, _, rfl, iteT ⟨_, rfl, _, rfl, fun d hd => er _ (s1.trans s2) d hd⟩⟩
      subst hx
      have tyX : ∃ t, (∀ J, Same H J → TyX K J (.ref a) t) ∧ PySem.W.kitAny K t [.type "list", .type "tuple"] = some true := by
        rcases tk.seq with h | h
        · exact ⟨.type "list", fun J sJ => .base (.lst (sJ _ _ h)), ka_list⟩
        · exact ⟨.type "tuple", fun J sJ => .base (.tup (sJ _ _ h)), ka_tuple⟩
      obtain ⟨t, ty, kt⟩ := tyX
      refine ⟨_, rfl, _, t, true, rfl, ty, kt, fun H1 s1 => ⟨_, rfl, iteF ⟨by show 0 ≤ sizeLine; decide, fun l hl => ?_⟩⟩⟩
      have sl : Same H (upd H1 l (.lst [])) := s1.trans (Same.upd hl)
      have lnew := none_of s1 hl
      have inv0 : TPI K H gs l 0 (upd H1 l (.lst [])) := ⟨sl, Nat.zero_le _, lnew, [], ⟨upd_same, by simp, by simp, Nat.zero_le _⟩, rfl, by simp⟩
      have stop : ∀ H', TPI K H gs l xs.length H' → Q (.ref l) H' := fun H' inv => by
        have e : gs.length = xs.length := Nat.le_antisymm tk.le inv.le
        obtain ⟨ps, hps, _⟩ := inv.pts
        rcases te with ⟨_, q⟩ | ⟨y, hy, _⟩ | ⟨g, l0, h', hy, _⟩
        · exact q H' l ps inv.s hps
        · have := (List.getElem?_eq_some_iff.mp hy).1
          omega
        · have := (List.getElem?_eq_some_iff.mp hy).1
          omega
      rcases tk.seq with h | h
      · refine .inl ⟨_, rfl, a, xs, rfl, SqL.of (sl _ _ h), ?_⟩
        refine for_it (walk_enum (K := K) (a := a) (xs := xs)) (fun i σ H' => ∃ v2 v3 v4 : Option V, σ = [some (.ref a), some (.ref l), v2, v3, v4] ∧ TPI K H gs l i H') ⟨_, _, _, rfl, inv0⟩ (fun i σ H' _ ⟨_, _, _, _, inv⟩ => SqL.of (inv.s _ _ h)) ?_ ?_
        · rintro i x σ H2 H3 hi ⟨v2, v3, v4, rfl, inv⟩ ⟨T1, x1, y1, rfl, hT, rfl, e1, e2⟩
          cases e1
          exact ⟨T1, _, rfl, SqT.of upd_same, rfl, _, _, rfl, _, _, rfl, rfl, l, i, y1, _, rfl, e2, inv.same (Same.upd hT), fun v4' H'' inv' => ⟨_, _, _, rfl, inv'⟩⟩
        · rintro σ H2 ⟨v2, v3, v4, rfl, inv⟩
          exact ⟨_, rfl, stop H2 inv⟩
      · refine .inr ⟨_, rfl, a, xs, rfl, SqT.of (sl _ _ h), ?_⟩
        refine for_it (walk_enumT (K := K) (a := a) (xs := xs)) (fun i σ H' => ∃ v2 v3 v4 : Option V, σ = [some (.ref a), some (.ref l), v2, v3, v4] ∧ TPI K H gs l i H') ⟨_, _, _, rfl, inv0⟩ (fun i σ H' _ ⟨_, _, _, _, inv⟩ => SqT.of (inv.s _ _ h)) ?_ ?_
        · rintro i x σ H2 H3 hi ⟨v2, v3, v4, rfl, inv⟩ ⟨T1, x1, y1, rfl, hT, rfl, e1, e2⟩
          cases e1
          exact ⟨T1, _, rfl, SqT.of upd_same, rfl, _, _, rfl, _, _, rfl, rfl, l, i, y1, _, rfl, e2, inv.same (Same.upd hT), fun v4' H'' inv' => ⟨_, _, _, rfl, inv'⟩⟩
        · rintro σ H2 ⟨v2, v3, v4, rfl, inv⟩
          exact ⟨_, rfl, stop H2 inv⟩
end

end K11
set_option Elab.async false
set_option linter.all false
set_option maxRecDepth 100000
set_option maxHeartbeats 4000000
/-! isinstance of a caught error of a class of one's own, the error has a dict. -/
namespace Xe
open PySem PySem.W PySem.Spec PySem.Calls PyProof.Rows
section
variable {prog : Program} {w : World} {A : Around} {E : Value → Shared → Prop} {s : Shared} {K : Frag} {x D : Addr} {ox od : Obj}
theorem classD {Q : Option Value → Shared → Prop} (ga : findIn K (.ref D) "__getattribute__" = some (some (.builtin "BaseException.__getattribute__"))) (gt : findIn K (.ref D) "__getattr__" = some none)
    (sb : subIn K (.ref D) (.type "BaseException") = some true) (hd : hasDictIn K D = true) (c1 : findIn K (.ref D) "__class__" = some (some (.builtin "object.__class__")))
    (c2 : specialIn K (.builtin "object.__class__") "__get__" = some (some (.builtin "getset_descriptor.__get__"))) (c3 : takesIn K (.builtin "object.__class__") = some true) (c4 : mroIn K D (.type "object") = some true)
    (X : K.In s.heap) (I : InstAt s.heap x ox D (some od)) (q : Q (some (.ref D)) { s with toks := s.toks + 1 }) : wpAny (model prog w) A (getAttr? (.ref x) "__class__") Q E s := by
  obtain ⟨cd, hcd, _⟩ := any_some hd
  have fo : findObj K D (some od) "__class__" = some (.bind (.builtin "getset_descriptor.__get__") (.builtin "object.__class__")) := findObj_data (by rw [hcd]; rfl) c1 c2 c3
  obtain ⟨hp, g, d, t, os⟩ := s
  have t0 := I.type (M := model prog w)
  have t1 := looks_findIn (M := model prog w) X ga
  have t2 := looks_findIn (M := model prog w) X gt
  have t3 := looks_find (M := model prog w) X I fo
  have isB : Looks (model prog w) hp (isInstance (.ref x) (.type "BaseException")) true := t0.andThen (looks_subIn X sb)
  have n0 : (false && onTheHeap (Value.builtin "BaseException.__getattribute__")) = false := rfl
  have n2 : (Value.builtin "BaseException.__getattribute__" == Value.builtin "object.__getattribute__") = false := by decide +kernel
  have n1 : (onTheHeap (Value.ref D) && Value.builtin "BaseException.__getattribute__" == Value.builtin "object.__getattribute__") = false := by
    rw [n2]
    rfl
  unfold getAttr? getAttrBy? getAttrBy
  refine wpAny_bind (wpAny_mkText (wpAny_bind (wpAny_attempt (wpAny_holding (wpAny_bind (t0.at (wpAny_bind (t1.at ?_))))))))
  show wpAny _ _ (if (onTheHeap (Value.ref D) && Value.builtin "BaseException.__getattribute__" == Value.builtin "object.__getattribute__") = true then _ else _) _ _ _
  rw [n1, if_neg Bool.false_ne_true]
  unfold getAttrByItsOwn hookBefore
  refine wpAny_bind ?_
  rw [if_pos (show onTheHeap (Value.ref D) = true from rfl)]
  refine t2.at ?_
  refine wpAny_bind (wpAny_attempt (wpAny_holding ?_))
  unfold callGetattribute
  rw [n0, if_neg Bool.false_ne_true]
  unfold boundAndCalled
  rw [PySem.F.excAttr_ValueError.ga.bind (.ref x)]
  refine wpAny_bind (wpAny_pure ?_)
  show wpAny _ _ (call (.builtin "BaseException.__getattribute__") [.ref x, .str "__class__" t]) _ _ _
  refine wpAny_call (codeAny_call_builtin PySem.F.excAttr_ValueError.ga.plain PySem.F.entry_bexc_ga ?_)
  refine @check_slot (model prog w) _ _ ⟨hp, g, d, t + 1, os⟩ "BaseException.__getattribute__" "BaseException" "__getattribute__" (.ref x) [.str "__class__" t] [] _ (by decide +kernel) (by decide +kernel) isB (PySem.F.args_bexc_ga (.ref x) (.str "__class__" t)) ?_
  unfold Builtin.«object.__getattribute__»
  refine wpAny_bind (wpAny_of_eq (a := ((Value.ref x : Value), [Value.str "__class__" t])) (by first | rfl | (simp only [slotArgs]; rfl)) ?_)
  refine wpAny_bind (wpAny_pure (wpAny_bind (t0.at (wpAny_bind (t3.at ?_)))))
  show wpAny _ _ (holding [Value.builtin "object.__class__"] (call (.builtin "getset_descriptor.__get__") [.builtin "object.__class__", .ref x, .ref D]) >>= ret) _ _ _
  refine wpAny_bind (wpAny_holding (wpAny_call (class_get (s := ⟨hp, g, d, t + 1, os⟩) (ox := ox) (od := some od) X I c4 ?_)))
  refine wpAny_pure ?_
  show wpAny _ _ (handedOut (.ref D)) _ _ _
  rw [handedOut_of (v := .ref D) rfl]
  first
    | exact wpAny_pure (wpAny_pure q)
    | exact wpAny_pure q
    | exact wpAny_pure (wpAny_bind (wpAny_pure (wpAny_pure q)))
theorem kitD (ga : findIn K (.ref D) "__getattribute__" = some (some (.builtin "BaseException.__getattribute__"))) (gt : findIn K (.ref D) "__getattr__" = some none) (sb : subIn K (.ref D) (.type "BaseException") = some true) (hd : hasDictIn K D = true)
    (c1 : findIn K (.ref D) "__class__" = some (some (.builtin "object.__class__"))) (c2 : specialIn K (.builtin "object.__class__") "__get__" = some (some (.builtin "getset_descriptor.__get__"))) (c3 : takesIn K (.builtin "object.__class__") = some true) (c4 : mroIn K D (.type "object") = some true) :
    KitX K (.ref x) (.ref D) (fun h => InstAt h x ox D (some od)) where
  ty := fun _ _ _ I => I.type
  it := fun _ _ X _ => by
    obtain ⟨cd, hcd, _⟩ := any_some hd
    unfold clsIn at hcd
    split at hcd
    · rename_i _ _ _ _ ho
      intro _ _ _ _ k q
      unfold isType loadHead
      exact wpAny_bind (wpAny_loadPart (k _ _ (X _ _ ho)) (wpAny_pure q))
    · cases hcd
  ne := fun h tp dd its n sl X htp => by
    obtain ⟨cd, hcd, _⟩ := any_some hd
    refine Bool.eq_false_iff.mpr fun q => ?_
    have e : D = tp := Value.ref.inj (beq_iff_eq.mp q)
    subst e
    unfold clsIn at hcd
    split at hcd
    · rename_i _ _ _ _ ho
      have z := (X _ _ ho).symm.trans htp
      cases z
    · cases hcd
  ca := fun X I k => classD ga gt sb hd c1 c2 c3 c4 X I k
end
end Xe
namespace Xe
open PySem PySem.Spec PyProof.Rows L2
def rIsD (K : PySem.W.Frag) (D a : Addr) (cls : Value) (d : Option Addr) : List V → Hp → VK → Prop := fun xs H Q => ∃ (c : V) (cv : Value) (b : Bool) (dd : Addr) (F : Str) (v : V), xs = [.ref a, c] ∧ cls = .ref D ∧ (∀ u, RelV c u → u = cv) ∧ d = some dd ∧ H dd = some (.xd [(F, v)]) ∧ PySem.W.kitOne K (.ref D) cv = some b ∧ Q (.bl b) H
theorem call_isD {X : Cx} {a D : Addr} {d : Option Addr} {oe : Obj} {pn : List (Addr × Obj)} {cls : Value} (C : ExcC X.K D) (hz : Zc cls d oe) (hf : ∃ vs, oe.data = .fields vs) : CallR (X.suite a ((a, oe) :: pn)) (.builtin "isinstance") (rIsD X.K D a cls d) := by
  intro pins s σ H xs us Q I r h
  obtain ⟨c, cv, b, dd, F, v, rfl, ec0, hcv, ed, ea, e, q⟩ := h
  subst ed
  subst ec0
  cases r with
  | cons rx rr =>
    cases rr with
    | cons rt rr =>
      cases rr
      cases rx
      have ec := hcv _ rt
      subst ec
      obtain ⟨hget, _⟩ := I.pin (a, oe) (List.mem_append.mpr (.inl List.mem_cons_self))
      obtain ⟨vs, hv⟩ := hf
      have hx : ObjOk X.prog X.w H s.heap dd (.xd [(F, v)]) := I.hok dd _ ea
      obtain ⟨mA, hns, hr⟩ := hx
      obtain ⟨od, ho, hl⟩ := lookIn_ns hns
      have J : PySem.W.InstAt s.heap a oe D (some od) := ⟨hget, hz.1, by unfold PySem.W.notCls; rw [hv] <;> rfl, by rw [hz.2]; exact ho⟩
      exact PySem.W.kia_one (kitD C.hg C.hk C.hs C.hd C.ha C.hn C.ht C.hm) I.kIn J e (fun z => nomatch z) fun tk => ⟨.bl b, H, I.kept (t' := tk) fun _ _ z => z, rfl, q⟩
end Xe
set_option Elab.async false
set_option linter.all false
set_option maxRecDepth 100000
set_option maxHeartbeats 1000000
set_option exponentiation.threshold 100000
namespace K11
open PySem PySem.Spec PyProof.Rows L2 Fa Fb
abbrev CM (K : PySem.W.Frag) : Addr := He.ga K "TempoMap"
abbrev aM (K : PySem.W.Frag) : Addr := He.ma K (CM K) "__init__"
structure MF (K : PySem.W.Frag) (mg : Str → Option Value) : Prop where
  cl : Cls K (CM K)
  n1 : NoAttr K (CM K) "_points"
  n2 : NoAttr K (CM K) "_turned"
  make : Mk K (CM K) (aM K)
  g : mg "TempoMap" = some (.ref (CM K))
abbrev sTMI : Stmt := inClass (top 17) 0
abbrev sPts : Stmt := inClass (top 17) 5
theorem scTMI : FnScope ["self", "points"] ["self", "points"] (defScope sTMI) := ⟨rfl, rfl, rfl, by decide +kernel, rfl, by decide +kernel, by decide +kernel⟩
theorem scPts : FnScope ["self"] ["self"] (defScope sPts) := ⟨rfl, rfl, rfl, by decide +kernel, rfl, by decide +kernel, by decide +kernel⟩
theorem TPEnd.imp {K : PySem.W.Frag} {H : Hp} {xs : List V} {gs : List Pg} {E : XK} {A B : Prop} (h : TPEnd K H xs gs E A) (f : A → B) : TPEnd K H xs gs E B := by
  rcases h with ⟨a, b⟩ | h | h
  · exact .inl ⟨a, f b⟩
  · exact .inr (.inl h)
  · exact .inr (.inr h)
abbrev mFl (q r : Addr) : List (Str × V) := putF "_turned" (.ref r) (putF "_points" (.ref q) [])
def spTMI (K : PySem.W.Frag) : Sp := fun vs H Q E => ∃ o dx x, vs = [.ref o, x] ∧ H o = some (.ins (CM K) dx []) ∧ (NotL K H x E ∨ ∃ a xs gs, x = .ref a ∧ TPOk K H a xs gs ∧ TPEnd K H xs gs E (∀ H' q rs r, (∀ b ob, b ≠ o → H b = some ob → H' b = some ob) →
  H' o = some (.ins (CM K) dx (mFl q r)) → H' q = some (.lst rs) → rs ≠ [] → rs.length ≤ 30 → Q .non H'))
def spPts (K : PySem.W.Frag) : Sp := fun vs H Q _ => ∃ o dx q r rs, vs = [.ref o] ∧ H o = some (.ins (CM K) dx (mFl q r)) ∧ H q = some (.lst rs) ∧ ∀ l H', Same H H' → H' l = some (.lst rs) → Q (.ref l) H'
section
variable {P : Program} {w : World} {K : PySem.W.Frag} {mg : Str → Option Value} {base : Heap} {f fS fX fT : Addr} {fd fdS fdX fdT : FuncData} {t0 : Addr}
theorem ok_tmi (F : FunD K "__init__" "TempoMap.__init__" (defArgs sTMI) (defBody sTMI) (defScope sTMI) [.ref t0] [] f fd) (M : MF K mg) (ST : Fn P w K mg base "_standard" 10 ["points"] (spStd K) fS fdS) (EX : Fn P w K mg base "_exchanged" 1 ["points"] spExc fX fdX) (TP : Fn P w K mg base "_told_points" 9 ["points"] (spTP K) fT fdT) :
    FnOk P w K mg base (L2.CX P w) 11 f fd ["self", "points"] (spTMI K) := by
  refine F.ok scTMI (fun vs H Q E h => ?_) (fun cdv A outer s H vs Q E hr h => ?_)
  · obtain ⟨o, dx, x, rfl, _⟩ := h
    rfl
  · obtain ⟨o, dx, x, rfl, ho, h⟩ := h
    have hr1 := hr.mono (show 1 ≤ 10 by decide)
    have hr9 := hr.mono (show 9 ≤ 10 by decide)
    refine ⟨_, (pss_cons (ps_fld (pv 0) (pe_call ST.ok hr rfl ST.g ST.k ST.b .nil passL (pa_cons (pe_callS TP.ok hr9 rfl TP.g TP.k TP.b (fun σ => passAt (W := fun cls d _ H => E cls d H) (takes_of rfl rfl rfl rfl) σ) (pa_cons (pv 1) pa_nil)) pa_nil)) rfl)
      (pss_one (ps_fld (pv 0) (pe_call EX.ok hr1 rfl EX.g EX.k EX.b .nil passL (pa_cons (pe_fld (pv 0) rfl) pa_nil)) rfl))), ?_⟩
    refine ⟨_, rfl, x, rfl, ?_⟩
    rcases h with h | ⟨a, xs, gs, rfl, tk, te⟩
    · exact .inl h
    · refine .inr ⟨a, xs, gs, rfl, tk, te.imp fun k H1 p ps s1 hp => ⟨p, ps, rfl, hp, fun H2 q rs s2 hq hne ht hl => ?_⟩⟩
      have s12 := s1.trans s2
      have ho2 := s12 _ _ ho
      have qo : q ≠ o := fun e => by
        rw [e, ho2] at hq
        cases hq
      refine ⟨_, rfl, o, _, dx, _, rfl, ho2, M.cl, M.n1, ?_⟩
      have hq3 : upd H2 o (HO.ins (CM K) dx (putF "_points" (V.ref q) [])) q = some (.lst rs) := by rw [upd_ne qo]; exact hq
      have ho3 : upd H2 o (HO.ins (CM K) dx (putF "_points" (V.ref q) [])) o = some (HO.ins (CM K) dx (putF "_points" (V.ref q) [])) := upd_same
      have kp3 : ∀ b ob, b ≠ o → H b = some ob → upd H2 o (HO.ins (CM K) dx (putF "_points" (V.ref q) [])) b = some ob := fun b ob nb hb => by rw [upd_ne nb]; exact s12 _ _ hb
      have ht3 : TupsOk (upd H2 o (HO.ins (CM K) dx (putF "_points" (V.ref q) []))) rs := fun y hy => by
        obtain ⟨q1, x1, y1, e1, hq1⟩ := ht y hy
        refine ⟨q1, x1, y1, e1, ?_⟩
        rw [upd_ne fun e => by rw [e, ho2] at hq1; cases hq1]
        exact hq1
      generalize upd H2 o (HO.ins (CM K) dx (putF "_points" (V.ref q) [])) = H3 at hq3 ho3 kp3 ht3
      refine ⟨by decide, _, rfl, o, _, dx, _, _, rfl, ho3, M.cl, M.n1, by rfl, q, rs, rfl, hq3, ht3, hl, fun H4 r s4 => ?_⟩
      refine ⟨_, rfl, o, _, dx, _, rfl, s4 _ _ ho3, M.cl, M.n2, by show (1 : Nat) < 1000; decide, ?_⟩
      refine k _ q rs r (fun b ob nb hb => ?_) upd_same ?_ hne hl
      · rw [upd_ne nb]
        exact s4 _ _ (kp3 b ob nb hb)
      · rw [upd_ne qo]
        exact s4 _ _ hq3
theorem ok_pts (F : FunD K "points" "TempoMap.points" (defArgs sPts) (defBody sPts) (defScope sPts) [] [] f fd) (M : MF K mg) (mLi : mg "list" = none) : FnOk P w K mg base (L2.CX P w) 1 f fd ["self"] (spPts K) := by
  refine F.ok scPts (fun vs H Q E h => ?_) (fun cdv A outer s H vs Q E hr h => ?_)
  · obtain ⟨o, dx, q, r, rs, rfl, _⟩ := h
    rfl
  · obtain ⟨o, dx, q, r, rs, rfl, ho, hq, k⟩ := h
    refine ⟨_, (pss_one (ps_ret (pe_callTy call_list_of rfl mLi (by decide +kernel : bootBuiltins "list" = some (.type "list")) (pa_cons (pe_fld (pv 0) rfl) pa_nil)))), ?_⟩
    exact ⟨_, rfl, o, _, dx, _, _, rfl, ho, M.cl, M.n1, by rfl, q, rs, rfl, .inl (SqL.of hq), fun l hl => k l _ (Same.upd hl) upd_same⟩
end
end K11

set_option Elab.async false
set_option linter.all false
set_option maxRecDepth 100000
set_option maxHeartbeats 4000000
/-! C(e, ..), which may raise, at the slots. -/
namespace Xm
open PySem PySem.Spec PyProof.Rows L2
section
variable {X : Cx} {CX : CXT} {k : Nat} {f C : Addr} {fd : FuncData} {ps : List Str} {sp : Sp} {E : L2.St → XK} {x : Str} {p pos : Pos} {e : Expr} {es : List Expr} {t : TA}
def tMakeX (C : Addr) (sp : Sp) (E : L2.St → XK) (t : TA) : TE := fun σ H Q => t σ H fun vs H1 => ∀ z dz, H1 z = none → H1 dz = none → dz ≠ z →
    sp (.ref z :: vs) (upd (upd H1 dz (.own z)) z (.ins C dz [])) (fun v H2 => v = .non ∧ Q (.ref z) H2) (E σ)
theorem run_makeX {pn : List (Addr × Obj)} {σ : L2.St} {H : Hp} {s : Shared} {Q : VK} {us : List Value} {vs : List V} (M : Mk X.K C f) (F : FnOk X.prog X.w X.K X.mg X.base CX k f fd ps sp) (hr : Room (k + 1) X.A) (hb : Binds X.K fd ps [])
    (px : PassesAt CX X σ (E σ)) (I : Inv X pn σ H s) (r : Vals vs us) (h : ∀ z dz, H z = none → H dz = none → dz ≠ z → sp (.ref z :: vs) (upd (upd H dz (.own z)) z (.ins C dz [])) (fun v H2 => v = .non ∧ Q (.ref z) H2) (E σ)) :
    wpAny (model X.prog X.w) X.A (call (.ref C) us) (EP X pn σ Q) X.xe s := by
  have hw := h (s.heap.objs.size + 1) s.heap.objs.size (I.hok.fresh (Nat.le_succ _)) (I.hok.fresh (Nat.le_refl _)) (Nat.ne_of_lt (Nat.lt_succ_self _))
  have J := Inv.made (C := C) I
  have rr : Vals (V.ref (s.heap.objs.size + 1) :: vs) (Value.ref (s.heap.objs.size + 1) :: us) := .cons rfl r
  have len : (Value.ref (s.heap.objs.size + 1) :: us).length = ps.length := rr.length.symm.trans (F.len _ _ _ _ hw)
  have bb := hb _ (Value.ref (s.heap.objs.size + 1) :: us) J.kIn (by rw [List.append_nil]; exact len)
  rw [List.append_nil] at bb
  refine wpAny_call (make_map (f := f) I.kIn M.makes M.init (beq_iff_eq.mp M.fn) (codeAny_mono (F.run _ X.stack _ _ ⟨Value.ref (s.heap.objs.size + 1) :: us, []⟩ (Value.ref (s.heap.objs.size + 1) :: us) _ _ (E σ) (hr.make C us []) (J.env0.make C us []) bb rr hw) fun res s2 out => ?_))
  match res, out with
  | .error er, out => exact px pn _ _ er s2 J out
  | .ok (.ret u), out =>
    obtain ⟨v, H3, I3, rv, ev, q3⟩ := J.after out
    cases ev
    exact ⟨rv, V.ref (s.heap.objs.size + 1), H3, I3, rfl, q3⟩
  | .ok .next, out => exact out.elim
  | .ok .brk, out => exact out.elim
  | .ok .cont, out => exact out.elim
theorem pe_makeX (M : Mk X.K C f) (F : FnOk X.prog X.w X.K X.mg X.base CX k f fd ps sp) (hr : Room (k + 1) X.A) (hg : Gl X x) (hm : X.mg x = some (.ref C)) (hb : Binds X.K fd ps []) (px : ∀ σ, PassesAt CX X σ (E σ)) (ha : PA X (e :: es) t)
    (nd : (x == ("__debug__" : Str)) = false := by decide) (he : starEach (e :: es) X.env = (false, eval e X.env) :: starEach es X.env := by rfl) (hpl : (backTo pos (starEach es X.env)).any (·.1) = false := by rfl) :
    PE X (.Call (.Name x p) (e :: es) [] pos) (tMakeX C sp E t) := by
  refine ⟨fun pn s σ H Q I h => ?_⟩
  refine wpAny_Call_Name_kw (ld_glob I hg hm ?_ nd)
  refine PySem.W.callWith_K (h₀ := X.base) I.ok.mod.kin M.kp (thn (ha.run pos pn s σ H _ I h) fun us s1 ⟨vs, H1, I1, r, q⟩ => ⟨I1.kIn, ?_⟩) he hpl
  exact run_makeX M F hr hb (px σ) I1 r q
end
end Xm
set_option Elab.async false
set_option linter.all false
set_option maxRecDepth 100000
set_option maxHeartbeats 4000000
/-! try with several clauses «except A as e». -/
namespace Ft
open PySem PySem.Spec PyProof.Rows L2
abbrev Cl : Type := Value × (Addr → Value → Option Addr → TS)
/-- what the clauses wish, slot i the name of all of them -/
def wAll (K : PySem.W.Frag) (i : Nat) (Wo : WX) (D : Ends) : List Cl → WX
  | [] => Wo
  | (c, ts) :: r => fun cls d σ H => ∃ b, PySem.W.exmOne K cls c = some b ∧
      (b = true → ∀ a, H a = none → ts a cls d { nx := fun σ' H' => D.nx (σ'.set i none) H', rt := D.rt, bk := fun σ' H' => D.bk (σ'.set i none) H', ct := fun σ' H' => D.ct (σ'.set i none) H' } (σ.set i (some (.ref a))) H) ∧ (b = false → wAll K i Wo D r cls d σ H)
inductive Hds (X : Cx) (n : Str) : List ExceptHandler → List Cl → Prop
  | nil : Hds X n [] []
  | cons {x : Str} {c : Value} {ts : Addr → Value → Option Addr → TS} {b0 : Stmt} {su : List Stmt} {np ps : Pos} {hds : List ExceptHandler} {l : List Cl} (hc : Names X x c)
      (hs : ∀ (a : Addr) (oe : Obj) (cls : Value) (d : Option Addr) (pn : List (Addr × Obj)), Zc cls d oe → (∃ vs, oe.data = .fields vs) → PSs (X.suite a ((a, oe) :: pn)) (b0 :: su) (ts a cls d)) (r : Hds X n hds l) : Hds X n (.ExceptHandler (some (.Name x np)) (some n) (b0 :: su) ps :: hds) ((c, ts) :: l)
section
variable {X : Cx} {n : Str} {i : Nat} {body : List Stmt} {h0 : ExceptHandler} {hds : List ExceptHandler} {l : List Cl} {pos : Pos} {tb : WX → TS} {Wo : WX}
theorem ps_try_all (hst : X.stack = X.env :: X.outer) (hf : X.env.frame = some X.env.locals) (hN : X.N.Nodup) (hi : X.N[i]? = some n) (hln : X.env.kindOf n = some .local) (tk : Takes X Wo)
    (hb : ∀ (W : WX) (pn : List (Addr × Obj)) (xe : Value → Shared → Prop), Takes (X.tr pn xe) W → PassesOwn (model X.prog X.w) X.A X.env xe → PSs (X.tr pn xe) body (tb W)) (hh : Hds X n (h0 :: hds) l) :
    PS X (.Try body (h0 :: hds) [] [] pos) (fun D σ H => tb (wAll X.K i Wo D l) D σ H) := by
  constructor
  intro pn0 s σ H D I h
  have ok := I.ok
  have frames : X.A.frames = some (X.env :: X.outer) := ok.frames.trans (congrArg some hst)
  have locN : Loc X.env.scope n := .inl hln
  refine wpAny_Try_except ?_
  refine wpAny_mono ((hb (wAll X.K i Wo D l) (X.pn ++ pn0) (fun er t1 => wpAny (model X.prog X.w) X.A (noteFrame er X.env) (fun _ t2 => wpAny (model X.prog X.w) X.A (setFlight er none) (fun _ t3 =>
    wpAny (model X.prog X.w) X.A (handleBy er X.env (h0 :: hds)) (SP X pn0 D) X.xe t3) X.xe t2) X.xe t1) (fun u s2 air => ?_) PassesOwn.looking).run [] s σ H D (I.toTry _) h) (fun fl t1 done => ?_) (fun er t1 z => z)
  · obtain ⟨a, B, sI, pn1, σ1, H1, cls, d, rfl, J0, nb, up, sky, na, os, ag, w⟩ := air
    have J : Inv X pn0 σ1 H1 sI := J0.ofTry ok
    have sky2 : Sky B (X.env :: X.outer) a (Zc cls d) X.env.locals s2.heap := hst ▸ sky
    show wpAny (model X.prog X.w) X.A (noteFrame (.ref a) X.env) _ _ _
    refine Sky.land Zc.steady frames hf sky2 fun g3 fly up3 => ?_
    have J3 : Inv X pn0 σ1 H1 { s2 with heap := g3 } := J.landed nb fly.1 (up.trans up3) os ag
    obtain ⟨o3, w3, at3, z3, d3⟩ := fly.there
    have apart : a ∉ frs (X.env :: X.outer) := fun hm => by
      obtain ⟨_, o', e', nf⟩ := fly.2.2.1.mem hm
      rw [at3] at e'
      cases e'
      exact nf _ d3
    have nL : a ≠ X.env.locals := fun z => apart (List.mem_filterMap.mpr ⟨X.env, List.mem_cons_self, by rw [hf, z]⟩)
    have nF : a ∉ X.fs := fun hm => by
      obtain ⟨ev, hev, q⟩ := List.mem_filterMap.mp hm
      exact apart (List.mem_filterMap.mpr ⟨ev, List.mem_cons_of_mem _ hev, q⟩)
    have S3 := J3.suite at3 d3 na nL nF
    have go : ∀ {hs' : List ExceptHandler} {l' : List Cl}, Hds X n hs' l' → wAll X.K i Wo D l' cls d σ1 H1 → wpAny (model X.prog X.w) X.A (handleBy (.ref a) X.env hs') (SP X pn0 D) X.xe { s2 with heap := g3 } := by
      intro hs' l' hk
      induction hk with
      | nil =>
        intro w
        refine wpAny_handleBy_nil ?_
        obtain ⟨k1, k2, k3, oe, vs, T, oT, ts', he, hz, hd, hone, hr⟩ := id fly
        unfold PySem.passOn
        refine wpAny_bind (wpAny_field he hd hone ?_)
        rw [if_neg (show ¬ ((Value.ref T == Value.none) = true) by simp)]
        have away : wpAny (model X.prog X.w) X.A (setFlight (.ref a) X.env.frame) (fun _ t4 => wpAny (model X.prog X.w) X.A (throw (.ref a) : Sem Flow) (SP X pn0 D) X.xe t4) X.xe { s2 with heap := g3 } := by
          rw [hf]
          refine HandSPX.setFlight_upZ fly fun g4 hg4 up4 => wpAny_throw (tk _ _ ?_)
          exact ⟨a, B, sI, pn0, σ1, H1, cls, d, rfl, J, nb, (up.trans up3).trans up4, .inr (.inr (hst.symm ▸ hg4)), na, os, ag, w⟩
        first
          | exact wpAny_bind (wpAny_pure (wpAny_bind away))
          | exact wpAny_bind away
      | @cons x c ts b0 su np ps hds2 l2 hc hsu r ih =>
        intro w
        obtain ⟨b, hb1, hyes, hno⟩ := w
        refine wpAny_handleBy_cons (codeAny_handlers_test ?_) (by intro q; cases q)
        have tyA : PySem.W.Looks (model X.prog X.w) g3 (typeOf (.ref a)) cls := fun A Q E t k q => wpAny_typeOf_ref (k _ _ at3) (z3.1.symm ▸ q)
        have looks := PySem.W.exm_one (M := model X.prog X.w) (J3.kIn) tyA hb1
        have test : ∀ {Q E : Value → Shared → Prop}, Q c { s2 with heap := g3 } → wpAny (model X.prog X.w) (X.A.mark (some (.ref a))) (eval (.Name x np) X.env) Q E { s2 with heap := g3 } := by
          intro Q E q
          rcases hc with ⟨hg, hdbg, hm | ⟨hm, hv, hnn⟩⟩
          · exact ld_glob (X := X.suite a ((a, o3) :: (X.pn ++ pn0))) S3 hg hm q hdbg
          · exact ld_blt (X := X.suite a ((a, o3) :: (X.pn ++ pn0))) S3 hg hm hv q hnn hdbg
        refine test (looks.here ?_)
        cases b with
        | false => exact ih (hno rfl)
        | true =>
          refine codeAny_handlers_suite_as ?_
          refine HandSPX.lands_againZ fly fun g4 fly4 up4 => ?_
          have J4 : Inv X pn0 σ1 H1 { s2 with heap := g4 } := J.landed nb fly4.1 ((up.trans up3).trans up4) os ag
          obtain ⟨o4, w4, at4, z4, d4⟩ := fly4.there
          have S4 := J4.suite at4 d4 na nL nF
          refine store_ok (X := X.suite a ((a, o4) :: (X.pn ++ pn0))) (v := .ref a) S4 hN hi locN rfl (fun t5 S5 => ?_) (.inr hln)
          refine wpAny_mono ((hsu a o4 cls d (X.pn ++ pn0) z4 ⟨_, d4⟩).run [] t5 _ H1 _ S5 (hyes rfl a na)) (fun fl t6 done => ?_) (fun _ _ z => z.elim)
          have tidy : ∀ {σ6 : L2.St} {H6 : Hp} {Q : Shared → Prop}, Inv (X.suite a ((a, o4) :: (X.pn ++ pn0))) [] σ6 H6 t6 → (∀ t7, Inv X pn0 (σ6.set i none) H6 t7 → Q t7) →
              wpAny (model X.prog X.w) X.A (do bindName X.env n .none; unbindBehindTheSuite X.env n ps) (fun _ t7 => Q t7) X.xe t6 := fun {σ6 H6 Q} S6 hq => gone_ok (S6.unsuite ok) hN hi hln hq
          match fl, done with
          | .next, ⟨σ6, H6, S6, q6⟩ => exact tidy S6 fun t7 J7 => ⟨_, _, J7, q6⟩
          | .brk, ⟨σ6, H6, S6, q6⟩ => exact tidy S6 fun t7 J7 => ⟨_, _, J7, q6⟩
          | .cont, ⟨σ6, H6, S6, q6⟩ => exact tidy S6 fun t7 J7 => ⟨_, _, J7, q6⟩
          | .ret u, ⟨v6, σ6, H6, S6, r6, q6⟩ => exact tidy S6 fun t7 J7 => ⟨_, _, _, J7, r6, q6⟩
    exact go hh w
  · match fl, done with
    | .next, ⟨σ2, H2, J2, q⟩ => exact wpAny_execs_nil ⟨σ2, H2, J2.ofTry ok, q⟩
    | .brk, ⟨σ2, H2, J2, q⟩ => exact ⟨σ2, H2, J2.ofTry ok, q⟩
    | .cont, ⟨σ2, H2, J2, q⟩ => exact ⟨σ2, H2, J2.ofTry ok, q⟩
    | .ret u, ⟨v, σ2, H2, J2, r, q⟩ => exact ⟨v, σ2, H2, J2.ofTry ok, r, q⟩
end
end Ft
set_option Elab.async false
set_option linter.all false
set_option maxRecDepth 100000
set_option maxHeartbeats 1000000
set_option exponentiation.threshold 100000
namespace K11
open PySem PySem.Spec PyProof.Rows L2 Fa Fb
abbrev CE (K : PySem.W.Frag) : Addr := He.ga K "CueError"
theorem TPOk.same {K : PySem.W.Frag} {H H' : Hp} {a : Addr} {xs : List V} {gs : List Pg} (h : TPOk K H a xs gs) (s : Same H H') : TPOk K H' a xs gs :=
  ⟨h.seq.imp (s _ _) (s _ _), h.n, h.le, fun i g e => let ⟨l, h1, h2⟩ := h.ok i g e; ⟨l, h1, h2.same s⟩, h.up⟩
def rNN (K : PySem.W.Frag) : R2 := fun x y H Q => ∃ (a b : Addr) (xs : List V), x = .ref a ∧ y = .ref b ∧ SqL K H a xs ∧ SqL K H b [] ∧ Q (.bl (!xs.isEmpty)) H
theorem op_nn {X : Cx} (hu : X.A.units + 64 < cLine) : OpR X (compareOp .NotEq) (rNN X.K) := Fk.op_neNil hu
abbrev sCau : Stmt := top 44
theorem scCau : FnScope ["_law_points_here", "e"] ["_law_points_here"] (defScope sCau) := ⟨rfl, rfl, rfl, by decide +kernel, rfl, by decide +kernel, by decide +kernel⟩
def tsC (K : PySem.W.Frag) (C : Addr) (F nm : Str) : Addr → Value → Option Addr → TS := fun a cls d => tRet (tLst (tCons (tC (.str nm)) (tCons (Xb.tByX C F a cls d (tVar 1)) (tCons (tCB (Xe.rIsD K C a cls d) (tCons (tVar 1) (tCons (tC (.ref (CE K))) tNil))) tNil))))
def tbC (K : PySem.W.Frag) : WX → TS := fun W => tRet (tLst (tCons (tC (.str "told")) (tCons (tOp (rNN K) (tMeth (CM K) "points" (spPts K) [] E0 (Xm.tMakeX (CM K) (spTMI K) (WE W) (tCons (tVar 0) tNil)) tNil) (tLst tNil)) tNil)))
def clC (K : PySem.W.Frag) : List Ft.Cl := [(.ref (CP K), tsC K (CP K) "value" "part"), (.ref (CQ K), tsC K (CQ K) "value" "point"), (.ref (CF K), tsC K (CF K) "index" "falling")]
def CauEnd (K : PySem.W.Frag) (H : Hp) (xs : List V) (gs : List Pg) (W : Str → V → Prop) : Prop :=
  (gs.length = xs.length ∧ W "told" (.bl true)) ∨ (∃ y, xs[gs.length]? = some y ∧ BadI K H y ∧ W "point" y) ∨
  (∃ g l h, xs[gs.length]? = some (V.ref l) ∧ GdI K H l g ∧ 0 < gs.length ∧ gs[gs.length - 1]? = some h ∧ ¬ Rises h g ∧ W "falling" (.int (gs.length : Int)))
/-- the list that is told: a word, a value, and that the error is of the package's own base -/
def told (nm : Str) (v : V) : List V := if nm = "told" then [.str nm, v] else [.str nm, v, .bl true]
def spCau (K : PySem.W.Frag) : Sp := fun vs H Q _ => ∃ x, vs = [x] ∧ ((∃ t, (∀ J, Same H J → TyX K J x t) ∧ PySem.W.kitAny K t [.type "list", .type "tuple"] = some false ∧ ∀ l H', Same H H' → H' l = some (.lst (told "part" x)) → Q (.ref l) H') ∨
  ∃ a xs gs, x = .ref a ∧ TPOk K H a xs gs ∧ CauEnd K H xs gs (fun nm v => ∀ l H', Same H H' → H' l = some (.lst (told nm v)) → Q (.ref l) H'))
section
variable {P : Program} {w : World} {K : PySem.W.Frag} {mg : Str → Option Value} {base : Heap} {f fI fp fP fQ fF : Addr} {fd fdI fdp : FuncData} {qp tp qq tq qf tf : Str}
theorem ok_cau (F : FnP K "_law_caught" sCau f fd) (T : AF K mg) (M : MF K mg) (gP : mg "InvalidPart" = some (.ref (CP K))) (gQ : mg "InvalidPoint" = some (.ref (CQ K))) (gF : mg "Falling" = some (.ref (CF K))) (gE : mg "CueError" = some (.ref (CE K)))
    (XP : Xb.Txt P.main.file K qp "value" tp (CP K) fP) (XQ : Xb.Txt P.main.file K qq "value" tq (CQ K) fQ) (XF : Xb.Txt P.main.file K qf "index" tf (CF K) fF)
    (hQP : PySem.W.exmOne K (.ref (CQ K)) (.ref (CP K)) = some false) (hFP : PySem.W.exmOne K (.ref (CF K)) (.ref (CP K)) = some false) (hFQ : PySem.W.exmOne K (.ref (CF K)) (.ref (CQ K)) = some false)
    (EP : ExcC K (CP K)) (EQ : ExcC K (CQ K)) (EF : ExcC K (CF K)) (kP : PySem.W.kitOne K (.ref (CP K)) (.ref (CE K)) = some true) (kQ : PySem.W.kitOne K (.ref (CQ K)) (.ref (CE K)) = some true) (kF : PySem.W.kitOne K (.ref (CF K)) (.ref (CE K)) = some true)
    (GI : FnOk P w K mg base (L2.CX P w) 11 (aM K) fdI ["self", "points"] (spTMI K)) (bI : Binds K fdI ["self", "points"] []) (MP : Meth K (CM K) "points" fp) (GP : FnOk P w K mg base (L2.CX P w) 1 fp fdp ["self"] (spPts K)) (bP : Binds K fdp ["self"] []) :
    FnOk P w K mg base (L2.CX P w) 13 f fd ["_law_points_here"] (spCau K) := by
  refine F.ok scCau (fun vs H Q E h => ?_) (fun cdv A outer s H vs Q E hr h => ?_)
  · obtain ⟨x, rfl, _⟩ := h
    rfl
  · obtain ⟨x, rfl, h⟩ := h
    have hu : (A.deeper (envOfC "_law_caught" (defScope sCau) s.heap.objs.size f cdv)).units + 64 < cLine := by
      have := hr.un
      omega
    have hr1 := hr.mono (show 1 ≤ 12 by decide)
    have hr2 := hr.mono (show 2 ≤ 12 by decide)
    have hr3 := hr.mono (show 3 ≤ 12 by decide)
    have hr5 := hr.mono (show 5 ≤ 12 by decide)
    have hr6 := hr.mono (show 6 ≤ 12 by decide)
    have hr7 := hr.mono (show 7 ≤ 12 by decide)
    have hr8 := hr.mono (show 8 ≤ 12 by decide)
    have hr9 := hr.mono (show 9 ≤ 12 by decide)
    have hr10 := hr.mono (show 10 ≤ 12 by decide)

    refine ⟨_, pss_one (Ft.ps_try_all (n := "e") (i := 1) (tb := tbC K) (l := clC K) (Wo := fun cls d _ H => E cls d H) rfl rfl scCau.nd rfl rfl (takes_of rfl rfl rfl rfl)
        (fun W pn xe tk _ => pss_one (ps_ret (pe_lst (pa_cons pe_str (pa_cons (pe_cmpR (op_nn hu) (pe_meth0 (Xm.pe_makeX M.make GI hr rfl M.g bI (fun σ => passAt tk σ) (pa_cons (pv 0) pa_nil)) M.cl MP GP hr1 bP .nil passL) (pe_lst pa_nil) (nomark _)) pa_nil)))))
        (.cons ⟨rfl, by decide, Or.inl gP⟩ (fun a oe cls d pn hz hf => pss_one (ps_ret (pe_lst (pa_cons pe_str (pa_cons (Xb.pe_byX XP hz hf (pv 1)) (pa_cons (pe_callB (Xe.call_isD EP hz hf) rfl T.isi (by decide +kernel) (pa_cons (pv 1) (pa_cons (pe_glob (v := .ref (CE K)) rfl gE rfl) pa_nil))) pa_nil))))))
          (.cons ⟨rfl, by decide, Or.inl gQ⟩ (fun a oe cls d pn hz hf => pss_one (ps_ret (pe_lst (pa_cons pe_str (pa_cons (Xb.pe_byX XQ hz hf (pv 1)) (pa_cons (pe_callB (Xe.call_isD EQ hz hf) rfl T.isi (by decide +kernel) (pa_cons (pv 1) (pa_cons (pe_glob (v := .ref (CE K)) rfl gE rfl) pa_nil))) pa_nil))))))
          (.cons ⟨rfl, by decide, Or.inl gF⟩ (fun a oe cls d pn hz hf => pss_one (ps_ret (pe_lst (pa_cons pe_str (pa_cons (Xb.pe_byX XF hz hf (pv 1)) (pa_cons (pe_callB (Xe.call_isD EF hz hf) rfl T.isi (by decide +kernel) (pa_cons (pv 1) (pa_cons (pe_glob (v := .ref (CE K)) rfl gE rfl) pa_nil))) pa_nil)))))) .nil)))), ?_⟩
    have suite : ∀ (C : Addr) (F nm : Str) (v : V) (a d : Addr) (v0 : V) (H1 : Hp) (D : Ends), D.rt = Q → nm ≠ "told" → PySem.W.kitOne K (.ref C) (.ref (CE K)) = some true → Same H H1 → H1 d = none → (∀ l H', Same H H' → H' l = some (.lst (told nm v)) → Q (.ref l) H') →
        tsC K C F nm a (.ref C) (some d) D [some v0, some (.ref a)] (upd H1 d (.xd [(F, v)])) := by
      intro C F nm v a d v0 H1 D hD hn kc s1 hd k
      refine ⟨_, rfl, rfl, rfl, d, v, rfl, upd_same, ?_⟩
      refine ⟨_, rfl, .ref (CE K), .ref (CE K), true, d, F, v, rfl, rfl, (fun u r => by cases r; rfl), rfl, upd_same, kc, by show 3 ≤ sizeLine; decide, fun l hl => ?_⟩
      rw [hD]
      refine k l _ (s1.trans ((Same.upd hd).trans (Same.upd hl))) ?_
      rw [upd_same]
      unfold told
      rw [if_neg hn]
    refine ⟨_, rfl, fun z dz hz hdz hne => ?_⟩
    have sm : Same H (upd (upd H dz (.own z)) z (.ins (CM K) dz [])) := (Same.upd hdz).trans (Same.upd (by rw [upd_ne (Ne.symm hne)]; exact hz))
    refine ⟨z, dz, x, rfl, upd_same, ?_⟩
    generalize upd (upd H dz (.own z)) z (.ins (CM K) dz []) = H1 at sm
    rcases h with ⟨t, ty, kt, q⟩ | ⟨a, xs, gs, rfl, tk, ce⟩
    · exact .inl ⟨t, fun J sJ => ty J (sm.trans sJ), kt, fun J sJ d hd => ⟨true, XP.te, fun _ a _ => suite (CP K) "value" "part" x a d _ J _ rfl (by decide) kP (sm.trans sJ) hd q, fun y => by cases y⟩⟩
    · refine .inr ⟨a, xs, gs, rfl, tk.same sm, ?_⟩
      rcases ce with ⟨e, k⟩ | ⟨y, hy, bad, k⟩ | ⟨g, l, h, hy, gd, h0, eh, nr, k⟩
      · refine .inl ⟨e, fun H2 q rs r kp ho hq hrs hl => ⟨rfl, z, dz, _, rfl, ho, by rfl, z, dz, q, r, rs, rfl, ho, hq, fun l2 H3 s3 hl2 => ⟨by show 0 ≤ sizeLine; decide, fun l3 hl3 => ⟨l2, l3, rs, rfl, rfl, SqL.of (Same.upd hl3 _ _ hl2), SqL.of upd_same, by show 2 ≤ sizeLine; decide, fun l4 hl4 => ?_⟩⟩⟩⟩
        have s2 : Same H H2 := fun b o hb => kp b o (ne_of_none hb hz) (sm b o hb)
        refine k l4 _ (s2.trans (s3.trans ((Same.upd hl3).trans (Same.upd hl4)))) ?_
        rw [upd_same]
        unfold told
        rw [if_pos rfl]
        cases rs with
        | nil => exact absurd rfl hrs
        | cons _ _ => rfl
      · exact .inr (.inl ⟨y, hy, bad.same sm, fun J sJ d hd => ⟨false, hQP, (fun z => by cases z), fun _ => ⟨true, XQ.te, fun _ a0 _ => suite (CQ K) "value" "point" y a0 d _ J _ rfl (by decide) kQ (sm.trans sJ) hd k, fun z => by cases z⟩⟩⟩)
      · exact .inr (.inr ⟨g, l, h, hy, gd.same sm, h0, eh, nr, fun J sJ d hd => ⟨false, hFP, (fun z => by cases z), fun _ => ⟨false, hFQ, (fun z => by cases z), fun _ => ⟨true, XF.te, fun _ a0 _ => suite (CF K) "index" "falling" _ a0 d _ J _ rfl (by decide) kF (sm.trans sJ) hd k, fun z => by cases z⟩⟩⟩⟩)
end
end K11

set_option Elab.async false
set_option linter.all false
set_option maxRecDepth 100000
set_option maxHeartbeats 1000000
set_option exponentiation.threshold 100000
namespace K11
open PySem PySem.Spec PyProof.Rows L2 Fa Fb
abbrev sFrac : Stmt := top 29
abbrev sSum : Stmt := top 30
abbrev sRest : Stmt := top 32
theorem scFrac : FnScope ["_law_top", "_law_bottom", "_law_one", "_law_other", "_law_sign"] ["_law_top", "_law_bottom"] (defScope sFrac) := ⟨rfl, rfl, rfl, by decide +kernel, rfl, by decide +kernel, by decide +kernel⟩
theorem scSum : FnScope ["_law_one", "_law_other"] ["_law_one", "_law_other"] (defScope sSum) := ⟨rfl, rfl, rfl, by decide +kernel, rfl, by decide +kernel, by decide +kernel⟩
theorem scRest : FnScope ["_law_one", "_law_other"] ["_law_one", "_law_other"] (defScope sRest) := ⟨rfl, rfl, rfl, by decide +kernel, rfl, by decide +kernel, by decide +kernel⟩
def spFrac : Sp := fun vs H Q _ => ∃ a b : Int, vs = [.int a, .int b] ∧ b ≠ 0 ∧ b.natAbs < 2 ^ 8000 ∧ ∀ p t u H', Same H H' → Am.Red t u → t * b = a * u → t.natAbs ≤ a.natAbs → u.natAbs ≤ b.natAbs → H' p = some (.tup [.int t, .int u]) → Q (.ref p) H'
/-- a fraction of the law: the pair at p -/
def Fr (H : Hp) (p : Addr) (t u : Int) : Prop := H p = some (.tup [.int t, .int u])
def spSum : Sp := fun vs H Q _ => ∃ (p q : Addr) (t u t2 u2 : Int) (n : Nat), vs = [.ref p, .ref q] ∧ Fr H p t u ∧ Fr H q t2 u2 ∧ 0 < u ∧ 0 < u2 ∧ t.natAbs < 2 ^ n ∧ u.natAbs < 2 ^ n ∧ t2.natAbs < 2 ^ n ∧ u2.natAbs < 2 ^ n ∧ n ≤ 1000 ∧
  ∀ r a b H', Same H H' → Am.Red a b → a * (u * u2) = (t * u2 + t2 * u) * b → b.natAbs ≤ (u * u2).natAbs → Fr H' r a b → Q (.ref r) H'
def spRest : Sp := fun vs H Q _ => ∃ (p q : Addr) (t u t2 u2 : Int) (n : Nat), vs = [.ref p, .ref q] ∧ Fr H p t u ∧ Fr H q t2 u2 ∧ 0 < u ∧ 0 < u2 ∧ t.natAbs < 2 ^ n ∧ u.natAbs < 2 ^ n ∧ t2.natAbs < 2 ^ n ∧ u2.natAbs < 2 ^ n ∧ n ≤ 1000 ∧
  ∀ r a b H', Same H H' → Am.Red a b → a * (u * u2) = (t * u2 - t2 * u) * b → b.natAbs ≤ (u * u2).natAbs → Fr H' r a b → Q (.ref r) H'
section
variable {P : Program} {w : World} {K : PySem.W.Frag} {mg : Str → Option Value} {base : Heap} {f fF : Addr} {fd fdF : FuncData}
theorem ok_frac (F : FnP K "_law_frac" sFrac f fd) (mA : mg "abs" = none) : FnOk P w K mg base (L2.CX P w) 1 f fd ["_law_top", "_law_bottom"] spFrac := by
  refine F.ok scFrac (fun vs H Q E h => ?_) (fun cdv A outer s H vs Q E hr h => ?_)
  · obtain ⟨a, b, rfl, _⟩ := h
    rfl
  · obtain ⟨a, b, rfl, hb, hB, q⟩ := h
    refine ⟨_, (pss_cons (ps_par (by rfl) scFrac.nd (i := 2) (j := 3) rfl rfl (by decide) rfl rfl (pa_cons (pe_callB (id := "abs") call_abs rfl mA (by decide +kernel) (pa_cons (pv 0) pa_nil)) (pa_cons (pe_callB (id := "abs") call_abs rfl mA (by decide +kernel) (pa_cons (pv 1) pa_nil)) pa_nil)) (by rfl))
      (pss_cons (ps_while (passes_of rfl) (pt_cmpR op_gt (pv 3) pe_int (nomark _))
      (pss_one (ps_par (by rfl) scFrac.nd (i := 2) (j := 3) rfl rfl (by decide) rfl rfl (pa_cons (pv 3) (pa_cons (pe_op op_mod (pv 2) (pv 3)) pa_nil)) (by rfl))))
      (pss_cons (ps_set (i := 4) scFrac.nd rfl (Or.inl rfl) (pe_ifExp (pt_cmpR op_lt (pv 1) pe_int (nomark _)) (pe_un un_neg pe_int) pe_int))
      (pss_one (ps_ret (pe_tup (pa_cons (pe_op op_fdivX (pe_op op_mul (pv 4) (pv 0)) (pv 2)) (pa_cons (pe_op op_fdivX (pe_op op_mul (pv 4) (pv 1)) (pv 2)) pa_nil)))))))), ?_⟩
    refine ⟨_, rfl, _, rfl, _, rfl, _, rfl, _, _, rfl, ?_⟩
    refine while_by (fun σ H' => H' = H ∧ ∃ x y : Int, σ = [some (.int a), some (.int b), some (.int x), some (.int y), none] ∧ 0 ≤ x ∧ 0 ≤ y ∧ Nat.gcd x.natAbs y.natAbs = Nat.gcd a.natAbs b.natAbs)
      (fun σ _ => match σ with | [_, _, _, some (.int y), _] => y.toNat | _ => 0) ⟨rfl, _, _, rfl, ?_, ?_, ?_⟩ ?_ ?_
    · split <;> omega
    · split <;> omega
    · have absI : ∀ x : Int, (if x < 0 then -x else x) = (x.natAbs : Int) := fun x => by split <;> omega
      rw [absI, absI, Int.natAbs_natCast, Int.natAbs_natCast]
    · rintro σ H' ⟨rfl, x, y, rfl, hx, hy, hg⟩
      refine ⟨_, rfl, _, _, rfl, rfl, _, rfl, ?_⟩
      by_cases c : 0 < y
      · refine if_true_of (decide_eq_true c) ?_
        refine ⟨_, rfl, _, rfl, _, rfl, _, _, rfl, rfl, c, _, _, rfl, ?_⟩
        have m0 : 0 ≤ x % y := Int.emod_nonneg _ (by omega)
        have m1 : x % y < y := Int.emod_lt_of_pos _ c
        refine ⟨⟨rfl, y, x % y, rfl, hy, m0, ?_⟩, ?_⟩
        · rw [← hg, ← Am.gcd_step (show 0 < y.natAbs by omega)]
          congr 1
          rw [Int.natAbs_emod_of_nonneg hx]
        · show (x % y).toNat < y.toNat
          omega
      · refine if_false_of (decide_eq_false c) ?_
        have y0 : y = 0 := by omega
        subst y0
        have ex : x = ((Nat.gcd a.natAbs b.natAbs : Nat) : Int) := by
          have : x.natAbs = Nat.gcd a.natAbs b.natAbs := by simpa using hg
          omega
        obtain ⟨k1, k2, k3, k4, k5, k6⟩ := Am.mk a b hb _ rfl
        rw [← ex] at k1 k2 k3 k4 k5 k6
        have x0 : x ≠ 0 := fun e => by
          rw [e] at k1
          split at k1 <;> exact k1 rfl
        have lg : x.natAbs.log2 < 9000 := Nat.lt_trans ((Nat.log2_lt (by omega)).mpr (Nat.lt_of_le_of_lt (by split at k2 <;> omega) hB)) (by decide)
        refine ⟨_, rfl, _, _, rfl, rfl, _, rfl, ?_⟩
        by_cases c2 : b < 0
        · rw [if_pos c2] at k1 k3 k4 k5 k6
          have ea : (-1 * a).fdiv x = a.fdiv (-x) := by
            rw [Int.neg_one_mul, ← Int.neg_fdiv_neg, Int.neg_neg]
          have eb : (-1 * b).fdiv x = b.fdiv (-x) := by
            rw [Int.neg_one_mul, ← Int.neg_fdiv_neg, Int.neg_neg]
          refine if_true_of (decide_eq_true c2) ⟨_, rfl, ?_⟩
          refine ⟨_, rfl, _, rfl, _, _, rfl, rfl, .inl ⟨by decide, by decide⟩, _, rfl, _, _, rfl, rfl, ⟨x0, lg⟩, _, rfl, _, rfl, _, _, rfl, rfl, .inl ⟨by decide, by decide⟩, _, rfl, _, _, rfl, rfl, ⟨x0, lg⟩, by show 2 ≤ sizeLine; decide, fun p hp => ?_⟩
          refine q p _ _ _ (Same.upd hp) k3 k4 k5 k6 ?_
          rw [← ea, ← eb]
          exact upd_same
        · rw [if_neg c2] at k1 k3 k4 k5 k6
          have ea : (1 * a).fdiv x = a.fdiv x := by rw [Int.one_mul]
          have eb : (1 * b).fdiv x = b.fdiv x := by rw [Int.one_mul]
          refine if_false_of (decide_eq_false c2) ?_
          refine ⟨_, rfl, _, rfl, _, _, rfl, rfl, .inl ⟨by decide, by decide⟩, _, rfl, _, _, rfl, rfl, ⟨x0, lg⟩, _, rfl, _, rfl, _, _, rfl, rfl, .inl ⟨by decide, by decide⟩, _, rfl, _, _, rfl, rfl, ⟨x0, lg⟩, by show 2 ≤ sizeLine; decide, fun p hp => ?_⟩
          refine q p _ _ _ (Same.upd hp) k3 k4 k5 k6 ?_
          rw [← ea, ← eb]
          exact upd_same
    · intro σ H' Q1 Q2 k h
      obtain ⟨v, h1, i, j, h2, h3, b', h4, h5⟩ := h
      exact ⟨v, h1, i, j, h2, h3, b', h4, k _ _ h5⟩
theorem ok_sum (F : FnP K "_law_sum" sSum f fd) (FR : Fn P w K mg base "_law_frac" 1 ["_law_top", "_law_bottom"] spFrac fF fdF) : FnOk P w K mg base (L2.CX P w) 2 f fd ["_law_one", "_law_other"] spSum := by
  refine F.ok scSum (fun vs H Q E h => ?_) (fun cdv A outer s H vs Q E hr1 h => ?_)
  · obtain ⟨p, q, t, u, t2, u2, n, rfl, _⟩ := h
    rfl
  · obtain ⟨p, q, t, u, t2, u2, n, rfl, hp, hq, u0, u20, b1, b2, b3, b4, hn, k⟩ := h
    refine ⟨_, (pss_one (ps_ret (pe_call FR.ok hr1 rfl FR.g FR.k FR.b .nil passL (pa_cons (pe_op op_add (pe_op op_mulW (pe_ix ix_tup (pv 0) pe_int (fun _ _ => rfl)) (pe_ix ix_tup (pv 1) pe_int (fun _ _ => rfl))) (pe_op op_mulW (pe_ix ix_tup (pv 1) pe_int (fun _ _ => rfl)) (pe_ix ix_tup (pv 0) pe_int (fun _ _ => rfl)))) (pa_cons (pe_op op_mulW (pe_ix ix_tup (pv 0) pe_int (fun _ _ => rfl)) (pe_ix ix_tup (pv 1) pe_int (fun _ _ => rfl))) pa_nil))))), ?_⟩
    have i0 : ∀ x y : V, atI [x, y] 0 = some x := fun _ _ => rfl
    have i1 : ∀ x y : V, atI [x, y] 1 = some y := fun _ _ => rfl
    have P0 : ∀ Q' : VK, Q' (.int t) H → tOp (rIxT K) (tVar 0) (tC (.int 0)) [some (.ref p), some (.ref q)] H Q' := fun Q' h => ⟨_, rfl, p, _, _, _, rfl, rfl, SqT.of hp, i0 _ _, h⟩
    have P1 : ∀ Q' : VK, Q' (.int u) H → tOp (rIxT K) (tVar 0) (tC (.int 1)) [some (.ref p), some (.ref q)] H Q' := fun Q' h => ⟨_, rfl, p, _, _, _, rfl, rfl, SqT.of hp, i1 _ _, h⟩
    have Q0 : ∀ Q' : VK, Q' (.int t2) H → tOp (rIxT K) (tVar 1) (tC (.int 0)) [some (.ref p), some (.ref q)] H Q' := fun Q' h => ⟨_, rfl, q, _, _, _, rfl, rfl, SqT.of hq, i0 _ _, h⟩
    have Q1 : ∀ Q' : VK, Q' (.int u2) H → tOp (rIxT K) (tVar 1) (tC (.int 1)) [some (.ref p), some (.ref q)] H Q' := fun Q' h => ⟨_, rfl, q, _, _, _, rfl, rfl, SqT.of hq, i1 _ _, h⟩
    refine P0 _ (Q1 _ ⟨_, _, rfl, rfl, mulW_of b1 b4 (by omega), Q0 _ (P1 _ ⟨_, _, rfl, rfl, mulW_of b3 b2 (by omega), _, _, rfl, rfl, P1 _ (Q1 _ ⟨_, _, rfl, rfl, mulW_of b2 b4 (by omega), ?_⟩)⟩)⟩)
    refine ⟨_, _, rfl, Int.mul_ne_zero (by omega) (by omega), pow_step (abs_mul_lt b2 b4) (by omega), fun r a b H' s rd e _ hl hr => k r a b H' s rd e hl hr⟩
theorem ok_rest (F : FnP K "_law_rest" sRest f fd) (FR : Fn P w K mg base "_law_frac" 1 ["_law_top", "_law_bottom"] spFrac fF fdF) : FnOk P w K mg base (L2.CX P w) 2 f fd ["_law_one", "_law_other"] spRest := by
  refine F.ok scRest (fun vs H Q E h => ?_) (fun cdv A outer s H vs Q E hr1 h => ?_)
  · obtain ⟨p, q, t, u, t2, u2, n, rfl, _⟩ := h
    rfl
  · obtain ⟨p, q, t, u, t2, u2, n, rfl, hp, hq, u0, u20, b1, b2, b3, b4, hn, k⟩ := h
    refine ⟨_, (pss_one (ps_ret (pe_call FR.ok hr1 rfl FR.g FR.k FR.b .nil passL (pa_cons (pe_op op_sub (pe_op op_mulW (pe_ix ix_tup (pv 0) pe_int (fun _ _ => rfl)) (pe_ix ix_tup (pv 1) pe_int (fun _ _ => rfl))) (pe_op op_mulW (pe_ix ix_tup (pv 1) pe_int (fun _ _ => rfl)) (pe_ix ix_tup (pv 0) pe_int (fun _ _ => rfl)))) (pa_cons (pe_op op_mulW (pe_ix ix_tup (pv 0) pe_int (fun _ _ => rfl)) (pe_ix ix_tup (pv 1) pe_int (fun _ _ => rfl))) pa_nil))))), ?_⟩
    have i0 : ∀ x y : V, atI [x, y] 0 = some x := fun _ _ => rfl
    have i1 : ∀ x y : V, atI [x, y] 1 = some y := fun _ _ => rfl
    have P0 : ∀ Q' : VK, Q' (.int t) H → tOp (rIxT K) (tVar 0) (tC (.int 0)) [some (.ref p), some (.ref q)] H Q' := fun Q' h => ⟨_, rfl, p, _, _, _, rfl, rfl, SqT.of hp, i0 _ _, h⟩
    have P1 : ∀ Q' : VK, Q' (.int u) H → tOp (rIxT K) (tVar 0) (tC (.int 1)) [some (.ref p), some (.ref q)] H Q' := fun Q' h => ⟨_, rfl, p, _, _, _, rfl, rfl, SqT.of hp, i1 _ _, h⟩
    have Q0 : ∀ Q' : VK, Q' (.int t2) H → tOp (rIxT K) (tVar 1) (tC (.int 0)) [some (.ref p), some (.ref q)] H Q' := fun Q' h => ⟨_, rfl, q, _, _, _, rfl, rfl, SqT.of hq, i0 _ _, h⟩
    have Q1 : ∀ Q' : VK, Q' (.int u2) H → tOp (rIxT K) (tVar 1) (tC (.int 1)) [some (.ref p), some (.ref q)] H Q' := fun Q' h => ⟨_, rfl, q, _, _, _, rfl, rfl, SqT.of hq, i1 _ _, h⟩
    refine P0 _ (Q1 _ ⟨_, _, rfl, rfl, mulW_of b1 b4 (by omega), Q0 _ (P1 _ ⟨_, _, rfl, rfl, mulW_of b3 b2 (by omega), _, _, rfl, rfl, P1 _ (Q1 _ ⟨_, _, rfl, rfl, mulW_of b2 b4 (by omega), ?_⟩)⟩)⟩)
    refine ⟨_, _, rfl, Int.mul_ne_zero (by omega) (by omega), pow_step (abs_mul_lt b2 b4) (by omega), fun r a b H' s rd e _ hl hr => k r a b H' s rd e hl hr⟩
end
end K11

set_option Elab.async false
set_option linter.all false
set_option maxRecDepth 100000
set_option maxHeartbeats 1000000
set_option exponentiation.threshold 100000
namespace K11
open PySem PySem.Spec PyProof.Rows L2 Fa Fb
-- ['_law_bag_here', '_law_cap', '_law_found', '_law_beat', '_law_second', '_law_index', '_law_way']
def Kp (p : Addr) (H H' : Hp) : Prop := ∀ q o, q ≠ p → H q = some o → H' q = some o
theorem Kp.refl (p : Addr) (H : Hp) : Kp p H H := fun _ _ _ h => h
theorem Kp.trans {p : Addr} {H H1 H2 : Hp} (a : Kp p H H1) (b : Kp p H1 H2) : Kp p H H2 := fun q o n h => b q o n (a q o n h)
theorem Kp.but {p : Addr} {H H' : Hp} (h : But p H H') : Kp p H H' := fun q o n z => by rw [h q n]; exact z
theorem Kp.same {p : Addr} {H H' : Hp} (h : Same H H') : Kp p H H' := fun q o _ z => h q o z
theorem Kp.no {p D : Addr} {H H1 : Hp} (k : Kp p H H1) (ne : D ≠ p) (h : H1 D = none) : H D = none := by
  cases e : H D with
  | none => rfl
  | some o =>
    rw [k _ _ ne e] at h
    cases h
theorem Kp.put {p D : Addr} {H H' : Hp} {o : HO} (k : Kp p H H') (h : H D = none) : Kp p H (upd H' D o) := fun q u n z => by
  rw [upd_ne (ne_of_none z h)]
  exact k q u n z
theorem _root_.Fa.Box.ne {H : Hp} {p l : Addr} {n : Nat} (b : Box H p n) (hl : H l = none) : p ≠ l := by
  obtain ⟨_, _, _, h, _⟩ := b
  exact ne_of_none h hl
theorem _root_.Fa.Box.put {H : Hp} {p D : Addr} {n : Nat} {o : HO} (b : Box H p n) (ne : D ≠ p) : Box (upd H D o) p n := by
  obtain ⟨x, y, z, h, r⟩ := b
  exact ⟨x, y, z, by rw [upd_ne ne.symm]; exact h, r⟩
theorem _root_.Fa.Box.upd {H : Hp} {p l : Addr} {n : Nat} {o : HO} (b : Box H p n) (hl : H l = none) : Box (upd H l o) p n := b.put (b.ne hl).symm
theorem _root_.Fa.Box.sm {H H' : Hp} {p : Addr} {n : Nat} (b : Box H p n) (s : Same H H') : Box H' p n := by
  obtain ⟨x, y, z, h, r⟩ := b
  exact ⟨x, y, z, s _ _ h, r⟩
theorem atI_in {α : Type} {xs : List α} {z : Int} (h0 : 0 ≤ z) (h1 : z < (xs.length : Int)) : ∃ v, atI xs z = some v ∧ v ∈ xs := by
  obtain ⟨j, rfl⟩ := Int.eq_ofNat_of_zero_le h0
  have hj : j < xs.length := by omega
  exact ⟨xs[j], atI_nat (List.getElem?_eq_getElem hj), List.getElem_mem hj⟩
theorem Fr.kp {p r : Addr} {H H' : Hp} {n : Nat} {t u : Int} (h : Fr H r t u) (b : Box H p n) (k : Kp p H H') : Fr H' r t u := k _ _ (fun e => by
  obtain ⟨_, _, _, z, _⟩ := b
  unfold Fr at h
  rw [e, z] at h
  cases h) h
structure Fn0 (P : Program) (w : World) (K : PySem.W.Frag) (mg : Str → Option Value) (base : Heap) (x : Str) (lev : Nat) (ps : List Str) (sp : Sp) (f : Addr) (fd : FuncData) : Prop where
  ok : FnOk P w K mg base CX0 lev f fd ps sp
  g : mg x = some (.ref f)
  k : PySem.W.keepIn K (.ref f) = true
  b : Binds K fd ps []
abbrev sFn : Stmt := top 35
abbrev sSp : Stmt := top 36
abbrev sPoi : Stmt := top 38
theorem scFn : FnScope ["_law_bag_here", "_law_way"] ["_law_bag_here"] (defScope sFn) := ⟨rfl, rfl, rfl, by decide +kernel, rfl, by decide +kernel, by decide +kernel⟩
theorem scSp : FnScope ["_law_bag_here", "_law_found"] ["_law_bag_here"] (defScope sSp) := ⟨rfl, rfl, rfl, by decide +kernel, rfl, by decide +kernel, by decide +kernel⟩
theorem scPoi : FnScope ["_law_bag_here", "_law_cap", "_law_found", "_law_beat", "_law_second", "_law_index", "_law_way"] ["_law_bag_here", "_law_cap"] (defScope sPoi) := ⟨rfl, rfl, rfl, by decide +kernel, rfl, by decide +kernel, by decide +kernel⟩
def spFn : Sp := fun vs H Q _ => ∃ (p : Addr) (n : Nat), vs = [.ref p] ∧ Box H p n ∧ n + 3 ≤ 1000000 ∧ ∀ r t u H', Kp p H H' → Box H' p (n + 3) → Am.Red t u → t.natAbs ≤ 900 → u.natAbs ≤ 7 → Fr H' r t u → Q (.ref r) H'
def spSp : Sp := fun vs H Q _ => ∃ (p : Addr) (n : Nat), vs = [.ref p] ∧ Box H p n ∧ n + 3 ≤ 1000000 ∧ ∀ r t u H', Kp p H H' → Box H' p (n + 3) → Am.Red t u → 0 < t → t ≤ 901 → u ≤ 7 → Fr H' r t u → Q (.ref r) H'
section
variable {P : Program} {w : World} {K : PySem.W.Frag} {mg : Str → Option Value} {base : Heap} {f fT fF fN fS fU fR : Addr} {fd fdT fdF fdN fdS fdU fdR : FuncData}
theorem ok_fn (F : FnP K "_law_fraction" sFn f fd) (GT : Fn0 P w K mg base "_law_take" 1 ["_law_bag_here", "_law_many"] spTake fT fdT) (FR : Fn P w K mg base "_law_frac" 1 ["_law_top", "_law_bottom"] spFrac fF fdF) : FnOk P w K mg base (L2.CX P w) 2 f fd ["_law_bag_here"] spFn := by
  refine F.ok scFn (fun vs H Q E h => ?_) (fun cdv A outer s H vs Q E hr1 h => ?_)
  · obtain ⟨p, n, rfl, _⟩ := h
    rfl
  · obtain ⟨p, n, rfl, hb, hn, q⟩ := h
    refine ⟨_, (pss_cons (ps_set (i := 1) scFn.nd rfl (Or.inl rfl) (pe_call GT.ok hr1 rfl GT.g GT.k GT.b .nil pass0 (pa_cons (pv 0) (pa_cons pe_int pa_nil))))
      (pss_cons (ps_if (pt_cmpR op_eq (pv 1) pe_int (nomark _)) (pss_one (ps_ret (pe_call FR.ok hr1 rfl FR.g FR.k FR.b .nil passL (pa_cons (pe_op op_sub (pe_call GT.ok hr1 rfl GT.g GT.k GT.b .nil pass0 (pa_cons (pv 0) (pa_cons pe_int pa_nil))) pe_int) (pa_cons (pe_ix ix_list (pe_lst (pa_cons pe_int (pa_cons pe_int (pa_cons pe_int (pa_cons pe_int pa_nil))))) (pe_call GT.ok hr1 rfl GT.g GT.k GT.b .nil pass0 (pa_cons (pv 0) (pa_cons pe_int pa_nil))) (fun _ _ => rfl)) pa_nil))))) pss_nil)
      (pss_one (ps_ret (pe_call FR.ok hr1 rfl FR.g FR.k FR.b .nil passL (pa_cons (pe_op op_sub (pe_call GT.ok hr1 rfl GT.g GT.k GT.b .nil pass0 (pa_cons (pv 0) (pa_cons pe_int pa_nil))) pe_int) (pa_cons (pe_ix ix_list (pe_lst (pa_cons pe_int (pa_cons pe_int (pa_cons pe_int (pa_cons pe_int (pa_cons pe_int (pa_cons pe_int pa_nil))))))) (pe_call GT.ok hr1 rfl GT.g GT.k GT.b .nil pass0 (pa_cons (pv 0) (pa_cons pe_int pa_nil))) (fun _ _ => rfl)) pa_nil))))))), ?_⟩
    refine ⟨_, rfl, p, _, n, rfl, hb, by omega, by decide, by decide, fun z1 H1 z10 z11 b1 k1 => ?_⟩
    refine ⟨_, rfl, rfl, _, rfl, ?_⟩
    have fin : ∀ (xs : List Int) (lo m : Int), (∀ d ∈ xs, 0 < d ∧ d ≤ 7) → ∀ (z : Int) (H2 : Hp), 0 ≤ z → z < m → lo ≤ 900 → m ≤ 901 + lo → 0 ≤ lo → Box H2 p (n + 2) → But p H1 H2 → ∀ z3 H4 (l : Addr), 0 ≤ z3 → z3 < (xs.length : Int) → H2 l = none → Box H4 p (n + 3) → But p (upd H2 l (.lst (xs.map V.int))) H4 →
        ∀ Q' : VK, (∀ r H', Q (.ref r) H' → Q' (.ref r) H') → ∃ d : Int, atI (xs.map V.int) z3 = some (.int d) ∧ H4 l = some (.lst (xs.map V.int)) ∧ spFrac [.int (z - lo), .int d] H4 Q' E0 := by
      intro xs lo m hx z H2 z0 z1 hlo hm hlo0 b2 k2 z3 H4 l z30 z31 hl b4 k4 Q' hQ
      obtain ⟨v, ev, hv⟩ := atI_in (xs := xs.map V.int) z30 (by rw [List.length_map]; exact z31)
      obtain ⟨d, hd, rfl⟩ := List.mem_map.mp hv
      obtain ⟨d0, d7⟩ := hx d hd
      have nl : l ≠ p := (b2.ne hl).symm
      refine ⟨d, ev, by rw [k4 l nl]; exact upd_same, z - lo, d, rfl, by omega, Nat.lt_of_le_of_lt (show d.natAbs ≤ 7 by omega) (Nat.lt_of_lt_of_le (show 7 < 2 ^ 3 by decide) (Nat.pow_le_pow_right (by decide) (by decide))), fun r t u H' s rd _ ht hu hr => hQ r H' ?_⟩
      exact q r t u H' ((Kp.but k1).trans ((Kp.but k2).trans ((Kp.same (Same.upd hl)).trans ((Kp.but k4).trans (Kp.same s))))) (b4.sm s) rd (by omega) (by omega) hr
    by_cases c : z1 = 0
    · refine if_true_of (decide_eq_true (by rw [c])) ?_
      refine ⟨_, rfl, p, _, _, rfl, b1, by omega, by decide, by decide, fun z2 H2 z20 z21 b2 k2 => ?_⟩
      refine ⟨_, _, rfl, rfl, by show 4 ≤ sizeLine; decide, fun l hl => ?_⟩
      refine ⟨_, rfl, p, _, _, rfl, b2.upd hl, by omega, by decide, by decide, fun z3 H4 z30 z31 b4 k4 => ?_⟩
      obtain ⟨d, e1, e2, e3⟩ := fin [1, 2, 3, 4] 900 1801 (by decide) z2 H2 z20 z21 (by decide) (by decide) (by decide) b2 k2 z3 H4 l z30 z31 hl b4 k4 _ (fun r H' h => h)
      exact ⟨l, _, _, _, rfl, rfl, SqL.of e2, e1, e3⟩
    · refine if_false_of (decide_eq_false fun e => c (V.int.inj e)) ?_
      refine ⟨_, rfl, p, _, _, rfl, b1, by omega, by decide, by decide, fun z2 H2 z20 z21 b2 k2 => ?_⟩
      refine ⟨_, _, rfl, rfl, by show 6 ≤ sizeLine; decide, fun l hl => ?_⟩
      refine ⟨_, rfl, p, _, _, rfl, b2.upd hl, by omega, by decide, by decide, fun z3 H4 z30 z31 b4 k4 => ?_⟩
      obtain ⟨d, e1, e2, e3⟩ := fin [1, 1, 2, 3, 4, 7] 6 13 (by decide) z2 H2 z20 z21 (by decide) (by decide) (by decide) b2 k2 z3 H4 l z30 z31 hl b4 k4 _ (fun r H' h => h)
      exact ⟨l, _, _, _, rfl, rfl, SqL.of e2, e1, e3⟩
theorem ok_sp (F : FnP K "_law_step" sSp f fd) (FN : Fn P w K mg base "_law_fraction" 2 ["_law_bag_here"] spFn fN fdN) (FR : Fn P w K mg base "_law_frac" 1 ["_law_top", "_law_bottom"] spFrac fF fdF) : FnOk P w K mg base (L2.CX P w) 3 f fd ["_law_bag_here"] spSp := by
  refine F.ok scSp (fun vs H Q E h => ?_) (fun cdv A outer s H vs Q E hr h => ?_)
  · obtain ⟨p, n, rfl, _⟩ := h
    rfl
  · obtain ⟨p, n, rfl, hb, hn, q⟩ := h
    have hr1 := hr.mono (show 1 ≤ 2 by decide)
    refine ⟨_, (pss_cons (ps_set (i := 1) scSp.nd rfl (Or.inl rfl) (pe_call FN.ok hr rfl FN.g FN.k FN.b .nil passL (pa_cons (pv 0) pa_nil)))
      (pss_one (ps_ret (pe_ifExp (pt_cmpR op_gt (pe_ix ix_tup (pv 1) pe_int (fun _ _ => rfl)) pe_int (nomark _)) (pv 1) (pe_call FR.ok hr1 rfl FR.g FR.k FR.b .nil passL (pa_cons (pe_op op_sub pe_int (pe_ix ix_tup (pv 1) pe_int (fun _ _ => rfl))) (pa_cons (pe_ix ix_tup (pv 1) pe_int (fun _ _ => rfl)) pa_nil))))))), ?_⟩
    refine ⟨_, rfl, p, n, rfl, hb, hn, fun r t u H1 k1 b1 rd ht hu hr => ?_⟩
    have i0 : ∀ x y : V, atI [x, y] 0 = some x := fun _ _ => rfl
    have i1 : ∀ x y : V, atI [x, y] 1 = some y := fun _ _ => rfl
    have u0 := rd.1
    refine ⟨_, rfl, r, _, _, _, rfl, rfl, SqT.of hr, i0 _ _, _, _, rfl, rfl, _, rfl, ?_⟩
    by_cases c : 0 < t
    · exact if_true_of (decide_eq_true c) ⟨_, rfl, q r t u H1 k1 b1 rd c (by omega) (by omega) hr⟩
    · refine if_false_of (decide_eq_false c) ?_
      refine ⟨_, rfl, r, _, _, _, rfl, rfl, SqT.of hr, i0 _ _, _, _, rfl, rfl, _, rfl, r, _, _, _, rfl, rfl, SqT.of hr, i1 _ _, ?_⟩
      refine ⟨1 - t, u, rfl, by omega, Nat.lt_of_le_of_lt hu (Nat.lt_of_lt_of_le (show 7 < 2 ^ 3 by decide) (Nat.pow_le_pow_right (by decide) (by decide))), fun r2 t2 u2 H2 s2 rd2 e2 ht2 hu2 hr2 => ?_⟩
      have u20 := rd2.1
      have t20 : 0 < t2 := by
        have h1 : 0 < (1 - t) * u2 := Int.mul_pos (by omega) u20
        rw [← e2] at h1
        exact Int.pos_of_mul_pos_left h1 u0
      exact q r2 t2 u2 H2 (k1.trans (Kp.same s2)) (b1.sm s2) rd2 t20 (by omega) (by omega) hr2
end
end K11

set_option Elab.async false
set_option linter.all false
set_option maxRecDepth 100000
set_option maxHeartbeats 1000000
set_option exponentiation.threshold 100000
namespace K11
open PySem PySem.Spec PyProof.Rows L2 Fa Fb
structure RatOk (t u : Int) (i : Nat) : Prop where
  red : Am.Red t u
  ub : u ≤ 8 ^ (i + 1)
  lo : -(900 * u) ≤ t
  hi : t ≤ (900 + 901 * (i : Int)) * u
theorem rat_step {t u st su a b : Int} {i : Nat} (h : RatOk t u i) (rs : Am.Red st su) (s0 : 0 < st) (s1 : st ≤ 901) (s7 : su ≤ 7) (rd : Am.Red a b) (e : a * (u * su) = (t * su + st * u) * b) (hb : b.natAbs ≤ (u * su).natAbs) :
    RatOk a b (i + 1) ∧ t * b < a * u := by
  have u0 := h.red.1
  have su0 := rs.1
  have b0 := rd.1
  have us : 0 < u * su := Int.mul_pos u0 su0
  have ub' : 0 < u * b := Int.mul_pos u0 b0
  have sb : 0 < su * b := Int.mul_pos su0 b0
  have e1 : (t * su + st * u) * b = t * (su * b) + st * (u * b) := by grind
  refine ⟨⟨rd, ?_, ?_, ?_⟩, ?_⟩
  · have h1 : u * su ≤ 8 ^ (i + 1) * 7 := Int.mul_le_mul h.ub s7 (by omega) (Int.pow_nonneg (by decide))
    have h2 : (8 : Int) ^ (i + 1 + 1) = 8 ^ (i + 1) * 8 := Int.pow_succ ..
    have h3 : (0 : Int) ≤ 8 ^ (i + 1) := Int.pow_nonneg (by decide)
    rw [h2]
    omega
  · refine Int.le_of_mul_le_mul_right (a := u * su) ?_ us
    have e2 : -(900 * b) * (u * su) = -(900 * u) * (su * b) := by grind
    have h1 : -(900 * u) * (su * b) ≤ t * (su * b) := Int.mul_le_mul_of_nonneg_right h.lo (by omega)
    have h2 : 0 < st * (u * b) := Int.mul_pos s0 ub'
    rw [e, e1, e2]
    omega
  · refine Int.le_of_mul_le_mul_right (a := u * su) ?_ us
    have e2 : (900 + 901 * ((i + 1 : Nat) : Int)) * b * (u * su) = (900 + 901 * (i : Int)) * u * (su * b) + 901 * (su * (u * b)) := by
      have : ((i + 1 : Nat) : Int) = (i : Int) + 1 := by omega
      rw [this]
      grind
    have h1 : t * (su * b) ≤ (900 + 901 * (i : Int)) * u * (su * b) := Int.mul_le_mul_of_nonneg_right h.hi (by omega)
    have h2 : st * (u * b) ≤ 901 * (su * (u * b)) := by
      have h3 : st * (u * b) ≤ 901 * (u * b) := Int.mul_le_mul_of_nonneg_right s1 (by omega)
      have h4 : 1 * (u * b) ≤ su * (u * b) := Int.mul_le_mul_of_nonneg_right (by omega) (by omega)
      omega
    rw [e, e1, e2]
    omega
  · refine Int.lt_of_mul_lt_mul_right (a := su) ?_ (by omega)
    have e3 : a * u * su = t * b * su + st * (u * b) := by
      have : a * u * su = a * (u * su) := by grind
      rw [this, e, e1]
      grind
    have h2 : 0 < st * (u * b) := Int.mul_pos s0 ub'
    omega
/-- the rest of two neighbors is the step -/
theorem rest_is {t u st su a b r rb : Int} (u0 : 0 < u) (rs : Am.Red st su) (ra : Am.Red a b) (rr : Am.Red r rb) (e : a * (u * su) = (t * su + st * u) * b) (e2 : r * (b * u) = (a * u - t * b) * rb) : r = st ∧ rb = su := by
  have b0 := ra.1
  have su0 := rs.1
  refine Am.uniq rr rs ?_
  have bu : b * u ≠ 0 := Int.mul_ne_zero (by omega) (by omega)
  refine Int.eq_of_mul_eq_mul_right bu ?_
  have e3 : r * su * (b * u) = (a * u - t * b) * rb * su := by
    rw [← e2]
    grind
  rw [e3]
  grind
theorem RatOk.bits {t u : Int} {i : Nat} (h : RatOk t u i) (hi : i ≤ 8) : t.natAbs < 2 ^ 50 ∧ u.natAbs < 2 ^ 50 := by
  have u0 := h.red.1
  have h1 := h.ub
  have h2 := h.lo
  have h3 := h.hi
  have c : i = 0 ∨ i = 1 ∨ i = 2 ∨ i = 3 ∨ i = 4 ∨ i = 5 ∨ i = 6 ∨ i = 7 ∨ i = 8 := by omega
  rcases c with rfl | rfl | rfl | rfl | rfl | rfl | rfl | rfl | rfl <;> constructor <;> omega
def KT (H H' : Hp) : Prop := ∀ q o, H q = some o → (∀ l, o ≠ .lst l) → H' q = some o
theorem KT.of {H H' : Hp} (s : Same H H') : KT H H' := fun q o h _ => s q o h
theorem KT.kp {H H' : Hp} {p : Addr} {n : Nat} (b : Box H p n) (k : Kp p H H') : KT H H' := fun q o h nl => by
  refine k q o (fun e => ?_) h
  obtain ⟨_, _, _, z, _⟩ := b
  rw [e, z] at h
  exact nl _ (Option.some.inj h).symm
theorem KT.put {H : Hp} {D : Addr} {xs : List V} {o : HO} (h : H D = some (.lst xs)) : KT H (upd H D o) := fun q o' z nl => by
  rw [upd_ne fun e => by
    rw [e, h] at z
    exact nl _ (Option.some.inj z).symm]
  exact z
theorem KT.trans {H H1 H2 : Hp} (a : KT H H1) (b : KT H1 H2) : KT H H2 := fun q o h nl => b q o (a q o h nl) nl
theorem Fr.kt {H H' : Hp} {r : Addr} {t u : Int} (h : Fr H r t u) (k : KT H H') : Fr H' r t u := k _ _ h fun l z => by cases z
structure LpOk (H : Hp) (g : Pg) (i : Nat) : Prop where
  q : H g.q = some (.tup [.ref g.a, .ref g.b])
  a : Fr H g.a g.t g.u
  b : Fr H g.b g.t2 g.u2
  ra : RatOk g.t g.u i
  rb : RatOk g.t2 g.u2 i
theorem LpOk.kt {H H' : Hp} {g : Pg} {i : Nat} (h : LpOk H g i) (k : KT H H') : LpOk H' g i := ⟨k _ _ h.q (fun l z => by cases z), h.a.kt k, h.b.kt k, h.ra, h.rb⟩
structure LpL (H : Hp) (L : Addr) (lps : List Pg) : Prop where
  l : H L = some (.lst (lps.map fun g => V.ref g.q))
  ok : ∀ (i : Nat) g, lps[i]? = some g → LpOk H g i
  up : ∀ (i : Nat) g h, lps[i]? = some g → lps[i + 1]? = some h → Rises g h
theorem LpL.kt {H H' : Hp} {L : Addr} {lps : List Pg} (h : LpL H L lps) (k : KT H H') (hl : H' L = some (.lst (lps.map fun g => V.ref g.q))) : LpL H' L lps := ⟨hl, fun i g e => (h.ok i g e).kt k, h.up⟩
structure PoiI (H0 : Hp) (p : Addr) (n : Nat) (L : Addr) (i : Nat) (pb ps : Addr) (H' : Hp) : Prop where
  kp : Kp p H0 H'
  box : Box H' p (n + 7 + 7 * i)
  new : H0 L = none
  nl : L ≠ p
  ex : ∃ lps t u t2 u2, LpL H' L lps ∧ lps.length = i ∧ Fr H' pb t u ∧ Fr H' ps t2 u2 ∧ RatOk t u i ∧ RatOk t2 u2 i ∧ ∀ last, lps[i - 1]? = some last → 0 < i → Rises last ⟨0, 0, 0, t, u, t2, u2⟩
def sPoiB (H0 : Hp) (p : Addr) (n : Nat) : TS := fun D σ H' => ∃ (L : Addr) (i : Nat) (pb ps : Addr) (v6 : Option V), i < 7 ∧ σ = [some (.ref p), some (.int 7), some (.ref L), some (.ref pb), some (.ref ps), some (.int (i : Int)), v6] ∧ PoiI H0 p n L i pb ps H' ∧
  ∀ pb' ps' v6' H'', PoiI H0 p n L (i + 1) pb' ps' H'' → D.nx [some (.ref p), some (.int 7), some (.ref L), some (.ref pb'), some (.ref ps'), some (.int (i : Int)), v6'] H''
def spPoi : Sp := fun vs H Q _ => ∃ (p : Addr) (n : Nat), vs = [.ref p, .int 7] ∧ Box H p n ∧ n + 80 ≤ 1000000 ∧ ∀ L lps H', Kp p H H' → Box H' p (n + 80) → H L = none → LpL H' L lps → lps.length ≤ 7 → Q (.ref L) H'
section
variable {P : Program} {w : World} {K : PySem.W.Frag} {mg : Str → Option Value} {base : Heap} {f fT fF fN fS fU fR : Addr} {fd fdT fdF fdN fdS fdU fdR : FuncData}
theorem ok_poi (F : FnP K "_law_points" sPoi f fd) (mG : mg "range" = none) (GT : Fn0 P w K mg base "_law_take" 1 ["_law_bag_here", "_law_many"] spTake fT fdT) (FN : Fn P w K mg base "_law_fraction" 2 ["_law_bag_here"] spFn fN fdN) (SP : Fn P w K mg base "_law_step" 3 ["_law_bag_here"] spSp fS fdS)
    (SU : Fn P w K mg base "_law_sum" 2 ["_law_one", "_law_other"] spSum fU fdU) (RE : Fn P w K mg base "_law_rest" 2 ["_law_one", "_law_other"] spRest fR fdR) : FnOk P w K mg base (L2.CX P w) 4 f fd ["_law_bag_here", "_law_cap"] spPoi := by
  refine F.ok scPoi (fun vs H Q E h => ?_) (fun cdv A outer s H vs Q E hr h => ?_)
  · obtain ⟨p, n, rfl, _⟩ := h
    rfl
  · obtain ⟨p, n, rfl, hb, hn, q⟩ := h
    have hr1 := hr.mono (show 1 ≤ 3 by decide)
    have hr2 := hr.mono (show 2 ≤ 3 by decide)
    have hr3 := hr

    refine ⟨_, (pss_cons (ps_par3 (by rfl) scPoi.nd (i := 2) (j := 3) (l := 4) rfl rfl rfl (by decide) (by decide) (by decide) rfl rfl rfl (pa_cons (pe_lst pa_nil) (pa_cons (pe_call FN.ok hr2 rfl FN.g FN.k FN.b .nil passL (pa_cons (pv 0) pa_nil)) (pa_cons (pe_call FN.ok hr2 rfl FN.g FN.k FN.b .nil passL (pa_cons (pv 0) pa_nil)) pa_nil))) (by rfl))
      (pss_cons (ps_for (passes_of rfl) rfl (pi_range1 rfl mG (pa_cons (pe_call GT.ok hr1 rfl GT.g GT.k GT.b .nil pass0 (pa_cons (pv 0) (pa_cons (pe_op op_add (pv 1) pe_int) pa_nil))) pa_nil)) (pg_name (i := 5) scPoi.nd rfl (Or.inl rfl))
      (pss_imp (S := sPoiB H p n) (pss_cons (ps_expr (pe_bm PySem.F.plainAttrs_list PySem.F.slot_list_append PySem.F.type_list_append mt_append (pv 2) (pa_cons (pe_tup (pa_cons (pv 3) (pa_cons (pv 4) pa_nil))) pa_nil)))
      (pss_cons (ps_set (i := 3) scPoi.nd rfl (Or.inl rfl) (pe_call SU.ok hr2 rfl SU.g SU.k SU.b .nil passL (pa_cons (pv 3) (pa_cons (pe_call SP.ok hr3 rfl SP.g SP.k SP.b .nil passL (pa_cons (pv 0) pa_nil)) pa_nil))))
      (pss_cons (ps_set (i := 6) scPoi.nd rfl (Or.inl rfl) (pe_call GT.ok hr1 rfl GT.g GT.k GT.b .nil pass0 (pa_cons (pv 0) (pa_cons pe_int pa_nil))))
      (pss_one (ps_set (i := 4) scPoi.nd rfl (Or.inl rfl) (pe_ifExp (pt_cmpR op_gt (pv 6) pe_int (nomark _)) (pe_call SU.ok hr2 rfl SU.g SU.k SU.b .nil passL (pa_cons (pv 4) (pa_cons (pe_call SP.ok hr3 rfl SP.g SP.k SP.b .nil passL (pa_cons (pv 0) pa_nil)) pa_nil))) (pe_call SU.ok hr2 rfl SU.g SU.k SU.b .nil passL (pa_cons (pv 4) (pa_cons (pe_call RE.ok hr2 rfl RE.g RE.k RE.b .nil passL (pa_cons (pv 3) (pa_cons (pe_ix ix_tup (pe_ix ix_list (pv 2) (pe_un un_neg pe_int) (fun _ _ => rfl)) pe_int (fun _ _ => rfl)) pa_nil))) pa_nil))))))))) ?body))
      (pss_one (ps_ret (pv 2))))), ?_⟩
    have r2 : 2 ≤ sizeLine := by decide
    case body =>
      rintro D σ H1 ⟨L, i, pb, ps, v6, hi, rfl, ⟨kp, box, new, nl, lps, t, u, t2, u2, lp, ln, fb, fs, rb, rs, up⟩, k⟩
      have li := lp.l
      refine ⟨_, rfl, .inl ⟨rfl, _, SqL.of li⟩, _, rfl, _, rfl, r2, fun q0 hq0 => ?_⟩
      have nq : q0 ≠ L := fun e => by
        rw [e, li] at hq0
        cases hq0
      refine ⟨L, _, _, rfl, rfl, by rw [upd_ne nq.symm]; exact li, ?_, ?_⟩
      · rw [List.length_map, ln]
        exact Nat.lt_of_lt_of_le (show i < 100 by omega) (by decide)
      have kt1 : KT H1 (upd (upd H1 q0 (.tup [.ref pb, .ref ps])) L (.lst ((lps.map fun g => V.ref g.q) ++ [.ref q0]))) := (KT.of (Same.upd hq0)).trans (KT.put (by rw [upd_ne nq.symm]; exact li))
      have g0 : Pg := ⟨q0, pb, ps, t, u, t2, u2⟩
      have lp2 : LpL (upd (upd H1 q0 (.tup [.ref pb, .ref ps])) L (.lst ((lps.map fun g => V.ref g.q) ++ [.ref q0]))) L (lps ++ [⟨q0, pb, ps, t, u, t2, u2⟩]) := by
        refine ⟨by rw [upd_same, List.map_append]; rfl, fun j g e => ?_, fun j g h e1 e2 => ?_⟩
        · rcases Nat.lt_or_ge j lps.length with c | c
          · rw [List.getElem?_append_left c] at e
            exact (lp.ok j g e).kt kt1
          · have ej : j = i := by
              have := (List.getElem?_eq_some_iff.mp e).1
              rw [List.length_append, List.length_singleton] at this
              omega
            rw [List.getElem?_append_right c, ej, ln, Nat.sub_self] at e
            cases e
            rw [ej]
            exact ⟨by rw [upd_ne nq]; exact upd_same, fb.kt kt1, fs.kt kt1, rb, rs⟩
        · have lj : j + 1 < (lps ++ [(⟨q0, pb, ps, t, u, t2, u2⟩ : Pg)]).length := (List.getElem?_eq_some_iff.mp e2).1
          rw [List.length_append, List.length_singleton] at lj
          rw [List.getElem?_append_left (by omega)] at e1
          by_cases c : j + 1 < lps.length
          · rw [List.getElem?_append_left c] at e2
            exact lp.up j g h e1 e2
          · have ej : j + 1 = lps.length := by omega
            rw [List.getElem?_append_right (by omega), ej, Nat.sub_self] at e2
            cases e2
            exact up g (by rw [← ln, ← ej]; exact e1) (by omega)
      have kp2 : Kp p H (upd (upd H1 q0 (.tup [.ref pb, .ref ps])) L (.lst ((lps.map fun g => V.ref g.q) ++ [.ref q0]))) := (kp.trans (Kp.same (Same.upd hq0))).put new
      have box2 : Box (upd (upd H1 q0 (.tup [.ref pb, .ref ps])) L (.lst ((lps.map fun g => V.ref g.q) ++ [.ref q0]))) p (n + 7 + 7 * i) := (box.upd hq0).put nl
      generalize upd (upd H1 q0 (.tup [.ref pb, .ref ps])) L (.lst ((lps.map fun g => V.ref g.q) ++ [.ref q0])) = H2 at kt1 lp2 kp2 box2
      have fb2 := fb.kt kt1
      have fs2 := fs.kt kt1
      have lp2l := lp2.l
      obtain ⟨tb, ub⟩ := rb.bits (by omega)
      obtain ⟨t2b, u2b⟩ := rs.bits (by omega)
      have u0 := rb.red.1
      have u20 := rs.red.1
      have smb : ∀ st su : Int, 0 < st → st ≤ 901 → 0 < su → su ≤ 7 → st.natAbs < 2 ^ 50 ∧ su.natAbs < 2 ^ 50 := fun st su a b c d => ⟨Nat.lt_of_le_of_lt (show st.natAbs ≤ 901 by omega) (by decide), Nat.lt_of_le_of_lt (show su.natAbs ≤ 7 by omega) (by decide)⟩
      refine ⟨_, rfl, _, rfl, p, _, rfl, box2, by omega, fun r st su H3 k3 b3 rds st0 st9 su7 hr3' => ?_⟩
      have kt3 : KT H2 H3 := KT.kp box2 k3
      have l3 := k3 _ _ nl lp2l
      obtain ⟨stb, sub⟩ := smb st su st0 st9 rds.1 su7
      refine ⟨pb, r, t, u, st, su, 50, rfl, fb2.kt kt3, hr3', u0, rds.1, tb, ub, stb, sub, by decide, fun pb' a b H4 s4 rdab e hle hpb' => ?_⟩
      obtain ⟨rab, ltb⟩ := rat_step rb rds st0 st9 su7 rdab e hle
      have kt4 := kt3.trans (KT.of s4)
      have l4 := s4 _ _ l3
      refine ⟨_, rfl, p, _, _, rfl, b3.sm s4, by omega, by decide, by decide, fun wy H5 w0 w1 b5 k5 => ?_⟩
      have kt5 := kt4.trans (KT.kp (b3.sm s4) (Kp.but k5))
      have l5 := Kp.but k5 _ _ nl l4
      have hpb5 : Fr H5 pb' a b := hpb'.kp (b3.sm s4) (Kp.but k5)
      have kp5 : Kp p H H5 := kp2.trans (k3.trans ((Kp.same s4).trans (Kp.but k5)))
      have fin : ∀ (ps' : Addr) (c d : Int) (H6 : Hp), Kp p H5 H6 → Box H6 p (n + 7 + 7 * (i + 1)) → RatOk c d (i + 1) → t2 * d < c * u2 → Fr H6 ps' c d → PoiI H p n L (i + 1) pb' ps' H6 := by
        intro ps' c d H6 k6 b6 rcd ltc f6
        have kt6 := kt5.trans (KT.kp b5 k6)
        refine ⟨kp5.trans k6, b6, new, nl, _, a, b, c, d, lp2.kt kt6 (k6 _ _ nl l5), by rw [List.length_append, ln]; rfl, hpb5.kp b5 k6, f6, rab, rcd, fun last el _ => ?_⟩
        rw [Nat.add_sub_cancel, List.getElem?_append_right (by omega), ln, Nat.sub_self] at el
        cases el
        exact ⟨ltb, ltc⟩
      refine ⟨_, rfl, _, _, rfl, rfl, _, rfl, ?_⟩
      refine ite2 (fun _ => ?_) (fun _ => ?_)
      · refine ⟨_, rfl, _, rfl, p, _, rfl, b5, by omega, fun r2 st2 su2 H6 k6 b6 rds2 st20 st29 su27 hr6 => ?_⟩
        obtain ⟨stb2, sub2⟩ := smb st2 su2 st20 st29 rds2.1 su27
        refine ⟨ps, r2, t2, u2, st2, su2, 50, rfl, (fs2.kt kt5).kp b5 k6, hr6, u20, rds2.1, t2b, u2b, stb2, sub2, by decide, fun ps' c d H7 s7 rdcd e7 hle7 hps' => ?_⟩
        obtain ⟨rcd, ltc⟩ := rat_step rs rds2 st20 st29 su27 rdcd e7 hle7
        exact k _ _ _ _ (fin ps' c d H7 (k6.trans (Kp.same s7)) ((b6.sm s7).mono (by omega)) rcd ltc hps')
      · refine ⟨_, rfl, _, rfl, _, rfl, _, rfl, L, _, _, _, rfl, rfl, SqL.of l5, atI_last (by rw [List.map_append, List.length_append, List.length_map, List.map_singleton, List.length_singleton, Nat.add_sub_cancel, List.getElem?_append_right (by rw [List.length_map]; omega), List.length_map, Nat.sub_self]; rfl), ?_⟩
        refine ⟨q0, _, _, _, rfl, rfl, SqT.of ((lp2.kt kt5 l5).ok i _ (by rw [List.getElem?_append_right (by omega), ln, Nat.sub_self]; rfl)).q, rfl, pb', pb, a, b, t, u, 50, rfl, hpb5, fb2.kt kt5, rab.red.1, u0, (rab.bits (by omega)).1, (rab.bits (by omega)).2, tb, ub, by decide, fun r5 c5 d5 H6 s6 rd6 e6 _ f6 => ?_⟩
        obtain ⟨rfl, rfl⟩ := rest_is u0 rds rab.red rd6 e e6
        have kt6 := kt5.trans (KT.of s6)
        refine ⟨ps, r5, t2, u2, c5, d5, 50, rfl, fs2.kt kt6, f6, u20, rds.1, t2b, u2b, stb, sub, by decide, fun ps' c d H7 s7 rdcd e7 hle7 hps' => ?_⟩
        obtain ⟨rcd, ltc⟩ := rat_step rs rds st0 st9 su7 rdcd e7 hle7
        exact k _ _ _ _ (fin ps' c d H7 ((Kp.same s6).trans (Kp.same s7)) (((b5.sm s6).sm s7).mono (by omega)) rcd ltc hps')
    refine ⟨by decide, fun L hL => ?_⟩
    have nl : L ≠ p := (hb.ne hL).symm
    have b0 : Box (upd H L (.lst [])) p n := hb.upd hL
    refine ⟨_, rfl, p, n, rfl, b0, by omega, fun r1 t u H1 k1 b1 rd1 ht1 hu1 hr1' => ?_⟩
    refine ⟨_, rfl, p, _, rfl, b1, by omega, fun r2 t2 u2 H2 k2 b2 rd2 ht2 hu2 hr2' => ?_⟩
    have l2 : H2 L = some (.lst []) := k2 _ _ nl (k1 _ _ nl upd_same)
    refine ⟨_, _, _, rfl, ?_⟩
    refine ⟨_, rfl, _, rfl, _, _, rfl, rfl, p, _, _, rfl, b2, by omega, by decide, by decide, fun wy H3 w0 w1 b3 k3 => ?_⟩
    have rok : ∀ t u : Int, Am.Red t u → t.natAbs ≤ 900 → u.natAbs ≤ 7 → RatOk t u 0 := fun t u rd ht hu => by
      have u0 := rd.1
      refine ⟨rd, ?_, ?_, ?_⟩
      · show u ≤ 8 ^ 1
        omega
      · omega
      · have : (900 + 901 * ((0 : Nat) : Int)) * u = 900 * u := rfl
        rw [this]
        omega
    have wl : wy.toNat ≤ 7 := by omega
    refine ⟨wy, rfl, Int.le_trans (by decide) w0, Int.lt_trans w1 (by decide), ?_⟩
    refine for_range (lo := 0) (n := wy.toNat) (fun i σ H' => ∃ (pb ps : Addr) (v5 v6 : Option V), σ = [some (.ref p), some (.int 7), some (.ref L), some (.ref pb), some (.ref ps), v5, v6] ∧ PoiI H p n L i pb ps H') ⟨_, _, _, _, rfl, ?_⟩ ?_ ?_
    · refine ⟨(Kp.same (Same.upd hL)).trans (k1.trans (k2.trans (Kp.but k3))), b3.mono (by omega), hL, nl, [], t, u, t2, u2, ⟨(Kp.but k3) _ _ nl l2, fun i g e => (by cases e), fun i g h e => (by cases e)⟩, rfl, (hr1'.kp b1 k2).kp b2 (Kp.but k3), hr2'.kp b2 (Kp.but k3), rok _ _ rd1 ht1 hu1, rok _ _ rd2 ht2 hu2, fun _ e => (by cases e)⟩
    · rintro i σ Hc hi ⟨pb, ps, v5, v6, rfl, ip⟩
      rw [Int.zero_add]
      exact ⟨L, i, pb, ps, v6, by omega, rfl, ip, fun pb' ps' v6' H'' ip' => ⟨_, _, _, _, rfl, ip'⟩⟩
    · rintro σ Hc ⟨pb, ps, v5, v6, rfl, ip⟩
      obtain ⟨kp, box, new, _, lps, _, _, _, _, lp, ln, _⟩ := ip
      exact ⟨_, rfl, q L lps Hc kp (box.mono (by omega)) new lp (by omega)⟩
end
end K11
set_option Elab.async false
set_option linter.all false
set_option maxRecDepth 100000
set_option maxHeartbeats 1000000
set_option exponentiation.threshold 100000
namespace K11
open PySem PySem.Spec PyProof.Rows L2 Fa Fb
-- ['_law_bag_here', '_law_passed', '_law_at', '_law_one', '_law_two', '_law_way', '_law_odds', '_law_before', '_law_less_here']
abbrev sSpt : Stmt := top 45
theorem scSpt : FnScope ["_law_bag_here", "_law_passed", "_law_at", "_law_one", "_law_two", "_law_way", "_law_odds", "_law_before", "_law_less_here"] ["_law_bag_here", "_law_passed", "_law_at"] (defScope sSpt) := ⟨rfl, rfl, rfl, by decide +kernel, rfl, by decide +kernel, by decide +kernel⟩
/-- what stands outside the two lists stays -/
def K2 (p l : Addr) (H H' : Hp) : Prop := ∀ q o, q ≠ p → q ≠ l → H q = some o → H' q = some o
theorem K2.trans {p l : Addr} {H H1 H2 : Hp} (a : K2 p l H H1) (b : K2 p l H1 H2) : K2 p l H H2 := fun q o n m h => b q o n m (a q o n m h)
theorem K2.kp {p l : Addr} {H H' : Hp} (h : Kp p H H') : K2 p l H H' := fun q o n _ z => h q o n z
theorem K2.same {p l : Addr} {H H' : Hp} (h : Same H H') : K2 p l H H' := fun q o _ _ z => h q o z
theorem K2.but {p l : Addr} {H H' : Hp} (h : But p H H') : K2 p l H H' := K2.kp (Kp.but h)
theorem K2.put {p l : Addr} {H : Hp} {o : HO} : K2 p l H (upd H l o) := fun q u _ m z => by rw [upd_ne m]; exact z
def SmV (x : V) : Prop := (flatV x = true ∧ eqV x x = true) ∨ ∃ a, x = .ref a
/-- an item that does not stand for a point -/
structure Odd (K : PySem.W.Frag) (H0 H : Hp) (v : V) : Prop where
  bad : BadI K H v
  sm : SmV v
  ls : (∃ T, (∀ J, Same H J → TyX K J v (.type T)) ∧ PySem.W.kitOne K (.type T) (.type "list") = some false) ∨ ∃ lv ys, v = .ref lv ∧ H lv = some (.lst ys) ∧ H0 lv = none ∧ ys.length ≤ 3 ∧ ys[2]? ≠ some (.bl true) ∧ ∀ y ∈ ys, SmV y
def GoI (K : PySem.W.Frag) (H : Hp) (l : Addr) (g : Pg) : Prop := H l = some (.lst [.ref g.a, .ref g.b]) ∧ IsA K H (.ref g.a) g.t g.u 60 ∧ IsA K H (.ref g.b) g.t2 g.u2 60
theorem IsA.lift {K : PySem.W.Frag} {H H' : Hp} {x : V} {t u : Int} {n : Nat} (h : IsA K H x t u n) (k : ∀ q o, H q = some o → (∀ l, o ≠ .lst l) → H' q = some o) : IsA K H' x t u n := by
  obtain ⟨p, dx, e, h1, h2⟩ := h
  exact ⟨p, dx, e, k _ _ h1 (fun l z => by cases z), h2⟩
theorem K2.nl {p l : Addr} {H H' : Hp} {xs ys : List V} (hp : H p = some (.lst xs)) (hl : H l = some (.lst ys)) (k : K2 p l H H') : KT H H' := fun q o h nl => by
  refine k q o (fun e => ?_) (fun e => ?_) h
  · rw [e, hp] at h
    exact nl _ (Option.some.inj h).symm
  · rw [e, hl] at h
    exact nl _ (Option.some.inj h).symm
theorem GoI.k2 {K : PySem.W.Frag} {p l li : Addr} {H H' : Hp} {g : Pg} {xs ys : List V} (h : GoI K H li g) (hp : H p = some (.lst xs)) (hl : H l = some (.lst ys)) (k : K2 p l H H') (n1 : li ≠ p) (n2 : li ≠ l) : GoI K H' li g :=
  ⟨k _ _ n1 n2 h.1, h.2.1.lift (k.nl hp hl), h.2.2.lift (k.nl hp hl)⟩
theorem GoI.gd {K : PySem.W.Frag} {li : Addr} {H : Hp} {g : Pg} (h : GoI K H li g) : GdI K H li g := ⟨h.1, h.2.1.mono (by decide), h.2.2.mono (by decide)⟩
def SpE (K : PySem.W.Frag) (H H' : Hp) (i : Nat) (h : Pg) (v : V) (nm : Str) (w : V) : Prop :=
  (nm = "point" ∧ w = v ∧ Odd K H H' v) ∨ (nm = "falling" ∧ w = .int (i : Int) ∧ 0 < i ∧ ∃ lv g', v = .ref lv ∧ H lv = none ∧ GdI K H' lv g' ∧ ¬ Rises h g')
theorem bad_non {K : PySem.W.Frag} {H : Hp} : Bad K H .non := ⟨"NoneType", by simp [tys], .base .non, _, false, false, .base .non, kit_ty (by decide +kernel), kit_ty (by decide +kernel), rfl⟩
theorem bad_bl {K : PySem.W.Frag} {H : Hp} (b : Bool) : Bad K H (.bl b) := ⟨"bool", by simp [tys], .base (.bl b), _, true, true, .base (.bl b), kit_ty (by decide +kernel), kit_ty (by decide +kernel), rfl⟩
theorem bad_str {K : PySem.W.Frag} {H : Hp} (x : Str) : Bad K H (.str x) := ⟨"str", by simp [tys], .base (.str x), _, false, false, .base (.str x), kit_ty (by decide +kernel), kit_ty (by decide +kernel), rfl⟩
theorem sm_ref (a : Addr) : SmV (.ref a) := .inr ⟨a, rfl⟩
theorem odd_non {K : PySem.W.Frag} {H0 H : Hp} : Odd K H0 H .non := ⟨.nl _ (fun J _ => .base .non) (ka_no (by decide +kernel) (by decide +kernel)), .inl ⟨rfl, rfl⟩, .inl ⟨_, fun J _ => .base .non, kit_ty (by decide +kernel)⟩⟩
theorem odd_int {K : PySem.W.Frag} {H0 H : Hp} (i : Int) : Odd K H0 H (.int i) := ⟨.nl _ (fun J _ => .base (.int i)) (ka_no (by decide +kernel) (by decide +kernel)), .inl ⟨rfl, by simp [eqV]⟩, .inl ⟨_, fun J _ => .base (.int i), kit_ty (by decide +kernel)⟩⟩
theorem odd_str {K : PySem.W.Frag} {H0 H : Hp} (x : Str) : Odd K H0 H (.str x) := ⟨.nl _ (fun J _ => .base (.str x)) (ka_no (by decide +kernel) (by decide +kernel)), .inl ⟨rfl, by simp [eqV]⟩, .inl ⟨_, fun J _ => .base (.str x), kit_ty (by decide +kernel)⟩⟩
theorem odd_dk {K : PySem.W.Frag} {H0 H : Hp} {d : Addr} {kvs : List (Key × V)} (h : H d = some (.dK kvs)) : Odd K H0 H (.ref d) := ⟨.nl _ (fun J s => .base (.dK (s _ _ h))) (ka_no (by decide +kernel) (by decide +kernel)), sm_ref _, .inl ⟨_, fun J s => .base (.dK (s _ _ h)), kit_ty (by decide +kernel)⟩⟩
theorem odd_ls {K : PySem.W.Frag} {H0 H : Hp} {d : Addr} {ys : List V} (h : H d = some (.lst ys)) (h0 : H0 d = none) (b : BadI K H (.ref d)) (n : ys.length ≤ 3) (n2 : ys[2]? ≠ some (.bl true)) (sm : ∀ y ∈ ys, SmV y) : Odd K H0 H (.ref d) := ⟨b, sm_ref _, .inr ⟨d, ys, rfl, h, h0, n, n2, sm⟩⟩
theorem sm_mem {x : V} {xs : List V} (h : SmV x) (t : ∀ y ∈ xs, SmV y) : ∀ y ∈ x :: xs, SmV y := fun y hy => by
  rcases List.mem_cons.mp hy with e | m
  · rw [e]; exact h
  · exact t y m
theorem sm_nil : ∀ y ∈ ([] : List V), SmV y := fun y hy => by cases hy
theorem sm_non : SmV .non := .inl ⟨rfl, rfl⟩
theorem sm_bl (b : Bool) : SmV (.bl b) := .inl ⟨rfl, by simp [eqV]⟩
theorem sm_int (i : Int) : SmV (.int i) := .inl ⟨rfl, by simp [eqV]⟩
theorem sm_str (x : Str) : SmV (.str x) := .inl ⟨rfl, by simp [eqV]⟩
/-- where the odd item is made -/
def sSptP (K : PySem.W.Frag) (p l : Addr) (i n : Nat) (xs : List V) (g : Pg) : TS := fun D σ H1 => ∃ v5 v6 v7 v8, σ = [some (.ref p), some (.ref l), some (.int (i : Int)), some (.ref g.a), some (.ref g.b), v5, v6, v7, v8] ∧ Box H1 p (n + 1) ∧ n + 10 ≤ 1000000 ∧ l ≠ p ∧ H1 l = some (.lst xs) ∧ i < xs.length ∧
  IsA K H1 (.ref g.a) g.t g.u 60 ∧ IsA K H1 (.ref g.b) g.t2 g.u2 60 ∧
  ∀ H' r v, K2 p l H1 H' → Box H' p (n + 2) → H' l = some (.lst (xs.set i v)) → H1 r = none → r ≠ l → r ≠ p → H' r = some (.lst [.str "point", v, .bl true]) → Odd K H1 H' v → D.rt (.ref r) H'
/-- what stands behind all -/
theorem ixN_of {n j : Nat} (hj : j < n) : ixN n (j : Int) = some j := by
  unfold ixN
  rw [if_pos (by omega), if_pos (by omega)]
  simp
theorem not_up {ht hu tl ul t u : Int} (hu0 : 0 < hu) (ul0 : 0 < ul) (u0 : 0 < u) (tl0 : 0 ≤ tl) (e : t * (hu * ul) = (ht * ul - tl * hu) * u) : ¬ ht * u < t * hu := fun c => by
  have h1 : ht * u * ul < t * hu * ul := Int.mul_lt_mul_of_pos_right c ul0
  have h2 : t * hu * ul = ht * u * ul - tl * (hu * u) := by
    have : t * hu * ul = t * (hu * ul) := by grind
    rw [this, e]
    grind
  have h3 : 0 ≤ tl * (hu * u) := Int.mul_nonneg tl0 (Int.le_of_lt (Int.mul_pos hu0 u0))
  omega
def spSpt (K : PySem.W.Frag) : Sp := fun vs H Q _ => ∃ (p l : Addr) (i n : Nat) (xs : List V) (li : Addr) (g h : Pg), vs = [.ref p, .ref l, .int (i : Int)] ∧ Box H p n ∧ n + 10 ≤ 1000000 ∧ l ≠ p ∧ H l = some (.lst xs) ∧ xs[i]? = some (.ref li) ∧ GoI K H li g ∧ li ≠ p ∧ li ≠ l ∧
  (0 < i → ∃ lj, xs[i - 1]? = some (.ref lj) ∧ GoI K H lj h ∧ lj ≠ p ∧ lj ≠ l) ∧
  ∀ H' r v nm w, K2 p l H H' → Box H' p (n + 2) → H' l = some (.lst (xs.set i v)) → H r = none → r ≠ l → r ≠ p → H' r = some (.lst [.str nm, w, .bl true]) → SpE K H H' i h v nm w → Q (.ref r) H'
section
variable {P : Program} {w : World} {K : PySem.W.Frag} {mg : Str → Option Value} {base : Heap} {f fT fS : Addr} {fd fdT fdS fdI : FuncData}
theorem ok_spt (F : FnP K "_law_spoilt" sSpt f fd) (T : AF K mg) (GT : Fn0 P w K mg base "_law_take" 1 ["_law_bag_here", "_law_many"] spTake fT fdT) (OS : OpK P w K mg base "sub" 7 (spSub K) fS fdS) (GI : FnOk P w K mg base (L2.CX P w) 4 (aI K) fdI ["self", "top", "bottom"] (spInit K)) {ds : List Value} (hds : Vals [.int 1] ds) (bI : Binds K fdI ["self", "top", "bottom"] ds) (b2 : Binds K fdI ["self", "top", "bottom"] []) :
    FnOk P w K mg base (L2.CX P w) 8 f fd ["_law_bag_here", "_law_passed", "_law_at"] (spSpt K) := by
  refine F.ok scSpt (fun vs H Q E h => ?_) (fun cdv A outer s H vs Q E hr h => ?_)
  · obtain ⟨p, l, i, n, xs, li, g, h, rfl, _⟩ := h
    rfl
  · obtain ⟨p, l, i, n, xs, li, g, h, rfl, hb, hn, nlp, hl, hi, gd, nli1, nli2, pre, q⟩ := h
    have hr1 := hr.mono (show 1 ≤ 7 by decide)
    have hr2 := hr.mono (show 2 ≤ 7 by decide)
    have hr3 := hr.mono (show 3 ≤ 7 by decide)
    have hr5 := hr.mono (show 5 ≤ 7 by decide)
    have hr6 := hr.mono (show 6 ≤ 7 by decide)
    have hr7 := hr.mono (show 7 ≤ 7 by decide)

    refine ⟨_, (pss_cons (ps_asg (pe_ix ix_list (pv 1) (pv 2) (fun _ _ => rfl)) (pg_lst (by rfl) (pgs_cons (pg_name (i := 3) scSpt.nd rfl (Or.inl rfl)) (pgs_cons (pg_name (i := 4) scSpt.nd rfl (Or.inl rfl)) pgs_nil))))
      (pss_cons (ps_set (i := 5) scSpt.nd rfl (Or.inl rfl) (pe_call GT.ok hr1 rfl GT.g GT.k GT.b .nil pass0 (pa_cons (pv 0) (pa_cons pe_int pa_nil))))
      (pss_cons (ps_if (PW.pt (pw_or (pt_cmpR op_lt (pv 5) pe_int (nomark _)) (pw_or1 (pt_cmpR op_eq (pv 2) pe_int (nomark _))))) (pss_imp (S := sSptP K p l i n xs g) (pss_cons (ps_set (i := 6) scSpt.nd rfl (Or.inl rfl) (pe_lst (pa_cons pe_non (pa_cons pe_int (pa_cons pe_str (pa_cons (pe_lst (pa_cons (pv 3) pa_nil)) (pa_cons (pe_lst (pa_cons (pv 3) (pa_cons (pv 4) (pa_cons pe_int pa_nil)))) (pa_cons pe_dnewK (pa_cons (pe_lst (pa_cons (pv 3) (pa_cons pe_non pa_nil))) (pa_cons (pe_lst (pa_cons pe_bl (pa_cons (pv 4) pa_nil))) (pa_cons (pe_lst (pa_cons pe_str (pa_cons (pv 4) pa_nil))) (pa_cons (pe_lst (pa_cons (pv 3) (pa_cons pe_str pa_nil))) (pa_cons (pe_disp (pps_cons pe_int pe_int (pps_cons pe_int pe_int pps_nil)) rfl rfl (fun e => nomatch e) (by decide)) pa_nil)))))))))))))
      (pss_cons (ps_asg (pe_ix ix_list (pv 6) (pe_call GT.ok hr1 rfl GT.g GT.k GT.b .nil pass0 (pa_cons (pv 0) (pa_cons pe_int pa_nil))) (fun _ _ => rfl)) (pg_sub (pv 1) (pv 2) set_list))
      (pss_one (ps_ret (pe_lst (pa_cons pe_str (pa_cons (pe_ix ix_list (pv 1) (pv 2) (fun _ _ => rfl)) (pa_cons pe_bl pa_nil)))))))) ?pt) pss_nil)
      (pss_cons (ps_set (i := 7) scSpt.nd rfl (Or.inl rfl) (pe_ix ix_list (pv 1) (pe_op op_sub (pv 2) pe_int) (fun _ _ => rfl)))
      (pss_cons (ps_set (i := 8) scSpt.nd rfl (Or.inl rfl) (pe_ix ix_list (pe_lst (pa_cons (pe_make T.mkA GI hr5 rfl T.g bI hds passL (pa_cons pe_int pa_nil)) (pa_cons (pe_make T.mkA GI hr5 rfl T.g b2 .nil passL (pa_cons pe_int (pa_cons pe_int pa_nil))) (pa_cons (pe_make T.mkA GI hr5 rfl T.g bI hds passL (pa_cons pe_int pa_nil)) pa_nil)))) (pe_call GT.ok hr1 rfl GT.g GT.k GT.b .nil pass0 (pa_cons (pv 0) (pa_cons pe_int pa_nil))) (fun _ _ => rfl)))
      (pss_cons (ps_if (pt_cmpR op_eq (pv 5) pe_int (nomark _)) (pss_one (ps_asg (pe_lst (pa_cons (pe_binX (op := .Sub) OS.op.own OS.ok hr7 OS.b passS (pe_ix ix_list (pv 7) pe_int (fun _ _ => rfl)) (pv 8)) (pa_cons (pv 4) pa_nil))) (pg_sub (pv 1) (pv 2) set_list))) (pss_one (ps_if (pt_cmpR op_eq (pv 5) pe_int (nomark _)) (pss_one (ps_asg (pe_lst (pa_cons (pv 3) (pa_cons (pe_binX (op := .Sub) OS.op.own OS.ok hr7 OS.b passS (pe_ix ix_list (pv 7) pe_int (fun _ _ => rfl)) (pv 8)) pa_nil))) (pg_sub (pv 1) (pv 2) set_list))) (pss_one (ps_asg (pe_lst (pa_cons (pe_binX (op := .Sub) OS.op.own OS.ok hr7 OS.b passS (pe_ix ix_list (pv 7) pe_int (fun _ _ => rfl)) (pv 8)) (pa_cons (pe_binX (op := .Sub) OS.op.own OS.ok hr7 OS.b passS (pe_ix ix_list (pv 7) pe_int (fun _ _ => rfl)) (pv 8)) pa_nil))) (pg_sub (pv 1) (pv 2) set_list))))))
      (pss_one (ps_ret (pe_lst (pa_cons pe_str (pa_cons (pv 2) (pa_cons pe_bl pa_nil)))))))))))), ?_⟩
    case pt =>
      rintro D σ H1 ⟨v5, v6, v7, v8, rfl, b1, hn, nlp, hl1, ni, ia, ib, k⟩
      have nl_ : ∀ d, H1 d = none → l ≠ d := fun d => ne_of_none hl1
      have np_ : ∀ d, H1 d = none → p ≠ d := fun d => b1.ne
      refine ⟨_, rfl, by show 1 ≤ sizeLine; decide, fun d3 h3 => ?_⟩
      have e3 : (upd H1 d3 (.lst [.ref g.a])) d3 = some (.lst [.ref g.a]) := upd_same
      have s3 := Same.upd (o := .lst [.ref g.a]) h3
      generalize upd H1 d3 (.lst [.ref g.a]) = A3 at e3 s3 ⊢
      refine ⟨_, rfl, _, rfl, by show 3 ≤ sizeLine; decide, fun d4 h4 => ?_⟩
      have e4 : (upd A3 d4 (.lst [.ref g.a, .ref g.b, .int 0])) d4 = some (.lst [.ref g.a, .ref g.b, .int 0]) := upd_same
      have s4 := s3.trans (Same.upd (o := .lst [.ref g.a, .ref g.b, .int 0]) h4)
      have r3 := (Same.upd (o := .lst [.ref g.a, .ref g.b, .int 0]) h4) _ _ e3
      have h4' := none_of s3 h4
      generalize upd A3 d4 (.lst [.ref g.a, .ref g.b, .int 0]) = A4 at e4 s4 r3 ⊢
      clear e3
      refine fun d5 h5 => ?_
      have t5 := Same.upd (o := .dK []) h5
      have e5 : (upd A4 d5 (.dK [])) d5 = some (.dK []) := upd_same
      have h5' := none_of s4 h5
      generalize upd A4 d5 (.dK []) = A5 at e5 t5 ⊢
      refine ⟨_, rfl, by show 2 ≤ sizeLine; decide, fun d6 h6 => ?_⟩
      have t6 := Same.upd (o := .lst [.ref g.a, .non]) h6
      have e6 : (upd A5 d6 (.lst [.ref g.a, .non])) d6 = some (.lst [.ref g.a, .non]) := upd_same
      have h6' := none_of (s4.trans t5) h6
      generalize upd A5 d6 (.lst [.ref g.a, .non]) = A6 at e6 t6 ⊢
      refine ⟨_, rfl, by show 2 ≤ sizeLine; decide, fun d7 h7 => ?_⟩
      have t7 := Same.upd (o := .lst [.bl true, .ref g.b]) h7
      have e7 : (upd A6 d7 (.lst [.bl true, .ref g.b])) d7 = some (.lst [.bl true, .ref g.b]) := upd_same
      have h7' := none_of (s4.trans (t5.trans t6)) h7
      generalize upd A6 d7 (.lst [.bl true, .ref g.b]) = A7 at e7 t7 ⊢
      refine ⟨_, rfl, by show 2 ≤ sizeLine; decide, fun d8 h8 => ?_⟩
      have t8 := Same.upd (o := .lst [.str "1", .ref g.b]) h8
      have e8 : (upd A7 d8 (.lst [.str "1", .ref g.b])) d8 = some (.lst [.str "1", .ref g.b]) := upd_same
      have h8' := none_of (s4.trans (t5.trans (t6.trans t7))) h8
      generalize upd A7 d8 (.lst [.str "1", .ref g.b]) = A8 at e8 t8 ⊢
      refine ⟨_, rfl, by show 2 ≤ sizeLine; decide, fun d9 h9 => ?_⟩
      have t9 := Same.upd (o := .lst [.ref g.a, .str "0"]) h9
      have e9 : (upd A8 d9 (.lst [.ref g.a, .str "0"])) d9 = some (.lst [.ref g.a, .str "0"]) := upd_same
      have h9' := none_of (s4.trans (t5.trans (t6.trans (t7.trans t8)))) h9
      generalize upd A8 d9 (.lst [.ref g.a, .str "0"]) = A9 at e9 t9 ⊢
      refine fun d10 h10 => ⟨upd_same, [(.inl 0, .int 1), (.inl 2, .int 3)], rfl, by decide, by show 11 ≤ sizeLine; decide, fun lo hlo => ?_⟩
      rw [upd_upd] at hlo ⊢
      have t10 := Same.upd (o := .dK (mergeK [] [(.inl 0, .int 1), (.inl 2, .int 3)])) h10
      have e10 : (upd A9 d10 (.dK (mergeK [] [(.inl 0, .int 1), (.inl 2, .int 3)]))) d10 = some (.dK (mergeK [] [(.inl 0, .int 1), (.inl 2, .int 3)])) := upd_same
      have h10' := none_of (s4.trans (t5.trans (t6.trans (t7.trans (t8.trans t9))))) h10
      generalize upd A9 d10 (.dK (mergeK [] [(.inl 0, .int 1), (.inl 2, .int 3)])) = A10 at e10 t10 hlo ⊢
      have u9 := t10
      have u8 := t9.trans u9
      have u7 := t8.trans u8
      have u6 := t7.trans u7
      have u5 := t6.trans u6
      have u4 := t5.trans u5
      have sA := s4.trans u4
      have hlo' := none_of sA hlo
      have tl := Same.upd (o := .lst [.non, .int 7, .str "12", .ref d3, .ref d4, .ref d5, .ref d6, .ref d7, .ref d8, .ref d9, .ref d10]) hlo
      have el : (upd A10 lo (.lst [.non, .int 7, .str "12", .ref d3, .ref d4, .ref d5, .ref d6, .ref d7, .ref d8, .ref d9, .ref d10])) lo = some (.lst [.non, .int 7, .str "12", .ref d3, .ref d4, .ref d5, .ref d6, .ref d7, .ref d8, .ref d9, .ref d10]) := upd_same
      generalize upd A10 lo (.lst [.non, .int 7, .str "12", .ref d3, .ref d4, .ref d5, .ref d6, .ref d7, .ref d8, .ref d9, .ref d10]) = C at tl el ⊢
      have sC := sA.trans tl
      have bC := b1.sm sC
      have hlC := sC _ _ hl1
      refine ⟨_, rfl, _, rfl, p, _, _, rfl, bC, by omega, by decide, by decide, fun z H2 z0 z1 b2 k2 => ?_⟩
      obtain ⟨v, ev, hv⟩ := atI_in (α := V) (xs := [.non, .int 7, .str "12", .ref d3, .ref d4, .ref d5, .ref d6, .ref d7, .ref d8, .ref d9, .ref d10]) z0 z1
      have od : ∀ J, K2 p l C J → Odd K H1 J v := by
        intro J kJ
        have at_ : ∀ d o, H1 d = none → C d = some o → J d = some o := fun d o n e => kJ d o (np_ d n).symm (nl_ d n).symm e
        obtain ⟨_, _, _, hpC, _⟩ := id bC
        have kt : KT C J := K2.nl hpC hlC kJ
        have ja : IsA K J (.ref g.a) g.t g.u 200 := ((ia.same sC).lift kt).mono (by decide)
        have c3 := at_ d3 _ (none_of (Same.refl _) h3) (tl _ _ (u4 _ _ r3))
        have c4 := at_ d4 _ h4' (tl _ _ (u4 _ _ e4))
        have c5 := at_ d5 _ h5' (tl _ _ (u5 _ _ e5))
        have c6 := at_ d6 _ h6' (tl _ _ (u6 _ _ e6))
        have c7 := at_ d7 _ h7' (tl _ _ (u7 _ _ e7))
        have c8 := at_ d8 _ h8' (tl _ _ (u8 _ _ e8))
        have c9 := at_ d9 _ h9' (tl _ _ (u9 _ _ e9))
        have c10 := at_ d10 _ h10' (tl _ _ e10)
        simp only [List.mem_cons, List.mem_nil_iff, or_false] at hv
        rcases hv with rfl | rfl | rfl | rfl | rfl | rfl | rfl | rfl | rfl | rfl | rfl
        · exact odd_non
        · exact odd_int 7
        · exact odd_str _
        · exact odd_ls c3 h3 (.len c3 (by simp)) (by simp) (by simp) (sm_mem (sm_ref _) sm_nil)
        · exact odd_ls c4 h4' (.len c4 (by simp)) (by simp) (by simp) (sm_mem (sm_ref _) (sm_mem (sm_ref _) (sm_mem (sm_int _) sm_nil)))
        · exact odd_dk c5
        · exact odd_ls c6 h6' (.b1 c6 ja fun J _ => bad_non) (by simp) (by simp) (sm_mem (sm_ref _) (sm_mem sm_non sm_nil))
        · exact odd_ls c7 h7' (.b0 c7 fun J _ => bad_bl _) (by simp) (by simp) (sm_mem (sm_bl _) (sm_mem (sm_ref _) sm_nil))
        · exact odd_ls c8 h8' (.b0 c8 fun J _ => bad_str _) (by simp) (by simp) (sm_mem (sm_str _) (sm_mem (sm_ref _) sm_nil))
        · exact odd_ls c9 h9' (.b1 c9 ja fun J _ => bad_str _) (by simp) (by simp) (sm_mem (sm_ref _) (sm_mem (sm_str _) sm_nil))
        · exact odd_dk c10
      have hl2 : H2 l = some (.lst xs) := by rw [k2 l nlp]; exact hlC
      have elo2 : H2 lo = some (.lst [.non, .int 7, .str "12", .ref d3, .ref d4, .ref d5, .ref d6, .ref d7, .ref d8, .ref d9, .ref d10]) := by rw [k2 lo (np_ lo hlo').symm]; exact el
      refine ⟨lo, _, _, v, rfl, rfl, SqL.of elo2, ev, ?_⟩
      refine ⟨_, rfl, _, rfl, l, xs, _, i, rfl, rfl, hl2, ixN_of ni, ?_⟩
      refine ⟨_, rfl, _, rfl, l, _, _, v, rfl, rfl, SqL.of upd_same, atI_nat (by rw [List.getElem?_set_self ni]), by show 3 ≤ sizeLine; decide, fun r hr => ?_⟩
      have nrl : r ≠ l := fun e => by rw [e, upd_same] at hr; cases hr
      have hr2 : H2 r = none := by rw [upd_ne nrl] at hr; exact hr
      have k2' : K2 p l H1 H2 := (K2.same sC).trans (K2.but k2)
      have nrp : r ≠ p := (b2.ne hr2).symm
      have hr1 : H1 r = none := none_of sC (by rw [← k2 r nrp]; exact hr2)
      have kF : K2 p l C (upd (upd H2 l (.lst (xs.set i v))) r (.lst [.str "point", v, .bl true])) := (K2.but k2).trans (K2.put.trans (K2.same (Same.upd hr)))
      exact k _ r v ((K2.same sC).trans kF) (((b2.put nlp).upd hr).mono (by omega)) (by rw [upd_ne nrl.symm]; exact upd_same) hr1 nrl nrp upd_same (od _ kF)
    refine ⟨_, rfl, _, rfl, l, _, _, _, rfl, rfl, SqL.of hl, atI_nat hi, li, _, rfl, SqL.of gd.1, rfl, _, _, rfl, _, _, rfl, rfl, ?_⟩
    refine ⟨_, rfl, p, _, n, rfl, hb, by omega, by decide, by decide, fun z1 H1 z10 z11 b1 k1 => ?_⟩
    have hl1 : H1 l = some (.lst xs) := k1 l nlp ▸ hl
    have gd1 : GoI K H1 li g := by
      obtain ⟨_, _, _, hp, _⟩ := id hb
      exact gd.k2 hp hl (K2.but k1) nli1 nli2
    have ni : i < xs.length := (List.getElem?_eq_some_iff.mp hi).1
    have h1none : ∀ r, r ≠ p → H1 r = none → H r = none := fun r n1 e => by rw [← k1 r n1]; exact e
    have pt : ∀ D : Ends, D.rt = Q → sSptP K p l i n xs g D [some (.ref p), some (.ref l), some (.int (i : Int)), some (.ref g.a), some (.ref g.b), some (.int z1), none, none, none] H1 := fun D hD => by
      refine ⟨_, _, _, _, rfl, b1, hn, nlp, hl1, ni, gd1.2.1, gd1.2.2, fun H' r v k b hl' h0 n1 n2 hr' od => ?_⟩
      rw [hD]
      refine q H' r v "point" v ((K2.but k1).trans k) b hl' (h1none r n2 h0) n1 n2 hr' (.inl ⟨rfl, rfl, od.bad, od.sm, ?_⟩)
      rcases od.ls with h | ⟨lv, ys, e1, e2, e3, e4⟩
      · exact .inl h
      · exact .inr ⟨lv, ys, e1, e2, h1none lv (b1.ne e3).symm e3, e4⟩
    refine ⟨_, rfl, _, _, rfl, rfl, _, rfl, ?_⟩
    refine ite2 (fun _ => ?_) (fun _ => ?_)
    · exact pt _ rfl
    refine ⟨_, rfl, rfl, _, rfl, ?_⟩
    refine ite2 (fun _ => ?_) (fun c => ?_)
    · exact pt _ rfl
    have i0 : 0 < i := by
      rcases Nat.eq_zero_or_pos i with e | e
      · exact absurd (by rw [e]; rfl) c
      · exact e
    obtain ⟨lj, hj, gj, nj1, nj2⟩ := pre i0
    have gj1 : GoI K H1 lj h := by
      obtain ⟨_, _, _, hp, _⟩ := id hb
      exact gj.k2 hp hl (K2.but k1) nj1 nj2
    refine ⟨_, rfl, _, rfl, _, _, rfl, rfl, l, _, _, V.ref lj, rfl, rfl, SqL.of hl1, ?_, ?_⟩
    · have e : (i : Int) - 1 = ((i - 1 : Nat) : Int) := by omega
      show atI _ ((i : Int) - 1) = _
      rw [e]
      exact atI_nat hj
    refine fun y1 dy1 h1 hd1 n1 => spInit_imp (make_fact T (n := 60) (a := 0) (b := 1) (by decide) (by decide) (by decide) (by decide) h1 hd1 n1) fun v1 H2 ⟨hv1, t1, u1, s1, ia1, ea1⟩ => ⟨hv1, ?_⟩
    refine fun y2 dy2 h2 hd2 n2 => spInit_imp (make_fact T (n := 60) (a := 1) (b := 3) (by decide) (by decide) (by decide) (by decide) h2 hd2 n2) fun v2 H3 ⟨hv2, t2, u2, s2, ia2, ea2⟩ => ⟨hv2, ?_⟩
    refine fun y3 dy3 h3 hd3 n3 => spInit_imp (make_fact T (n := 60) (a := 50) (b := 1) (by decide) (by decide) (by decide) (by decide) h3 hd3 n3) fun v3 H4 ⟨hv3, t3, u3, s3, ia3, ea3⟩ => ⟨hv3, ?_⟩
    refine ⟨by show 3 ≤ sizeLine; decide, fun ll hll => ?_⟩
    have s4 := Same.upd (o := .lst [.ref y1, .ref y2, .ref y3]) hll
    have e4 : (upd H4 ll (.lst [.ref y1, .ref y2, .ref y3])) ll = some (.lst [.ref y1, .ref y2, .ref y3]) := upd_same
    have s14 := s1.trans (s2.trans (s3.trans s4))
    have nll : ll ≠ p := ((b1.sm (s1.trans (s2.trans s3))).ne hll).symm
    generalize upd H4 ll (.lst [.ref y1, .ref y2, .ref y3]) = H5 at s4 e4 s14 ⊢
    have b5 := b1.sm s14
    have hl5 := s14 _ _ hl1
    refine ⟨_, rfl, p, _, _, rfl, b5, by omega, by decide, by decide, fun z H6 z0 z1' b6 k6 => ?_⟩
    obtain ⟨v, ev, hv⟩ := atI_in (α := V) (xs := [.ref y1, .ref y2, .ref y3]) z0 z1'
    have kt6 : KT H5 H6 := KT.kp b5 (Kp.but k6)
    have less : ∃ tl ul, IsA K H6 v tl ul 60 ∧ 0 ≤ tl := by
      simp only [List.mem_cons, List.mem_nil_iff, or_false] at hv
      rcases hv with rfl | rfl | rfl
      · exact ⟨t1, u1, (ia1.same (s2.trans (s3.trans s4))).lift kt6, by omega⟩
      · obtain ⟨_, _, _, _, ⟨uu, _⟩, _⟩ := id ia2
        exact ⟨t2, u2, (ia2.same (s3.trans s4)).lift kt6, by omega⟩
      · obtain ⟨_, _, _, _, ⟨uu, _⟩, _⟩ := id ia3
        exact ⟨t3, u3, (ia3.same s4).lift kt6, by omega⟩
    obtain ⟨tl, ul, il, tl0⟩ := less
    refine ⟨ll, _, _, v, rfl, rfl, SqL.of (by rw [k6 ll nll]; exact e4), ev, ?_⟩
    have k16 : K2 p l H H6 := (K2.but k1).trans ((K2.same s14).trans (K2.but k6))
    obtain ⟨_, _, _, hpH, _⟩ := id hb
    have gi6 : GoI K H6 li g := gd.k2 hpH hl k16 nli1 nli2
    have gj6 : GoI K H6 lj h := gj.k2 hpH hl k16 nj1 nj2
    have hl6 : H6 l = some (.lst xs) := by rw [k6 l nlp]; exact hl5
    obtain ⟨gj6l, ja, jb⟩ := gj6
    obtain ⟨_, ga, gb⟩ := gi6
    obtain ⟨pa, da, ea, ha, ⟨hu0, _⟩, _⟩ := id ja
    obtain ⟨pb, db, eb, hb', ⟨hu20, _⟩, _⟩ := id jb
    obtain ⟨_, _, _, _, ⟨ul0, _⟩, _⟩ := id il
    have fin : ∀ (H7 : Hp) (g' : Pg) (ln : Addr), Same H6 H7 → IsA K H7 (.ref g'.a) g'.t g'.u 200 → IsA K H7 (.ref g'.b) g'.t2 g'.u2 200 → ¬ Rises h g' → H7 ln = none → ∀ r, (upd (upd H7 ln (.lst [.ref g'.a, .ref g'.b])) l (.lst (xs.set i (.ref ln)))) r = none →
        Q (.ref r) (upd (upd (upd H7 ln (.lst [.ref g'.a, .ref g'.b])) l (.lst (xs.set i (.ref ln)))) r (.lst [.str "falling", .int (i : Int), .bl true])) := by
      intro H7 g' ln s7 ia ib nr hln r hr
      have nrl : r ≠ l := fun e => by rw [e, upd_same] at hr; cases hr
      have nln : ln ≠ l := (ne_of_none (s7 _ _ hl6) hln).symm
      have b7 := b6.sm s7
      have nlnp : ln ≠ p := (b7.ne hln).symm
      have hr8 : (upd H7 ln (.lst [.ref g'.a, .ref g'.b])) r = none := by rw [upd_ne nrl] at hr; exact hr
      have s8 := Same.upd (o := .lst [.ref g'.a, .ref g'.b]) hln
      have b8 := b7.sm s8
      have nrp : r ≠ p := (b8.ne hr8).symm
      have k8 : K2 p l H (upd (upd (upd H7 ln (.lst [.ref g'.a, .ref g'.b])) l (.lst (xs.set i (.ref ln)))) r (.lst [.str "falling", .int (i : Int), .bl true])) :=
        k16.trans ((K2.same (s7.trans s8)).trans (K2.put.trans (K2.same (Same.upd hr))))
      have back : ∀ d, d ≠ p → H7 d = none → H d = none := fun d n1 e => by
        have e6 := none_of s7 e
        rw [k6 d n1] at e6
        have e1 := none_of s14 e6
        rw [← k1 d n1]
        exact e1
      have nrln : r ≠ ln := fun e => by rw [e, upd_same] at hr8; cases hr8
      have lf : ∀ x t u, IsA K H7 x t u 200 → IsA K (upd (upd (upd H7 ln (.lst [.ref g'.a, .ref g'.b])) l (.lst (xs.set i (.ref ln)))) r (.lst [.str "falling", .int (i : Int), .bl true])) x t u 200 := fun x t u hx =>
        ((hx.same s8).lift (KT.put (s8 _ _ (s7 _ _ hl6)))).same (Same.upd hr)
      refine q _ r (.ref ln) "falling" (.int (i : Int)) k8 (((b8.put nlp).upd hr).mono (by omega)) (by rw [upd_ne nrl.symm]; exact upd_same) (back r nrp (none_of s8 hr8)) nrl nrp upd_same (.inr ⟨rfl, rfl, i0, ln, g', rfl, back ln nlnp hln, ⟨?_, lf _ _ _ ia, lf _ _ _ ib⟩, nr⟩)
      rw [upd_ne nrln.symm, upd_ne nln]
      exact upd_same
    refine ⟨_, rfl, rfl, _, rfl, ?_⟩
    refine ite2 (fun _ => ?_) (fun _ => ?_)
    · refine ⟨_, rfl, lj, _, _, _, rfl, rfl, SqL.of gj6l, rfl, _, rfl, pa, da, _, ea, ha, OS.op.arg (.inl il), _, _, _, _, _, rfl, ja, .inr ⟨_, _, _, .inl il, by decide, fun z7 H7 t7 u7 s7 iz7 ez7 => ?_⟩⟩
      obtain ⟨pz, dz, rfl, _, ⟨u70, _⟩, _⟩ := id iz7
      refine ⟨_, rfl, by show 2 ≤ sizeLine; decide, fun ln hln => ?_⟩
      refine ⟨_, rfl, _, rfl, l, xs, _, i, rfl, rfl, (Same.upd hln) _ _ (s7 _ _ hl6), ixN_of ni, ?_⟩
      refine ⟨_, rfl, by show 3 ≤ sizeLine; decide, fun r hr => ?_⟩
      exact fin H7 ⟨0, pz, g.b, t7, u7, g.t2, g.u2⟩ ln s7 (iz7.mono (by decide)) ((gb.same s7).mono (by decide)) (fun rr => not_up hu0 ul0 u70 tl0 ez7 rr.1) hln r hr
    refine ⟨_, rfl, rfl, _, rfl, ?_⟩
    refine ite2 (fun _ => ?_) (fun _ => ?_)
    · refine ⟨_, rfl, _, rfl, lj, _, _, _, rfl, rfl, SqL.of gj6l, rfl, _, rfl, pb, db, _, eb, hb', OS.op.arg (.inl il), _, _, _, _, _, rfl, jb, .inr ⟨_, _, _, .inl il, by decide, fun z7 H7 t7 u7 s7 iz7 ez7 => ?_⟩⟩
      obtain ⟨pz, dz, rfl, _, ⟨u70, _⟩, _⟩ := id iz7
      refine ⟨by show 2 ≤ sizeLine; decide, fun ln hln => ?_⟩
      refine ⟨_, rfl, _, rfl, l, xs, _, i, rfl, rfl, (Same.upd hln) _ _ (s7 _ _ hl6), ixN_of ni, ?_⟩
      refine ⟨_, rfl, by show 3 ≤ sizeLine; decide, fun r hr => ?_⟩
      exact fin H7 ⟨0, g.a, pz, g.t, g.u, t7, u7⟩ ln s7 ((ga.same s7).mono (by decide)) (iz7.mono (by decide)) (fun rr => not_up hu20 ul0 u70 tl0 ez7 rr.2) hln r hr
    · refine ⟨_, rfl, lj, _, _, _, rfl, rfl, SqL.of gj6l, rfl, _, rfl, pa, da, _, ea, ha, OS.op.arg (.inl il), _, _, _, _, _, rfl, ja, .inr ⟨_, _, _, .inl il, by decide, fun z7 H7 t7 u7 s7 iz7 ez7 => ?_⟩⟩
      obtain ⟨pz, dz, rfl, _, ⟨u70, _⟩, _⟩ := id iz7
      refine ⟨_, rfl, lj, _, _, _, rfl, rfl, SqL.of (s7 _ _ gj6l), rfl, _, rfl, pb, db, _, eb, s7 _ _ hb', OS.op.arg (.inl (il.same s7)), _, _, _, _, _, rfl, jb.same s7, .inr ⟨_, _, _, .inl (il.same s7), by decide, fun z8 H8 t8 u8 s8 iz8 ez8 => ?_⟩⟩
      obtain ⟨pz8, dz8, rfl, _, ⟨u80, _⟩, _⟩ := id iz8
      refine ⟨by show 2 ≤ sizeLine; decide, fun ln hln => ?_⟩
      refine ⟨_, rfl, _, rfl, l, xs, _, i, rfl, rfl, (Same.upd hln) _ _ (s8 _ _ (s7 _ _ hl6)), ixN_of ni, ?_⟩
      refine ⟨_, rfl, by show 3 ≤ sizeLine; decide, fun r hr => ?_⟩
      exact fin H8 ⟨0, pz, pz8, t7, u7, t8, u8⟩ ln (s7.trans s8) ((iz7.same s8).mono (by decide)) (iz8.mono (by decide)) (fun rr => not_up hu0 ul0 u70 tl0 ez7 rr.1) hln r hr
end
end K11

set_option Elab.async false
set_option linter.all false
set_option maxRecDepth 100000
set_option maxHeartbeats 4000000
/-! l != b of two lists whose items are equal by an own ==: False. -/
namespace Fe
open PySem PySem.SeqAt
open AutoSeq1 (wpAny_loadPart')
open MeetsSeq MeetsSeq2 MeetsSeq3 SeqRoads2 GQ
section
variable {prog : Program} {w : World} {A : Around} {R : Result → Shared → Prop}
theorem ne_goes (l b : Addr) (N : Nat) (I : Nat → Shared → Prop) (hl : ListI prog w A (fun e s' => R (.error e) s') l b N I) (fin : ∀ s, I N s → R (.ok (.ret (.bool false))) s) (m : Nat) :
    ∀ j : Nat, m + j = N → ∀ s, I j s → wpAny (model prog w) A.in1 (Builtin.«list.__eq__.loop» ⟨[.ref l, .ref b, rawInt j, rawInt 3], []⟩) (FinOf prog w A R) (fun e s' => R (.error e) s') s := by
  induction m with
  | zero =>
    intro j hj s h
    obtain ⟨xs, ys, n, n2, g1, g2, z1, z2, _⟩ := hl _ _ h
    have jN : j = N := by omega
    have done : R (.ok (.ret (.bool false))) s := fin s (jN ▸ h)
    obtain ⟨hp, gl, dr, tk, os⟩ := s
    wp_walk using wpAny_loadPart' g1, wpAny_loadPart' g2
    have e1 : xs[((j : Nat) : Int).toNat]? = none := by
      simp
      omega
    have e2 : ys[((j : Nat) : Int).toNat]? = none := by
      simp
      omega
    rw [e1, e2]
    wp_walk using wpAny_loadPart' g1, wpAny_loadPart' g2
    show R (.ok (.ret (.bool (xs.size != ys.size)))) _
    rw [z1, z2]
    simpa using done
  | succ m ih =>
    intro j hj s h
    obtain ⟨xs, ys, n, n2, g1, g2, z1, z2, turn⟩ := hl _ _ h
    have l1 : j < xs.size := by omega
    have l2 : j < ys.size := by omega
    have one := turn l1 l2
    obtain ⟨hp, gl, dr, tk, os⟩ := s
    wp_walk using wpAny_loadPart' g1, wpAny_loadPart' g2
    have e1 : xs[((j : Nat) : Int).toNat]? = some xs[j] := by simp [l1]
    have e2 : ys[((j : Nat) : Int).toNat]? = some ys[j] := by simp [l2]
    rw [e1, e2]
    refine wpAny_bind (wpAny_mono one (fun r s2 hr => ?_) fun _ _ z => z)
    obtain ⟨er, h2⟩ := hr
    subst er
    have rest := ih (j + 1) (by omega) s2 h2
    obtain ⟨hp2, gl2, dr2, tk2, os2⟩ := s2
    wp_walk
    rw [show ((j : Int) + 1) = ((j + 1 : Nat) : Int) by omega]
    refine ⟨plainId_quiet plain_eq_loop _, codeAny_builtin entry_eq_loop ?_⟩
    rw [Around.under_plainId plain_eq_loop _]
    exact rest
theorem list_ne (l b : Addr) (N : Nat) (I : Nat → Shared → Prop) (hl : ListI prog w A (fun e s' => R (.error e) s') l b N I) (fin : ∀ s, I N s → R (.ok (.ret (.bool false))) s) {s : Shared} (h : I 0 s) :
    wpAny (model prog w) A.in1 (Builtin.«list.__ne__» ⟨[.ref l, .ref b], []⟩) (FinOf prog w A R) (fun e s' => R (.error e) s') s := by
  obtain ⟨xs, ys, n, n2, g1, g2, z1, z2, _⟩ := hl _ _ h
  have rest := ne_goes (A := A) (R := R) l b N I hl fin N 0 (by omega) s h
  obtain ⟨hp, gl, dr, tk, os⟩ := s
  have sub := AutoSeq1.sub_list_list
  have same : ¬ (xs.size != ys.size) = true := by simp [z1, z2]
  wp_walk using wpAny_loadPart' g1, wpAny_loadPart' g2
  refine ⟨plainId_quiet plain_eq_loop _, codeAny_builtin entry_eq_loop ?_⟩
  rw [Around.under_plainId plain_eq_loop _]
  exact rest
theorem rc_ne {l b : Addr} {N : Nat} {E : Value → Shared → Prop} {s : Shared} {Q : Value → Shared → Prop} (hu : A.units < cLine) (I : Nat → Shared → Prop) (hl : ListI prog w A E l b N I) (fin : ∀ s, I N s → Q (.bool false) s) (h : I 0 s) :
    wpAny (model prog w) A (richCompare .NotEq (.ref l) (.ref b)) Q E s := by
  obtain ⟨xs, ys, n, n2, g1, g2, _, _, _⟩ := hl _ _ h
  refine wpAny_richCompare_same_room (op := .NotEq) ⟨_, g1, rfl⟩ ⟨_, g2, rfl⟩ F.slot_list_ne (call_here F.slot_list_ne ⟨_, g1, rfl⟩ F.entry_list_ne (F.args_list_ne_2 _ _) ?_) hu
  exact list_ne (R := wants (fun v s' => v ≠ .notImplemented ∧ Q v s') E) l b N I hl (fun s' q => ⟨(fun x => nomatch x), fin s' q⟩) h
end
end Fe
namespace Fe
open PySem PySem.Spec PyProof.Rows L2
theorem op_neG {X : Cx} {n : Nat} {D : Eqv} (hD : Mon D) (h : EqG X n D) (hr : Room (n + 1) X.A) : OpR X (compareOp .NotEq) (fun x y H Q => DList D x y H ∧ ∀ H', Ext H H' → Q (.bl false) H') := by
  intro pn s σ H x y v u Q I rx ry hq
  obtain ⟨⟨a, b, xs, ys, rfl, rfl, ha, hb, p⟩, q⟩ := hq
  cases rx
  cases ry
  show wpAny (model X.prog X.w) X.A (richCompare .NotEq (.ref a) (.ref b)) (EP X pn σ Q) X.xe s
  have sb : Sub X (n + 1) X.A := ⟨hr, rfl⟩
  refine rc_ne (N := xs.length) sb.room.units0 (fun _ s' => LoopI X pn σ H s') (fun i s' l => ?_) (fun s' l => ?_) ⟨H, I, Ext.rfl'⟩
  · obtain ⟨H1, I1, e1⟩ := id l
    obtain ⟨z, its, k, r, e⟩ := I1.hok a _ (e1 _ _ ha)
    obtain ⟨z2, its2, k2, r2, e2⟩ := I1.hok b _ (e1 _ _ hb)
    exact ⟨its.toArray, its2.toArray, k, k2, e, e2, by rw [List.size_toArray, ← r.length], by rw [List.size_toArray, ← r2.length, ← p.1], fun h1 h2 => turnG hD h sb p r r2 i h1 h2 s' l⟩
  · obtain ⟨H1, I1, e1⟩ := l
    exact ⟨.bl false, H1, I1, rfl, q H1 e1⟩
/-- one of two readings -/
theorem op_or {X : Cx} {f : Value → Value → Sem Value} {r1 r2 : R2} (h1 : OpR X f r1) (h2 : OpR X f r2) : OpR X f (fun x y H Q => r1 x y H Q ∨ r2 x y H Q) := by
  intro pn s σ H x y v u Q I rx ry h
  rcases h with h | h
  · exact h1 pn s σ H x y v u Q I rx ry h
  · exact h2 pn s σ H x y v u Q I rx ry h
end Fe
set_option Elab.async false
set_option linter.all false
set_option maxRecDepth 100000
set_option maxHeartbeats 2000000
set_option exponentiation.threshold 100000
namespace K11
open PySem PySem.Spec PyProof.Rows L2 Fa Fb
abbrev sLaw : Stmt := top 46
theorem scLaw : FnScope ["_law_script", "_law_index", "_law_bag_here", "_law_points_here", "_law_good", "_law_passed", "_law_at", "_law_far", "_law_due", "_law_given_here", "_law_found", "_law_odd", "_law_one", "_law_two"] ["_law_script"] (defScope sLaw) := ⟨rfl, rfl, rfl, by decide +kernel, rfl, by decide +kernel, by decide +kernel⟩
/-! ### the same value -/
def DSm : Eqv := fun x y _ => (flatV x = true ∧ flatV y = true ∧ eqV x y = true) ∨ ∃ a, x = .ref a ∧ y = .ref a
theorem mon_sm : Mon DSm := fun _ _ _ _ _ d => d
theorem eqG_sm {X : Cx} : EqG X 0 DSm := by
  refine EqG.or (D := DFlat) (D' := fun x y _ => ∃ a, x = .ref a ∧ y = .ref a) eqG_flat ?_
  intro A pins s σ H x y u v sb I rx ry d
  obtain ⟨a, rfl, rfl⟩ := d
  cases rx
  cases ry
  exact SeqAt.EqAt.same (A := A) (s := s) (.ref a) X.prog X.w X.xe _ ⟨rfl, H, I, Ext.rfl'⟩
theorem SmV.d {x : V} {H : Hp} (h : SmV x) : DSm x x H := by
  rcases h with ⟨h1, h2⟩ | ⟨a, h⟩
  · exact .inl ⟨h1, h1, h2⟩
  · exact .inr ⟨a, h, h⟩
theorem prs_sm {H : Hp} : ∀ {xs : List V}, (∀ x ∈ xs, SmV x) → Prs DSm xs xs H
  | [], _ => Prs.nil
  | x :: xs, h => Prs.cons (h x List.mem_cons_self).d (prs_sm fun y hy => h y (List.mem_cons_of_mem _ hy))
def rNeL : R2 := fun x y H Q => DList DSm x y H ∧ ∀ H', Ext H H' → Q (.bl false) H'
theorem op_neL {X : Cx} (hr : Room 1 X.A) : OpR X (compareOp .NotEq) rNeL := Fe.op_neG mon_sm eqG_sm hr
def rNeF : R2 := fun x y H Q => rNe x y H Q ∨ rNeDA x y H Q
def tNe3 (K : PySem.W.Frag) (ta tb : TE) : TE := fun σ H Q => tOp rNeF ta tb σ H Q ∨ tNeY K (CA K) (spEq K) (fun _ => E0) ta tb σ H Q
theorem pc_ne3 {X : Cx} {f : Addr} {fd : FuncData} {a b : Expr} {ta tb : TE} (EQ : EqK X.prog X.w X.K X.mg X.base f fd) (hr : Room 3 X.A) (hu : X.A.units + 64 < cLine) (ha : PE X a ta) (hb : PE X b tb) : PC X .NotEq a b (tNe3 X.K ta tb) := by
  have h1 : OpR X (compareOp .NotEq) rNeF := Fe.op_or op_ne (op_ne_dictA (Nat.lt_of_le_of_lt (Nat.le_add_right _ _) hu))
  have h2 := pe_neY EQ.at_ EQ.fn EQ.ne EQ.ob EQ.ok hr EQ.b passS ha hb
  refine ⟨fun pins s σ H Q I h => ?_⟩
  rcases h with h | h
  · exact binT ha hb I h fun v u s2 x y H2 I2 rx ry q => h1 pins s2 σ H2 x y v u Q I2 rx ry q
  · exact h2.run pins s σ H Q I h
/-! ### the good list -/
structure GE (K : PySem.W.Frag) (Hg : Hp) (p gl : Addr) (xs : List V) (gs : List Pg) : Prop where
  bx : ∃ bs, Hg p = some (.lst bs)
  l : Hg gl = some (.lst xs)
  nlp : gl ≠ p
  len : gs.length = xs.length
  n : xs.length ≤ 20
  pos : 0 < xs.length
  ok : ∀ (j : Nat) g, gs[j]? = some g → ∃ li, xs[j]? = some (V.ref li) ∧ GoI K Hg li g ∧ li ≠ p
  up : ∀ (i : Nat) g h, gs[i]? = some g → gs[i + 1]? = some h → Rises g h
theorem KT.kpl {H H' : Hp} {p : Addr} {bs : List V} (b : H p = some (.lst bs)) (k : Kp p H H') : KT H H' := fun q o h nl => by
  refine k q o (fun e => ?_) h
  rw [e, b] at h
  exact nl _ (Option.some.inj h).symm
theorem GE.go {K : PySem.W.Frag} {Hg J : Hp} {p gl : Addr} {xs : List V} {gs : List Pg} (h : GE K Hg p gl xs gs) (k : Kp p Hg J) (j : Nat) (g : Pg) (e : gs[j]? = some g) : ∃ li, xs[j]? = some (V.ref li) ∧ GoI K J li g ∧ li ≠ p ∧ Hg li ≠ none := by
  obtain ⟨bs, hb⟩ := h.bx
  obtain ⟨li, h1, ⟨h2, h3, h4⟩, h5⟩ := h.ok j g e
  exact ⟨li, h1, ⟨k _ _ h5 h2, h3.lift (KT.kpl hb k), h4.lift (KT.kpl hb k)⟩, h5, fun z => by rw [z] at h2; cases h2⟩
theorem GE.tp {K : PySem.W.Frag} {Hg J : Hp} {p gl : Addr} {xs : List V} {gs : List Pg} (h : GE K Hg p gl xs gs) (k : Kp p Hg J) : TPOk K J gl xs gs :=
  ⟨.inl (k _ _ h.nlp h.l), h.n, Nat.le_of_eq h.len, fun i g e => let ⟨li, h1, h2, _⟩ := h.go k i g e; ⟨li, h1, h2.gd⟩, h.up⟩
def St14 (sc : Addr) (σ : L2.St) : Prop := ∃ v1 v2 v3 v4 v5 v6 v7 v8 v9 v10 v11 v12 v13 : Option V, σ = [some (.ref sc), v1, v2, v3, v4, v5, v6, v7, v8, v9, v10, v11, v12, v13]
def sL4 (sc : Addr) : TS := fun D σ H' => St14 sc σ ∧ ∀ σ' H'', St14 sc σ' → Same H' H'' → D.nx σ' H''
def sL3 (K : PySem.W.Frag) (sc : Addr) : TS := fun D σ H' => ∃ (Hg : Hp) (p gl : Addr) (xs : List V) (gs : List Pg) (v1 v2 v3 v5 v6 v7 v8 v9 v10 v11 v12 v13 : Option V), σ = [some (.ref sc), v1, v2, v3, some (.ref gl), v5, v6, v7, v8, v9, v10, v11, v12, v13] ∧
  GE K Hg p gl xs gs ∧ Kp p Hg H' ∧ ∀ σ' H'', St14 sc σ' → Kp p Hg H'' → D.nx σ' H''
structure PassOk (K : PySem.W.Frag) (J : Hp) (a : Addr) (ys : List V) (gs : List Pg) (nm : Str) (w : V) : Prop where
  tp : TPOk K J a ys gs
  bad : (∃ y, ys[gs.length]? = some y ∧ BadI K J y ∧ nm = "point" ∧ w = y) ∨ ∃ g l h, ys[gs.length]? = some (V.ref l) ∧ GdI K J l g ∧ 0 < gs.length ∧ gs[gs.length - 1]? = some h ∧ ¬ Rises h g ∧ nm = "falling" ∧ w = .int (gs.length : Int)
theorem PassOk.same {K : PySem.W.Frag} {J J' : Hp} {a : Addr} {ys : List V} {gs : List Pg} {nm : Str} {w : V} (h : PassOk K J a ys gs nm w) (s : Same J J') : PassOk K J' a ys gs nm w := by
  refine ⟨h.tp.same s, ?_⟩
  rcases h.bad with ⟨y, h1, h2, h3⟩ | ⟨g, l, h, h1, h2, h3⟩
  · exact .inl ⟨y, h1, h2.same s, h3⟩
  · exact .inr ⟨g, l, _, h1, h2.same s, h3⟩
theorem PassOk.end {K : PySem.W.Frag} {J : Hp} {a : Addr} {ys : List V} {gs : List Pg} {nm : Str} {w : V} (h : PassOk K J a ys gs nm w) {W : Str → V → Prop} (k : W nm w) : CauEnd K J ys gs W := by
  rcases h.bad with ⟨y, h1, h2, rfl, rfl⟩ | ⟨g, l, h', h1, h2, h3, h4, h5, rfl, rfl⟩
  · exact .inr (.inl ⟨_, h1, h2, k⟩)
  · exact .inr (.inr ⟨g, l, h', h1, h2, h3, h4, h5, k⟩)
theorem PassOk.nm {K : PySem.W.Frag} {J : Hp} {a : Addr} {ys : List V} {gs : List Pg} {nm : Str} {w : V} (h : PassOk K J a ys gs nm w) : nm ≠ "told" := by
  rcases h.bad with ⟨y, h1, h2, rfl, rfl⟩ | ⟨g, l, h', h1, h2, h3, h4, h5, rfl, rfl⟩ <;> decide +kernel
def WL (K : PySem.W.Frag) (Hg H' : Hp) (w : V) : Prop := SmV w ∧ ((∃ T, (∀ J, Same H' J → TyX K J w (.type T)) ∧ PySem.W.kitOne K (.type T) (.type "list") = some false) ∨ ∃ lv zs, w = .ref lv ∧ H' lv = some (.lst zs) ∧ Hg lv = none ∧ zs.length ≤ 3 ∧ zs[2]? ≠ some (.bl true) ∧ ∀ y ∈ zs, SmV y)
theorem WL.same {K : PySem.W.Frag} {Hg H' H'' : Hp} {w : V} (h : WL K Hg H' w) (s : Same H' H'') : WL K Hg H'' w := by
  refine ⟨h.1, ?_⟩
  rcases h.2 with ⟨T, h1, h2⟩ | ⟨lv, zs, h1, h2, h3⟩
  · exact .inl ⟨T, fun J sJ => h1 J (s.trans sJ), h2⟩
  · exact .inr ⟨lv, zs, h1, s _ _ h2, h3⟩
def sL1 (K : PySem.W.Frag) (sc : Addr) : TS := fun D σ H' => ∃ (Hg : Hp) (p gl : Addr) (xs : List V) (gs : List Pg) (l r : Addr) (nm : Str) (w : V) (ys : List V) (i : Nat) (v1 v2 v3 v6 v7 v9 v10 v11 v12 v13 : Option V), σ = [some (.ref sc), v1, v2, v3, some (.ref gl), some (.ref l), v6, v7, some (.ref r), v9, v10, v11, v12, v13] ∧
  GE K Hg p gl xs gs ∧ Kp p Hg H' ∧ PassOk K H' l ys (gs.take i) nm w ∧ H' l = some (.lst ys) ∧ H' r = some (.lst [.str nm, w, .bl true]) ∧ WL K Hg H' w ∧ ∀ σ' H'', St14 sc σ' → Kp p Hg H'' → D.nx σ' H''
def sL0 (K : PySem.W.Frag) (sc : Addr) : TS := fun D σ H' => ∃ (Hg : Hp) (p gl : Addr) (xs : List V) (gs : List Pg) (l : Addr) (ys : List V) (i n : Nat) (v1 v3 v7 v8 v9 v10 v11 v12 v13 : Option V), σ = [some (.ref sc), v1, some (.ref p), v3, some (.ref gl), some (.ref l), some (.int (i : Int)), v7, v8, v9, v10, v11, v12, v13] ∧
  GE K Hg p gl xs gs ∧ Kp p Hg H' ∧ Box H' p n ∧ n ≤ 1000 ∧ Hg l = none ∧ H' l = some (.lst ys) ∧ ys.length = xs.length ∧ (∀ j, j ≤ i → ys[j]? = xs[j]?) ∧ i < xs.length ∧ ∀ σ' H'', St14 sc σ' → Kp p Hg H'' → D.nx σ' H''
theorem told_ne {nm : Str} {v : V} (h : nm ≠ "told") : told nm v = [.str nm, v, .bl true] := if_neg h
theorem told_eq {v : V} : told "told" v = [.str "told", v] := if_pos rfl
/-! ### the points drawn -/
structure FrOk (H : Hp) (g : Pg) : Prop where
  q : H g.q = some (.tup [.ref g.a, .ref g.b])
  a : Fr H g.a g.t g.u
  b : Fr H g.b g.t2 g.u2
  ra : Am.Red g.t g.u
  rb : Am.Red g.t2 g.u2
  ba : g.t.natAbs < 2 ^ 60 ∧ g.u.natAbs < 2 ^ 60
  bb : g.t2.natAbs < 2 ^ 60 ∧ g.u2.natAbs < 2 ^ 60
theorem FrOk.same {H H' : Hp} {g : Pg} (h : FrOk H g) (s : Same H H') : FrOk H' g := ⟨s _ _ h.q, s _ _ h.a, s _ _ h.b, h.ra, h.rb, h.ba, h.bb⟩
abbrev bigP (a1 a2 a3 : Addr) : Pg := ⟨a3, a1, a2, 60000, 1, 60000, 1⟩
theorem RatOk.big {t u : Int} {i : Nat} (h : RatOk t u i) (hi : i ≤ 7) : t * 1 < 60000 * u := by
  have u0 := h.red.1
  have h3 := h.hi
  have c : i = 0 ∨ i = 1 ∨ i = 2 ∨ i = 3 ∨ i = 4 ∨ i = 5 ∨ i = 6 ∨ i = 7 := by omega
  rcases c with rfl | rfl | rfl | rfl | rfl | rfl | rfl | rfl <;> omega
theorem lp_all {H : Hp} {L a1 a2 a3 : Addr} {lps : List Pg} (h : LpL H L lps) (n : lps.length ≤ 7) (e1 : Fr H a1 60000 1) (e2 : Fr H a2 60000 1) (e3 : H a3 = some (.tup [.ref a1, .ref a2])) :
    (∀ (j : Nat) g, (lps ++ [bigP a1 a2 a3])[j]? = some g → FrOk H g) ∧ ∀ (j : Nat) g g', (lps ++ [bigP a1 a2 a3])[j]? = some g → (lps ++ [bigP a1 a2 a3])[j + 1]? = some g' → Rises g g' := by
  have up60 : ∀ {a : Nat}, a < 2 ^ 50 → a < 2 ^ 60 := fun h => Nat.lt_of_lt_of_le h (by decide)
  have one : ∀ (j : Nat) g, lps[j]? = some g → j < lps.length ∧ LpOk H g j := fun j g e => ⟨(List.getElem?_eq_some_iff.mp e).1, h.ok j g e⟩
  refine ⟨fun j g e => ?_, fun j g g' e e' => ?_⟩
  · rcases Nat.lt_or_ge j lps.length with c | c
    · rw [List.getElem?_append_left c] at e
      obtain ⟨_, o⟩ := one j g e
      obtain ⟨b1, b2⟩ := o.ra.bits (by omega)
      obtain ⟨b3, b4⟩ := o.rb.bits (by omega)
      exact ⟨o.q, o.a, o.b, o.ra.red, o.rb.red, ⟨up60 b1, up60 b2⟩, ⟨up60 b3, up60 b4⟩⟩
    · have lj := (List.getElem?_eq_some_iff.mp e).1
      rw [List.length_append, List.length_singleton] at lj
      have ej : j = lps.length := by omega
      rw [List.getElem?_append_right c, ej, Nat.sub_self] at e
      cases e
      have r1 : Am.Red 60000 1 := ⟨by decide, by decide +kernel⟩
      have b1 : (60000 : Int).natAbs < 2 ^ 60 ∧ (1 : Int).natAbs < 2 ^ 60 := ⟨by decide, by decide⟩
      exact ⟨e3, e1, e2, r1, r1, b1, b1⟩
  · have lj := (List.getElem?_eq_some_iff.mp e').1
    rw [List.length_append, List.length_singleton] at lj
    rw [List.getElem?_append_left (by omega)] at e
    obtain ⟨c, o⟩ := one j g e
    rcases Nat.lt_or_ge (j + 1) lps.length with c2 | c2
    · rw [List.getElem?_append_left c2] at e'
      exact h.up j g g' e e'
    · have ej : j + 1 = lps.length := by omega
      rw [List.getElem?_append_right c2, ej, Nat.sub_self] at e'
      cases e'
      exact ⟨o.ra.big (by omega), o.rb.big (by omega)⟩
theorem GoI.put {K : PySem.W.Frag} {H : Hp} {l D : Addr} {g : Pg} {xs : List V} {o : HO} (h : GoI K H l g) (n : l ≠ D) (hD : H D = some (.lst xs)) : GoI K (upd H D o) l g := ⟨by rw [upd_ne n]; exact h.1, h.2.1.lift (KT.put hD), h.2.2.lift (KT.put hD)⟩
theorem GoI.same {K : PySem.W.Frag} {H H' : Hp} {l : Addr} {g : Pg} (h : GoI K H l g) (s : Same H H') : GoI K H' l g := ⟨s _ _ h.1, h.2.1.same s, h.2.2.same s⟩
theorem Rises.sv {g g' h h' : Pg} (r : Rises g h) (a : SameV g' g) (b : SameV h' h) : Rises g' h' := (rises_sv a b).mpr r
/-- behind i items of the good list -/
structure LcI (K : PySem.W.Frag) (Hc : Hp) (gl : Addr) (ps : List Pg) (i : Nat) (H' : Hp) : Prop where
  s : Same Hc H'
  ex : ∃ zs : List (Addr × Pg), zs.length = i ∧ H' gl = some (.lst (zs.map fun z => V.ref z.1)) ∧ ∀ (j : Nat) z, zs[j]? = some z → GoI K H' z.1 z.2 ∧ Hc z.1 = none ∧ z.1 ≠ gl ∧ ∃ g, ps[j]? = some g ∧ SameV z.2 g
def spLaw (K : PySem.W.Frag) : Sp := fun vs H Q _ => ∃ (a : Addr) (ns : List Int), vs = [.ref a] ∧ SqL K H a (ns.map V.int) ∧ ns.length ≤ 63 ∧ ∀ H', Q (.bl true) H'
section
variable {P : Program} {w : World} {K : PySem.W.Frag} {mg : Str → Option Value} {base : Heap} {f fC fB fT fS fU fP fE : Addr} {fd fdC fdB fdT fdS fdI fdU fdP fdE : FuncData}
theorem ok_law (F : FnP K "law" sLaw f fd) (T : AF K mg) (mL : mg "len" = none) (mG : mg "range" = none) (mMax : mg "max" = none) (mMin : mg "min" = none) (mLi : mg "list" = none) (mTu : mg "tuple" = none) (kAm : PySem.W.kitAny K (.ref (CA K)) [.type "list", .type "tuple"] = some false)
    (GC : Fn0 P w K mg base "_law_cell" 1 ["_law_script", "_law_index"] (spCel K) fC fdC) (GB : Fn0 P w K mg base "_law_bag" 1 ["_law_cell_here"] spBox fB fdB) (GT : Fn0 P w K mg base "_law_take" 1 ["_law_bag_here", "_law_many"] spTake fT fdT)
    (GP : Fn P w K mg base "_law_points" 4 ["_law_bag_here", "_law_cap"] spPoi fP fdP) (GS : Fn P w K mg base "_law_spoilt" 8 ["_law_bag_here", "_law_passed", "_law_at"] (spSpt K) fS fdS) (GU : Fn P w K mg base "_law_caught" 13 ["_law_points_here"] (spCau K) fU fdU)
    (EQ : EqK P w K mg base fE fdE) (GI : FnOk P w K mg base (L2.CX P w) 4 (aI K) fdI ["self", "top", "bottom"] (spInit K)) {ds : List Value} (hds : Vals [.int 1] ds) (bI : Binds K fdI ["self", "top", "bottom"] ds) (b2 : Binds K fdI ["self", "top", "bottom"] []) :
    FnOk P w K mg base (L2.CX P w) 14 f fd ["_law_script"] (spLaw K) := by
  refine F.ok scLaw (fun vs H Q E h => ?_) (fun cdv A outer s H vs Q E hr h => ?_)
  · obtain ⟨sc, ns, rfl, _⟩ := h
    rfl
  · obtain ⟨sc, ns, rfl, ha, hn, q⟩ := h
    have hu : (A.deeper (envOfC "law" (defScope sLaw) s.heap.objs.size f cdv)).units + 64 < cLine := by
      have := hr.un
      omega
    have hr1 := hr.mono (show 1 ≤ 13 by decide)
    have hr3 := hr.mono (show 3 ≤ 13 by decide)
    have hr4 := hr.mono (show 4 ≤ 13 by decide)
    have hr5 := hr.mono (show 5 ≤ 13 by decide)
    have hr8 := hr.mono (show 8 ≤ 13 by decide)
    have hr13 := hr.mono (show 13 ≤ 13 by decide)

    refine ⟨_, (pss_cons (ps_for (passes_of rfl) rfl (pi_range1 rfl mG (pa_cons (pe_callB (call_max2 rfl) rfl mMax (by decide +kernel) (pa_cons pe_int (pa_cons (pe_callB (call_min2 rfl) rfl mMin (by decide +kernel) (pa_cons pe_int (pa_cons (pe_callB call_len rfl mL PySem.boot_len (pa_cons (pv 0) pa_nil)) pa_nil))) pa_nil))) pa_nil)) (pg_name (i := 1) scLaw.nd rfl (Or.inl rfl))
      (pss_cons (ps_set (i := 2) scLaw.nd rfl (Or.inl rfl) (pe_call GB.ok hr1 rfl GB.g GB.k GB.b .nil pass0 (pa_cons (pe_call GC.ok hr1 rfl GC.g GC.k GC.b .nil pass0 (pa_cons (pv 0) (pa_cons (pv 1) pa_nil))) pa_nil)))
      (pss_cons (ps_set (i := 3) scLaw.nd rfl (Or.inl rfl) (pe_op op_cat (pe_call GP.ok hr4 rfl GP.g GP.k GP.b .nil passL (pa_cons (pv 2) (pa_cons pe_int pa_nil))) (pe_lst (pa_cons (pe_tup (pa_cons (pe_tup (pa_cons pe_int (pa_cons pe_int pa_nil))) (pa_cons (pe_tup (pa_cons pe_int (pa_cons pe_int pa_nil))) pa_nil))) pa_nil))))
      (pss_cons (ps_setLc (i := 4) (own := [("_law_one", 12), ("_law_two", 13)]) (g := gTup K 2 (gCons (gName 12) (gCons (gName 13) gNil))) (tt := tYes) (te := tLst (tCons (tMake (CA K) (spInit K) [] E0 (tCons (tOp (rIxT K) (tVar 12) (tC (.int 0))) (tCons (tOp (rIxT K) (tVar 12) (tC (.int 1))) tNil))) (tCons (tMake (CA K) (spInit K) [] E0 (tCons (tOp (rIxT K) (tVar 13) (tC (.int 0))) (tCons (tOp (rIxT K) (tVar 13) (tC (.int 1))) tNil))) tNil))) (by rfl) scLaw.nd rfl rfl (sw_true rfl rfl rfl (by decide +kernel)) (pi_list (pv 3)) (blkOk_by (own := [("_law_one", 12), ("_law_two", 13)]) (N := ["_law_script", "_law_index", "_law_bag_here", "_law_points_here", "_law_good", "_law_passed", "_law_at", "_law_far", "_law_due", "_law_given_here", "_law_found", "_law_odd", "_law_one", "_law_two"]) (sc := defScope sLaw) (by decide +kernel)) (fun _ _ _ _ _ => (pg_tup (by rfl) (pgs_cons (pg_name (i := 12) scLaw.nd rfl (Or.inl rfl)) (pgs_cons (pg_name (i := 13) scLaw.nd rfl (Or.inl rfl)) pgs_nil)))) (fun _ _ _ _ _ => pts_nil) (fun _ _ _ _ _ => (pe_lst (pa_cons (pe_make T.mkA GI hr5 rfl T.g b2 .nil passL (pa_cons (pe_ix ix_tup (pv 12) pe_int (fun _ _ => rfl)) (pa_cons (pe_ix ix_tup (pv 12) pe_int (fun _ _ => rfl)) pa_nil))) (pa_cons (pe_make T.mkA GI hr5 rfl T.g b2 .nil passL (pa_cons (pe_ix ix_tup (pv 13) pe_int (fun _ _ => rfl)) (pa_cons (pe_ix ix_tup (pv 13) pe_int (fun _ _ => rfl)) pa_nil))) pa_nil)))))
      (pss_cons (ps_par (by rfl) scLaw.nd (i := 5) (j := 6) rfl rfl (by decide) rfl rfl (pa_cons (pe_callTy call_list_of rfl mLi (by decide +kernel : bootBuiltins "list" = some (.type "list")) (pa_cons (pv 4) pa_nil)) (pa_cons (pe_call GT.ok hr1 rfl GT.g GT.k GT.b .nil pass0 (pa_cons (pv 2) (pa_cons (pe_callB call_len rfl mL PySem.boot_len (pa_cons (pv 3) pa_nil)) pa_nil))) pa_nil)) (by rfl))
      (pss_cons (ps_if (PW.pt (pw_and (pt_cmpR op_lt (pe_op op_add (pv 6) pe_int) (pe_callB call_len rfl mL PySem.boot_len (pa_cons (pv 3) pa_nil)) (nomark _)) (pw_and1 (pt_cmpR op_eq (pe_call GT.ok hr1 rfl GT.g GT.k GT.b .nil pass0 (pa_cons (pv 2) (pa_cons pe_int pa_nil))) pe_int (nomark _))))) (pss_cons (ps_set (i := 7) scLaw.nd rfl (Or.inl rfl) (pe_op op_add (pe_op op_add (pv 6) pe_int) (pe_call GT.ok hr1 rfl GT.g GT.k GT.b .nil pass0 (pa_cons (pv 2) (pa_cons (pe_op op_sub (pe_op op_sub (pe_callB call_len rfl mL PySem.boot_len (pa_cons (pv 3) pa_nil)) (pv 6)) pe_int) pa_nil)))))
      (pss_one (ps_expr (pe_call GS.ok hr8 rfl GS.g GS.k GS.b .nil passL (pa_cons (pv 2) (pa_cons (pv 5) (pa_cons (pv 7) pa_nil))))))) pss_nil)
      (pss_imp (S := sL0 K sc) (pss_cons (ps_set (i := 8) scLaw.nd rfl (Or.inl rfl) (pe_call GS.ok hr8 rfl GS.g GS.k GS.b .nil passL (pa_cons (pv 2) (pa_cons (pv 5) (pa_cons (pv 6) pa_nil)))))
      (pss_imp (S := sL1 K sc) (pss_cons (ps_for (passes_of rfl) rfl (pi_list (pe_lst (pa_cons (pv 5) (pa_cons (pe_callTy call_tuple_of rfl mTu (by decide +kernel : bootBuiltins "tuple" = some (.type "tuple")) (pa_cons (pv 5) pa_nil)) pa_nil)))) (pg_name (i := 9) scLaw.nd rfl (Or.inl rfl))
      (pss_one (ps_if (pt_cmpR (op_neL hr1) (pe_call GU.ok hr13 rfl GU.g GU.k GU.b .nil passL (pa_cons (pv 9) pa_nil)) (pv 8) (nomark _)) (pss_one (ps_ret pe_bl)) pss_nil)))
      (pss_imp (S := sL1 K sc) (pss_cons (ps_if (pt_val (pe_isi T.isi (pe_ix ix_list (pv 8) pe_int (fun _ _ => rfl)) (pe_ty mLi (by decide +kernel : bootBuiltins "list" = some (.type "list"))))) (pss_cons (ps_set (i := 10) scLaw.nd rfl (Or.inl rfl) (pe_call GU.ok hr13 rfl GU.g GU.k GU.b .nil passL (pa_cons (pv 5) pa_nil)))
      (pss_cons (ps_expr (pe_bm PySem.F.plainAttrs_list PySem.F.slot_list_append PySem.F.type_list_append mt_append (pe_ix ix_list (pv 8) pe_int (fun _ _ => rfl)) (pa_cons pe_str pa_nil)))
      (pss_one (ps_if (pt_cmpR (op_neL hr1) (pe_ix ix_list (pv 10) pe_int (fun _ _ => rfl)) (pe_ix ix_list (pv 8) pe_int (fun _ _ => rfl)) (nomark _)) (pss_one (ps_ret pe_bl)) pss_nil)))) pss_nil)
      (pss_imp (S := sL3 K sc) (pss_cons (ps_if (pt_cmpR (op_neL hr1) (pe_call GU.ok hr13 rfl GU.g GU.k GU.b .nil passL (pa_cons (pv 4) pa_nil)) (pe_lst (pa_cons pe_str (pa_cons pe_bl pa_nil))) (nomark _)) (pss_one (ps_ret pe_bl)) pss_nil)
      (pss_imp (S := sL4 sc) (pss_one (ps_for (passes_of rfl) rfl (pi_list (pe_lst (pa_cons pe_non (pa_cons pe_bl (pa_cons pe_int (pa_cons pe_str (pa_cons pe_dnewK (pa_cons (pe_make T.mkA GI hr5 rfl T.g bI hds passL (pa_cons pe_int pa_nil)) pa_nil)))))))) (pg_name (i := 11) scLaw.nd rfl (Or.inl rfl))
      (pss_cons (ps_set (i := 10) scLaw.nd rfl (Or.inl rfl) (pe_call GU.ok hr13 rfl GU.g GU.k GU.b .nil passL (pa_cons (pv 11) pa_nil)))
      (pss_one (ps_if (PW.pt (pw_or (pt_cmpR op_ne (pe_ix ix_list (pv 10) pe_int (fun _ _ => rfl)) pe_str (nomark _)) (pw_or (pt_cmp (pc_ne3 EQ hr3 hu (pe_ix ix_list (pv 10) pe_int (fun _ _ => rfl)) (pv 11))) (pw_or1 (pt_cmpR op_isnot_bl (pe_ix ix_list (pv 10) pe_int (fun _ _ => rfl)) pe_bl (nomark _)))))) (pss_one (ps_ret pe_bl)) pss_nil))))) ?s4)) ?s3)) ?s2)) ?s1)) ?s0)))))))
      (pss_one (ps_ret pe_bl))), ?_⟩
    case s4 =>
      rintro D σ H1 ⟨⟨v1, v2, v3, v4, v5, v6, v7, v8, v9, v10, v11, v12, v13, rfl⟩, k⟩
      refine fun d hd => fun y dy hy hdy hne => spInit_imp (make_fact T (n := 60) (a := 1) (b := 1) (by decide) (by decide) (by decide) (by decide) hy hdy hne) fun v2' H2 ⟨hv2, t, u, s2, iy, ey⟩ => ⟨hv2, ⟨by show 6 ≤ sizeLine; decide, fun lo hlo => ?_⟩⟩
      have s1 : Same H1 (upd H1 d (.dK [])) := Same.upd hd
      have ed : H2 d = some (.dK []) := s2 _ _ upd_same
      have sl := Same.upd (o := .lst [V.non, .bl true, .int 0, .str "ab", .ref d, .ref y]) hlo
      have el : (upd H2 lo (.lst [V.non, .bl true, .int 0, .str "ab", .ref d, .ref y])) lo = some (.lst [V.non, .bl true, .int 0, .str "ab", .ref d, .ref y]) := upd_same
      have sA := s1.trans (s2.trans sl)
      have ed0 := sl _ _ ed
      have iy0 := iy.same sl
      refine ⟨lo, rfl, ⟨_, SqL.of upd_same⟩, ?_⟩
      generalize upd H2 lo (.lst [V.non, .bl true, .int 0, .str "ab", .ref d, .ref y]) = J0 at el sA ed0 iy0 ⊢
      refine for_list (K := K) (a := lo) (xs := [V.non, .bl true, .int 0, .str "ab", .ref d, .ref y]) (fun _ σ' H' => St14 sc σ' ∧ Same J0 H') ⟨⟨_, _, _, _, _, _, _, _, _, _, _, _, _, rfl⟩, Same.refl _⟩ (fun i σ H' _ ⟨_, s⟩ => SqL.of (s _ _ el)) ?_ ?_
      · rintro i x σ H3 hi ⟨⟨v1, v2, v3, v4, v5, v6, v7, v8, v9, v10, v11, v12, v13, rfl⟩, s3⟩
        have mem := List.mem_of_getElem? hi
        have part : ∃ t, (∀ J, Same J0 J → TyX K J x t) ∧ PySem.W.kitAny K t [.type "list", .type "tuple"] = some false := by
          simp only [List.mem_cons, List.not_mem_nil, or_false] at mem
          rcases mem with rfl | rfl | rfl | rfl | rfl | rfl
          · exact ⟨_, fun J _ => .base .non, ka_no (by decide +kernel) (by decide +kernel)⟩
          · exact ⟨_, fun J _ => .base (.bl _), ka_no (by decide +kernel) (by decide +kernel)⟩
          · exact ⟨_, fun J _ => .base (.int _), ka_no (by decide +kernel) (by decide +kernel)⟩
          · exact ⟨_, fun J _ => .base (.str _), ka_no (by decide +kernel) (by decide +kernel)⟩
          · exact ⟨_, fun J s => .base (.dK (s _ _ ed0)), ka_no (by decide +kernel) (by decide +kernel)⟩
          · obtain ⟨py, dy', ey', hy', _⟩ := id iy0
            cases ey'
            exact ⟨_, fun J s => T.ty (s _ _ hy'), kAm⟩
        obtain ⟨tx, ty, ka⟩ := part
        refine ⟨_, rfl, x, rfl, .inl ⟨tx, fun J sJ => ty J (s3.trans sJ), ka, fun l2 H4 s4 hl2 => ?_⟩⟩
        rw [told_ne (by decide +kernel)] at hl2
        have s04 := s3.trans s4
        have ne3 : ∀ (σ' : L2.St) (Q' : VK), σ'[10]? = some (some (.ref l2)) → σ'[11]? = some (some x) → Q' (.bl false) H4 → tNe3 K (tOp (rIxL K) (tVar 10) (tC (.int 1))) (tVar 11) σ' H4 Q' := by
          intro σ' Q' g10 g11 q'
          have flat : rNe x x H4 Q' → tNe3 K (tOp (rIxL K) (tVar 10) (tC (.int 1))) (tVar 11) σ' H4 Q' := fun h => .inl ⟨_, g10, l2, _, _, x, rfl, rfl, SqL.of hl2, rfl, x, g11, .inl h⟩
          simp only [List.mem_cons, List.not_mem_nil, or_false] at mem
          rcases mem with rfl | rfl | rfl | rfl | rfl | rfl
          · exact flat ⟨rfl, by simpa using q'⟩
          · exact flat ⟨rfl, by simpa using q'⟩
          · exact flat ⟨rfl, by simpa using q'⟩
          · exact flat ⟨rfl, by simpa using q'⟩
          · exact .inl ⟨_, g10, l2, _, _, _, rfl, rfl, SqL.of hl2, rfl, _, g11, .inr ⟨d, d, [], [], rfl, rfl, s04 _ _ ed0, s04 _ _ ed0, rfl, (fun p hp => by cases hp), q'⟩⟩
          · have iy4 := iy0.same s04
            obtain ⟨py, dy', ey', hy', _⟩ := id iy4
            cases ey'
            refine .inr ⟨_, g10, l2, _, _, _, rfl, rfl, SqL.of hl2, rfl, _, g11, y, dy', _, rfl, hy', .inl ⟨y, dy', _, rfl, hy'⟩, _, _, t, u, 60, rfl, iy4, .inl ⟨t, u, 60, iy4, _, rfl, ?_⟩⟩
            simpa using q'
        refine ⟨_, rfl, l2, _, _, _, rfl, rfl, SqL.of hl2, rfl, rfl, _, rfl, if_false_of (by simp) ?_⟩
        refine ne3 _ _ rfl rfl ⟨_, rfl, if_false_of (by rfl) ?_⟩
        refine ⟨_, rfl, l2, _, _, _, rfl, rfl, SqL.of hl2, rfl, true, true, rfl, rfl, _, rfl, if_false_of (by simp) ?_⟩
        exact ⟨⟨_, _, _, _, _, _, _, _, _, _, _, _, _, rfl⟩, s04⟩
      · rintro σ H3 ⟨st, s3⟩
        exact k σ H3 st (sA.trans s3)
    case s3 =>
      rintro D σ H1 ⟨Hg, p, gl, xs, gs, v1, v2, v3, v5, v6, v7, v8, v9, v10, v11, v12, v13, rfl, ge, kp, k⟩
      refine ⟨_, rfl, .ref gl, rfl, .inr ⟨gl, xs, gs, rfl, ge.tp kp, .inl ⟨ge.len, fun l2 H2 s2 hl2 => ?_⟩⟩⟩
      rw [told_eq] at hl2
      refine ⟨by show 2 ≤ sizeLine; decide, fun l3 hl3 => ?_⟩
      refine ⟨⟨l2, l3, _, _, rfl, rfl, Same.upd hl3 _ _ hl2, upd_same, prs_sm (sm_mem (sm_str _) (sm_mem (sm_bl _) sm_nil))⟩, fun H4 e4 => ⟨_, rfl, if_false_of (by rfl) ?_⟩⟩
      exact ⟨⟨_, _, _, _, _, _, _, _, _, _, _, _, _, rfl⟩, fun σ' H'' st s => k σ' H'' st (kp.trans (Kp.same (s2.trans ((Same.upd hl3).trans (Same.trans e4 s)))))⟩
    case s2 =>
      rintro D σ H1 ⟨Hg, p, gl, xs, gs, l, r, nm, w, ys, i, v1, v2, v3, v6, v7, v9, v10, v11, v12, v13, rfl, ge, kp, pa, hl, hr', ⟨sm, wl⟩, k⟩
      rcases wl with ⟨T', ty, kt⟩ | ⟨lv, zs, rfl, hlv, h0, hz, hz2, smz⟩
      · refine ⟨_, rfl, r, _, _, _, rfl, rfl, SqL.of hr', rfl, w, _, _, _, false, rfl, .ty "list", ty _ (Same.refl _), kt, false, rfl, iteF ?_⟩
        exact ⟨Hg, p, gl, xs, gs, _, _, _, _, _, _, _, _, _, _, _, _, rfl, ge, kp, k⟩
      · refine ⟨_, rfl, r, _, _, _, rfl, rfl, SqL.of hr', rfl, .ref lv, _, _, _, true, rfl, .ty "list", .base (.lst hlv), kT (by decide +kernel), true, rfl, iteT ?_⟩
        refine ⟨_, rfl, .ref l, rfl, .inr ⟨l, ys, gs.take i, rfl, pa.tp, pa.end fun l2 H2 s2 hl2 => ?_⟩⟩
        rw [told_ne pa.nm] at hl2
        have hlv2 := s2 _ _ hlv
        have hr2 := s2 _ _ hr'
        have n2 : l2 ≠ lv := fun e => by
          rw [e, hlv2] at hl2
          cases hl2
          exact hz2 rfl
        have nr : r ≠ lv := fun e => by
          rw [e, hlv2] at hr2
          cases hr2
          exact hz2 rfl
        refine ⟨_, rfl, r, _, _, _, rfl, rfl, SqL.of hr2, rfl, .inl ⟨rfl, _, SqL.of hlv2⟩, lv, _, _, rfl, rfl, hlv2, ?_, ?_⟩
        · exact Nat.lt_of_lt_of_le (show zs.length < 100 by omega) (by decide)
        refine ⟨_, rfl, l2, _, _, _, rfl, rfl, SqL.of (by rw [upd_ne n2]; exact hl2), rfl, _, rfl, r, _, _, _, rfl, rfl, SqL.of (by rw [upd_ne nr]; exact hr2), rfl, ⟨lv, lv, _, _, rfl, rfl, upd_same, upd_same, prs_sm fun x hx => ?_⟩, fun H4 e4 => ⟨_, rfl, if_false_of (by rfl) ?_⟩⟩
        · rcases List.mem_append.mp hx with m | m
          · exact smz x m
          · rw [List.mem_singleton] at m
            rw [m]
            exact sm_str _
        · exact ⟨Hg, p, gl, xs, gs, _, _, _, _, _, _, _, _, _, _, _, _, rfl, ge, ((kp.trans (Kp.same s2)).put h0).trans (Kp.same e4), k⟩
    case s1 =>
      rintro D σ H1 ⟨Hg, p, gl, xs, gs, l, r, nm, w, ys, i, v1, v2, v3, v6, v7, v9, v10, v11, v12, v13, rfl, ge, kp, pa, hl, hr', wl, k⟩
      refine ⟨_, rfl, _, rfl, l, ys, rfl, .inl ⟨SqL.of hl, fun tp htp => ?_⟩⟩
      refine ⟨by show 2 ≤ sizeLine; decide, fun lo hlo => ⟨lo, rfl, ⟨_, SqL.of upd_same⟩, ?_⟩⟩
      have s1 := Same.upd (o := .tup ys) htp
      have et : (upd H1 tp (.tup ys)) tp = some (.tup ys) := upd_same
      have s2 := Same.upd (o := .lst [V.ref l, .ref tp]) hlo
      have el : (upd (upd H1 tp (.tup ys)) lo (.lst [V.ref l, .ref tp])) lo = some (.lst [V.ref l, .ref tp]) := upd_same
      have et2 := s2 _ _ et
      have sA := s1.trans s2
      generalize upd (upd H1 tp (.tup ys)) lo (.lst [V.ref l, .ref tp]) = J0 at el et2 sA ⊢
      have pl : PassOk K J0 l ys (gs.take i) nm w := pa.same sA
      have pt' : PassOk K J0 tp ys (gs.take i) nm w := ⟨⟨.inr et2, pl.tp.n, pl.tp.le, pl.tp.ok, pl.tp.up⟩, pl.bad⟩
      refine for_list (K := K) (a := lo) (xs := [V.ref l, .ref tp]) (fun _ σ' H' => (∃ v9 v10 v11 v12 v13 : Option V, σ' = [some (.ref sc), v1, v2, v3, some (.ref gl), some (.ref l), v6, v7, some (.ref r), v9, v10, v11, v12, v13]) ∧ Same J0 H') ⟨⟨_, _, _, _, _, rfl⟩, Same.refl _⟩ (fun i σ H' _ ⟨_, s⟩ => SqL.of (s _ _ el)) ?_ ?_
      · rintro j x σ H3 hj ⟨⟨v9, v10, v11, v12, v13, rfl⟩, s3⟩
        have px : ∃ a, x = .ref a ∧ PassOk K J0 a ys (gs.take i) nm w := by
          have mem := List.mem_of_getElem? hj
          simp only [List.mem_cons, List.not_mem_nil, or_false] at mem
          rcases mem with rfl | rfl
          · exact ⟨l, rfl, pl⟩
          · exact ⟨tp, rfl, pt'⟩
        obtain ⟨a, rfl, px⟩ := px
        have p3 := px.same s3
        refine ⟨_, rfl, .ref a, rfl, .inr ⟨a, ys, gs.take i, rfl, p3.tp, p3.end fun l2 H4 s4 hl2 => ?_⟩⟩
        rw [told_ne px.nm] at hl2
        refine ⟨_, rfl, ⟨l2, r, _, _, rfl, rfl, hl2, s4 _ _ (s3 _ _ (sA _ _ hr')), prs_sm (sm_mem (sm_str _) (sm_mem wl.1 (sm_mem (sm_bl _) sm_nil)))⟩, fun H5 e5 => ⟨_, rfl, if_false_of (by rfl) ?_⟩⟩
        exact ⟨⟨_, _, _, _, _, rfl⟩, s3.trans (s4.trans e5)⟩
      · rintro σ H3 ⟨⟨v9, v10, v11, v12, v13, rfl⟩, s3⟩
        have s := sA.trans s3
        exact ⟨Hg, p, gl, xs, gs, l, r, nm, w, ys, i, _, _, _, _, _, _, _, _, _, _, rfl, ge, kp.trans (Kp.same s), pa.same s, s _ _ hl, s _ _ hr', wl.same s, k⟩
    case s0 =>
      rintro D σ H1 ⟨Hg, p, gl, xs, gs, l, ys, i, n, v1, v3, v7, v8, v9, v10, v11, v12, v13, rfl, ge, kp, b, hn, h0, hl, len, eqs, hi, k⟩
      have gl_ := ge.len
      have gi : gs[i]? = some gs[i] := List.getElem?_eq_getElem (by omega)
      obtain ⟨li, hli, gd, n1, n2⟩ := ge.go kp i _ gi
      have nl2 : ∀ q, Hg q ≠ none → q ≠ l := fun q h e => h (by rw [e]; exact h0)
      have nlp : l ≠ p := fun e => by
        obtain ⟨bs, hb⟩ := ge.bx
        rw [← e, h0] at hb
        cases hb
      refine ⟨_, rfl, _, rfl, _, rfl, p, l, i, n, ys, li, gs[i], gs.getD (i - 1) gs[i], rfl, b, by omega, nlp, hl, by rw [eqs i (Nat.le_refl _)]; exact hli, gd, n1, nl2 li n2, fun i0 => ?_, fun H' r v nm w k2 b' hl' hr0 nrl nrp hr' spe => ?_⟩
      · have gj : gs[i - 1]? = some gs[i - 1] := List.getElem?_eq_getElem (by omega)
        obtain ⟨lj, hlj, gdj, m1, m2⟩ := ge.go kp (i - 1) _ gj
        have e : gs.getD (i - 1) gs[i] = gs[i - 1] := by rw [List.getD_eq_getElem?_getD, gj]; rfl
        rw [e]
        exact ⟨lj, by rw [eqs (i - 1) (by omega)]; exact hlj, gdj, m1, nl2 lj m2⟩
      · have kp' : Kp p Hg H' := fun q o nq hq => k2 q o nq (nl2 q (fun e => by rw [e] at hq; cases hq)) (kp q o nq hq)
        have tl : (gs.take i).length = i := by rw [List.length_take]; omega
        have ly : (ys.set i v).length = xs.length := by rw [List.length_set]; exact len
        have tp : TPOk K H' l (ys.set i v) (gs.take i) := by
          refine ⟨.inl hl', by rw [ly]; exact ge.n, by rw [tl, ly]; omega, fun j g e => ?_, fun j g h e1 e2 => ?_⟩
          · have lj : j < i := by
              have := (List.getElem?_eq_some_iff.mp e).1
              omega
            rw [List.getElem?_take_of_lt lj] at e
            obtain ⟨lj', hlj, gdj, _⟩ := ge.go kp' j g e
            exact ⟨lj', by rw [List.getElem?_set_ne (by omega), eqs j (by omega)]; exact hlj, gdj.gd⟩
          · have lj : j + 1 < i := by
              have := (List.getElem?_eq_some_iff.mp e2).1
              omega
            rw [List.getElem?_take_of_lt (by omega)] at e1
            rw [List.getElem?_take_of_lt lj] at e2
            exact ge.up j g h e1 e2
        have at_ : (ys.set i v)[(gs.take i).length]? = some v := by
          rw [tl, List.getElem?_set_self (by omega)]
        have none_ : ∀ d, d ≠ p → H1 d = none → Hg d = none := fun d nd e => kp.no nd e
        rcases spe with ⟨rfl, rfl, od⟩ | ⟨rfl, rfl, i0, lv, g', rfl, lv0, gd', nr⟩
        · refine ⟨Hg, p, gl, xs, gs, l, r, _, _, ys.set i _, i, _, _, _, _, _, _, _, _, _, _, rfl, ge, kp', ⟨tp, .inl ⟨_, at_, od.bad, rfl, rfl⟩⟩, hl', hr', ⟨od.sm, ?_⟩, k⟩
          rcases od.ls with h | ⟨lv, zs, e1, e2, e3, e4⟩
          · exact .inl h
          · exact .inr ⟨lv, zs, e1, e2, none_ lv (b.ne e3).symm e3, e4⟩
        · have gj : gs[i - 1]? = some gs[i - 1] := List.getElem?_eq_getElem (by omega)
          have e : gs.getD (i - 1) gs[i] = gs[i - 1] := by rw [List.getD_eq_getElem?_getD, gj]; rfl
          rw [e] at nr
          refine ⟨Hg, p, gl, xs, gs, l, r, _, _, ys.set i _, i, _, _, _, _, _, _, _, _, _, _, rfl, ge, kp', ⟨tp, .inr ⟨g', lv, gs[i - 1], at_, gd', by omega, by rw [tl, List.getElem?_take_of_lt (by omega)]; exact gj, nr, rfl, by rw [tl]⟩⟩, hl', hr', ⟨sm_int _, .inl ⟨_, fun J _ => .base (.int _), kit_ty (by decide +kernel)⟩⟩, k⟩
    have r2 : (2 : Nat) ≤ sizeLine := by decide
    refine ⟨_, rfl, _, (ns.map V.int).length, rfl, .inl ⟨_, ha, rfl⟩, _, _, rfl, _, _, rfl, _, rfl, ?_, ?_, ?_⟩
    · split <;> (try split) <;> omega
    · split <;> (try split) <;> omega
    generalize hN : Int.toNat _ = N0
    have hb : N0 ≤ 8 := by
      rw [← hN]
      split <;> (try split) <;> omega
    refine for_range (lo := 0) (n := N0) (fun i σ H' => Same H H' ∧ St14 sc σ) ⟨Same.refl _, _, _, _, _, _, _, _, _, _, _, _, _, _, rfl⟩ ?_ ?_
    · rintro j σ H1 hj ⟨s1, v1, v2, v3, v4, v5, v6, v7, v8, v9, v10, v11, v12, v13, rfl⟩
      rw [Int.zero_add]
      refine ⟨_, rfl, _, rfl, sc, ns, j, rfl, ha.ext s1, by omega, fun c => ⟨c, rfl, fun p H2 hp1 hk2 hb2 => ?_⟩⟩
      have hp : H p = none := none_of s1 hp1
      have s2 : Same H H2 := fun c o z => by rw [hk2 c (fun e => by rw [e, hp] at z; cases z)]; exact s1 c o z
      have sk : ∀ H3, Kp p H2 H3 → Same H H3 := fun H3 k c o z => k c o (fun e => by rw [e, hp] at z; cases z) (s2 c o z)
      refine ⟨_, rfl, p, 0, rfl, hb2, by decide, fun L lps H3 kp3 b3 hL lp hlen => ?_⟩
      refine ⟨r2, fun a1 h1 => ⟨r2, fun a2 h2 => ⟨r2, fun a3 h3 => ⟨by show 1 ≤ sizeLine; decide, fun a4 h4 => ?_⟩⟩⟩⟩
      have t1 := Same.upd (o := .tup [.int 60000, .int 1]) h1
      have t2 := Same.upd (o := .tup [.int 60000, .int 1]) h2
      have t3 := Same.upd (o := .tup [.ref a1, .ref a2]) h3
      have t4 := Same.upd (o := .lst [.ref a3]) h4
      have c1 : Fr (upd H3 a1 (.tup [.int 60000, .int 1])) a1 60000 1 := upd_same
      have c2 : Fr (upd (upd H3 a1 (.tup [.int 60000, .int 1])) a2 (.tup [.int 60000, .int 1])) a2 60000 1 := upd_same
      have c3 : (upd (upd (upd H3 a1 (.tup [.int 60000, .int 1])) a2 (.tup [.int 60000, .int 1])) a3 (.tup [.ref a1, .ref a2])) a3 = some (.tup [.ref a1, .ref a2]) := upd_same
      have c4 : (upd (upd (upd (upd H3 a1 (.tup [.int 60000, .int 1])) a2 (.tup [.int 60000, .int 1])) a3 (.tup [.ref a1, .ref a2])) a4 (.lst [.ref a3])) a4 = some (.lst [.ref a3]) := upd_same
      have f1 := t4 _ _ (t3 _ _ (t2 _ _ c1))
      have f2 := t4 _ _ (t3 _ _ c2)
      have f3 := t4 _ _ c3
      have s34 := t1.trans (t2.trans (t3.trans t4))
      generalize upd (upd (upd (upd H3 a1 (.tup [.int 60000, .int 1])) a2 (.tup [.int 60000, .int 1])) a3 (.tup [.ref a1, .ref a2])) a4 (.lst [.ref a3]) = H4 at c4 f1 f2 f3 s34 ⊢
      clear t1 t2 t3 t4 c1 c2 c3
      have lp4 := lp.kt (KT.of s34) (s34 _ _ lp.l)
      refine ⟨L, a4, _, _, rfl, rfl, lp4.l, c4, ?_, fun PP hPP => ?_⟩
      · rw [List.length_map]
        exact Nat.le_trans (show lps.length + 1 ≤ 100 by omega) (by decide)
      have nPP : PP ≠ p := ((b3.sm s34).ne hPP).symm
      have sP := Same.upd (o := .lst ((lps.map fun g => V.ref g.q) ++ [.ref a3])) hPP
      have eP : (upd H4 PP (.lst ((lps.map fun g => V.ref g.q) ++ [.ref a3]))) PP = some (.lst ((lps ++ [bigP a1 a2 a3]).map fun g => V.ref g.q)) := by
        rw [upd_same, List.map_append]
        rfl
      have lpP := lp4.kt (KT.of sP) (sP _ _ lp4.l)
      obtain ⟨fo, ri⟩ := lp_all lpP hlen (sP _ _ f1) (sP _ _ f2) (sP _ _ f3)
      have pl : (lps ++ [bigP a1 a2 a3]).length = lps.length + 1 := by rw [List.length_append]; rfl
      have s3P := s34.trans sP
      generalize upd H4 PP (.lst ((lps.map fun g => V.ref g.q) ++ [.ref a3])) = Hc at eP fo s3P ⊢
      generalize lps ++ [bigP a1 a2 a3] = ps at eP fo ri pl
      refine ⟨_, rfl, PP, rfl, ⟨_, SqL.of eP⟩, fun gl hgl => ?_⟩
      have ngP : PP ≠ gl := ne_of_none eP hgl
      refine lc_list (K := K) (a := PP) (xs := ps.map fun g => V.ref g.q) (fun i H' => LcI K Hc gl ps i H') ⟨Same.upd hgl, [], rfl, upd_same, fun j z e => by cases e⟩ (fun i H' _ h => SqL.of (h.s _ _ eP)) ?_ ?_
      · rintro i x H5 hx ⟨s5, zs, hzl, hzg, hz⟩
        obtain ⟨g, eg, rfl⟩ : ∃ g, ps[i]? = some g ∧ V.ref g.q = x := by
          rw [List.getElem?_map] at hx
          cases e : ps[i]? with
          | none => rw [e] at hx; cases hx
          | some g => rw [e] at hx; exact ⟨g, rfl, Option.some.inj hx⟩
        have gc := fo i g eg
        have g5 := gc.same s5
        have li := (List.getElem?_eq_some_iff.mp eg).1
        refine ⟨g.q, _, rfl, SqT.of g5.q, rfl, _, _, rfl, _, _, rfl, rfl, rfl, ?_⟩
        refine ⟨_, rfl, g.a, _, _, _, rfl, rfl, SqT.of g5.a, rfl, _, rfl, g.a, _, _, _, rfl, rfl, SqT.of g5.a, rfl, fun y1 dy1 h1 hd1 n1 => spInit_imp (make_fact T (n := 60) (a := g.t) (b := g.u) (Int.ne_of_gt g5.ra.1) (by decide) g5.ba.1 g5.ba.2 h1 hd1 n1) fun w1 H6 ⟨hv1, t1, u1, s6, ia1, e1⟩ => ⟨hv1, ?_⟩⟩
        obtain ⟨_, _, _, _, rd1, _⟩ := id ia1
        obtain ⟨rfl, rfl⟩ := Am.uniq rd1 g5.ra e1
        refine ⟨_, rfl, g.b, _, _, _, rfl, rfl, SqT.of (s6 _ _ g5.b), rfl, _, rfl, g.b, _, _, _, rfl, rfl, SqT.of (s6 _ _ g5.b), rfl, fun y2 dy2 h2 hd2 n2 => spInit_imp (make_fact T (n := 60) (a := g.t2) (b := g.u2) (Int.ne_of_gt g5.rb.1) (by decide) g5.bb.1 g5.bb.2 h2 hd2 n2) fun w2 H7 ⟨hv2, t2, u2, s7, ia2, e2⟩ => ⟨hv2, ?_⟩⟩
        obtain ⟨_, _, _, _, rd2, _⟩ := id ia2
        obtain ⟨rfl, rfl⟩ := Am.uniq rd2 g5.rb e2
        refine ⟨by show 2 ≤ sizeLine; decide, fun la hla => ?_⟩
        have s57 := s6.trans s7
        have hg7 := s57 _ _ hzg
        have nla : la ≠ gl := (ne_of_none hg7 hla).symm
        have s8 := Same.upd (o := .lst [.ref y1, .ref y2]) hla
        have hg8 := s8 _ _ hg7
        have new : GoI K (upd H7 la (.lst [.ref y1, .ref y2])) la ⟨0, y1, y2, g.t, g.u, g.t2, g.u2⟩ := ⟨upd_same, (ia1.same s7).same s8, ia2.same s8⟩
        have hla0 : Hc la = none := none_of s5 (none_of s57 hla)
        refine ⟨_, hg8, ?_, same_put (s5.trans (s57.trans s8)) hgl, zs ++ [(la, ⟨0, y1, y2, g.t, g.u, g.t2, g.u2⟩)], by rw [List.length_append, hzl]; rfl, by rw [upd_same, List.map_append]; rfl, fun j z e => ?_⟩
        · rw [List.length_map]
          exact Nat.lt_of_lt_of_le (show zs.length < 100 by omega) (by decide)
        · rcases Nat.lt_or_ge j zs.length with c | c
          · rw [List.getElem?_append_left c] at e
            obtain ⟨z1, z2, z3, z4⟩ := hz j z e
            exact ⟨((z1.same s57).same s8).put z3 hg8, z2, z3, z4⟩
          · have lj := (List.getElem?_eq_some_iff.mp e).1
            rw [List.length_append, List.length_singleton] at lj
            have ej : j = zs.length := by omega
            rw [List.getElem?_append_right c, ej, Nat.sub_self] at e
            cases e
            exact ⟨new.put nla hg8, hla0, nla, g, by rw [ej, hzl]; exact eg, rfl, rfl, rfl, rfl⟩
      · rintro H5 ⟨s5, zs, hzl, hzg, hz⟩
        rw [List.length_map] at hzl
        have b5 : Box H5 p 80 := (b3.sm (s3P.trans s5))
        have k25 : Kp p H2 H5 := kp3.trans (Kp.same (s3P.trans s5))
        have eP5 := s5 _ _ eP
        obtain ⟨ca, cb, cc, hcp, _⟩ := id (b3.sm s3P)
        have ngl : gl ≠ p := (ne_of_none hcp hgl).symm
        have ge : GE K H5 p gl (zs.map fun z => V.ref z.1) (zs.map fun z => z.2) := by
          obtain ⟨_, _, _, hp5, _⟩ := id b5
          refine ⟨⟨_, hp5⟩, hzg, ngl, by rw [List.length_map, List.length_map], by rw [List.length_map]; omega, by rw [List.length_map]; omega, fun j g e => ?_, fun j g h e1 e2 => ?_⟩
          · rw [List.getElem?_map] at e
            cases ez : zs[j]? with
            | none => rw [ez] at e; cases e
            | some z =>
              rw [ez] at e
              obtain rfl := Option.some.inj e
              obtain ⟨z1, z2, z3, _⟩ := hz j z ez
              exact ⟨z.1, by rw [List.getElem?_map, ez]; rfl, z1, (ne_of_none hcp z2).symm⟩
          · rw [List.getElem?_map] at e1 e2
            cases ez : zs[j]? with
            | none => rw [ez] at e1; cases e1
            | some z =>
              cases ez2 : zs[j + 1]? with
              | none => rw [ez2] at e2; cases e2
              | some z' =>
                rw [ez] at e1
                rw [ez2] at e2
                obtain rfl := Option.some.inj e1
                obtain rfl := Option.some.inj e2
                obtain ⟨_, _, _, g1, eg1, sv1⟩ := hz j z ez
                obtain ⟨_, _, _, g2, eg2, sv2⟩ := hz (j + 1) z' ez2
                exact (ri j g1 g2 eg1 eg2).sv sv1 sv2
        have lx : (zs.map fun z => V.ref z.1).length = zs.length := List.length_map ..
        have lps_ : (ps.map fun g => V.ref g.q).length = zs.length := by rw [List.length_map, hzl]
        have np : 0 < zs.length ∧ zs.length ≤ 8 := by omega
        generalize zs.map (fun z => V.ref z.1) = xs at ge hzg lx
        generalize zs.map (fun z => z.2) = gs at ge
        generalize ps.map (fun g => V.ref g.q) = pts at eP5 lps_
        generalize zs.length = N at lx lps_ np
        clear hz hzl eP fo ri
        have fin : ∀ (D : Ends) (z : Int) (l : Addr) (ys : List V) (n : Nat) (w7 : Option V) (H' : Hp), (∀ σ' H'', St14 sc σ' → Kp p H5 H'' → D.nx σ' H'') → 0 ≤ z → z < (N : Int) → Kp p H5 H' → Box H' p n → n ≤ 1000 → H5 l = none → H' l = some (.lst ys) → ys.length = xs.length → (∀ k : Nat, (k : Int) ≤ z → ys[k]? = xs[k]?) →
            sL0 K sc D [some (.ref sc), some (.int (j : Int)), some (.ref p), some (.ref PP), some (.ref gl), some (.ref l), some (.int z), w7, v8, v9, v10, v11, v12, v13] H' := by
          intro D z l ys n w7 H' k z0 z1 kq bq hn h0 hl hy he
          obtain ⟨i, rfl⟩ := Int.eq_ofNat_of_zero_le z0
          exact ⟨H5, p, gl, xs, gs, l, ys, i, n, _, _, _, _, _, _, _, _, _, rfl, ge, kq, bq, hn, h0, hl, hy, fun k hk => he k (by omega), by omega, k⟩
        have turn : ∀ σ' H'', St14 sc σ' → Kp p H5 H'' → Same H H'' ∧ St14 sc σ' := fun σ' H'' st kq => ⟨sk _ (k25.trans kq), st⟩
        refine ⟨_, rfl, gl, _, rfl, .inl (SqL.of hzg), fun l hl => ?_⟩
        have sl := Same.upd (o := .lst xs) hl
        have el : (upd H5 l (.lst xs)) l = some (.lst xs) := upd_same
        have nlp : l ≠ p := (b5.ne hl).symm
        have eP6 := sl _ _ eP5
        have b6 := b5.sm sl
        generalize upd H5 l (.lst xs) = H6 at sl el eP6 b6 ⊢
        refine ⟨_, rfl, _, rfl, _, _, rfl, .inl ⟨_, SqL.of eP6, rfl⟩, p, _, 80, rfl, b6, by decide, by omega, ?_, fun z H7 z0 z1 b7 k7 => ?_⟩
        · rw [lps_]
          exact Int.lt_of_le_of_lt (show (N : Int) ≤ 8 by omega) (by decide +kernel)
        rw [lps_] at z1
        have el7 : H7 l = some (.lst xs) := by rw [k7 l nlp]; exact el
        have eP7 : H7 PP = some (.lst pts) := by rw [k7 PP nPP]; exact eP6
        have k57 : Kp p H5 H7 := (Kp.same sl).trans (Kp.but k7)
        refine ⟨_, _, rfl, ?_⟩
        refine ⟨_, rfl, _, _, rfl, rfl, _, rfl, _, _, rfl, .inl ⟨_, SqL.of eP7, rfl⟩, _, _, rfl, rfl, _, rfl, ?_⟩
        rw [lps_]
        refine ite2 (fun c => ?_) (fun _ => ?_)
        · have c' : z + 1 < (N : Int) := of_decide_eq_true c
          refine ⟨_, rfl, p, _, _, rfl, b7, by decide, by decide, by decide, fun z2 H8 z20 z21 b8 k8 => ?_⟩
          have el8 : H8 l = some (.lst xs) := by rw [k8 l nlp]; exact el7
          have eP8 : H8 PP = some (.lst pts) := by rw [k8 PP nPP]; exact eP7
          have k58 := k57.trans (Kp.but k8)
          refine ⟨rfl, _, rfl, ?_⟩
          refine ite2 (fun _ => ?_) (fun _ => ?_)
          · refine ⟨_, rfl, _, _, rfl, rfl, _, rfl, _, rfl, _, _, rfl, .inl ⟨_, SqL.of eP8, rfl⟩, _, rfl, _, _, rfl, rfl, _, _, rfl, rfl, p, _, _, rfl, b8, by decide, ?_, ?_, fun z3 H9 z30 z31 b9 k9 => ?_⟩
            · rw [lps_]
              omega
            · rw [lps_]
              exact Int.lt_of_le_of_lt (show (N : Int) - z - 1 ≤ 8 by omega) (by decide +kernel)
            rw [lps_] at z31
            have k59 := k58.trans (Kp.but k9)
            have el9 : H9 l = some (.lst xs) := by rw [k9 l nlp]; exact el8
            have nl2 : ∀ q, H5 q ≠ none → q ≠ l := fun q h e => h (by rw [e]; exact hl)
            have gn := ge.len
            have hf : (z + 1 + z3).toNat < gs.length := by omega
            have gf : gs[(z + 1 + z3).toNat]? = some gs[(z + 1 + z3).toNat] := List.getElem?_eq_getElem hf
            obtain ⟨li, hli, gd, n1, n2⟩ := ge.go k59 _ _ gf
            refine ⟨_, _, rfl, rfl, ?_⟩
            refine ⟨_, rfl, _, rfl, _, rfl, p, l, (z + 1 + z3).toNat, _, xs, li, gs[(z + 1 + z3).toNat], gs.getD ((z + 1 + z3).toNat - 1) gs[(z + 1 + z3).toNat], congrArg (fun t => [V.ref p, V.ref l, V.int t]) (by omega), b9, by decide, nlp, el9, hli, gd, n1, nl2 li n2, fun i0 => ?_, fun H' r v nm w' k2 b' hl' hr0 nrl nrp hr' spe => ?_⟩
            · have gj : gs[(z + 1 + z3).toNat - 1]? = some gs[(z + 1 + z3).toNat - 1] := List.getElem?_eq_getElem (by omega)
              obtain ⟨lj, hlj, gdj, m1, m2⟩ := ge.go k59 _ _ gj
              have e : gs.getD ((z + 1 + z3).toNat - 1) gs[(z + 1 + z3).toNat] = gs[(z + 1 + z3).toNat - 1] := by rw [List.getD_eq_getElem?_getD, gj]; rfl
              rw [e]
              exact ⟨lj, hlj, gdj, m1, nl2 lj m2⟩
            · have kp' : Kp p H5 H' := fun q o nq hq => k2 q o nq (nl2 q (fun e => by rw [e] at hq; cases hq)) (k59 q o nq hq)
              exact fin _ z l _ _ _ H' turn z0 z1 kp' b' (by decide) hl hl' (by rw [List.length_set]) fun k hk => List.getElem?_set_ne (by omega)
          · exact fin _ z l xs _ _ H8 turn z0 z1 k58 b8 (by decide) hl el8 rfl fun _ _ => rfl
        · exact fin _ z l xs _ _ H7 turn z0 z1 k57 b7 (by decide) hl el7 rfl fun _ _ => rfl
    · rintro σ H1 ⟨s1, _⟩
      exact q _
end
end K11

set_option Elab.async false
set_option linter.all false
set_option maxRecDepth 100000
set_option maxHeartbeats 4000000
/-! A law's end where its def shows lists: no repr is under way when it is called. -/
namespace Fg
open PySem PySem.Spec PyProof.Rows L2
section
variable {P : Program} {w : World} {K : PySem.W.Frag} {mg mb : Str → Option Value} {CX : CXT} {k : Nat} {fa a : Addr} {fd : FuncData} {x : Str} {sp : Sp} {s₁ : Shared} {vs : List Value} {ns : List Int}
/-- from a heap H that tracks the script at the most -/
theorem call_from (KX : K.In s₁.heap) (hns : s₁.heap.Ns mainGlobals mg) (hb : s₁.heap.Ns builtinsNs mb) (hbb : ∀ x : Str, x ≠ "__name__" → mb x = bootBuiltins x) (hlim : s₁.heap.NoLimit) (hg : s₁.gens = #[])
    (obj : s₁.heap.get? a = some { cls := .type "list", data := .seq vs.toArray }) (hr : Room k callerA) (F : ∀ base : Heap, K.In base → base.Ns mainGlobals mg → FnG P w K mg base CX k fa fd [x] sp)
    (bind : ∀ (s : Shared) (u : Value), BindsTo s fd ⟨[u], []⟩ [(x, u)]) (noX : ∀ H e s', CX [] H s₁ (fun _ _ _ => False) e s' → False) {H : Hp} (only : Only H) (hsp : sp [.ref a] H (fun v _ => v = .bl true) fun _ _ _ => False)
    (hok : HOk P w H s₁.heap) (at_ : ∀ b, H b ≠ none → b = a) (own : H a ≠ none → K.lookup a = none) :
    codeAny (model P w) callerA (.call (.ref fa) ⟨[.ref a], []⟩) (fun r s' => r = .ok (.ret (.bool true)) ∧ OldK s₁.heap s'.heap ∧ s'.os = s₁.os ∧ AllBare s'.gens) s₁ := by
  have free : ∀ {b : Addr} {o : Obj}, s₁.heap.get? b = some o → (b = a → o ≠ { cls := .type "list", data := .seq vs.toArray }) → H b = none := by
    intro b o e ne
    cases q : H b with
    | none => rfl
    | some u =>
      have eb := at_ b (by rw [q]; exact fun z => nomatch z)
      rw [eb, obj] at e
      exact absurd (Option.some.inj e).symm (ne eb)
  have hid : ∀ {b : Addr} {o : Obj}, s₁.heap.get? b = some o → H b = none → (hidT s₁.heap H).get? b = some o := fun e n => hidT_get e n
  have nsp : ∀ {b : Addr} {m : Str → Option Value}, s₁.heap.Ns b m → (hidT s₁.heap H).Ns b m := by
    rintro b m ⟨o, es, ep, e, d, r⟩
    refine ⟨o, es, ep, hid e (free e fun _ z => ?_), d, r⟩
    rw [z] at d
    cases d
  have inB : K.In (hidT s₁.heap H) := fun b o e => hid (KX b o e) (by
    cases q : H b with
    | none => rfl
    | some u =>
      have eb := at_ b (by rw [q]; exact fun z => nomatch z)
      rw [eb] at q e
      rw [own (by rw [q]; exact fun z => nomatch z)] at e
      cases e)
  have M : Mod K mg (hidT s₁.heap H) := ⟨inB, nsp hns, ⟨mb, nsp hb, hbb⟩, hlim.imp fun _ h => ⟨nsp h.1, h.2⟩⟩
  have e0 : Env0 P w K mg (hidT s₁.heap H) callerA [] s₁ H := by
    refine ⟨rfl, M, fun b o e => of_hidT e, Nat.le_of_eq (hidT_size _ _), trivial, fun b hb => ?_, hok, .of_eq hg⟩
    exact (List.not_mem_nil hb).elim
  refine codeAny_mono ((F _ inB (nsp hns)).run callerA [] s₁ H ⟨[.ref a], []⟩ [.ref a] [.ref a] _ _ rfl hr e0 (bind s₁ (.ref a)) (.cons rfl .nil) hsp) fun res s2 out => ?_
  match res, out with
  | .error er, out => exact (noX H er s2 out).elim
  | .ok .next, out => exact out.elim
  | .ok .brk, out => exact out.elim
  | .ok .cont, out => exact out.elim
  | .ok (.ret u), out =>
    obtain ⟨v, H2, os, bare, un, hok2, ru, qv⟩ := out
    cases (show v = V.bl true from qv)
    cases ru
    refine ⟨rfl, OldK.of_keep fun b o e => ?_, os, bare⟩
    rcases only b with n | ⟨ob, xs, z⟩
    · exact un.keep b o e n (fun m => (List.not_mem_nil m).elim) (by simp)
    · obtain ⟨g1, _⟩ := hok b _ z
      obtain ⟨g2, _⟩ := hok2 b _ (un.frzs b ob _ z)
      rw [g1] at e
      rw [g2]
      exact e
theorem law_callG (KX : K.In s₁.heap) (hns : s₁.heap.Ns mainGlobals mg) (hb : s₁.heap.Ns builtinsNs mb) (hbb : ∀ x : Str, x ≠ "__name__" → mb x = bootBuiltins x) (hlim : s₁.heap.NoLimit) (hg : s₁.gens = #[])
    (obj : s₁.heap.get? a = some { cls := .type "list", data := .seq vs.toArray }) (hi : IntsAre vs ns) (hl : ns.length ≤ sizeLine) (hr : Room k callerA) (F : ∀ base : Heap, K.In base → base.Ns mainGlobals mg → FnG P w K mg base CX k fa fd [x] sp)
    (bind : ∀ (s : Shared) (u : Value), BindsTo s fd ⟨[u], []⟩ [(x, u)]) (hsp : ∀ H : Hp, Only H → SqL K H a (ns.map V.int) → sp [.ref a] H (fun v _ => v = .bl true) fun _ _ _ => False)
    (noX : ∀ H e s', CX [] H s₁ (fun _ _ _ => False) e s' → False) :
    codeAny (model P w) callerA (.call (.ref fa) ⟨[.ref a], []⟩) (fun r s' => r = .ok (.ret (.bool true)) ∧ OldK s₁.heap s'.heap ∧ s'.os = s₁.os ∧ AllBare s'.gens) s₁ := by
  have rv := vals_ints hi
  cases hk : K.lookup a with
  | some o =>
    -- the script is an object of the written part
    have e : o = { cls := .type "list", data := .seq vs.toArray } := by
      have z := KX a o hk
      rw [obj] at z
      exact (Option.some.inj z).symm
    subst e
    have sq : SqL K (fun _ => none) a (ns.map V.int) := .inr ⟨_, vs.toArray, _, hk, rfl, rfl, rfl, by rw [List.size_toArray, hi.length]; exact hl, by simpa using rv⟩
    exact call_from KX hns hb hbb hlim hg obj hr F bind noX (H := fun _ => none) (fun _ => .inl rfl) (hsp _ (fun _ => .inl rfl) sq) (fun b u z => nomatch z) (fun b z => absurd rfl z) (fun z => absurd rfl z)
  | none =>
    let H : Hp := fun b => if b = a then some (.frz { cls := .type "list", data := .seq vs.toArray } (.lst (ns.map V.int))) else none
    have ha : H a = some (.frz { cls := .type "list", data := .seq vs.toArray } (.lst (ns.map V.int))) := if_pos rfl
    have hn : ∀ {b}, b ≠ a → H b = none := fun z => if_neg z
    have only : Only H := fun b => by
      by_cases z : b = a
      · subst z
        exact .inr ⟨_, _, ha⟩
      · exact .inl (hn z)
    refine call_from KX hns hb hbb hlim hg obj hr F bind noX (H := H) only (hsp H only (.inl (.inr ⟨_, ha⟩))) (fun b u z => ?_) (fun b z => ?_) (fun _ => hk)
    · by_cases eb : b = a
      · subst eb
        cases ha.symm.trans z
        exact ⟨obj, by rw [List.length_map]; exact hl, vs, _, rv, obj⟩
      · cases (hn eb).symm.trans z
    · by_cases eb : b = a
      · exact eb
      · exact absurd (hn eb) z
end
theorem walk_ofG {l : PySem.W.OpenLaw} {n k : Nat} {q : Program} {loose : List Str} {XP : (Str → Option Value) → Heap → Prop} {YP : World → Heap → Prop} {d : DefRec} {CX : World → CXT} {x : Str}
    (hn : l.most = some n) (small : n ≤ sizeLine) (hdf : d.params.defaults = []) (hr : Room k callerA)
    (F : ∀ (w : World) (mg : Str → Option Value) (fa : Addr) (h : Heap), YP w h → h.Ns mainGlobals mg → mg d.name = some (.ref fa) → ∃ (K : PySem.W.Frag) (fd : FuncData) (sp : Sp), K.In h ∧ (∀ (s : Shared) (u : Value), BindsTo s fd ⟨[u], []⟩ [(x, u)]) ∧
        (∀ (H : Hp) (a : Addr) (ns : List Int), ns.length ≤ n → Only H → SqL K H a (ns.map V.int) → sp [.ref a] H (fun v _ => v = .bl true) fun _ _ _ => False) ∧ ∀ base : Heap, K.In base → base.Ns mainGlobals mg → FnG l.prog w K mg base (CX w) k fa fd [x] sp)
    (noX : ∀ (w : World) (H : Hp) (s : Shared) (e : Value) (s' : Shared), CX w [] H s (fun _ _ _ => False) e s' → False) : PySem.W.WalkO q loose XP YP l.row.toRowW d [] (fun f vs => PySem.call f vs) := by
  refine Att.attach_call hn hdf ?_
  intro w s₀ s₁ mg mb fa o pm cd doc a vs ns G Y ho hd hcd hmg obj hints len hg
  obtain ⟨K, fd, sp, KX, bi, hsp, hF⟩ := F w mg fa _ Y G.T.g hmg
  refine law_callG KX G.T.g G.T.b G.T.builtins G.T.nolimit hg obj hints (Nat.le_trans len small) hr hF bi ?_ (fun H e s' => noX w H s₁ e s')
  exact fun H hO hS => hsp H a ns len hO hS
end Fg
set_option Elab.async false
set_option linter.all false
set_option maxRecDepth 100000
set_option maxHeartbeats 0
set_option exponentiation.threshold 100000
namespace K11
open PySem PySem.Spec PyProof.Rows L2 Fa Fb
/-! ### where the defs stand, and what is asked of the written part -/
def pa (K : PySem.W.Frag) (f : Str) : Addr := He.ma K (CA K) f
def ga2 (K : PySem.W.Frag) (f : Str) : Addr := match PySem.W.recIn K (pa K f) "property" with
  | some (.ref g :: _) => g
  | _ => 0
open Hd in
def dG (x : Str) (i : Nat) : Def := { ad := fun K => He.ga K x, name := x, qual := x, st := top i }
open Hd in
def dM (m q : Str) (j : Nat) (dfl : List He.Dv := []) : Def := { ad := fun K => He.ma K (CA K) m, name := m, qual := q, st := inClass (top 13) j, dfl := dfl }
open Hd in
def dP (m q : Str) (j : Nat) : Def := { ad := fun K => ga2 K m, name := m, qual := q, st := inClass (top 13) j }
open Hd in
def dT (m q : Str) (j : Nat) (dfl : List He.Dv := []) : Def := { ad := fun K => He.ma K (CM K) m, name := m, qual := q, st := inClass (top 17) j, dfl := dfl }
open Hd in
def ds1 : List Def := [dM "__init__" "Amount.__init__" 0 [.int 1], dM "__eq__" "Amount.__eq__" 3 [], dM "__add__" "Amount.__add__" 4 [], dM "__sub__" "Amount.__sub__" 5 [], dM "__mul__" "Amount.__mul__" 6 [], dM "divided" "Amount.divided" 9 [], dM "compare" "Amount.compare" 10 [], dT "__init__" "TempoMap.__init__" 0 [.adr (He.dflAt ("TempoMap", some "__init__") 0)], dT "points" "TempoMap.points" 5 [], dG "is_whole" 10, dG "is_listing" 11, dG "is_amount" 14, dG "as_amount" 15, dG "_told_points" 18, dG "_rises" 19, dG "_standard" 20, dG "_pace" 21, dG "_reached" 22, dG "_taken" 23, dG "_exchanged" 24]
open Hd in
def ds2 : List Def := [dG "_law_cell" 26, dG "_law_bag" 27, dG "_law_take" 28, dG "_law_frac" 29, dG "_law_sum" 30, dG "_law_rest" 32, dG "_law_fraction" 35, dG "_law_step" 36, dG "_law_points" 38, dG "_law_caught" 44, dG "_law_spoilt" 45, dG "law" 46, Hd.excD "InvalidInteger" "InvalidInteger.__init__" (inClass (top 4) 0), Hd.excD "InvalidAmount" "InvalidAmount.__init__" (inClass (top 5) 0), Hd.excD "InvalidPart" "InvalidPart.__init__" (inClass (top 6) 0), Hd.excD "InvalidPoint" "InvalidPoint.__init__" (inClass (top 7) 0), Hd.excD "Falling" "Falling.__init__" (inClass (top 8) 0)]
def ds : List Hd.Def := ds1 ++ ds2
def gloB (K : PySem.W.Frag) (x : Str) : Bool := He.eqO (PySem.W.nsIn K mainGlobals x) (some (some (.ref (He.ga K x))))
def freeB (K : PySem.W.Frag) (x : Str) : Bool := He.eqO (PySem.W.nsIn K mainGlobals x) (some none)
def clsB (K : PySem.W.Frag) (C : Addr) : Bool := Hd.allB [PySem.W.plainGet K C Str.empty, PySem.W.hasDictIn K C, PySem.W.plainOver K C, He.eqO (PySem.W.findIn K (.ref C) "__setattr__") (some (some (.builtin "object.__setattr__"))), He.eqO (PySem.W.findIn K (.ref C) "_top") (some none), He.eqO (PySem.W.findIn K (.ref C) "_bottom") (some none),
  PySem.W.makesIn K C, He.eqO (PySem.W.findIn K (.ref C) "__init__") (some (some (.ref (He.ma K C "__init__")))), PySem.W.isFn K (.ref (He.ma K C "__init__")), PySem.W.keepIn K (.ref C), He.eqO (PySem.W.nsIn K mainGlobals "gcd") (some (some (.builtin "math.gcd"))),
  decide (PySem.W.kitOne K (.ref C) (.type "int") = some false), decide (PySem.W.kitOne K (.ref C) (.type "bool") = some false), decide (PySem.W.kitOne K (.ref C) (.ref C) = some true), tys.all fun T => decide (PySem.W.kitOne K (.type T) (.ref C) = some false),
  He.eqO (PySem.W.findIn K (.ref C) "__class__") (some (some (.builtin "object.__class__"))), He.eqO (PySem.W.specialIn K (.builtin "object.__class__") "__get__") (some (some (.builtin "getset_descriptor.__get__"))), decide (PySem.W.takesIn K (.builtin "object.__class__") = some true),
  decide (PySem.W.mroIn K C (.type "object") = some true), tys.all fun T => decide (PySem.W.subIn K (.type T) (.ref C) = some false), PySem.W.selfFirst K C]
def tyopB (K : PySem.W.Frag) (nm T : String) : Bool := (PySem.W.findIn K (.type T) (PySem.dunder nm)).isSome && (PySem.W.findIn K (.type T) (dunderR nm)).isSome
def opB (K : PySem.W.Frag) (nm : String) (m : Str) : Bool := He.eqO (PySem.W.findIn K (.ref (CA K)) (PySem.dunder nm)) (some (some (.ref (He.ma K (CA K) m)))) && (PySem.W.isFn K (.ref (He.ma K (CA K) m)) && (He.eqO (PySem.W.findIn K (.ref (CA K)) (dunderR nm)) (some none) && tys.all fun T => tyopB K nm T))
def meB (K : PySem.W.Frag) (m : Str) : Bool := He.eqO (PySem.W.findIn K (.ref (CA K)) m) (some (some (.ref (He.ma K (CA K) m)))) && (PySem.W.isFn K (.ref (He.ma K (CA K) m)) && PySem.W.keepIn K (.ref (He.ma K (CA K) m)))
def prB (K : PySem.W.Frag) (f : Str) : Bool := He.eqO (PySem.W.findIn K (.ref (CA K)) f) (some (some (.ref (pa K f)))) && (He.eqO (PySem.W.specialIn K (.ref (pa K f)) "__get__") (some (some (.builtin "property.__get__"))) && (decide (PySem.W.takesIn K (.ref (pa K f)) = some true) &&
  match PySem.W.recIn K (pa K f) "property" with
  | some (.ref g :: _) => decide (g = ga2 K f)
  | _ => false))
def sysB (K : PySem.W.Frag) : Bool := match K.lookup sysModules with
  | some ⟨_, _, .dict _ _, _⟩ => true
  | _ => false
def strsB : List Value → List Str → Bool
  | [], [] => true
  | .str x _ :: l, z :: r => decide (x = z) && strsB l r
  | _, _ => false
theorem strsB_ok : ∀ (us : List Value) (zs : List Str), strsB us zs = true → Vals (zs.map V.str) us
  | [], [], _ => .nil
  | .str x t :: l, z :: r, h => by
    obtain ⟨a, b⟩ := He.ba h
    have e := of_decide_eq_true a
    subst e
    exact .cons ⟨t, rfl⟩ (strsB_ok l r b)
def tupB (K : PySem.W.Frag) (a : Addr) (zs : List Str) : Bool := match K.lookup a with
  | some ⟨.type t, _, .seq its _, _⟩ => decide (t = "tuple") && (decide (its.size ≤ sizeLine) && strsB its.toList zs)
  | _ => false
theorem tupB_of {K : PySem.W.Frag} {a : Addr} {zs : List Str} (h : tupB K a zs = true) (H : Hp) : SqT K H a (zs.map V.str) := by
  unfold tupB at h
  split at h
  · rename_i t d its n sl e
    obtain ⟨h1, h⟩ := He.ba h
    obtain ⟨h2, h3⟩ := He.ba h
    have e1 := of_decide_eq_true h1
    subst e1
    exact .inr ⟨_, its, n, e, rfl, rfl, of_decide_eq_true h2, strsB_ok _ _ h3⟩
  · cases h
theorem prB_of {K : PySem.W.Frag} {f : Str} (h : prB K f = true) : PropOf K (CA K) f (pa K f) (ga2 K f) := by
  obtain ⟨h1, h⟩ := He.ba h
  obtain ⟨h2, h⟩ := He.ba h
  obtain ⟨h3, h4⟩ := He.ba h
  refine ⟨He.eqO_ok h1, He.eqO_ok h2, of_decide_eq_true h3, ?_⟩
  have h5 : (match PySem.W.recIn K (pa K f) "property" with
  | some (.ref g :: _) => decide (g = ga2 K f)
  | _ => false) = true := h4
  split at h5
  · rename_i g r e
    exact ⟨r, by rw [e, of_decide_eq_true h5]⟩
  · cases h5
theorem sysB_of {K : PySem.W.Frag} (h : sysB K = true) : Fg.SysD K := by
  unfold sysB at h
  split at h
  · rename_i c dd es ep sl e
    exact ⟨c, dd, es, ep, sl, e⟩
  · cases h
theorem meB_of {K : PySem.W.Frag} {m : Str} (h : meB K m = true) : Meth K (CA K) m (He.ma K (CA K) m) := by
  obtain ⟨h1, h⟩ := He.ba h
  obtain ⟨h2, h3⟩ := He.ba h
  exact ⟨He.eqO_ok h1, h2, h3⟩
def mmB (K : PySem.W.Frag) (m : Str) : Bool := He.eqO (PySem.W.findIn K (.ref (CM K)) m) (some (some (.ref (He.ma K (CM K) m)))) && (PySem.W.isFn K (.ref (He.ma K (CM K) m)) && PySem.W.keepIn K (.ref (He.ma K (CM K) m)))
theorem mmB_of {K : PySem.W.Frag} {m : Str} (h : mmB K m = true) : Meth K (CM K) m (He.ma K (CM K) m) := by
  obtain ⟨h1, h⟩ := He.ba h
  obtain ⟨h2, h3⟩ := He.ba h
  exact ⟨He.eqO_ok h1, h2, h3⟩
def mapB (K : PySem.W.Frag) (C : Addr) : Bool := Hd.allB [PySem.W.plainGet K C Str.empty, PySem.W.hasDictIn K C, PySem.W.plainOver K C, He.eqO (PySem.W.findIn K (.ref C) "__setattr__") (some (some (.builtin "object.__setattr__"))), He.eqO (PySem.W.findIn K (.ref C) "_points") (some none), He.eqO (PySem.W.findIn K (.ref C) "_turned") (some none),
  PySem.W.makesIn K C, He.eqO (PySem.W.findIn K (.ref C) "__init__") (some (some (.ref (He.ma K C "__init__")))), PySem.W.isFn K (.ref (He.ma K C "__init__")), PySem.W.keepIn K (.ref C)]
def exB (K : PySem.W.Frag) (C : Addr) : Bool := Hd.allB [He.eqO (PySem.W.findIn K (.ref C) "__getattribute__") (some (some (.builtin "BaseException.__getattribute__"))), He.eqO (PySem.W.findIn K (.ref C) "__getattr__") (some none), decide (PySem.W.subIn K (.ref C) (.type "BaseException") = some true), PySem.W.hasDictIn K C,
  He.eqO (PySem.W.findIn K (.ref C) "__class__") (some (some (.builtin "object.__class__"))), He.eqO (PySem.W.specialIn K (.builtin "object.__class__") "__get__") (some (some (.builtin "getset_descriptor.__get__"))), decide (PySem.W.takesIn K (.builtin "object.__class__") = some true), decide (PySem.W.mroIn K C (.type "object") = some true)]
theorem exB_of {K : PySem.W.Frag} {C : Addr} (h : exB K C = true) : ExcC K C := by
  have h : Hd.allB _ = true := h
  exact ⟨He.eqO_ok (Hd.allB_at h 0), He.eqO_ok (Hd.allB_at h 1), of_decide_eq_true (Hd.allB_at h 2), Hd.allB_at h 3, He.eqO_ok (Hd.allB_at h 4), He.eqO_ok (Hd.allB_at h 5), of_decide_eq_true (Hd.allB_at h 6), of_decide_eq_true (Hd.allB_at h 7)⟩
theorem opF_of {K : PySem.W.Frag} {nm : String} {m : Str} (h : opB K nm m = true) (sf : PySem.W.selfFirst K (CA K) = true) (sub : ∀ T ∈ tys, PySem.W.subIn K (.type T) (.ref (CA K)) = some false) : OpF K nm (He.ma K (CA K) m) := by
  obtain ⟨h1, h⟩ := He.ba h
  obtain ⟨h2, h⟩ := He.ba h
  obtain ⟨h3, h4⟩ := He.ba h
  refine ⟨⟨sf, He.eqO_ok h1, h2, He.eqO_ok h3⟩, fun T hT => ?_⟩
  obtain ⟨a, b⟩ := He.ba (List.all_eq_true.mp h4 T hT)
  obtain ⟨fo, hfo⟩ := Option.isSome_iff_exists.mp a
  obtain ⟨ro, hro⟩ := Option.isSome_iff_exists.mp b
  exact ⟨fo, ro, hfo, hro, sub T hT⟩
theorem nm_index : Xb.Nm "index" := ⟨rfl, rfl, rfl, rfl, by decide, by decide, by decide, fun _ _ _ _ _ _ _ _ _ _ _ _ _ => rfl⟩
theorem _root_.Fg.FnG.of {P : Program} {w : World} {K : PySem.W.Frag} {mg : Str → Option Value} {base : Heap} {CX : CXT} {k : Nat} {f : Addr} {fd : FuncData} {ps : List Str} {sp : Sp} (F : FnOk P w K mg base CX k f fd ps sp) : Fg.FnG P w K mg base CX k f fd ps sp :=
  ⟨F.len, fun A ou s H ar us vs Q E _ => F.run A ou s H ar us vs Q E⟩
def glos1 : List Str := ["law", "Amount", "TempoMap", "CueError", "InvalidInteger", "InvalidAmount", "InvalidPart", "InvalidPoint", "Falling", "is_whole", "is_listing", "is_amount", "as_amount", "_told_points", "_rises", "_standard", "_pace", "_reached", "_taken", "_exchanged"]
def glos2 : List Str := ["_law_cell", "_law_bag", "_law_take", "_law_frac", "_law_sum", "_law_rest", "_law_fraction", "_law_step", "_law_points", "_law_caught", "_law_spoilt"]
def glos : List Str := glos1 ++ glos2
def frees : List Str := ["isinstance", "int", "bool", "len", "max", "min", "range", "list", "tuple", "enumerate", "abs"]
def file : Str := PySem.Challenge.pw_anytempo_k11_maps_refused.main.file
def chk (K : PySem.W.Frag) : Bool := Hd.allB [glos.all (gloB K), frees.all (freeB K), clsB K (CA K), mapB K (CM K), meB K "__eq__", He.eqO (PySem.W.findIn K (.ref (CA K)) "__ne__") (some (some (.builtin "object.__ne__"))), decide (PySem.W.subIn K (.ref (CA K)) (.type "object") = some true), opB K "add" "__add__", opB K "sub" "__sub__", opB K "mul" "__mul__", meB K "divided", meB K "compare", mmB K "points", decide (PySem.W.kitAny K (.ref (CA K)) [.type "list", .type "tuple"] = some false), decide (PySem.W.exmOne K (.ref (He.ga K "InvalidPoint")) (.ref (He.ga K "InvalidPart")) = some false), decide (PySem.W.exmOne K (.ref (He.ga K "Falling")) (.ref (He.ga K "InvalidPart")) = some false), decide (PySem.W.exmOne K (.ref (He.ga K "Falling")) (.ref (He.ga K "InvalidPoint")) = some false), decide (PySem.W.kitOne K (.ref (He.ga K "InvalidPart")) (.ref (He.ga K "CueError")) = some true), decide (PySem.W.kitOne K (.ref (He.ga K "InvalidPoint")) (.ref (He.ga K "CueError")) = some true), decide (PySem.W.kitOne K (.ref (He.ga K "Falling")) (.ref (He.ga K "CueError")) = some true), exB K (He.ga K "InvalidPart"), exB K (He.ga K "InvalidPoint"), exB K (He.ga K "Falling"), Hd.excB file K "InvalidInteger" "value", Hd.excB file K "InvalidAmount" "value", Hd.excB file K "InvalidPart" "value", Hd.excB file K "InvalidPoint" "value", Hd.excB file K "Falling" "index"]
end K11
set_option Elab.async false
set_option linter.all false
set_option maxRecDepth 100000
set_option maxHeartbeats 4000000
/-! As HK2's hook, the dict of sys.modules beside. -/
namespace Hd
open PySem PySem.Spec PyProof.Rows L2
def adS (g : Addr → Option Obj) (n : Nat) : List Addr := sysModules :: grow g n
def hookS (n : Nat) (ds : List Def) (chk : PySem.W.Frag → Bool) : PySem.W.Hook where
  α := Al
  obs := fun s => obsK ds chk (He.frG s.heap.get? (adS s.heap.get? n))
  val := fun _ => valK ds
  says := fun _ h => ∃ K : PySem.W.Frag, K.In h ∧ obsK ds chk K = valK ds
  of := fun _ _ e => ⟨_, He.frG_in, e⟩
  keeps := fun _ _ _ ⟨K, hK, c⟩ k => ⟨K, PySem.W.Frag.In.keeps hK k, c⟩
def obS (n : Nat) (ds : List Def) (chk : PySem.W.Frag → Bool) (s : PySem.W.SharedT) : Al := obsK ds chk (He.frG (HandSHeadRun.getT s) (adS (HandSHeadRun.getT s) n))
theorem obS_eq (n : Nat) (ds : List Def) (chk : PySem.W.Frag → Bool) (s : PySem.W.SharedT) : obS n ds chk s = (hookS n ds chk).obs s.abs := by
  have e : HandSHeadRun.getT s = s.abs.heap.get? := funext fun a => HandSHeadRun.getT_eq s a
  unfold obS
  rw [e]
  rfl
end Hd
set_option Elab.async false
set_option linter.all false
set_option maxRecDepth 100000
set_option maxHeartbeats 4000000
set_option exponentiation.threshold 100000
namespace K11
open PySem PySem.Spec PyProof.Rows L2 Fa Fb
abbrev PP : Program := PySem.Challenge.pw_anytempo_k11_maps_refused
theorem facts {w : World} {K : PySem.W.Frag} {h : Heap} {mg : Str → Option Value} {f : Addr} (X : K.In h) (G : h.Ns mainGlobals mg) (hfa : mg ("law" : Str) = some (.ref f)) (c : Hd.obsK ds chk K = Hd.valK ds) :
    ∃ fd : FuncData, (∀ (s : Shared) (v : Value), BindsTo s fd ⟨[v], []⟩ [("_law_script", v)]) ∧ ∀ base : Heap, K.In base → base.Ns mainGlobals mg → Fg.FnG PP w K mg base (L2.CX PP w) 14 f fd ["_law_script"] (spLaw K) := by
  have ck : Hd.allB _ = true := Hd.says_chk c
  have cg := Hd.allB_at ck 0
  have cf := Hd.allB_at ck 1
  have cc : Hd.allB _ = true := Hd.allB_at ck 2
  have cm : Hd.allB _ = true := Hd.allB_at ck 3
  have glo : ∀ x ∈ glos, mg x = some (.ref (He.ga K x)) := fun x hx => PySem.W.mg_of X G (He.eqO_ok (List.all_eq_true.mp cg x hx))
  have fre : ∀ x ∈ frees, mg x = none := fun x hx => PySem.W.mg_none_of X G (He.eqO_ok (List.all_eq_true.mp cf x hx))
  have G_Amount := glo "Amount" (by simp [glos, glos1, glos2])
  have G_TempoMap := glo "TempoMap" (by simp [glos, glos1, glos2])
  have G_CueError := glo "CueError" (by simp [glos, glos1, glos2])
  have G_InvalidInteger := glo "InvalidInteger" (by simp [glos, glos1, glos2])
  have G_InvalidAmount := glo "InvalidAmount" (by simp [glos, glos1, glos2])
  have G_InvalidPart := glo "InvalidPart" (by simp [glos, glos1, glos2])
  have G_InvalidPoint := glo "InvalidPoint" (by simp [glos, glos1, glos2])
  have G_Falling := glo "Falling" (by simp [glos, glos1, glos2])
  have G_is_whole := glo "is_whole" (by simp [glos, glos1, glos2])
  have G_is_listing := glo "is_listing" (by simp [glos, glos1, glos2])
  have G_is_amount := glo "is_amount" (by simp [glos, glos1, glos2])
  have G_as_amount := glo "as_amount" (by simp [glos, glos1, glos2])
  have G__told_points := glo "_told_points" (by simp [glos, glos1, glos2])
  have G__rises := glo "_rises" (by simp [glos, glos1, glos2])
  have G__standard := glo "_standard" (by simp [glos, glos1, glos2])
  have G__pace := glo "_pace" (by simp [glos, glos1, glos2])
  have G__reached := glo "_reached" (by simp [glos, glos1, glos2])
  have G__taken := glo "_taken" (by simp [glos, glos1, glos2])
  have G__exchanged := glo "_exchanged" (by simp [glos, glos1, glos2])
  have G__law_cell := glo "_law_cell" (by simp [glos, glos1, glos2])
  have G__law_bag := glo "_law_bag" (by simp [glos, glos1, glos2])
  have G__law_take := glo "_law_take" (by simp [glos, glos1, glos2])
  have G__law_frac := glo "_law_frac" (by simp [glos, glos1, glos2])
  have G__law_sum := glo "_law_sum" (by simp [glos, glos1, glos2])
  have G__law_rest := glo "_law_rest" (by simp [glos, glos1, glos2])
  have G__law_fraction := glo "_law_fraction" (by simp [glos, glos1, glos2])
  have G__law_step := glo "_law_step" (by simp [glos, glos1, glos2])
  have G__law_points := glo "_law_points" (by simp [glos, glos1, glos2])
  have G__law_caught := glo "_law_caught" (by simp [glos, glos1, glos2])
  have G__law_spoilt := glo "_law_spoilt" (by simp [glos, glos1, glos2])
  have R_isinstance := fre "isinstance" (by simp [frees])
  have R_int := fre "int" (by simp [frees])
  have R_bool := fre "bool" (by simp [frees])
  have R_len := fre "len" (by simp [frees])
  have R_max := fre "max" (by simp [frees])
  have R_min := fre "min" (by simp [frees])
  have R_range := fre "range" (by simp [frees])
  have R_list := fre "list" (by simp [frees])
  have R_tuple := fre "tuple" (by simp [frees])
  have R_enumerate := fre "enumerate" (by simp [frees])
  have R_abs := fre "abs" (by simp [frees])
  obtain ⟨fdinit, ginit⟩ := Hd.says_def c 0
  obtain ⟨fdeq, geq⟩ := Hd.says_def c 1
  obtain ⟨fdadd, gadd⟩ := Hd.says_def c 2
  obtain ⟨fdsub, gsub⟩ := Hd.says_def c 3
  obtain ⟨fdmul, gmul⟩ := Hd.says_def c 4
  obtain ⟨fddvd, gdvd⟩ := Hd.says_def c 5
  obtain ⟨fdcmp, gcmp⟩ := Hd.says_def c 6
  obtain ⟨fdtmi, gtmi⟩ := Hd.says_def c 7
  obtain ⟨fdpts, gpts⟩ := Hd.says_def c 8
  obtain ⟨fdDiswhole, gDiswhole⟩ := Hd.says_def c 9
  obtain ⟨fdDislisting, gDislisting⟩ := Hd.says_def c 10
  obtain ⟨fdDisamount, gDisamount⟩ := Hd.says_def c 11
  obtain ⟨fdDasamount, gDasamount⟩ := Hd.says_def c 12
  obtain ⟨fdDtoldpoints, gDtoldpoints⟩ := Hd.says_def c 13
  obtain ⟨fdDrises, gDrises⟩ := Hd.says_def c 14
  obtain ⟨fdDstandard, gDstandard⟩ := Hd.says_def c 15
  obtain ⟨fdDpace, gDpace⟩ := Hd.says_def c 16
  obtain ⟨fdDreached, gDreached⟩ := Hd.says_def c 17
  obtain ⟨fdDtaken, gDtaken⟩ := Hd.says_def c 18
  obtain ⟨fdDexchanged, gDexchanged⟩ := Hd.says_def c 19
  obtain ⟨fdDlawcell, gDlawcell⟩ := Hd.says_def c 20
  obtain ⟨fdDlawbag, gDlawbag⟩ := Hd.says_def c 21
  obtain ⟨fdDlawtake, gDlawtake⟩ := Hd.says_def c 22
  obtain ⟨fdDlawfrac, gDlawfrac⟩ := Hd.says_def c 23
  obtain ⟨fdDlawsum, gDlawsum⟩ := Hd.says_def c 24
  obtain ⟨fdDlawrest, gDlawrest⟩ := Hd.says_def c 25
  obtain ⟨fdDlawfraction, gDlawfraction⟩ := Hd.says_def c 26
  obtain ⟨fdDlawstep, gDlawstep⟩ := Hd.says_def c 27
  obtain ⟨fdDlawpoints, gDlawpoints⟩ := Hd.says_def c 28
  obtain ⟨fdDlawcaught, gDlawcaught⟩ := Hd.says_def c 29
  obtain ⟨fdDlawspoilt, gDlawspoilt⟩ := Hd.says_def c 30
  obtain ⟨fdDlaw, gDlaw⟩ := Hd.says_def c 31
  obtain ⟨fdxInvalidInteger, gxInvalidInteger⟩ := Hd.says_def c 32
  obtain ⟨fdxInvalidAmount, gxInvalidAmount⟩ := Hd.says_def c 33
  obtain ⟨fdxInvalidPart, gxInvalidPart⟩ := Hd.says_def c 34
  obtain ⟨fdxInvalidPoint, gxInvalidPoint⟩ := Hd.says_def c 35
  obtain ⟨fdxFalling, gxFalling⟩ := Hd.says_def c 36
  have Finit := ginit.funD
  have Feq := geq.funD
  have Fadd := gadd.funD
  have Fsub := gsub.funD
  have Fmul := gmul.funD
  have Fdvd := gdvd.funD
  have Fcmp := gcmp.funD
  have Ftmi := gtmi.funD
  have Fpts := gpts.funD
  have FDiswhole := gDiswhole.funD
  have FDislisting := gDislisting.funD
  have FDisamount := gDisamount.funD
  have FDasamount := gDasamount.funD
  have FDtoldpoints := gDtoldpoints.funD
  have FDrises := gDrises.funD
  have FDstandard := gDstandard.funD
  have FDpace := gDpace.funD
  have FDreached := gDreached.funD
  have FDtaken := gDtaken.funD
  have FDexchanged := gDexchanged.funD
  have FDlawcell := gDlawcell.funD
  have FDlawbag := gDlawbag.funD
  have FDlawtake := gDlawtake.funD
  have FDlawfrac := gDlawfrac.funD
  have FDlawsum := gDlawsum.funD
  have FDlawrest := gDlawrest.funD
  have FDlawfraction := gDlawfraction.funD
  have FDlawstep := gDlawstep.funD
  have FDlawpoints := gDlawpoints.funD
  have FDlawcaught := gDlawcaught.funD
  have FDlawspoilt := gDlawspoilt.funD
  have FDlaw := gDlaw.funD
  have bDiswhole : Binds K fdDiswhole ["value"] [] := FDiswhole.bindsN fun _ _ _ _ _ _ us hl => match us, hl with | [_], _ => rfl
  have bDislisting : Binds K fdDislisting ["value"] [] := FDislisting.bindsN fun _ _ _ _ _ _ us hl => match us, hl with | [_], _ => rfl
  have bDisamount : Binds K fdDisamount ["value"] [] := FDisamount.bindsN fun _ _ _ _ _ _ us hl => match us, hl with | [_], _ => rfl
  have bDasamount : Binds K fdDasamount ["value"] [] := FDasamount.bindsN fun _ _ _ _ _ _ us hl => match us, hl with | [_], _ => rfl
  have bDtoldpoints : Binds K fdDtoldpoints ["points"] [] := FDtoldpoints.bindsN fun _ _ _ _ _ _ us hl => match us, hl with | [_], _ => rfl
  have bDrises : Binds K fdDrises ["one", "other"] [] := FDrises.bindsN fun _ _ _ _ _ _ us hl => match us, hl with | [_, _], _ => rfl
  have bDstandard : Binds K fdDstandard ["points"] [] := FDstandard.bindsN fun _ _ _ _ _ _ us hl => match us, hl with | [_], _ => rfl
  have bDpace : Binds K fdDpace ["points", "index"] [] := FDpace.bindsN fun _ _ _ _ _ _ us hl => match us, hl with | [_, _], _ => rfl
  have bDreached : Binds K fdDreached ["points", "beat"] [] := FDreached.bindsN fun _ _ _ _ _ _ us hl => match us, hl with | [_, _], _ => rfl
  have bDtaken : Binds K fdDtaken ["points", "beat"] [] := FDtaken.bindsN fun _ _ _ _ _ _ us hl => match us, hl with | [_, _], _ => rfl
  have bDexchanged : Binds K fdDexchanged ["points"] [] := FDexchanged.bindsN fun _ _ _ _ _ _ us hl => match us, hl with | [_], _ => rfl
  have bDlawcell : Binds K fdDlawcell ["_law_script", "_law_index"] [] := FDlawcell.bindsN fun _ _ _ _ _ _ us hl => match us, hl with | [_, _], _ => rfl
  have bDlawbag : Binds K fdDlawbag ["_law_cell_here"] [] := FDlawbag.bindsN fun _ _ _ _ _ _ us hl => match us, hl with | [_], _ => rfl
  have bDlawtake : Binds K fdDlawtake ["_law_bag_here", "_law_many"] [] := FDlawtake.bindsN fun _ _ _ _ _ _ us hl => match us, hl with | [_, _], _ => rfl
  have bDlawfrac : Binds K fdDlawfrac ["_law_top", "_law_bottom"] [] := FDlawfrac.bindsN fun _ _ _ _ _ _ us hl => match us, hl with | [_, _], _ => rfl
  have bDlawsum : Binds K fdDlawsum ["_law_one", "_law_other"] [] := FDlawsum.bindsN fun _ _ _ _ _ _ us hl => match us, hl with | [_, _], _ => rfl
  have bDlawrest : Binds K fdDlawrest ["_law_one", "_law_other"] [] := FDlawrest.bindsN fun _ _ _ _ _ _ us hl => match us, hl with | [_, _], _ => rfl
  have bDlawfraction : Binds K fdDlawfraction ["_law_bag_here"] [] := FDlawfraction.bindsN fun _ _ _ _ _ _ us hl => match us, hl with | [_], _ => rfl
  have bDlawstep : Binds K fdDlawstep ["_law_bag_here"] [] := FDlawstep.bindsN fun _ _ _ _ _ _ us hl => match us, hl with | [_], _ => rfl
  have bDlawpoints : Binds K fdDlawpoints ["_law_bag_here", "_law_cap"] [] := FDlawpoints.bindsN fun _ _ _ _ _ _ us hl => match us, hl with | [_, _], _ => rfl
  have bDlawcaught : Binds K fdDlawcaught ["_law_points_here"] [] := FDlawcaught.bindsN fun _ _ _ _ _ _ us hl => match us, hl with | [_], _ => rfl
  have bDlawspoilt : Binds K fdDlawspoilt ["_law_bag_here", "_law_passed", "_law_at"] [] := FDlawspoilt.bindsN fun _ _ _ _ _ _ us hl => match us, hl with | [_, _, _], _ => rfl
  have beq : Binds K fdeq ["self", "other"] [] := Feq.bindsN fun _ _ _ _ _ _ us hl => match us, hl with | [_, _], _ => rfl
  have badd : Binds K fdadd ["self", "other"] [] := Fadd.bindsN fun _ _ _ _ _ _ us hl => match us, hl with | [_, _], _ => rfl
  have bsub : Binds K fdsub ["self", "other"] [] := Fsub.bindsN fun _ _ _ _ _ _ us hl => match us, hl with | [_, _], _ => rfl
  have bmul : Binds K fdmul ["self", "other"] [] := Fmul.bindsN fun _ _ _ _ _ _ us hl => match us, hl with | [_, _], _ => rfl
  have bdvd : Binds K fddvd ["self", "other"] [] := Fdvd.bindsN fun _ _ _ _ _ _ us hl => match us, hl with | [_, _], _ => rfl
  have bcmp : Binds K fdcmp ["self", "other"] [] := Fcmp.bindsN fun _ _ _ _ _ _ us hl => match us, hl with | [_, _], _ => rfl
  have bpts : Binds K fdpts ["self"] [] := Fpts.bindsN fun _ _ _ _ _ _ us hl => match us, hl with | [_], _ => rfl
  have sub : ∀ T ∈ tys, PySem.W.subIn K (.type T) (.ref (CA K)) = some false := fun T hT => of_decide_eq_true (List.all_eq_true.mp (Hd.allB_at cc 19) T hT)
  have sf : PySem.W.selfFirst K (CA K) = true := Hd.allB_at cc 20
  have A : AF K mg :=
    { cl := ⟨Hd.allB_at cc 0, Hd.allB_at cc 1, Hd.allB_at cc 2, He.eqO_ok (Hd.allB_at cc 3)⟩
      noT := He.eqO_ok (Hd.allB_at cc 4)
      noB := He.eqO_ok (Hd.allB_at cc 5)
      mkA := ⟨Hd.allB_at cc 6, He.eqO_ok (Hd.allB_at cc 7), Hd.allB_at cc 8, Hd.allB_at cc 9⟩
      g := G_Amount
      isi := R_isinstance
      int := R_int
      bool := R_bool
      gcd := PySem.W.mg_of X G (He.eqO_ok (Hd.allB_at cc 10))
      gI := G_InvalidInteger
      gV := G_InvalidAmount
      kI := of_decide_eq_true (Hd.allB_at cc 11)
      kB := of_decide_eq_true (Hd.allB_at cc 12)
      kS := of_decide_eq_true (Hd.allB_at cc 13)
      kT := fun T hT => of_decide_eq_true (List.all_eq_true.mp (Hd.allB_at cc 14) T hT)
      ca := He.eqO_ok (Hd.allB_at cc 15)
      cn := He.eqO_ok (Hd.allB_at cc 16)
      ct := of_decide_eq_true (Hd.allB_at cc 17)
      cm := of_decide_eq_true (Hd.allB_at cc 18) }
  have M : MF K mg := ⟨⟨Hd.allB_at cm 0, Hd.allB_at cm 1, Hd.allB_at cm 2, He.eqO_ok (Hd.allB_at cm 3)⟩, He.eqO_ok (Hd.allB_at cm 4), He.eqO_ok (Hd.allB_at cm 5), ⟨Hd.allB_at cm 6, He.eqO_ok (Hd.allB_at cm 7), Hd.allB_at cm 8, Hd.allB_at cm 9⟩, G_TempoMap⟩
  have mE := meB_of (Hd.allB_at ck 4)
  have neE := He.eqO_ok (Hd.allB_at ck 5)
  have obE := of_decide_eq_true (Hd.allB_at ck 6)
  have oA := opF_of (Hd.allB_at ck 7) sf sub
  have oS := opF_of (Hd.allB_at ck 8) sf sub
  have oM := opF_of (Hd.allB_at ck 9) sf sub
  have mD := meB_of (Hd.allB_at ck 10)
  have mC := meB_of (Hd.allB_at ck 11)
  have mP := mmB_of (Hd.allB_at ck 12)
  have kAm := of_decide_eq_true (Hd.allB_at ck 13)
  have hQP := of_decide_eq_true (Hd.allB_at ck 14)
  have hFP := of_decide_eq_true (Hd.allB_at ck 15)
  have hFQ := of_decide_eq_true (Hd.allB_at ck 16)
  have kP := of_decide_eq_true (Hd.allB_at ck 17)
  have kQ := of_decide_eq_true (Hd.allB_at ck 18)
  have kF := of_decide_eq_true (Hd.allB_at ck 19)
  have EP := exB_of (Hd.allB_at ck 20)
  have EQ := exB_of (Hd.allB_at ck 21)
  have EF := exB_of (Hd.allB_at ck 22)
  have xInvalidInteger := Hd.exc_txt Xb.nm_value gxInvalidInteger (Hd.allB_at ck 23) ⟨_, _, _, _, _, _, _, _, _, _, _, _, _, rfl, rfl, rfl, rfl⟩
  have xInvalidAmount := Hd.exc_txt Xb.nm_value gxInvalidAmount (Hd.allB_at ck 24) ⟨_, _, _, _, _, _, _, _, _, _, _, _, _, rfl, rfl, rfl, rfl⟩
  have xInvalidPart := Hd.exc_txt Xb.nm_value gxInvalidPart (Hd.allB_at ck 25) ⟨_, _, _, _, _, _, _, _, _, _, _, _, _, rfl, rfl, rfl, rfl⟩
  have xInvalidPoint := Hd.exc_txt Xb.nm_value gxInvalidPoint (Hd.allB_at ck 26) ⟨_, _, _, _, _, _, _, _, _, _, _, _, _, rfl, rfl, rfl, rfl⟩
  have xFalling := Hd.exc_txt nm_index gxFalling (Hd.allB_at ck 27) ⟨_, _, _, _, _, _, _, _, _, _, _, _, _, rfl, rfl, rfl, rfl⟩
  have hlaw := glo "law" (by simp [glos, glos1, glos2])
  cases hfa.symm.trans hlaw
  have htop : (PP.main.scope.names.lookup ("super" : Str)).isSome = false := by decide +kernel
  have blaw := FDlaw.bindsA (ps := ["_law_script"]) fun _ _ _ _ _ _ us hl => match us, hl with | [_], _ => rfl
  refine ⟨fdDlaw, fun s v => blaw s [v] rfl, fun base _ _ => Fg.FnG.of ?_⟩
  obtain ⟨dv, hds, bI⟩ := Finit.binds1 (ps := ["self", "top", "bottom"]) 2 0 (by simp [dM]) rfl (fun _ _ _ _ _ _ _ us its hu hi => match us, its, hu, hi with | [_, _], [_], _, _ => ⟨_, rfl, rfl⟩)
  obtain ⟨ds2', hds2, bI2⟩ := Finit.binds1 (ps := ["self", "top", "bottom"]) 3 1 (by simp [dM]) rfl (fun _ _ _ _ _ _ _ us its hu hi => match us, its, hu, hi with | [_, _, _], [_], _, _ => ⟨_, rfl, rfl⟩)
  cases hds2
  obtain ⟨ds3', hds3, bT⟩ := Ftmi.binds1 (ps := ["self", "points"]) 2 1 (by simp [dT]) rfl (fun _ _ _ _ _ _ _ us its hu hi => match us, its, hu, hi with | [_, _], [_], _, _ => ⟨_, rfl, rfl⟩)
  cases hds3
  have OI : FnOk PP w K mg base (L2.CX PP w) 4 (aI K) fdinit ["self", "top", "bottom"] (spInit K) := ok_init Finit A FDiswhole G_is_whole xInvalidInteger htop
  have OS : FnOk PP w K mg base (L2.CX PP w) 6 _ fdDasamount ["value"] (spAs K) := ok_as FDasamount A FDiswhole G_is_whole FDisamount G_is_amount Finit xInvalidInteger xInvalidAmount htop
  have kS := FDasamount.kp
  have Oadd : OpK PP w K mg base "add" 7 (spAdd K) _ fdadd := ⟨oA, ok_add Fadd A OS G_as_amount kS bDasamount OI bI2, badd⟩
  have Osub : OpK PP w K mg base "sub" 7 (spSub K) _ fdsub := ⟨oS, ok_sub Fsub A OS G_as_amount kS bDasamount OI bI2, bsub⟩
  have Omul : OpK PP w K mg base "mul" 7 (spMul K) _ fdmul := ⟨oM, ok_mul Fmul A OS G_as_amount kS bDasamount OI bI2, bmul⟩
  have Mdiv : MeK PP w K mg base "divided" 7 (spDiv K) _ fddvd := ⟨mD, ok_div Fdvd A OS G_as_amount kS bDasamount OI bI2 xInvalidAmount htop, bdvd⟩
  have Mcmp : MeK PP w K mg base "compare" 7 (spCmp K) _ fdcmp := ⟨mC, ok_cmp Fcmp A OS G_as_amount kS bDasamount, bcmp⟩
  have Eq : EqK PP w K mg base _ fdeq := ⟨mE.at_, mE.fn, ok_eq Feq A, beq, neE, obE⟩
  have IsAm : Fn PP w K mg base "is_amount" 2 ["value"] (spIsA K) _ fdDisamount := ⟨ok_isA FDisamount A FDiswhole G_is_whole, G_is_amount, FDisamount.kp, bDisamount⟩
  have AsAm : Fn PP w K mg base "as_amount" 6 ["value"] (spAs K) _ fdDasamount := ⟨OS, G_as_amount, FDasamount.kp, bDasamount⟩
  have Ls : Fn PP w K mg base "is_listing" 1 ["value"] (spLs K) _ fdDislisting := ⟨ok_ls FDislisting A R_list R_tuple, G_is_listing, FDislisting.kp, bDislisting⟩
  have Rs : Fn PP w K mg base "_rises" 8 ["one", "other"] (spRise K) _ fdDrises := ⟨ok_rise FDrises A Mcmp, G__rises, FDrises.kp, bDrises⟩
  have Pc : Fn PP w K mg base "_pace" 8 ["points", "index"] (spPace K) _ fdDpace := ⟨ok_pace FDpace A R_len Osub Mdiv OI hds bI, G__pace, FDpace.kp, bDpace⟩
  have Rc : Fn PP w K mg base "_reached" 8 ["points", "beat"] (spRch K) _ fdDreached := ⟨ok_rch FDreached A R_len Mcmp, G__reached, FDreached.kp, bDreached⟩
  have Tk_ : Fn PP w K mg base "_taken" 9 ["points", "beat"] (spTak K) _ fdDtaken := ⟨ok_tak FDtaken A R_max Oadd Osub Omul Rc Pc, G__taken, FDtaken.kp, bDtaken⟩
  have Ex : Fn PP w K mg base "_exchanged" 1 ["points"] spExc _ fdDexchanged := ⟨ok_exc FDexchanged, G__exchanged, FDexchanged.kp, bDexchanged⟩
  have St : Fn PP w K mg base "_standard" 10 ["points"] (spStd K) _ fdDstandard := ⟨ok_std FDstandard A R_len R_range Eq Pc Tk_ OI hds bI, G__standard, FDstandard.kp, bDstandard⟩
  have Tp : Fn PP w K mg base "_told_points" 9 ["points"] (spTP K) _ fdDtoldpoints := ⟨ok_tp FDtoldpoints A R_len R_enumerate Ls IsAm AsAm Rs G_InvalidPart G_InvalidPoint G_Falling xInvalidPart xInvalidPoint xFalling htop, G__told_points, FDtoldpoints.kp, bDtoldpoints⟩
  have TM := ok_tmi (P := PP) (w := w) (base := base) Ftmi M St Ex Tp
  have PT := ok_pts (P := PP) (w := w) (base := base) Fpts M R_list
  have Cau : Fn PP w K mg base "_law_caught" 13 ["_law_points_here"] (spCau K) _ fdDlawcaught := ⟨ok_cau FDlawcaught A M G_InvalidPart G_InvalidPoint G_Falling G_CueError xInvalidPart xInvalidPoint xFalling hQP hFP hFQ EP EQ EF kP kQ kF TM bT mP PT bpts, G__law_caught, FDlawcaught.kp, bDlawcaught⟩
  have Cel : Fn0 PP w K mg base "_law_cell" 1 ["_law_script", "_law_index"] (spCel K) _ fdDlawcell := ⟨ok_cell FDlawcell R_len, G__law_cell, FDlawcell.kp, bDlawcell⟩
  have Bx : Fn0 PP w K mg base "_law_bag" 1 ["_law_cell_here"] spBox _ fdDlawbag := ⟨ok_box FDlawbag R_max, G__law_bag, FDlawbag.kp, bDlawbag⟩
  have Tk : Fn0 PP w K mg base "_law_take" 1 ["_law_bag_here", "_law_many"] spTake _ fdDlawtake := ⟨ok_take FDlawtake, G__law_take, FDlawtake.kp, bDlawtake⟩
  have Fr_ : Fn PP w K mg base "_law_frac" 1 ["_law_top", "_law_bottom"] spFrac _ fdDlawfrac := ⟨ok_frac FDlawfrac R_abs, G__law_frac, FDlawfrac.kp, bDlawfrac⟩
  have Su : Fn PP w K mg base "_law_sum" 2 ["_law_one", "_law_other"] spSum _ fdDlawsum := ⟨ok_sum FDlawsum Fr_, G__law_sum, FDlawsum.kp, bDlawsum⟩
  have Re : Fn PP w K mg base "_law_rest" 2 ["_law_one", "_law_other"] spRest _ fdDlawrest := ⟨ok_rest FDlawrest Fr_, G__law_rest, FDlawrest.kp, bDlawrest⟩
  have Fn_ : Fn PP w K mg base "_law_fraction" 2 ["_law_bag_here"] spFn _ fdDlawfraction := ⟨ok_fn FDlawfraction Tk Fr_, G__law_fraction, FDlawfraction.kp, bDlawfraction⟩
  have Sp_ : Fn PP w K mg base "_law_step" 3 ["_law_bag_here"] spSp _ fdDlawstep := ⟨ok_sp FDlawstep Fn_ Fr_, G__law_step, FDlawstep.kp, bDlawstep⟩
  have Poi : Fn PP w K mg base "_law_points" 4 ["_law_bag_here", "_law_cap"] spPoi _ fdDlawpoints := ⟨ok_poi FDlawpoints R_range Tk Fn_ Sp_ Su Re, G__law_points, FDlawpoints.kp, bDlawpoints⟩
  have Spt : Fn PP w K mg base "_law_spoilt" 8 ["_law_bag_here", "_law_passed", "_law_at"] (spSpt K) _ fdDlawspoilt := ⟨ok_spt FDlawspoilt A Tk Osub OI hds bI bI2, G__law_spoilt, FDlawspoilt.kp, bDlawspoilt⟩
  exact ok_law FDlaw A R_len R_range R_max R_min R_list R_tuple kAm Cel Bx Tk Poi Spt Cau Eq OI hds bI bI2
end K11
set_option Elab.async false
set_option linter.all false
set_option maxRecDepth 100000
set_option maxHeartbeats 0
namespace K11
open PySem PySem.Spec PyProof.Rows L2
def nm0 : List PySem.Str := ["_wall", "CueError", "InvalidInteger", "InvalidAmount", "InvalidPart", "InvalidPoint", "Falling", "is_whole", "is_listing", "Amount", "is_amount", "as_amount", "TempoMap", "_told_points", "_rises", "_standard", "_pace", "_reached", "_taken", "_exchanged", "_law_cell", "_law_bag", "_law_take", "_law_frac", "_law_sum", "_law_less", "_law_rest", "_law_product", "_law_quotient", "_law_fraction"]
def nm1 : List PySem.Str := ["_law_step", "_law_given", "_law_points", "_law_led", "_law_paces", "_law_bends", "_law_pair", "_law_pairs", "_law_caught", "_law_spoilt"]
def nms : List PySem.Str := nm0 ++ nm1
abbrev lawAt : Nat := 46
abbrev RR : PySem.W.OpenRow := PySem.W.OpenLaw.row PySem.Challenge.rw_anytempo_k11_maps_refused
abbrev hk : PySem.W.Hook := Hd.hookS 5 ds chk
theorem run (w : World) : HandSHeadRun.RunEqI RR (PySem.W.view RR.prog [0, lawAt]) hk (Hd.obS 5 ds chk) 20000 nms w := by
  unfold HandSHeadRun.RunEqI
  kernel_rfl
theorem noX (P : Program) (w : World) (H : Hp) (s : Shared) (e : Value) (s' : Shared) : L2.CX P w [] H s (fun _ _ _ => False) e s' → False := fun ⟨_, _, _, _, _, _, _, _, _, _, _, _, z⟩ => z
end K11
open PySem PySem.W PySem.Calls PyProof.Rows
theorem PySem.Challenge.cw_anytempo_k11_maps_refused_holds : PySem.Challenge.rw_anytempo_k11_maps_refused.Holds := by
  w_on; o_law
  refine HandSHeadRun.head_imp (r := OpenLaw.row PySem.Challenge.rw_anytempo_k11_maps_refused) (q := view (OpenLaw.row PySem.Challenge.rw_anytempo_k11_maps_refused).prog [0, 46]) (H := K11.hk) (ob := Hd.obS 5 K11.ds K11.chk) (M := 20000) (loose := K11.nms) (d := HandSHeadRun.topDef (OpenLaw.row PySem.Challenge.rw_anytempo_k11_maps_refused).prog 46) (kwd := [])
    (Hd.obS_eq 5 K11.ds K11.chk) K11.run (by kernel_rfl) (by kernel_rfl) (by kernel_rfl) (by rfl) (by first | assumption | decide +kernel) (by decide +kernel) ⟨rfl, rfl, rfl, rfl, rfl, by decide +kernel⟩ ?hw ?hc
  case hw => w_witness2
  case hc =>
    refine Fg.walk_ofG (l := PySem.Challenge.rw_anytempo_k11_maps_refused) (n := 63) (k := 14) (x := "_law_script") (CX := fun w => L2.CX K11.PP w) rfl (by decide) (by kernel_rfl) ⟨rfl, by decide, by decide⟩ ?F (fun w => K11.noX K11.PP w)
    intro w mg fa h Y G hmg0
    obtain ⟨K, KX, c⟩ := Y
    have hmg : mg ("law" : PySem.Str) = some (.ref fa) := by
      have e : (HandSHeadRun.topDef (OpenLaw.row PySem.Challenge.rw_anytempo_k11_maps_refused).prog 46).name = ("law" : PySem.Str) := by kernel_rfl
      rw [← e]
      exact hmg0
    obtain ⟨fd, hb, hF⟩ := K11.facts (w := w) KX G hmg c
    exact ⟨K, fd, K11.spLaw K, KX, hb, fun H a ns hl _ hS => ⟨a, ns, rfl, hS, hl, fun _ => rfl⟩, hF⟩

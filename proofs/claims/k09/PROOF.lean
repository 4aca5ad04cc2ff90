import PyProof.Rows.All
import Wide.All
import OpenK.AllK
import Wide.FinOn
import KE.KExcSuper
import HandS.Base
import HandS.Call
import HandS.List
import HandS.Exc
import HandS.ExcOwn
import HandS.TryOnly
import HandS.WordsExc
import HandS.ForMost
import HandS.Wide
import HandS.IsInst
import HandS.Gcd
import HandS.Property
import HandS.Defaults
import HandS.Star
import KE.KOpsOwn
import HandS.CallSlots
import HandS.SlotsOwn
import KE.KStateDown
import HandS.Ends
import HandS.Head0
import HandS.Head1
import HandS.Head2
import HandS.Head3
import HandS.HeadEnd
import HandS.HeadHook1
import HandS.HeadHook2
import HandS.RaiseMore
import HandS.Dict
import PyProof.ReprRoads
import HandS.Text
import HandS.MapJoin
import HandS.Rev
import HandS.RevTup
import PyProof.NeKinds
import PyProof.EqKinds
import PyProof.FactsAll.dict
import HandS.OwnEq
import HandS.Iter
import KE.GoesMore
import HandS.Walk
import HandS.ExcIs
import HandS.Style
import HandS.Zip
import HandS.TryMany
import PyProof.Rows.RegFStrParts
import PySem.Challenge.RW_anytempo_k09_maps_there_and_back
set_option Elab.async false
set_option linter.all false
set_option maxRecDepth 100000
set_option maxHeartbeats 4000000
/-! Exception classes whose __init__ says super().__init__(a text) and stores its one argument. -/
namespace Xb
open PySem PySem.W PySem.Calls PyProof.Rows
abbrev arg2 (F : Str) (p1 p2 : Pos) : Arguments :=
  { posonlyargs := [], args := [{ arg := "self", annotation := none, pos := p1 }, { arg := F, annotation := none, pos := p2 }],
    vararg := none, kwonlyargs := [], kw_defaults := [], kwarg := none, defaults := [] }
abbrev bod2 (F txt : Str) (k : Nat) (q1 q2 q3 q4 q5 q6 q7 q8 q9 q10 : Pos) : List Stmt :=
  [.Expr (.Call (.Attribute (.Call (.Name "super" q1) [] [] q2) "__init__" q3) [.Constant (.str txt) k q4] [] q5) q6,
   .Assign [.Attribute (.Name "self" q7) F q8] (.Name F q9) q10]
abbrev sco2 (F : Str) : Scope :=
  { kind := .function, names := [(PySem.Str.ofString "self", .local), (F, .local), (PySem.Str.ofString "__class__", .free), (PySem.Str.ofString "super", .globalImplicit)],
    isGenerator := false, isCoroutine := false, more := [] }
/-- the names of the one field are no other names -/
structure Nm (F : Str) : Prop where
  s : (sco2 F).names.lookup ("super" : Str) = some .globalImplicit
  c : (sco2 F).names.lookup ("__class__" : Str) = some .free
  f : (sco2 F).names.lookup F = some .local
  l : (sco2 F).names.lookup ("self" : Str) = some .local
  ne : (F == ("self" : Str)) = false
  en : (("self" : Str) == F) = false
  db : (F == ("__debug__" : Str)) = false
  b : ∀ (q : Str) (bd : List Stmt) (kV doc pm : Value) (an : Option Addr) (cd ct : Value) (cc : Addr) (p1 p2 : Pos) (u v : Value),
    bindArgs (ksFn "__init__" q (arg2 F p1 p2) bd (sco2 F) .none kV doc pm an cd ct cc) ⟨[u, v], []⟩ = pure [(("self" : Str), u), (F, v)]
theorem mcall1 {o : Expr} {name : Str} {apos pos p4 : Pos} {txt : Str} {kk : Nat} {env : Env} (h : (apos.endLine == pos.line) = true) :
    eval (.Call (.Attribute o name apos) [.Constant (.str txt) kk p4] [] pos) env = (do
      let ov ← attributeBase o name env (eval o env)
      standAt apos.atName
      let (f, first) ← holding [ov] (getMethod ov name (do return (← importBound o env).getD true))
      callWith pos f first (backTo pos (starEach [.Constant (.str txt) kk p4] env)) []) := by
  have e : ∀ ov, methodCall o name apos pos env ov 1 (backTo pos (starEach [.Constant (.str txt) kk p4] env)) [] = (do
      let (f, first) ← holding [ov] (getMethod ov name (do return (← importBound o env).getD true))
      callWith pos f first (backTo pos (starEach [.Constant (.str txt) kk p4] env)) []) := fun ov => by
    have hf : methodCallForm 1 (backTo pos (starEach [.Constant (.str txt) kk p4] env)) [] = true := rfl
    unfold methodCall methodCallPos calleeOf
    simp only [hf, h, Bool.not_true, Bool.false_or, if_true, pure_bind]
  show (do
      let ov ← attributeBase o name env (eval o env)
      standAt apos.atName
      methodCall o name apos pos env ov 1 (backTo pos (starEach [.Constant (.str txt) kk p4] env)) []) = _
  simp only [e]
theorem nm_value : Nm "value" := ⟨rfl, rfl, rfl, rfl, by decide, by decide, by decide, fun _ _ _ _ _ _ _ _ _ _ _ _ _ => rfl⟩
/-- what the written part says of the class at C and of its __init__ at fI -/
structure Txt (file : Str) (K : Frag) (q F txt : Str) (C fI : Addr) : Prop where
  nm : Nm F
  cls : ∃ nm q' N bs bm sn sub ab col dd k0 k1 k2 k3 k5, K.lookup C = some (excClassObj nm q' C N bs bm true sn sub ab col dd k0 k1 k2 k3 k5 "ValueError.__new__") ∧ HandSPX.refsVE bm = true
  sa : findIn K (.ref C) "__setattr__" = some (some (.builtin "object.__setattr__"))
  ga : findIn K (.ref C) "__getattribute__" = some (some (.builtin "BaseException.__getattribute__"))
  gg : findIn K (.ref C) "__getattr__" = some none
  noF : findIn K (.ref C) F = some none
  iC : findIn K (.ref C) "__init__" = some (some (.ref fI))
  tC : typeIn K (.ref fI) = some (.type "function")
  kC : keepIn K (.ref C) = true
  exC : subIn K (.ref C) (.type "BaseException") = some true
  veC : subIn K (.ref C) (.type "ValueError") = some true
  tyC : typeIn K (.ref C) = some (.type "type")
  hdC : hasDictIn K C = true
  te : exmOne K (.ref C) (.ref C) = some true
  sup : ks_superIn K C C "__init__" = some (some (.builtin "ValueError.__init__"))
  slf : mroIn K C (.ref C) = some true
  gs : nsIn K mainGlobals "super" = some none
  tp : nsIn K cStatics "thirdparty.any" = some none
  fn : ∃ (oc : Value) (od : Option Addr) (kV doc pm : Value) (an : Option Addr) (cda : Addr) (ct : Value) (osl : Array (Option Value)) (cc : Addr) (p1 p2 : Pos) (kk : Nat) (q1 q2 q3 q4 q5 q6 q7 q8 q9 q10 : Pos),
    K.lookup fI = some ⟨oc, od, .func (ksFn "__init__" q (arg2 F p1 p2) (bod2 F txt kk q1 q2 q3 q4 q5 q6 q7 q8 q9 q10) (sco2 F) .none kV doc pm an (.ref cda) ct cc), osl⟩ ∧ codeIn K (.ref cda) q = true ∧ (q3.endLine == q5.line) = true ∧
    (∃ ccl cdd vs ccs tf, K.lookup cda = some ⟨ccl, cdd, .fields vs, ccs⟩ ∧ vs[2]? = some (.str file tf)) ∧ (∃ cl cld csl, K.lookup cc = some ⟨cl, cld, .cell (some (.ref C)), csl⟩)
/-- behind __init__ -/
structure Done (h h' : Heap) (x C dx t1 : Addr) (F : Str) (v : Value) : Prop where
  keep : ∀ b o, b ≠ x → h.get? b = some o → h'.get? b = some o
  obj : h'.get? x = some { cls := .ref C, dict := some dx, data := .fields #[.ref t1, .none, .none, .none, .bool false, .none] }
  dbig : h.objs.size ≤ dx
  dne : dx ≠ x
  ns : h'.Ns1 dx (fun y => if y = F then some v else none)
section
variable {prog : Program} {w : World} {A : Around} {E : Value → Shared → Prop} {h : Heap} {g : Array GenState} {d : Drawn} {t : Nat} {os : OsState}
variable {nm q : Str} {C N : Addr} {bs bm : List Value} {hdct : Bool} {sn : List Str} {sub : List Value} {ab : Bool} {col : Option Bool} {dd : Option Addr} {k0 k1 k2 k3 k5 : Option Value}
/-- the bound built-in __init__ is called -/
theorem mw_call {u e t0 : Addr} {rest : List Value} {Q : Value → Shared → Prop}
    (hC : h.get? C = some (excClassObj nm q C N bs bm hdct sn sub ab col dd k0 k1 k2 k3 k5 "ValueError.__new__")) (he : h.get? e = some (HandSPX.excO C t0))
    (hu : h.get? u = some (kxs_mw "ValueError.__init__" e)) (hz : rest.length ≤ sizeLine)
    (hq : ∀ h' t1, (∀ b o, b ≠ e → h.get? b = some o → h'.get? b = some o) → h'.get? e = some (HandSPX.excO C t1) → Q .none ⟨h', g, d, t, os⟩) :
    wpAny (model prog w) A (call (.ref u) rest) Q E ⟨h, g, d, t, os⟩ := by
  have FB := F.excBase_ValueError
  have c1 : (Value.type "method-wrapper" == Value.type "method" || Value.type "method-wrapper" == Value.type "builtin_function_or_method" || Value.type "method-wrapper" == Value.type "method-wrapper") = true := by decide
  refine wpAny_call (codeAny_of_tree ?_)
  show wpAny _ A.in1 (callAny (.ref u) ⟨rest, []⟩) _ _ _
  simp only [callAny]
  refine wpAny_bind (wpAny_load hu ?_)
  simp only [kxs_mw, c1, if_true]
  refine KFB.if_so (by decide) ?_
  refine wpAny_bind (check_bound_init (initId := "ValueError.__init__") FB.toExcCallFacts hC he rfl ?_)
  refine wpAny_bind (wpAny_pure (wpAny_pure ?_))
  refine ⟨plainId_quiet FB.init.plain _, codeAny_builtin FB.initEntry ?_⟩
  refine exc_init_tree (cls := .ref C) (t0 := t0) (dv := none) (c2 := .none) (c3 := .none) (b4 := .bool false) he hz fun h' k e' _ => ?_
  exact hq h' _ k e'
end
section
variable {prog : Program} {w : World} {A : Around} {E : Value → Shared → Prop} {R : Result → Shared → Prop} {s : Shared} {K : Frag} {q F txt : Str} {C fI : Addr} {mg mb : Str → Option Value}
theorem initX (T : Txt prog.main.file K q F txt C fI) {x t0 : Addr} {v : Value} (X : K.In s.heap) (hlim : s.heap.NoLimit) (hg : s.heap.Ns mainGlobals mg) (hb : s.heap.Ns builtinsNs mb) (hbs : mb "super" = some (.type "super"))
    (htop : (prog.main.scope.names.lookup ("super" : Str)).isSome = false) (hx : s.heap.get? x = some (HandSPX.excO C t0)) (hnx : K.lookup x = none) (hroom : A.depth < recursionLimit)
    (hq : ∀ h' tk dx t1, Done s.heap h' x C dx t1 F v → R (.ok (.ret .none)) { s with heap := h', toks := tk }) :
    codeAny (model prog w) A (.call (.ref fI) ⟨[.ref x, v], []⟩) R s := by
  obtain ⟨oc, od, kV, doc, pm, an, cda, ct, osl, cc, p1, p2, kk, q1, q2, q3, q4, q5, q6, q7, q8, q9, q10, ho, hcd, hpl, ⟨ccl, cdd, vs, ccs, tf, hcode, hvs⟩, cl, cld, csl, hcell⟩ := T.fn
  obtain ⟨nm, q', N, bs, bm, sn, sub, ab, col, dd, k0, k1, k2, k3, k5, hC, hbm⟩ := T.cls
  have hcl : clsIn K C = some { name := nm, bases := bs, mro := .ref C :: bm, ns := N, qualname := q', hasDict := true, slotNames := sn, subclasses := sub, abstract := ab, collection := col, hasDel := false } := by unfold clsIn; rw [hC] <;> rfl
  refine ks_codeAny_call_defAt (fd := ksFn "__init__" q (arg2 F p1 p2) (bod2 F txt kk q1 q2 q3 q4 q5 q6 q7 q8 q9 q10) (sco2 F) .none kV doc pm an (.ref cda) ct cc) (binds := [("self", .ref x), (F, v)]) hroom (X _ _ ho) rfl hlim (codeRec_of X hcd) rfl
    (BindsTo.of_eq (T.nm.b _ _ _ _ _ _ _ _ _ _ _ _ _)) (fun y hy => ?_) (fun y hy => ?_) (fun h₁ hns hk => ?_)
  · simp only [List.mem_cons, List.not_mem_nil, or_false] at hy
    rcases hy with rfl | rfl | rfl | rfl <;> (intro z; cases z)
  · simp only [List.mem_cons, List.not_mem_nil, or_false] at hy
    rcases hy with rfl | rfl
    · exact T.nm.l
    · exact T.nm.f
  have X1 : K.In h₁ := X.keeps hk
  have g1 : h₁.Ns mainGlobals mg := hg.keeps hk
  have b1 : h₁.Ns builtinsNs mb := hb.keeps hk
  have x1 := hk _ _ hx
  have vS : ([(PySem.Str.ofString "self", Value.ref x), (F, v)] : List (Str × Value)).reverse.lookup ("self" : Str) = some (.ref x) := by
    show List.lookup ("self" : Str) [(F, v), (("self" : Str), Value.ref x)] = _
    simp [List.lookup, T.nm.en]
  have vF : ([(PySem.Str.ofString "self", Value.ref x), (F, v)] : List (Str × Value)).reverse.lookup F = some v := by
    show List.lookup F [(F, v), (("self" : Str), Value.ref x)] = _
    simp [List.lookup]
  show _root_.PySem.wpAt _ _ _ (execs (_ :: _) _) _ _ _
  refine ks_wpAt_execs_cons (ks_wpAt_Expr_any (ks_wpAt_MethodCall ?_ (mcall1 hpl)))
  obtain ⟨oD, hD1, hD2⟩ : ∃ oD, h₁.get? C = some oD ∧ oD.data = .cls { name := nm, bases := bs, mro := .ref C :: bm, ns := N, qualname := q', hasDict := true, slotNames := sn, subclasses := sub, abstract := ab, collection := col, hasDel := false } := ⟨_, X1 _ _ hC, rfl⟩
  have I1 : InstAt h₁ x (HandSPX.excO C t0) C none := ⟨x1, rfl, rfl, trivial⟩
  refine ks_wpAt_super_base T.nm.s T.nm.c (by decide) rfl (X1 _ _ ho) rfl rfl rfl (X1 _ _ hcode) rfl hvs (beq_self_eq_true _) htop ?_
  refine ks_loadName_global rfl T.nm.s (loadGlobal_builtin g1 (mg_none_of X1 g1 T.gs) b1 hbs ⟨rfl, ?_⟩)
  refine wpAny_loadName_free rfl T.nm.c (by rfl) ⟨_, X1 _ _ hcell, rfl⟩ ?_
  refine wpAny_loadName_local rfl T.nm.l hns vS ?_
  refine ks_wpAny_isType_cls hD1 hD2 ⟨rfl, ?_⟩
  refine ks_wpAny_call_super hD1 hD2 x1 rfl (fun c e => by cases e) (looks_mroIn X1 T.slf) (fun h₂ e2 k2' => ?_)
  have X2 : K.In h₂ := X1.keeps k2'
  have x2 := k2' _ _ x1
  have n2 : h₂.Ns s.heap.objs.size (fun y => ([(PySem.Str.ofString "self", Value.ref x), (F, v)] : List (Str × Value)).reverse.lookup y) := hns.keeps k2'
  have I2 : InstAt h₂ x (HandSPX.excO C t0) C none := ⟨x2, rfl, rfl, trivial⟩
  have hxC : x ≠ C := ks_ne X2 I2 hcl
  have hsup := T.sup
  unfold ks_superIn at hsup
  rw [hcl] at hsup
  have hI : Looks (model prog w) h₂ (isInstance (.ref x) (.type "ValueError")) true := I2.type.andThen (looks_subIn X2 T.veC)
  show wpAny _ _ (getMethod (.ref h₁.objs.size) "__init__" _) _ _ _
  refine kxs_getMethod kxs_ValueError e2 (looks_opaque X2 T.tp) (l₀ := .ref C :: bm) (fun A Q E s k z => wpAny_bind ((looks_clsIn X2 hcl) A _ E s k (wpAny_pure z))) rfl X2 hsup hI hxC (by decide) ?_
  have k3' : ∀ b o, h₂.get? b = some o → (h₂.push (kxs_mw "ValueError.__init__" x)).get? b = some o := fun b o e => Heap.get?_push_of_some _ e
  have u3 : (h₂.push (kxs_mw "ValueError.__init__" x)).get? h₂.objs.size = some (kxs_mw "ValueError.__init__" x) := Heap.get?_push_size _ rfl
  refine kxs_callWith (i := "ValueError.__init__") (x := x) rfl (evalArgs_plain (spliced_cons (Constant_str (k := kk) (pos := q4) (spliced_nil ⟨u3, ?_⟩))))
  refine mw_call (k3' _ _ (X2 _ _ hC)) (k3' _ _ x2) u3 (by show 1 ≤ sizeLine; rw [sizeLine_eq]; omega) fun h₄ t1 k4 x4 => ?_
  have X4 : K.In h₄ := fun a o e => k4 a o (fun z => by rw [z, hnx] at e; cases e) (k3' _ _ (X2 _ _ e))
  have hxL : s.heap.objs.size ≠ x := Nat.ne_of_gt (Heap.lt_size hx)
  have n4 : h₄.Ns s.heap.objs.size (fun y => ([(PySem.Str.ofString "self", Value.ref x), (F, v)] : List (Str × Value)).reverse.lookup y) := by
    obtain ⟨o, es, ep, e, r⟩ := n2
    exact ⟨o, es, ep, k4 _ _ hxL (k3' _ _ e), r⟩
  show _root_.PySem.wpAt _ _ _ (execs (_ :: _) _) _ _ _
  refine wpAt_of_wpAny (wpAny_execs_cons (plainObj_wpAny_Assign_Attribute ?_))
  refine wpAny_Name (wpAny_loadName_local rfl T.nm.f n4 vF ?_) T.nm.db
  refine wpAny_Name (wpAny_loadName_local rfl T.nm.l n4 vS ?_) (by decide)
  refine set_plain X4 (ox := HandSPX.excO C t1) (od := none) ⟨x4, rfl, rfl, trivial⟩ T.sa ?_
  refine HandSPX.exc_osa X4 x4 hcl (show HandSPX.refsVE (.ref C :: bm) = true from hbm) rfl T.noF (fun h₅ tk₅ dx k₅ dn dne hx₅ hn₅ => ?_)
  show wpAny _ _ (execs _ _) _ _ _
  have z4 : ∀ b o, b ≠ x → s.heap.get? b = some o → h₄.get? b = some o := fun b o hb e => k4 b o hb (k3' _ _ (k2' _ _ (hk _ _ e)))
  refine wpAny_execs_nil (hq h₅ tk₅ dx t1 ⟨fun b o hb e => k₅ b o hb (z4 b o hb e), hx₅, ?_, dne, hn₅⟩)
  obtain ⟨o4, es4, ep4, e4, _⟩ := n4
  exact Nat.le_of_lt (Nat.lt_of_lt_of_le (Heap.lt_size e4) dn)

/-- a made one -/
structure Made (h h' : Heap) (e C d : Addr) (F : Str) (v : Value) : Prop where
  keep : ∀ b o, h.get? b = some o → h'.get? b = some o
  new : h.objs.size ≤ e
  obj : ∃ t1 : Addr, h'.get? e = some { cls := .ref C, dict := some d, data := .fields #[.ref t1, .none, .none, .none, .bool false, .none] }
  dbig : h.objs.size ≤ d
  dne : d ≠ e
  ns : h'.Ns1 d (fun y => if y = F then some v else none)
theorem madeX (T : Txt prog.main.file K q F txt C fI) {v : Value} (X : K.In s.heap) (hlim : s.heap.NoLimit) (hg : s.heap.Ns mainGlobals mg) (hb : s.heap.Ns builtinsNs mb) (hbs : mb "super" = some (.type "super"))
    (htop : (prog.main.scope.names.lookup ("super" : Str)).isSome = false) (hroom : A.depth + 1 < recursionLimit)
    (hq : ∀ h' tk e d, Made s.heap h' e C d F v → R (.ok (.ret (.ref e))) { s with heap := h', toks := tk }) :
    codeAny (model prog w) A (.call (.ref C) ⟨[v], []⟩) R s := by
  obtain ⟨nm, q', N, bs, bm, sn, sub, ab, col, dd, k0, k1, k2, k3, k5, hC, hbm⟩ := T.cls
  obtain ⟨hp, g, dr, tk, os⟩ := s
  have k : ∀ b o, hp.get? b = some o → ((hp.push (kdv_tup [v])).push (HandSPX.excO C hp.objs.size)).get? b = some o := fun b o e => Heap.get?_push_of_some _ (Heap.get?_push_of_some _ e)
  have hget : ((hp.push (kdv_tup [v])).push (HandSPX.excO C hp.objs.size)).get? (hp.objs.size + 1) = some (HandSPX.excO C hp.objs.size) := by heap_get
  have hnx : K.lookup (hp.objs.size + 1) = none := by
    cases e : K.lookup (hp.objs.size + 1) with
    | none => rfl
    | some o =>
      have z : hp.get? (hp.objs.size + 1) = some o := X _ _ e
      exact absurd (Nat.lt_of_succ_lt (Heap.lt_size z)) (Nat.lt_irrefl _)
  refine HandSPX.call_own _root_.PySem.F.excBase_ValueError (fun X => HandSPX.refsVE_contains X bm hbm) (X _ _ hC) (looks_findIn X T.iC) (fun self => bind_fn X self T.tC) (by show 1 ≤ sizeLine; rw [sizeLine_eq]; omega) ?_
  refine initX (s := ⟨(hp.push (kdv_tup [v])).push (HandSPX.excO C hp.objs.size), g, dr, tk, os⟩) T (X.keeps k) (hlim.keeps k) (hg.keeps k) (hb.keeps k) hbs htop hget hnx ?_ fun h' tk' dx t1 D => ?_
  · show A.depth + 1 < recursionLimit
    exact hroom
  · have old : ∀ b o, hp.get? b = some o → h'.get? b = some o := fun b o e => D.keep b o (Nat.ne_of_lt (Nat.lt_succ_of_lt (Heap.lt_size e))) (k b o e)
    have z : hp.objs.size + 1 + 1 ≤ dx := by
      have q := D.dbig
      simp only [Heap.size_push] at q
      exact q
    exact ⟨rfl, hq h' tk' (hp.objs.size + 1) dx ⟨old, Nat.le_succ _, ⟨_, D.obj⟩, Nat.le_trans (Nat.le_trans (Nat.le_succ _) (Nat.le_succ _)) z, D.dne, D.ns⟩⟩
end
end Xb
set_option Elab.async false
set_option linter.all false
set_option maxRecDepth 100000
set_option maxHeartbeats 4000000
namespace Xb
open PySem PySem.Spec PyProof.Rows L2
theorem boot_super : bootBuiltins "super" = some (.type "super") := by decide +kernel
theorem relO_one {F : Str} {v : V} {v' : Value} (r : RelV v v') (f : Str) : RelO (List.lookup f [(F, v)]) (if f = F then some v' else none) := by
  by_cases hw : f = F
  · subst hw
    rw [if_pos rfl]
    have q : List.lookup f [(f, v)] = some v := by simp [List.lookup]
    rw [q]
    exact r
  · rw [if_neg hw]
    have qw : (f == F) = false := by simpa using hw
    have q2 : List.lookup f [(F, v)] = none := by simp [List.lookup, qw]
    rw [q2]
    trivial
section
variable {X : Cx} {C fI : Addr} {q F txt : Str}
/-- C(e), to be raised -/
def tMkX (C : Addr) (F : Str) (ta : TA) : L2.St → Hp → XK → Prop := fun σ H Q => ta σ H fun vs H1 => ∃ v, vs = [v] ∧ ∀ d, H1 d = none → Q (.ref C) (some d) (upd H1 d (.xd [(F, v)]))
theorem pmk_x {x : Str} {a : Expr} {ta : TA} {p pos : Pos} {k : Nat} (T : Txt X.prog.main.file X.K q F txt C fI) (hm : X.mg x = some (.ref C)) (htop : (X.prog.main.scope.names.lookup ("super" : Str)).isSome = false) (hr : Room k X.A) (ha : PA X [a] ta) (hg : Gl X x := by rfl)
    (hdb : (x == ("__debug__" : Str)) = false := by decide)
    (he : starEach (a :: []) X.env = (false, eval a X.env) :: starEach [] X.env := by rfl) (hpl : (backTo pos (starEach [] X.env)).any (·.1) = false := by rfl) :
    PMk X (.Call (.Name x p) [a] [] pos) (tMkX C F ta) := by
  intro pins s σ H Q I h
  refine wpAny_Call_Name_kw (ld_glob I hg hm ?_ hdb)
  refine PySem.W.callWith_K (h₀ := X.base) I.ok.mod.kin T.kC (thn (ha.run pos pins s σ H _ I h) fun us s1 hh => ?_) he hpl
  obtain ⟨vs, H1, I1, r1, v, ev, q1⟩ := hh
  subst ev
  refine ⟨I1.kIn, ?_⟩
  cases r1 with
  | cons rv rn =>
    rename_i v' us'
    cases rn
    show wpAny _ _ (call (.ref C) [v']) _ _ _
    have hlim := I1.nolimit
    have M := I1.mod
    have hns : s1.heap.Ns mainGlobals X.mg := M.glob.keeps I1.bk
    obtain ⟨mb, hb, hbb⟩ := M.blt
    have hb1 : s1.heap.Ns builtinsNs mb := hb.keeps I1.bk
    have hbs : mb "super" = some (.type "super") := (hbb _ (by decide)).trans boot_super
    obtain ⟨hp, g, dr, tk, os⟩ := s1
    refine wpAny_call (madeX T I1.kIn hlim hns hb1 hbs htop (by have := hr.dp; omega) fun h' tk' e d M => ?_)
    show MkP X pins σ Q (.ref e) ⟨h', g, dr, tk', os⟩
    obtain ⟨t1, hoe⟩ := M.obj
    obtain ⟨G', g1, g2⟩ := restrict h' fun b => decide (b ≠ e)
    have gk : ∀ b, b ≠ e → G'.get? b = h'.get? b := fun b hb => g1 b (decide_eq_true hb)
    have ge : G'.get? e = none := g2 e (by simp)
    have old : ∀ b o, hp.get? b = some o → G'.get? b = some o := fun b o q => (gk b (Nat.ne_of_lt (Nat.lt_of_lt_of_le (Heap.lt_size q) M.new))).trans (M.keep b o q)
    have ob : ObjOk X.prog X.w (upd H1 d (.xd [(F, v)])) G' d (.xd [(F, v)]) :=
      ⟨_, M.ns.at (fun o q => (gk d M.dne).trans q), fun f => relO_one rv f⟩
    have J : Inv X pins σ (upd H1 d (.xd [(F, v)])) ⟨G', g, dr, tk', os⟩ := I1.laid (t' := tk') old M.dbig ob
    refine ⟨e, _, _, ⟨G', g, dr, tk', os⟩, _, .ref C, some d, rfl, J, fun b o q => ?_, ge, hoe, ⟨rfl, rfl⟩, rfl, rfl, ?_, rfl, I1.bare, raises_own T.exC T.tyC, q1 d (I1.hok.fresh M.dbig)⟩
    · by_cases hb : b = e
      · have q' : G'.get? b = some o := q
        rw [hb, ge] at q'; cases q'
      · exact (gk b hb).symm.trans q
    · rw [upd_ne (Ne.symm M.dne)]
      exact I1.hok.fresh M.new
/-- raise C(e) -/
def tRaiseX (C : Addr) (F : Str) (W : WX) (ta : TA) : TS := fun _ σ H => tMkX C F ta σ H fun cls d H' => W cls d σ H'
theorem ps_raiseX {x : Str} {a : Expr} {ta : TA} {W : WX} {p pos pos2 : Pos} {k : Nat} (hc : X.calm = true) (T : Txt X.prog.main.file X.K q F txt C fI) (hm : X.mg x = some (.ref C)) (htop : (X.prog.main.scope.names.lookup ("super" : Str)).isSome = false) (hr : Room k X.A) (tk : Takes X W) (ha : PA X [a] ta) (hg : Gl X x := by rfl)
    (hdb : (x == ("__debug__" : Str)) = false := by decide)
    (he : starEach (a :: []) X.env = (false, eval a X.env) :: starEach [] X.env := by rfl) (hpl : (backTo pos (starEach [] X.env)).any (·.1) = false := by rfl) :
    PS X (.Raise (some (.Call (.Name x p) [a] [] pos)) none pos2) (tRaiseX C F W ta) := ps_raise hc tk (pmk_x T hm htop hr ha hg hdb he hpl)
/-- e.F, e the exception that the suite holds (at a; its class cls, its dict d) -/
def tByX (C : Addr) (F : Str) (a : Addr) (cls : Value) (d : Option Addr) (te : TE) : TE := fun σ H Q => te σ H fun x H1 => x = .ref a ∧ cls = .ref C ∧ ∃ (dd : Addr) (v : V), d = some dd ∧ H1 dd = some (.xd [(F, v)]) ∧ Q v H1
theorem pe_byX {a : Addr} {oe : Obj} {cls : Value} {d : Option Addr} {pn : List (Addr × Obj)} {e : Expr} {te : TE} {pos : Pos} (T : Txt X.prog.main.file X.K q F txt C fI) (hz : Zc cls d oe) (hf : ∃ vs, oe.data = .fields vs) (he : PE (X.suite a ((a, oe) :: pn)) e te)
    (hb : attributeBase e F X.env (eval e X.env) = eval e X.env := by rfl) :
    PE (X.suite a ((a, oe) :: pn)) (.Attribute e F pos) (tByX C F a cls d te) := by
  refine ⟨fun pins s σ H Q I h => ?_⟩
  refine attr_of hb (thn (he.run pins s σ H _ I h) fun u s1 hh => ?_)
  obtain ⟨x, H1, I1, rx, ex, ec, dd, v, ed, ea, q⟩ := hh
  subst ex
  obtain rfl : u = Value.ref a := rx
  subst ec
  subst ed
  obtain ⟨ha, _⟩ := I1.pin (a, oe) (List.mem_append_left _ List.mem_cons_self)
  obtain ⟨vs, hd⟩ := hf
  have hx : ObjOk X.prog X.w H1 s1.heap dd (.xd [(F, v)]) := I1.hok dd _ ea
  obtain ⟨mA, hns, hr⟩ := hx
  obtain ⟨od, ho, hl⟩ := lookIn_ns hns
  have l : List.lookup F [(F, v)] = some v := by simp [List.lookup]
  obtain ⟨u, hu, ru⟩ := RelO.some_of (v := v) (o := mA F) (by rw [← l]; exact hr F)
  have J : PySem.W.InstAt s1.heap a oe C (some od) := ⟨ha, hz.1, by unfold PySem.W.notCls; rw [hd] <;> rfl, by rw [hz.2]; exact ho⟩
  exact HandSPX.exc_get I1.kIn J T.ga T.gg T.exC (PySem.W.findObj_own T.hdC T.noF rfl (by rw [hl, hu])) (handed_of ru) ⟨v, H1, I1.tok _, ru, q⟩
end
end Xb
set_option Elab.async false
set_option linter.all false
set_option maxRecDepth 100000
set_option maxHeartbeats 4000000
namespace Fa
open PySem PySem.Spec PyProof.Rows L2
/-! ### the draws of the laws: a box of three ints -/
/-- a box at p, of which fewer than n draws were taken by the second way -/
def Box (H : Hp) (p : Addr) (n : Nat) : Prop := ∃ a b c : Int, H p = some (.lst [.int a, .int b, .int c]) ∧ 0 ≤ a ∧ 0 ≤ b ∧ b < 2147483648 ∧ 0 ≤ c ∧ c ≤ (n : Int)
theorem Box.mono {H : Hp} {p : Addr} {n m : Nat} (h : Box H p n) (e : n ≤ m) : Box H p m := by
  obtain ⟨a, b, c, h1, h2, h3, h4, h5, h6⟩ := h
  exact ⟨a, b, c, h1, h2, h3, h4, h5, by omega⟩
/-- all but p is as it was -/
def But (p : Addr) (H H' : Hp) : Prop := ∀ q, q ≠ p → H' q = H q
theorem But.refl (p : Addr) (H : Hp) : But p H H := fun _ _ => rfl
theorem But.trans {p : Addr} {H H1 H2 : Hp} (a : But p H H1) (b : But p H1 H2) : But p H H2 := fun q h => (b q h).trans (a q h)
theorem But.upd {p : Addr} {H : Hp} {o : HO} : But p H (upd H p o) := fun _ h => upd_ne h
def spCel (K : PySem.W.Frag) : Sp := fun vs H Q _ => ∃ (l : Addr) (ns : List Int) (j : Nat), vs = [.ref l, .int (j : Int)] ∧ SqL K H l (ns.map V.int) ∧ j ≤ 1000 ∧ ∀ z : Int, Q (.int z) H
def spBox : Sp := fun vs H Q _ => ∃ c : Int, vs = [.int c] ∧ ∀ p H', H p = none → (∀ q, q ≠ p → H' q = H q) → Box H' p 0 → Q (.ref p) H'
def spTake : Sp := fun vs H Q _ => ∃ (p : Addr) (m : Int) (n : Nat), vs = [.ref p, .int m] ∧ Box H p n ∧ n ≤ 1000000 ∧ 0 < m ∧ m < 2 ^ 1000 ∧ ∀ (z : Int) (H' : Hp), 0 ≤ z → z < m → Box H' p (n + 1) → But p H H' → Q (.int z) H'
theorem cdivW {a m : Int} (h : 0 < m) (h2 : m < 2 ^ 1000) : CDivW a m := ⟨h, by
  have e : m.natAbs < 2 ^ 1000 := by omega
  exact Nat.lt_of_lt_of_le ((Nat.log2_lt (by omega)).mpr e) (by omega)⟩
theorem atI3 {α : Type} {a b c : α} (i : Int) (h0 : i = 0 ∨ i = 1 ∨ i = 2) : atI [a, b, c] i = some (if i = 0 then a else if i = 1 then b else c) := by
  rcases h0 with rfl | rfl | rfl <;> rfl
end Fa
set_option Elab.async false
set_option linter.all false
set_option maxRecDepth 100000
set_option maxHeartbeats 4000000
namespace K09
open PySem PySem.Spec PyProof.Rows L2 Fa
def top (i : Nat) : Stmt := PySem.Challenge.pw_anytempo_k09_maps_there_and_back.main.body.getD i (.Pass ⟨0, 0, 0, 0⟩)
abbrev FnP (K : PySem.W.Frag) (x : Str) (st : Stmt) (f : Addr) (fd : FuncData) : Prop := FunD K x x (defArgs st) (defBody st) (defScope st) [] [] f fd


abbrev sCell : Stmt := top 28
abbrev sBox : Stmt := top 29
abbrev sTake : Stmt := top 30
theorem scCell : FnScope ["_law_script", "_law_index"] ["_law_script", "_law_index"] (defScope sCell) := ⟨rfl, rfl, rfl, by decide +kernel, rfl, by decide +kernel, by decide +kernel⟩
theorem scBox : FnScope ["_law_cell_here"] ["_law_cell_here"] (defScope sBox) := ⟨rfl, rfl, rfl, by decide +kernel, rfl, by decide +kernel, by decide +kernel⟩
theorem scTake : FnScope ["_law_bag_here", "_law_many", "_law_digit", "_law_mixed"] ["_law_bag_here", "_law_many"] (defScope sTake) := ⟨rfl, rfl, rfl, by decide +kernel, rfl, by decide +kernel, by decide +kernel⟩
section
variable {P : Program} {w : World} {K : PySem.W.Frag} {mg : Str → Option Value} {base : Heap} {f : Addr} {fd : FuncData}
theorem ok_cell (F : FnP K "_law_cell" sCell f fd) (mL : mg "len" = none) : FnOk P w K mg base CX0 1 f fd ["_law_script", "_law_index"] (spCel K) := by
  refine F.ok scCell (fun vs H Q E h => ?_) (fun cdv A outer s H vs Q E hr h => ?_)
  · obtain ⟨l, ns, j, rfl, _⟩ := h
    rfl
  · obtain ⟨l, ns, j, rfl, hs, hj, q⟩ := h
    refine ⟨_, PSs.nox (pss_cons (ps_if (pt_cmpR op_lt (pv 1) (pe_callB call_len rfl mL boot_len (pa_cons (pv 0) pa_nil)) (nomark _)) (pss_one (ps_ret (pe_ix ix_list (pv 0) (pv 1) (fun _ _ => rfl)))) pss_nil)
      (pss_one (ps_ret (pe_op op_add (pe_op op_mul pe_int (pv 1)) pe_int)))), ?_⟩
    refine ⟨_, rfl, _, rfl, _, (ns.map V.int).length, rfl, .inl ⟨_, hs, rfl⟩, _, _, rfl, rfl, _, rfl, ?_⟩
    refine ite2 (fun c => ?_) (fun c => ?_)
    · have c2 := of_decide_eq_true c
      have c3 : j < ns.length := by
        rw [List.length_map] at c2
        omega
      have e : atI (ns.map V.int) (j : Int) = some (.int ns[j]) := atI_nat (by
        rw [List.getElem?_map, List.getElem?_eq_getElem c3]
        rfl)
      exact ⟨_, rfl, _, rfl, l, _, _, _, rfl, rfl, hs, e, q _⟩
    · refine ⟨_, rfl, _, _, rfl, rfl, .inl ⟨by decide, by decide⟩, _, _, rfl, rfl, q _⟩
theorem ok_box (F : FnP K "_law_bag" sBox f fd) (mM : mg "max" = none) : FnOk P w K mg base CX0 1 f fd ["_law_cell_here"] spBox := by
  refine F.ok scBox (fun vs H Q E h => ?_) (fun cdv A outer s H vs Q E hr h => ?_)
  · obtain ⟨c, rfl, _⟩ := h
    rfl
  · obtain ⟨c, rfl, q⟩ := h
    refine ⟨_, PSs.nox (pss_one (ps_ret (pe_lst (pa_cons (pe_callB (call_max2 rfl) rfl mM (by decide +kernel) (pa_cons pe_int (pa_cons (pe_op op_sub (pv 0) (pe_op op_pow pe_int pe_int)) pa_nil)))
      (pa_cons (pe_op op_mod (pv 0) pe_int) (pa_cons pe_int pa_nil)))))), ?_⟩
    refine ⟨_, rfl, _, _, rfl, rfl, ⟨by decide, by decide, by decide⟩, _, _, rfl, rfl, _, _, rfl, ?_⟩
    refine ⟨_, rfl, _, _, rfl, rfl, (by show (0 : Int) < 2147483629; decide), (by show 3 ≤ sizeLine; decide), fun p hp => ?_⟩
    refine q p _ hp (fun z hz => upd_ne hz) ⟨_, _, _, upd_same, ?_, ?_, ?_, by decide, by decide⟩
    · split <;> omega
    · exact Int.emod_nonneg _ (by decide)
    · exact Int.lt_trans (Int.emod_lt_of_pos _ (by decide)) (by decide)
theorem ok_take (F : FnP K "_law_take" sTake f fd) : FnOk P w K mg base CX0 1 f fd ["_law_bag_here", "_law_many"] spTake := by
  refine F.ok scTake (fun vs H Q E h => ?_) (fun cdv A outer s H vs Q E hr h => ?_)
  · obtain ⟨p, m, n, rfl, _⟩ := h
    rfl
  · obtain ⟨p, m, n, rfl, ⟨a, b, c, hp, ha, hb, hb2, hc, hc2⟩, hn, hm, hm2, q⟩ := h
    refine ⟨_, PSs.nox (pss_cons (ps_if (pt_cmpR op_gt (pe_ix ix_list (pv 0) pe_int (fun _ _ => rfl)) pe_int (nomark _))
        (pss_cons (ps_set (i := 2) scTake.nd rfl (Or.inl rfl) (pe_op op_mod (pe_ix ix_list (pv 0) pe_int (fun _ _ => rfl)) (pv 1)))
        (pss_cons (ps_asg (pe_op op_fdivW (pe_ix ix_list (pv 0) pe_int (fun _ _ => rfl)) (pv 1)) (pg_sub (pv 0) pe_int set_list))
        (pss_one (ps_ret (pv 2))))) pss_nil)
      (pss_cons (ps_asg (pe_op op_add (pe_ix ix_list (pv 0) pe_int (fun _ _ => rfl)) pe_int) (pg_sub (pv 0) pe_int set_list))
      (pss_cons (ps_set (i := 3) scTake.nd rfl (Or.inl rfl) (pe_op op_mod (pe_op op_pow (pe_op op_add (pe_op op_add (pe_ix ix_list (pv 0) pe_int (fun _ _ => rfl)) (pe_op op_mul pe_int (pe_ix ix_list (pv 0) pe_int (fun _ _ => rfl)))) pe_int) pe_int) pe_int))
      (pss_cons (ps_set (i := 3) scTake.nd rfl (Or.inl rfl) (pe_op op_mod (pe_op op_pow (pe_op op_add (pv 3) (pe_op op_mul pe_int (pe_ix ix_list (pv 0) pe_int (fun _ _ => rfl)))) pe_int) pe_int))
      (pss_one (ps_ret (pe_op op_mod (pe_op op_fdiv (pv 3) pe_int) (pv 1)))))))), ?_⟩
    refine ⟨_, rfl, p, _, _, _, rfl, rfl, SqL.of hp, rfl, _, _, rfl, rfl, _, rfl, ?_⟩
    refine ite2 (fun t => ?_) (fun t => ?_)
    · have t2 : (0 : Int) < a := of_decide_eq_true t
      refine ⟨_, rfl, p, _, _, _, rfl, rfl, SqL.of hp, rfl, _, rfl, _, _, rfl, rfl, hm, ?_⟩
      refine ⟨_, rfl, p, _, _, _, rfl, rfl, SqL.of hp, rfl, _, rfl, _, _, rfl, rfl, cdivW hm hm2, ?_⟩
      refine ⟨_, rfl, p, _, _, _, rfl, rfl, hp, rfl, ?_⟩
      refine ⟨_, rfl, ?_⟩
      refine q _ _ (Int.emod_nonneg _ (by omega)) (Int.emod_lt_of_pos _ hm) ⟨_, _, _, upd_same, Int.ediv_nonneg ha (by omega), hb, hb2, hc, by omega⟩ But.upd
    · refine ⟨_, rfl, p, _, _, _, rfl, rfl, SqL.of hp, rfl, _, _, rfl, rfl, _, rfl, p, _, _, _, rfl, rfl, hp, rfl, ?_⟩
      have s1 : SqL K (upd H p (.lst [.int a, .int b, .int (c + 1)])) p [.int a, .int b, .int (c + 1)] := SqL.of upd_same
      refine ⟨_, rfl, p, _, _, _, rfl, rfl, s1, rfl, _, rfl, p, _, _, _, rfl, rfl, s1, rfl, _, _, rfl, rfl, .inl ⟨by decide, by decide⟩, _, _, rfl, rfl, _, _, rfl, rfl, _, _, rfl, rfl, ⟨by decide, by decide, ?_⟩, _, _, rfl, rfl, (by show (0 : Int) < 2147483647; decide), ?_⟩
      · show (b + 393342743 * (c + 1) + 131).natAbs < 2 ^ 64
        omega
      have g1 : 0 ≤ (b + 393342743 * (c + 1) + 131) ^ Int.toNat 5 % 2147483647 := Int.emod_nonneg _ (by decide)
      have g2 : (b + 393342743 * (c + 1) + 131) ^ Int.toNat 5 % 2147483647 < 2147483647 := Int.emod_lt_of_pos _ (by decide)
      refine ⟨_, rfl, _, rfl, p, _, _, _, rfl, rfl, s1, rfl, _, _, rfl, rfl, .inl ⟨by decide, by decide⟩, _, _, rfl, rfl, _, _, rfl, rfl, ⟨by decide, by decide, ?_⟩, _, _, rfl, rfl, (by show (0 : Int) < 2147483587; decide), ?_⟩
      · show ((b + 393342743 * (c + 1) + 131) ^ Int.toNat 5 % 2147483647 + 103217 * (c + 1)).natAbs < 2 ^ 64
        omega
      refine ⟨_, rfl, _, _, rfl, rfl, ⟨by decide, by decide⟩, _, rfl, _, _, rfl, rfl, hm, ?_⟩
      exact q _ _ (Int.emod_nonneg _ (by omega)) (Int.emod_lt_of_pos _ hm) ⟨_, _, _, upd_same, ha, hb, hb2, by omega, by omega⟩ But.upd
end


end K09
set_option Elab.async false
set_option linter.all false
set_option maxRecDepth 100000
set_option maxHeartbeats 4000000
namespace Fb
open PySem PySem.W PySem.Calls PyProof.Rows
section
variable {prog : Program} {w : World} {A : Around} {E : Value → Shared → Prop} {s : Shared} {K : Frag} {x C L f : Addr} {h₀ : Heap} {m : Str → Option Value} {ox : Obj} {od : Option Obj} {T : String}
/-- x op b, x an instance with its own def for op, b of a built-in type T (b may be an object) -/
theorem bin_any {op : Operator} {b : Value} {fo ro rc : Option Value} {Q : Value → Shared → Prop}
    (X : K.In s.heap) (I : InstAt s.heap x ox C od) (hb : ∀ M : Model, Looks M s.heap (typeOf b) (.type T)) (hc : selfFirst K C = true)
    (hs : findIn K (.ref C) (PySem.dunder op.info.2) = some (some (.ref f))) (hf : isFn K (.ref f) = true)
    (hr : findIn K (.ref C) (dunderR op.info.2) = some rc) (hp : rc = none ∨ ∃ g : Addr, rc = some (.ref g))
    (h1 : findIn K (.type T) (PySem.dunder op.info.2) = some fo) (h2 : findIn K (.type T) (dunderR op.info.2) = some ro) (hsub : subIn K (.type T) (.ref C) = some false)
    (h : wpAny (model prog w) A (call (.ref f) [.ref x, b]) (W.CmpBack Q) E s) : wpAny (model prog w) A (binaryOp op (.ref x) b) Q E s := by
  obtain ⟨cd, rest, hcd, hm⟩ := ksp_first hc
  rcases hi : op.info with ⟨sym, nm⟩
  rw [hi] at hs hr h1 h2
  dsimp only at hs hr h1 h2
  have one := ksp_try X I hs hf h
  obtain ⟨hh, g, d, tt, os⟩ := s
  have A1 : Looks (model prog w) hh (typeOf (.ref x)) (.ref C) := I.type
  have A2 : Looks (model prog w) hh (typeOf b) (.type T) := hb _
  have A3 : Looks (model prog w) hh (fillsNumberSlot (.ref C) nm) true := fills_K X hcd hm hs
  have A4 := ksp_fillsT (M := model prog w) (nm := nm) (T := T) X h1 h2
  have A5 : Looks (model prog w) hh (isSubtype (.type T) (.ref C)) false := looks_subIn X hsub
  have A6 : Looks (model prog w) hh (numberSlotInPython (.ref C) nm) true := ksp_inPy X hs hr hp
  have A7 : Looks (model prog w) hh (numberSlotInPython (.type T) nm) false := Looks.of_pure rfl
  have A8 : Looks (model prog w) hh (typeLookup (.type T) (dunderR nm)) ro := looks_findIn X h2
  generalize ((fo.isSome && !isSeqSlot fo) || (ro.isSome && !isSeqSlot ro)) = rt at A4
  have ne : (Value.ref C == Value.type T) = false := Bool.eq_false_iff.mpr fun z => by cases beq_iff_eq.mp z
  simp only [binaryOp, hi]
  refine wpAny_holding (wpAny_bind ?_)
  unfold binaryOp1
  refine wpAny_bind (A1.at (wpAny_bind (A2.at (wpAny_bind (A3.at ?_)))))
  simp only [ne, Bool.false_eq_true, if_false]
  cases rt <;>
  · ksp_lk
    refine wpAny_mono one (fun r s' z => ?_) fun _ _ e => e
    obtain ⟨v, rfl, hq⟩ := z
    ksp_lk
    exact hq
end
end Fb
namespace Fb
open PySem PySem.Spec PyProof.Rows L2
/-- an own operator of the class C, at the def f -/
structure OwnOp (K : PySem.W.Frag) (C : Addr) (nm : String) (f : Addr) : Prop where
  sf : PySem.W.selfFirst K C = true
  at_ : PySem.W.findIn K (.ref C) (PySem.dunder nm) = some (some (.ref f))
  fn : PySem.W.isFn K (.ref f) = true
  nr : PySem.W.findIn K (.ref C) (dunderR nm) = some none
/-- a built-in type at the right of it -/
def TyOp (K : PySem.W.Frag) (C : Addr) (nm : String) (T : String) : Prop := ∃ fo ro, PySem.W.findIn K (.type T) (PySem.dunder nm) = some fo ∧ PySem.W.findIn K (.type T) (dunderR nm) = some ro ∧ PySem.W.subIn K (.type T) (.ref C) = some false
/-- what may stand at the right -/
def RK (K : PySem.W.Frag) (C : Addr) (nm : String) (H : Hp) (y : V) : Prop := (∃ q dy gs, y = .ref q ∧ H q = some (.ins C dy gs)) ∨ ∃ T, TyX K H y (.type T) ∧ TyOp K C nm T
def tBinX (K : PySem.W.Frag) (C : Addr) (nm : String) (sp : Sp) (E : L2.St → XK) (ta tb : TE) : TE := fun σ H Q => ta σ H fun x H1 => tb σ H1 fun y H2 => ∃ p dx fs, x = .ref p ∧ H2 p = some (.ins C dx fs) ∧ RK K C nm H2 y ∧ sp [x, y] H2 Q (E σ)
def tUnX (C : Addr) (sp : Sp) (E : L2.St → XK) (ta : TE) : TE := fun σ H Q => ta σ H fun x H1 => ∃ p dx fs, x = .ref p ∧ H1 p = some (.ins C dx fs) ∧ sp [x] H1 Q (E σ)
section
variable {X : Cx} {CX : CXT} {k : Nat} {f C : Addr} {fd : FuncData} {ps : List Str} {sp : Sp} {E : L2.St → XK} {a b : Expr} {ta tb : TE} {pos : Pos}
theorem pe_binX {op : Operator} (W : OwnOp X.K C op.info.2 f) (F : FnOk X.prog X.w X.K X.mg X.base CX k f fd ps sp) (hr : Room k X.A) (hb : Binds X.K fd ps []) (hx : ∀ σ, PassesAt CX X σ (E σ)) (ha : PE X a ta) (hb2 : PE X b tb) :
    PE X (.BinOp a op b pos) (tBinX X.K C op.info.2 sp E ta tb) := by
  refine ⟨fun pins s σ H Q I h => ?_⟩
  refine wpAny_BinOp (bin ha hb2 I h fun v u s2 x y H2 I2 rx ry q => ?_)
  obtain ⟨p, dx, fs, ex, hp, rk, q⟩ := q
  subst ex
  obtain rfl : v = Value.ref p := rx
  obtain ⟨mA, O, _⟩ := ins_get I2.hok hp
  obtain ⟨od, J, _⟩ := O.look
  have go : wpAny (model X.prog X.w) X.A (call (.ref f) [.ref p, u]) (PySem.W.CmpBack (EP X pins σ Q)) X.xe s2 :=
    wpAny_mono (run_fnSD (dvs := []) (ds := []) (us := [.ref p, u]) (vs := [.ref p, y]) F hr hb .nil (hx σ) I2 (.cons rfl (.cons ry .nil)) q) (fun z s' hz => by
      obtain ⟨z', H', I', rz, qz⟩ := hz
      exact SlX.cmpback rz ⟨z', H', I', rz, qz⟩) fun _ _ x => x
  obtain ⟨m, hF⟩ := I2.fr
  rcases rk with ⟨q', dy, gs, ey, hq'⟩ | ⟨T, ty, fo, ro, h1, h2, h3⟩
  · subst ey
    obtain rfl : u = Value.ref q' := ry
    obtain ⟨mB, O', _⟩ := ins_get I2.hok hq'
    obtain ⟨od', J', _⟩ := O'.look
    exact PySem.W.binop_K hF I2.ok.mod.kin J J'.type W.sf W.at_ W.fn go
  · obtain ⟨P, Z, hP, _⟩ := kit_of I2 ry ty
    exact bin_any I2.kIn J (fun M => Z.ty M _ I2.kIn hP) W.sf W.at_ W.fn W.nr (.inl rfl) h1 h2 h3 go
/-- -a -/
theorem pe_negX (at_ : PySem.W.findIn X.K (.ref C) "__neg__" = some (some (.ref f))) (fn : PySem.W.isFn X.K (.ref f) = true) (F : FnOk X.prog X.w X.K X.mg X.base CX k f fd ps sp) (hr : Room k X.A) (hb : Binds X.K fd ps []) (hx : ∀ σ, PassesAt CX X σ (E σ)) (ha : PE X a ta) :
    PE X (.UnaryOp .USub a pos) (tUnX C sp E ta) := by
  refine ⟨fun pins s σ H Q I h => ?_⟩
  refine UnaryOp_ (thn (ha.run pins s σ H _ I h) fun v s1 ⟨x, H1, I1, r1, q1⟩ => ?_)
  obtain ⟨p, dx, fs, ex, hp, q⟩ := q1
  subst ex
  obtain rfl : v = Value.ref p := r1
  obtain ⟨mA, O, _⟩ := ins_get I1.hok hp
  obtain ⟨od, J, _⟩ := O.look
  obtain ⟨m, hF⟩ := I1.fr
  exact PySem.W.ksp_neg hF I1.ok.mod.kin J at_ fn (run_fnSD (dvs := []) (ds := []) (us := [.ref p]) (vs := [.ref p]) F hr hb .nil (hx σ) I1 (.cons rfl .nil) q)
/-- a == b, a an instance -/
theorem pe_eqX (at_ : PySem.W.findIn X.K (.ref C) "__eq__" = some (some (.ref f))) (fn : PySem.W.isFn X.K (.ref f) = true) (F : FnOk X.prog X.w X.K X.mg X.base CX k f fd ps sp) (hr : Room k X.A) (hb : Binds X.K fd ps []) (hx : ∀ σ, PassesAt CX X σ (E σ)) (ha : PE X a ta) (hb2 : PE X b tb) :
    PC X .Eq a b (fun σ H Q => ta σ H fun x H1 => tb σ H1 fun y H2 => ∃ p dx fs, x = .ref p ∧ H2 p = some (.ins C dx fs) ∧ ((∃ q dy gs, y = .ref q ∧ H2 q = some (.ins C dy gs)) ∨ ∃ T, TyX X.K H2 y (.type T) ∧ PySem.W.subIn X.K (.type T) (.ref C) = some false) ∧ sp [x, y] H2 Q (E σ)) := by
  refine ⟨fun pins s σ H Q I h => ?_⟩
  refine bin ha hb2 I h fun v u s2 x y H2 I2 rx ry q => ?_
  obtain ⟨p, dx, fs, ex, hp, rk, q⟩ := q
  subst ex
  obtain rfl : v = Value.ref p := rx
  obtain ⟨mA, O, _⟩ := ins_get I2.hok hp
  obtain ⟨od, J, _⟩ := O.look
  have go : wpAny (model X.prog X.w) X.A (call (.ref f) [.ref p, u]) (PySem.W.CmpBack (EP X pins σ Q)) X.xe s2 :=
    wpAny_mono (run_fnSD (dvs := []) (ds := []) (us := [.ref p, u]) (vs := [.ref p, y]) F hr hb .nil (hx σ) I2 (.cons rfl (.cons ry .nil)) q) (fun z s' hz => by
      obtain ⟨z', H', I', rz, qz⟩ := hz
      exact SlX.cmpback rz ⟨z', H', I', rz, qz⟩) fun _ _ x => x
  obtain ⟨m, hF⟩ := I2.fr
  rcases rk with ⟨q', dy, gs, ey, hq'⟩ | ⟨T, ty, h3⟩
  · subst ey
    obtain rfl : u = Value.ref q' := ry
    obtain ⟨mB, O', _⟩ := ins_get I2.hok hq'
    obtain ⟨od', J', _⟩ := O'.look
    exact PySem.W.cmp_K (op := .Eq) (tb := .ref C) hr.units0 hF I2.ok.mod.kin J J'.type (by simp [PySem.W.notFirst]) at_ fn go
  · obtain ⟨P, Z, hP, _⟩ := kit_of I2 ry ty
    exact PySem.W.cmp_K (op := .Eq) (tb := .type T) hr.units0 hF I2.ok.mod.kin J (fun A Q E s k z => Z.ty _ _ I2.kIn hP A Q E s k z) (by simp [PySem.W.notFirst, h3]) at_ fn go
end
end Fb
set_option Elab.async false
set_option linter.all false
set_option maxRecDepth 100000
set_option maxHeartbeats 4000000
namespace Fb
open PySem PySem.Spec PyProof.Rows L2
section
variable {X : Cx} {CX : CXT} {k : Nat} {f C : Addr} {fd : FuncData} {ps : List Str} {sp : Sp} {E : L2.St → XK} {a b : Expr} {ta tb : TE} {pos p : Pos}
theorem pe_absX (at_ : PySem.W.findIn X.K (.ref C) "__abs__" = some (some (.ref f))) (fn : PySem.W.isFn X.K (.ref f) = true) (F : FnOk X.prog X.w X.K X.mg X.base CX k f fd ps sp) (hr : Room (k + 2) X.A) (hb : Binds X.K fd ps []) (hx : ∀ σ, PassesAt CX X σ (E σ)) (hg : Gl X "abs") (hm : X.mg "abs" = none) (ha : PE X a ta)
    (he : starEach [a] X.env = (false, eval a X.env) :: starEach [] X.env := by rfl) (hpl : (backTo pos (starEach [] X.env)).any (·.1) = false := by rfl) :
    PE X (.Call (.Name "abs" p) [a] [] pos) (tUnX C sp E ta) := by
  refine ⟨fun pins s σ H Q I h => ?_⟩
  refine wpAny_Call_Name_kw (ld_blt I hg hm (by decide +kernel : bootBuiltins "abs" = some (.builtin "abs")) ?_)
  refine PyProof.Rows.callWith_builtin1 ?_ he hpl
  rw [he]
  show wpAny _ _ (spliced ((false, eval a X.env) :: backTo pos (starEach [] X.env))) _ _ s
  refine Calls.spliced_cons (thn (ha.run pins s σ H _ I h) fun v s1 ⟨x, H1, I1, r1, q1⟩ => Calls.spliced_nil ?_)
  obtain ⟨q0, dx, fs, ex, hp, q⟩ := q1
  subst ex
  obtain rfl : v = Value.ref q0 := r1
  obtain ⟨mA, O, _⟩ := ins_get I1.hok hp
  obtain ⟨od, J, _⟩ := O.look
  refine Calls.call_function_entry kind_abs plain_abs entry_abs (args_abs _) ?_
  have hr2 : Room k X.A.in1 := (show Room (k + 1) X.A.in1 from Room.in1 hr).mono (Nat.le_succ _)
  have hl : ([Value.ref q0]).length = ps.length := by
    rw [← F.len _ _ _ _ q]
    rfl
  have go : wpAny (model X.prog X.w) X.A.in1 (call (.ref f) [.ref q0]) (EP X pins σ Q) X.xe s1 := by
    refine wpAny_call (codeAny_mono (F.run X.A.in1 X.stack s1 H1 ⟨[.ref q0], []⟩ [.ref q0] [.ref q0] Q (E σ) hr2 I1.env0.in1 (hb s1 [.ref q0] I1.kIn hl) (.cons rfl .nil) q) fun r s' hq => ?_)
    cases r with
    | error e => exact hx σ pins H1 s1 e s' I1 hq
    | ok fl =>
      cases fl with
      | ret u => exact I1.after hq
      | next => exact False.elim hq
      | brk => exact False.elim hq
      | cont => exact False.elim hq
  unfold Builtin.«abs»
  refine wpAny_bind (m := oneArg "abs" _) (wpAny_pure ?_)
  refine wpAny_bind (m := callSpecial? (.ref q0) (Str.ofString "__abs__")) (PySem.W.special_fn I1.kIn J at_ (beq_iff_eq.mp fn) (wpAny_mono go (fun v' s' hv => ?_) fun _ _ y => y))
  exact wpAny_pure ⟨_, rfl, hv⟩
end
end Fb
set_option maxRecDepth 100000
namespace Am
/-- in lowest terms, the bottom above 0 -/
def Red (t u : Int) : Prop := 0 < u ∧ Nat.gcd t.natAbs u.natAbs = 1
theorem mk (a b : Int) (hb : b ≠ 0) (c : Int) (hc : c = (if b < 0 then -((Nat.gcd a.natAbs b.natAbs : Nat) : Int) else ((Nat.gcd a.natAbs b.natAbs : Nat) : Int))) :
    c ≠ 0 ∧ c.natAbs ≤ b.natAbs ∧ Red (a.fdiv c) (b.fdiv c) ∧ a.fdiv c * b = a * b.fdiv c ∧ (a.fdiv c).natAbs ≤ a.natAbs ∧ (b.fdiv c).natAbs ≤ b.natAbs := by
  have hbp : 0 < b.natAbs := Int.natAbs_pos.mpr hb
  have hg : 0 < Nat.gcd a.natAbs b.natAbs := Nat.gcd_pos_of_pos_right _ hbp
  have hgb : Nat.gcd a.natAbs b.natAbs ≤ b.natAbs := Nat.le_of_dvd hbp (Nat.gcd_dvd_right _ _)
  have hn : c.natAbs = Nat.gcd a.natAbs b.natAbs := by
    rw [hc]
    split <;> omega
  have h0 : c ≠ 0 := by omega
  have da : c ∣ a := Int.natAbs_dvd_natAbs.mp (by rw [hn]; exact Nat.gcd_dvd_left _ _)
  have db : c ∣ b := Int.natAbs_dvd_natAbs.mp (by rw [hn]; exact Nat.gcd_dvd_right _ _)
  obtain ⟨t, ht⟩ := da
  obtain ⟨u, hu⟩ := db
  have ea : a.fdiv c = t := by
    rw [ht]
    exact Int.mul_fdiv_cancel_left _ h0
  have eb : b.fdiv c = u := by
    rw [hu]
    exact Int.mul_fdiv_cancel_left _ h0
  have na : a.natAbs = c.natAbs * t.natAbs := by rw [ht, Int.natAbs_mul]
  have nb : b.natAbs = c.natAbs * u.natAbs := by rw [hu, Int.natAbs_mul]
  have hcp : 0 < c.natAbs := by omega
  have co : Nat.gcd t.natAbs u.natAbs = 1 := by
    have e : c.natAbs = c.natAbs * Nat.gcd t.natAbs u.natAbs := by
      rw [← Nat.gcd_mul_left, ← na, ← nb]
      exact hn
    exact Nat.eq_of_mul_eq_mul_left hcp (by rw [← e, Nat.mul_one])
  rw [ea, eb]
  have up : 0 < u := by
    by_cases h : b < 0
    · have c0 : c < 0 := by
        rw [hc, if_pos h]
        omega
      have : 0 < c * u ∨ ¬ 0 < c * u := Classical.em _
      rcases Int.lt_or_le 0 u with q | q
      · exact q
      · have z : 0 ≤ c * u := Int.mul_nonneg_of_nonpos_of_nonpos (Int.le_of_lt c0) q
        omega
    · have c0 : 0 < c := by
        rw [hc, if_neg h]
        omega
      rcases Int.lt_or_le 0 u with q | q
      · exact q
      · have z : c * u ≤ 0 := Int.mul_nonpos_of_nonneg_of_nonpos (Int.le_of_lt c0) q
        omega
  refine ⟨h0, by omega, ⟨up, co⟩, ?_, ?_, ?_⟩
  · rw [ht, hu]
    rw [Int.mul_left_comm, Int.mul_assoc]
  · rw [na]
    exact Nat.le_mul_of_pos_left _ hcp
  · rw [nb]
    exact Nat.le_mul_of_pos_left _ hcp
theorem uniq {t u n d : Int} (h : Red t u) (h' : Red n d) (e : t * d = n * u) : t = n ∧ u = d := by
  obtain ⟨hu, ht⟩ := h
  obtain ⟨hd, hn⟩ := h'
  have e1 : t.natAbs * d.natAbs = n.natAbs * u.natAbs := by rw [← Int.natAbs_mul, ← Int.natAbs_mul, e]
  have d1 : u.natAbs ∣ d.natAbs := by
    have z : u.natAbs ∣ t.natAbs * d.natAbs := by
      rw [e1]
      exact Nat.dvd_mul_left _ _
    exact (Nat.Coprime.dvd_of_dvd_mul_left (show Nat.Coprime u.natAbs t.natAbs by rw [Nat.coprime_comm]; exact ht) z)
  have d2 : d.natAbs ∣ u.natAbs := by
    have z : d.natAbs ∣ n.natAbs * u.natAbs := by
      rw [← e1]
      exact Nat.dvd_mul_left _ _
    exact (Nat.Coprime.dvd_of_dvd_mul_left (show Nat.Coprime d.natAbs n.natAbs by rw [Nat.coprime_comm]; exact hn) z)
  have e2 : u.natAbs = d.natAbs := Nat.dvd_antisymm d1 d2
  have e3 : u = d := by omega
  subst e3
  exact ⟨Int.eq_of_mul_eq_mul_right (by omega) e, rfl⟩
/-- what a pair of ints is worth: (t, u) in lowest terms and (n, d), d not 0 -/
def Is (t u n d : Int) : Prop := Red t u ∧ d ≠ 0 ∧ t * d = n * u
theorem is_of {t u a b n d : Int} (h : Red t u) (hb : b ≠ 0) (e : t * b = a * u) (hd : d ≠ 0) (e2 : a * d = n * b) : Is t u n d := by
  refine ⟨h, hd, ?_⟩
  have z : (t * d) * b = (n * u) * b := by
    calc (t * d) * b = (t * b) * d := by rw [Int.mul_assoc, Int.mul_comm d b, ← Int.mul_assoc]
      _ = (a * u) * d := by rw [e]
      _ = (a * d) * u := by rw [Int.mul_assoc, Int.mul_comm u d, ← Int.mul_assoc]
      _ = (n * b) * u := by rw [e2]
      _ = (n * u) * b := by rw [Int.mul_assoc, Int.mul_comm b u, ← Int.mul_assoc]
  exact Int.eq_of_mul_eq_mul_right hb z
theorem gcd_step {x y : Nat} (hy : 0 < y) : Nat.gcd y (x % y) = Nat.gcd x y := by
  rw [Nat.gcd_comm y, ← Nat.gcd_rec, Nat.gcd_comm]
end Am
set_option Elab.async false
set_option linter.all false
set_option maxRecDepth 100000
set_option maxHeartbeats 0
namespace Hd
open PySem PySem.Spec PyProof.Rows L2
def hookB (n : Nat) (chk : PySem.W.Frag → Bool) : PySem.W.Hook where
  α := Bool
  obs := fun s => chk (He.frG s.heap.get? (He.asD s.heap.get? n))
  val := fun _ => true
  says := fun _ h => ∃ K : PySem.W.Frag, K.In h ∧ chk K = true
  of := fun _ _ e => ⟨_, He.frG_in, e⟩
  keeps := fun _ _ _ ⟨K, hK, c⟩ k => ⟨K, PySem.W.Frag.In.keeps hK k, c⟩
def obT (n : Nat) (chk : PySem.W.Frag → Bool) (s : PySem.W.SharedT) : Bool := chk (He.frG (HandSHeadRun.getT s) (He.asD (HandSHeadRun.getT s) n))
theorem obT_eq (n : Nat) (chk : PySem.W.Frag → Bool) (s : PySem.W.SharedT) : obT n chk s = (hookB n chk).obs s.abs := by
  have e : HandSHeadRun.getT s = s.abs.heap.get? := funext fun a => HandSHeadRun.getT_eq s a
  unfold obT
  rw [e]
  rfl
end Hd
set_option Elab.async false
set_option linter.all false
set_option maxRecDepth 100000
set_option maxHeartbeats 4000000
/-! The facts that a law leans on, read off the heap behind the top by one run. -/
namespace Hd
open PySem PySem.Spec PyProof.Rows L2
/-- a def of the text: where it stands, and what it is -/
structure Def where
  ad : PySem.W.Frag → Addr
  name : Str
  qual : Str
  st : Stmt
  cl : List Str := []
  dfl : List He.Dv := []
abbrev FnZ : Type := Option (Str × Str × Arguments × FuncBody × Scope × Addr × List Str × Addr)
def obs1 (K : PySem.W.Frag) (f : Addr) : FnZ := match K.lookup f with
  | some ⟨_, _, .func fd, _⟩ => some (fd.name, fd.qualname, fd.params, fd.body, fd.scope, fd.globals, fd.closure.map (·.1), fd.builtins)
  | _ => none
def Def.val (d : Def) : FnZ := some (d.name, d.qual, defArgs d.st, .stmts (defBody d.st), defScope d.st, mainGlobals, d.cl, builtinsNs)
def Def.ok (K : PySem.W.Frag) (d : Def) : Bool := PySem.W.keepIn K (.ref (d.ad K)) && (match K.lookup (d.ad K) with
  | some ⟨_, _, .func fd, _⟩ => PySem.W.codeIn K fd.code d.qual && He.dflB K fd.defaults (d.dfl.map (He.Dv.v K))
  | _ => false)
/-- what is known of one def -/
structure Got (K : PySem.W.Frag) (d : Def) (fd : FuncData) : Prop where
  kp : PySem.W.keepIn K (.ref (d.ad K)) = true
  ex : ∃ (oc : Value) (od : Option Addr) (dV kV doc pm : Value) (an : Option Addr) (cdv ct : Value) (osl : Array (Option Value)) (cl : List (Str × Addr)),
    fd = PySem.W.fnX d.name d.qual (defArgs d.st) (defBody d.st) (defScope d.st) cl dV kV doc pm an cdv ct ∧ K.lookup (d.ad K) = some ⟨oc, od, .func fd, osl⟩ ∧ PySem.W.codeIn K cdv d.qual = true ∧
    DflV K dV (d.dfl.map (He.Dv.v K)) ∧ cl.map (·.1) = d.cl
theorem got {K : PySem.W.Frag} {d : Def} (e : obs1 K (d.ad K) = d.val) (c : d.ok K = true) : ∃ fd, Got K d fd := by
  obtain ⟨kp, c2⟩ := He.ba c
  unfold obs1 at e
  cases q : K.lookup (d.ad K) with
  | none =>
    rw [q] at c2
    cases c2
  | some o =>
    obtain ⟨oc, od, dt, osl⟩ := o
    rw [q] at c2 e
    cases dt with
    | func fd =>
      obtain ⟨n1, n2, n3, n4, n5, n6, n7, n8, n9, n10, n11, n12, n13, n14, n15⟩ := fd
      have e2 : (some (n1, n2, n3, n4, n5, n6, n7.map (·.1), n15) : FnZ) = some (d.name, d.qual, defArgs d.st, .stmts (defBody d.st), defScope d.st, mainGlobals, d.cl, builtinsNs) := e
      simp only [Option.some.injEq, Prod.mk.injEq] at e2
      obtain ⟨h1, h2, h3, h4, h5, h6, h7, h8⟩ := e2
      subst h1 h2 h3 h4 h5 h6 h8
      obtain ⟨k1, k2⟩ := He.ba (show (PySem.W.codeIn K n13 d.qual && He.dflB K n8 (d.dfl.map (He.Dv.v K))) = true from c2)
      exact ⟨_, kp, oc, od, n8, n9, n10, n11, n12, n13, n14, osl, n7, rfl, q, k1, He.dflB_ok k2, h7⟩
    | _ => cases c2
theorem Got.funD {K : PySem.W.Frag} {d : Def} {fd : FuncData} (g : Got K d fd) (h : d.cl = [] := by rfl) : FunD K d.name d.qual (defArgs d.st) (defBody d.st) (defScope d.st) (d.dfl.map (He.Dv.v K)) [] (d.ad K) fd := by
  obtain ⟨oc, od, dV, kV, doc, pm, an, cdv, ct, osl, cl, h1, h2, h3, h4, h5⟩ := g.ex
  rw [h] at h5
  have h6 : cl = [] := List.map_eq_nil_iff.mp h5
  subst h6
  exact ⟨⟨oc, od, dV, kV, doc, pm, an, cdv, ct, osl, h1, h2, h3, h4, .inl rfl⟩, g.kp⟩
/-- all of them, and a further check -/
abbrev Al : Type := List FnZ × Bool × Bool
def obsK (ds : List Def) (chk : PySem.W.Frag → Bool) (K : PySem.W.Frag) : Al := (ds.map fun d => obs1 K (d.ad K), ds.all fun d => d.ok K, chk K)
def valK (ds : List Def) : Al := (ds.map Def.val, true, true)
def grow (g : Addr → Option Obj) : Nat → List Addr
  | 0 => [mainGlobals, cStatics]
  | n + 1 => He.growD g (grow g n)
def hook (n : Nat) (ds : List Def) (chk : PySem.W.Frag → Bool) : PySem.W.Hook where
  α := Al
  obs := fun s => obsK ds chk (He.frG s.heap.get? (grow s.heap.get? n))
  val := fun _ => valK ds
  says := fun _ h => ∃ K : PySem.W.Frag, K.In h ∧ obsK ds chk K = valK ds
  of := fun _ _ e => ⟨_, He.frG_in, e⟩
  keeps := fun _ _ _ ⟨K, hK, c⟩ k => ⟨K, PySem.W.Frag.In.keeps hK k, c⟩
def ob (n : Nat) (ds : List Def) (chk : PySem.W.Frag → Bool) (s : PySem.W.SharedT) : Al := obsK ds chk (He.frG (HandSHeadRun.getT s) (grow (HandSHeadRun.getT s) n))
theorem ob_eq (n : Nat) (ds : List Def) (chk : PySem.W.Frag → Bool) (s : PySem.W.SharedT) : ob n ds chk s = (hook n ds chk).obs s.abs := by
  have e : HandSHeadRun.getT s = s.abs.heap.get? := funext fun a => HandSHeadRun.getT_eq s a
  unfold ob
  rw [e]
  rfl
section
variable {K : PySem.W.Frag} {ds : List Def} {chk : PySem.W.Frag → Bool}
theorem says_def (c : obsK ds chk K = valK ds) (i : Nat) {d : Def} (h : ds[i]? = some d := by rfl) : ∃ fd, Got K d fd := by
  have e : ds.map (fun d => obs1 K (d.ad K)) = ds.map Def.val := congrArg (fun z : Al => z.1) c
  have c2 : (ds.all fun d => d.ok K) = true := congrArg (fun z : Al => z.2.1) c
  have e2 : (ds.map fun d => obs1 K (d.ad K))[i]? = (ds.map Def.val)[i]? := by rw [e]
  rw [List.getElem?_map, List.getElem?_map, h] at e2
  exact got (Option.some.inj e2) (List.all_eq_true.mp c2 d (List.mem_of_getElem? h))
theorem says_chk (c : obsK ds chk K = valK ds) : chk K = true := congrArg (fun z : Al => z.2.2) c
end
/-- a list of checks -/
def allB (l : List Bool) : Bool := l.all id
theorem allB_at {l : List Bool} (h : allB l = true) (i : Nat) {b : Bool} (e : l[i]? = some b := by rfl) : b = true := List.all_eq_true.mp h b (List.mem_of_getElem? e)
/-! ### an exception class -/
def clsVE (K : PySem.W.Frag) (C : Addr) : Bool := match K.lookup C with
  | some ⟨.type t, _, .cls cd, sl⟩ => (match cd.mro, sl.toList with
    | .ref C' :: bm, [_, _, _, _, some (.builtin n), _] => decide (t = "type") && (decide (C' = C) && (decide (n = "ValueError.__new__") && (!cd.hasDel && (cd.hasDict && HandSPX.refsVE bm))))
    | _, _ => false)
  | _ => false
theorem clsVE_ok {K : PySem.W.Frag} {C : Addr} (h : clsVE K C = true) : ∃ nm q' N bs bm sn sub ab col dd k0 k1 k2 k3 k5, K.lookup C = some (excClassObj nm q' C N bs bm true sn sub ab col dd k0 k1 k2 k3 k5 "ValueError.__new__") ∧ HandSPX.refsVE bm = true := by
  unfold clsVE at h
  split at h
  · rename_i t dd cd sl ho
    split at h
    · rename_i C' bm k0 k1 k2 k3 n k5 hm hs
      obtain ⟨h0, h⟩ := He.ba h
      obtain ⟨h1, h⟩ := He.ba h
      obtain ⟨h2, h⟩ := He.ba h
      obtain ⟨h3, h⟩ := He.ba h
      obtain ⟨h4, h5⟩ := He.ba h
      have h0 := of_decide_eq_true h0
      have h1 := of_decide_eq_true h1
      have h2 := of_decide_eq_true h2
      subst h0 h1 h2
      obtain ⟨nm, bs, mro, ns, qn, hd, sn, sub, ab, col, del⟩ := cd
      dsimp only at hm h3 h4
      subst hm h4
      have h3 : del = false := by simpa using h3
      subst h3
      have hsl : sl = #[k0, k1, k2, k3, some (.builtin "ValueError.__new__"), k5] := by
        obtain ⟨l⟩ := sl
        simp only at hs
        rw [hs]
      subst hsl
      exact ⟨_, _, _, _, _, _, _, _, _, _, _, _, _, _, _, ho, h5⟩
    · cases h
  · cases h
def fileB (file : Str) (vs : Array Value) : Bool := match vs[2]? with
  | some (Value.str fl _) => decide (fl = file)
  | _ => false
theorem fileB_ok {file : Str} {vs : Array Value} (h : fileB file vs = true) : ∃ tf, vs[2]? = some (Value.str file tf) := by
  unfold fileB at h
  split at h
  · rename_i fl tf e
    have z := of_decide_eq_true h
    subst z
    exact ⟨tf, e⟩
  · cases h
/-- the further facts of the class x whose one field is F -/
def excB (file : Str) (K : PySem.W.Frag) (x F : Str) : Bool :=
  let C := He.ga K x
  let fI := He.ma K C "__init__"
  allB [He.eqO (PySem.W.nsIn K mainGlobals x) (some (some (.ref C))), clsVE K C, He.eqO (PySem.W.findIn K (.ref C) "__setattr__") (some (some (.builtin "object.__setattr__"))),
    He.eqO (PySem.W.findIn K (.ref C) "__getattribute__") (some (some (.builtin "BaseException.__getattribute__"))), He.eqO (PySem.W.findIn K (.ref C) "__getattr__") (some none), He.eqO (PySem.W.findIn K (.ref C) F) (some none),
    He.eqO (PySem.W.findIn K (.ref C) "__init__") (some (some (.ref fI))), decide (PySem.W.typeIn K (.ref fI) = some (.type "function")), PySem.W.keepIn K (.ref C), decide (PySem.W.subIn K (.ref C) (.type "BaseException") = some true),
    decide (PySem.W.subIn K (.ref C) (.type "ValueError") = some true), decide (PySem.W.typeIn K (.ref C) = some (.type "type")), PySem.W.hasDictIn K C, decide (PySem.W.exmOne K (.ref C) (.ref C) = some true),
    He.eqO (PySem.W.ks_superIn K C C "__init__") (some (some (.builtin "ValueError.__init__"))), decide (PySem.W.mroIn K C (.ref C) = some true), He.eqO (PySem.W.nsIn K mainGlobals "super") (some none), He.eqO (PySem.W.nsIn K cStatics "thirdparty.any") (some none),
    (match K.lookup fI with
      | some ⟨_, _, .func fd, _⟩ => (match fd.code, fd.closure with
        | .ref cda, [(_, cc)] => (match K.lookup cda with
          | some ⟨_, _, .fields vs, _⟩ => fileB file vs
          | _ => false) && (match K.lookup cc with
          | some ⟨_, _, .cell (some (.ref D)), _⟩ => decide (D = C)
          | _ => false)
        | _, _ => false)
      | _ => false)]
/-- the def of its __init__ -/
def excD (x q : Str) (st : Stmt) : Def := { ad := fun K => He.ma K (He.ga K x) "__init__", name := "__init__", qual := q, st := st, cl := ["__class__"] }
theorem exc_txt {file : Str} {K : PySem.W.Frag} {x q F txt : Str} {st : Stmt} {fd : FuncData} (nm : Xb.Nm F) (g : Got K (excD x q st) fd) (c : excB file K x F = true)
    (hst : ∃ (p1 p2 : Pos) (kk : Nat) (q1 q2 q3 q4 q5 q6 q7 q8 q9 q10 : Pos), defArgs st = Xb.arg2 F p1 p2 ∧ defBody st = Xb.bod2 F txt kk q1 q2 q3 q4 q5 q6 q7 q8 q9 q10 ∧ defScope st = Xb.sco2 F ∧ (q3.endLine == q5.line) = true) :
    Xb.Txt file K q F txt (He.ga K x) (He.ma K (He.ga K x) "__init__") := by
  obtain ⟨oc, od, dV, kV, doc, pm, an, cdv, ct, osl, cl, h1, h2, h3, h4, h5⟩ := g.ex
  obtain ⟨p1, p2, kk, q1, q2, q3, q4, q5, q6, q7, q8, q9, q10, s1, s2, s3, s4⟩ := hst
  have hdV : dV = .none := by
    rcases h4 with ⟨_, e⟩ | ⟨e, _⟩
    · exact e
    · exact absurd rfl e
  have last := allB_at c 18
  have lk : K.lookup (He.ma K (He.ga K x) "__init__") = some ⟨oc, od, .func fd, osl⟩ := h2
  rw [lk] at last
  rw [h1] at last
  refine ⟨nm, clsVE_ok (allB_at c 1), He.eqO_ok (allB_at c 2), He.eqO_ok (allB_at c 3), He.eqO_ok (allB_at c 4), He.eqO_ok (allB_at c 5), He.eqO_ok (allB_at c 6), of_decide_eq_true (allB_at c 7), allB_at c 8, of_decide_eq_true (allB_at c 9), of_decide_eq_true (allB_at c 10),
    of_decide_eq_true (allB_at c 11), allB_at c 12, of_decide_eq_true (allB_at c 13), He.eqO_ok (allB_at c 14), of_decide_eq_true (allB_at c 15), He.eqO_ok (allB_at c 16), He.eqO_ok (allB_at c 17), ?_⟩
  cases cdv with
  | ref cda =>
    cases cl with
    | nil => cases h5
    | cons y r =>
      obtain ⟨y1, cc⟩ := y
      cases r with
      | cons _ _ => cases h5
      | nil =>
        have e1 : y1 = ("__class__" : Str) := (List.cons.inj h5).1
        subst e1
        obtain ⟨l1, l2⟩ := He.ba (show ((match K.lookup cda with
          | some ⟨_, _, .fields vs, _⟩ => fileB file vs
          | _ => false) && (match K.lookup cc with
          | some ⟨_, _, .cell (some (.ref D)), _⟩ => decide (D = He.ga K x)
          | _ => false)) = true from last)
        refine ⟨oc, od, kV, doc, pm, an, cda, ct, osl, cc, p1, p2, kk, q1, q2, q3, q4, q5, q6, q7, q8, q9, q10, ?_, h3, s4, ?_, ?_⟩
        · rw [lk, h1, hdV]
          show some (⟨oc, od, .func (PySem.W.fnX "__init__" q (defArgs st) (defBody st) (defScope st) [("__class__", cc)] .none kV doc pm an (.ref cda) ct), osl⟩ : Obj) = _
          rw [s1, s2, s3]
        · split at l1
          · rename_i ccl cdd vs ccs hk
            obtain ⟨tf, e⟩ := fileB_ok l1
            exact ⟨_, _, _, _, tf, hk, e⟩
          · cases l1
        · split at l2
          · rename_i a b D c2 hk
            have e := of_decide_eq_true l2
            subst e
            exact ⟨_, _, _, hk⟩
          · cases l2
  | _ => cases last
end Hd
set_option Elab.async false
set_option linter.all false
set_option maxRecDepth 100000
set_option maxHeartbeats 4000000
namespace K09
open PySem PySem.Spec PyProof.Rows L2 Fa Fb
theorem if_true_of {c : Bool} {A B : Prop} (hc : c = true) (h : A) : if c = true then A else B := by
  rw [if_pos hc]
  exact h
theorem if_false_of {c : Bool} {A B : Prop} (hc : c = false) (h : B) : if c = true then A else B := by
  rw [hc, if_neg Bool.false_ne_true]
  exact h


abbrev CA (K : PySem.W.Frag) : Addr := He.ga K "Amount"
abbrev CI (K : PySem.W.Frag) : Addr := He.ga K "InvalidInteger"
abbrev CV (K : PySem.W.Frag) : Addr := He.ga K "InvalidAmount"
abbrev aI (K : PySem.W.Frag) : Addr := He.ma K (CA K) "__init__"
abbrev sWhole : Stmt := top 10
abbrev sIsA : Stmt := top 14
abbrev sAsA : Stmt := top 15
abbrev sInit : Stmt := inClass (top 13) 0
abbrev sTop : Stmt := inClass (top 13) 1
abbrev sBot : Stmt := inClass (top 13) 2
abbrev sEq : Stmt := inClass (top 13) 3
theorem scWhole : FnScope ["value"] ["value"] (defScope sWhole) := ⟨rfl, rfl, rfl, by decide +kernel, rfl, by decide +kernel, by decide +kernel⟩
theorem scIsA : FnScope ["value"] ["value"] (defScope sIsA) := ⟨rfl, rfl, rfl, by decide +kernel, rfl, by decide +kernel, by decide +kernel⟩
theorem scAsA : FnScope ["value"] ["value"] (defScope sAsA) := ⟨rfl, rfl, rfl, by decide +kernel, rfl, by decide +kernel, by decide +kernel⟩
theorem scInit : FnScope ["self", "top", "bottom", "common"] ["self", "top", "bottom"] (defScope sInit) := ⟨rfl, rfl, rfl, by decide +kernel, rfl, by decide +kernel, by decide +kernel⟩
theorem scTop : FnScope ["self"] ["self"] (defScope sTop) := ⟨rfl, rfl, rfl, by decide +kernel, rfl, by decide +kernel, by decide +kernel⟩
theorem scBot : FnScope ["self"] ["self"] (defScope sBot) := ⟨rfl, rfl, rfl, by decide +kernel, rfl, by decide +kernel, by decide +kernel⟩
theorem scEq : FnScope ["self", "other"] ["self", "other"] (defScope sEq) := ⟨rfl, rfl, rfl, by decide +kernel, rfl, by decide +kernel, by decide +kernel⟩
/-- the fields of an amount -/
def fl (t u : Int) : List (Str × V) := putF "_bottom" (.int u) (putF "_top" (.int t) [])
theorem tb : ¬ (("_top" : Str) = "_bottom") := by decide +kernel
theorem fl_top (t u : Int) : (fl t u).lookup ("_top" : Str) = some (.int t) := by
  unfold fl
  rw [lookup_putF, if_neg tb, lookup_putF, if_pos rfl]
theorem fl_bot (t u : Int) : (fl t u).lookup ("_bottom" : Str) = some (.int u) := by
  unfold fl
  rw [lookup_putF, if_pos rfl]
theorem fl_no (t u : Int) {m : Str} (h1 : ¬ m = "_bottom") (h2 : ¬ m = "_top") : (fl t u).lookup m = none := by
  unfold fl
  rw [lookup_putF, if_neg h1, lookup_putF, if_neg h2]
  rfl
/-- x is an amount, in lowest terms, of less than n bits -/
def IsA (K : PySem.W.Frag) (H : Hp) (x : V) (t u : Int) (n : Nat) : Prop := ∃ p dx, x = .ref p ∧ H p = some (.ins (CA K) dx (fl t u)) ∧ Am.Red t u ∧ t.natAbs < 2 ^ n ∧ u.natAbs < 2 ^ n
theorem IsA.same {K : PySem.W.Frag} {H H' : Hp} {x : V} {t u : Int} {n : Nat} (h : IsA K H x t u n) (s : Same H H') : IsA K H' x t u n := by
  obtain ⟨p, dx, e, h1, h2⟩ := h
  exact ⟨p, dx, e, s _ _ h1, h2⟩
/-- whether a value counts as a whole number -/
def Wh (K : PySem.W.Frag) (H : Hp) (x : V) (b : Bool) : Prop := ∃ t b1 b2, TyX K H x t ∧ PySem.W.kitOne K t (.type "int") = some b1 ∧ PySem.W.kitOne K t (.type "bool") = some b2 ∧ b = (b1 && !b2)
theorem wh_int {K : PySem.W.Frag} {H : Hp} (i : Int) : Wh K H (.int i) true := ⟨_, true, false, .base (.int i), kit_ty (by decide +kernel), kit_ty (by decide +kernel), rfl⟩
def tys : List String := ["int", "bool", "NoneType", "str", "list", "tuple", "dict"]
/-- what the written part says of the class -/
structure AF (K : PySem.W.Frag) (mg : Str → Option Value) : Prop where
  cl : Cls K (CA K)
  noT : NoAttr K (CA K) "_top"
  noB : NoAttr K (CA K) "_bottom"
  mkA : Mk K (CA K) (aI K)
  g : mg "Amount" = some (.ref (CA K))
  isi : mg "isinstance" = none
  int : mg "int" = none
  bool : mg "bool" = none
  gcd : mg "gcd" = some (.builtin "math.gcd")
  gI : mg "InvalidInteger" = some (.ref (CI K))
  gV : mg "InvalidAmount" = some (.ref (CV K))
  kI : PySem.W.kitOne K (.ref (CA K)) (.type "int") = some false
  kB : PySem.W.kitOne K (.ref (CA K)) (.type "bool") = some false
  kS : PySem.W.kitOne K (.ref (CA K)) (.ref (CA K)) = some true
  kT : ∀ T ∈ tys, PySem.W.kitOne K (.type T) (.ref (CA K)) = some false
  ca : PySem.W.findIn K (.ref (CA K)) "__class__" = some (some (.builtin "object.__class__"))
  cn : PySem.W.specialIn K (.builtin "object.__class__") "__get__" = some (some (.builtin "getset_descriptor.__get__"))
  ct : PySem.W.takesIn K (.builtin "object.__class__") = some true
  cm : PySem.W.mroIn K (CA K) (.type "object") = some true
section
variable {K : PySem.W.Frag} {mg : Str → Option Value}
theorem AF.ty (T : AF K mg) {H : Hp} {p dx : Addr} {fs : List (Str × V)} (h : H p = some (.ins (CA K) dx fs)) : TyX K H (.ref p) (.ref (CA K)) := .base (.ins h T.cl T.ca T.cn T.ct T.cm)
theorem AF.wh (T : AF K mg) {H : Hp} {p dx : Addr} {fs : List (Str × V)} (h : H p = some (.ins (CA K) dx fs)) : Wh K H (.ref p) false := ⟨_, false, false, T.ty h, T.kI, T.kB, rfl⟩
end
def spWhole (K : PySem.W.Frag) : Sp := fun vs H Q _ => ∃ x b, vs = [x] ∧ Wh K H x b ∧ Q (.bl b) H
/-- an error of the class at C with the one field value = v -/
def Err (C : Addr) (v : V) (H : Hp) (E : XK) : Prop := ∀ d, H d = none → E (.ref C) (some d) (upd H d (.xd [("value", v)]))
def spInit (K : PySem.W.Frag) : Sp := fun vs H Q E => ∃ (p dx : Addr) (x y : V) (bx bz : Bool), vs = [.ref p, x, y] ∧ H p = some (.ins (CA K) dx []) ∧ Wh K H x bx ∧ Wh K H y bz ∧
  (bx = false → Err (CI K) x H E) ∧ (bx = true → bz = false → Err (CI K) y H E) ∧
  (bx = true → bz = true → ∃ a b : Int, x = .int a ∧ y = .int b ∧ (b = 0 → Err (CI K) y H E) ∧
    (b ≠ 0 → b.natAbs < 2 ^ 8000 ∧ ∀ t u : Int, Am.Red t u → t * b = a * u → t.natAbs ≤ a.natAbs → u.natAbs ≤ b.natAbs → Q .non (upd H p (.ins (CA K) dx (fl t u)))))
section
variable {X : Cx}
theorem op_fdivX : OpR X (binaryOp .FloorDiv) (rI (fun _ j => j ≠ 0 ∧ j.natAbs.log2 < 9000) fun i j => .int (i.fdiv j)) := opI fun _ _ _ _ _ _ _ hc q => floordiv_int hc.1 q (.inl (PyProof.noPylong_of_log2 hc.2))
theorem boot_isi : bootBuiltins "isinstance" = some (.builtin "isinstance") := by decide +kernel
theorem pe_isi {e c : Expr} {te tc : TE} {p pos : Pos} (hm : X.mg "isinstance" = none) (he : PE X e te) (hc : PE X c tc) (hg : Gl X "isinstance" := by rfl)
    (hs : starEach (e :: [c]) X.env = (false, eval e X.env) :: starEach [c] X.env := by rfl) (hs2 : starEach (c :: []) X.env = (false, eval c X.env) :: starEach [] X.env := by rfl) (hpl : (backTo pos (starEach [c] X.env)).any (·.1) = false := by rfl) : PE X (.Call (.Name "isinstance" p) [e, c] [] pos) (tCB (rIsi X.K) (tCons te (tCons tc tNil))) :=
  pe_callB call_isi hg hm boot_isi (pa_cons he (pa_cons hc pa_nil hs2) hs) (by decide) (by decide) hs hpl
theorem pe_ty {x : Str} {n : String} {p : Pos} (hm : X.mg x = none) (hv : bootBuiltins x = some (.type n)) (hg : Gl X x := by rfl) (hn : x ≠ "__name__" := by decide) (hd : (x == ("__debug__" : Str)) = false := by decide) : PE X (.Name x p) (tC (.ty n)) := pe_bltn hg hm hv rfl hn hd
theorem boot_int' : bootBuiltins "int" = some (.type "int") := by decide +kernel
theorem boot_bool' : bootBuiltins "bool" = some (.type "bool") := by decide +kernel
end
section
variable {P : Program} {w : World} {K : PySem.W.Frag} {mg : Str → Option Value} {base : Heap} {f fW : Addr} {fd fdW : FuncData} {F' : Str} {qi ti qv tv : Str} {fI fV : Addr}
theorem ok_whole (F : FnP K "is_whole" sWhole f fd) (T : AF K mg) {CX : CXT} : FnOk P w K mg base CX 1 f fd ["value"] (spWhole K) := by
  refine F.ok scWhole (fun vs H Q E h => ?_) (fun cdv A outer s H vs Q E hr h => ?_)
  · obtain ⟨x, b, rfl, _⟩ := h
    rfl
  · obtain ⟨x, b, rfl, ⟨t, b1, b2, ty, k1, k2, rfl⟩, q⟩ := h
    refine ⟨_, pss_one (ps_ret (pe_and (pe_isi T.isi (pv 0) (pe_ty T.int boot_int')) (pe_one (pe_not (pe_isi T.isi (pv 0) (pe_ty T.bool boot_bool')))))), ?_⟩
    refine ⟨_, rfl, x, _, t, _, b1, rfl, .ty "int", ty, k1, b1, rfl, ?_⟩
    cases b1 with
    | false => exact iteF q
    | true => exact iteT ⟨_, rfl, x, _, t, _, b2, rfl, .ty "bool", ty, k2, b2, rfl, q⟩
theorem ok_init (F : FunD K "__init__" "Amount.__init__" (defArgs sInit) (defBody sInit) (defScope sInit) [.int 1] [] f fd) (T : AF K mg) (FW : FnP K "is_whole" sWhole fW fdW) (gW : mg "is_whole" = some (.ref fW))
    (XI : Xb.Txt P.main.file K qi "value" ti (CI K) fI) (htop : (P.main.scope.names.lookup ("super" : Str)).isSome = false) : FnOk P w K mg base (L2.CX P w) 4 f fd ["self", "top", "bottom"] (spInit K) := by
  have GW : FnOk P w K mg base (L2.CX P w) 1 fW fdW ["value"] (spWhole K) := ok_whole FW T
  have bW : Binds K fdW ["value"] [] := FW.bindsN fun _ _ _ _ _ _ us hl => match us, hl with | [_], _ => rfl
  refine F.ok scInit (fun vs H Q E h => ?_) (fun cdv A outer s H vs Q E hr h => ?_)
  · obtain ⟨p, dx, x, y, bx, bz, rfl, _⟩ := h
    rfl
  · obtain ⟨p, dx, x, y, bx, bz, rfl, hp, wx, wy, e1, e2, e3⟩ := h
    have hr1 := hr.mono (show 1 ≤ 3 by decide)
    refine ⟨_, pss_cons (ps_if (pt_not (pt_val (pe_call GW hr1 rfl gW FW.kp bW .nil passL (pa_cons (pv 1) pa_nil)))) (pss_one (Xb.ps_raiseX (W := fun cls d _ H => E cls d H) rfl XI T.gI htop hr1 (takes_of rfl rfl rfl rfl) (pa_cons (pv 1) pa_nil))) pss_nil)
      (pss_cons (ps_if (PW.pt (pw_or (pt_not (pt_val (pe_call GW hr1 rfl gW FW.kp bW .nil passL (pa_cons (pv 2) pa_nil)))) (pw_or1 (pt_cmpR op_eq (pv 2) pe_int (nomark _)))))
        (pss_one (Xb.ps_raiseX (W := fun cls d _ H => E cls d H) rfl XI T.gI htop hr1 (takes_of rfl rfl rfl rfl) (pa_cons (pv 2) pa_nil))) pss_nil)
      (pss_cons (ps_set (i := 3) scInit.nd rfl (Or.inl rfl) (pe_callBfun cr_gcd rfl T.gcd (pa_cons (pv 1) (pa_cons (pv 2) pa_nil))))
      (pss_cons (ps_if (pt_cmpR op_lt (pv 2) pe_int (nomark _)) (pss_one (ps_set (i := 3) scInit.nd rfl (Or.inl rfl) (pe_un un_neg (pv 3)))) pss_nil)
      (pss_cons (ps_fld (pv 0) (pe_op op_fdivX (pv 1) (pv 3)) rfl)
      (pss_one (ps_fld (pv 0) (pe_op op_fdivX (pv 2) (pv 3)) rfl)))))), ?_⟩
    refine ⟨_, rfl, x, bx, rfl, wx, bx, rfl, ?_⟩
    cases bx with
    | false => exact iteT ⟨_, rfl, _, rfl, e1 rfl⟩
    | true =>
      refine iteF ⟨_, rfl, y, bz, rfl, wy, bz, rfl, ?_⟩
      cases bz with
      | false => exact iteT (iteT ⟨_, rfl, _, rfl, e2 rfl rfl⟩)
      | true =>
        obtain ⟨a, b, rfl, rfl, e4, e5⟩ := e3 rfl rfl
        refine iteF ⟨_, rfl, rfl, _, rfl, ?_⟩
        by_cases hb : b = 0
        · subst hb
          refine if_true_of (decide_eq_true rfl) ⟨_, rfl, _, rfl, e4 rfl⟩
        · refine if_false_of (decide_eq_false fun z => hb (V.int.inj z)) ?_
          obtain ⟨e6, e7⟩ := e5 hb
          obtain ⟨m1, m2, m3, m4, m5, m6⟩ := Am.mk a b hb _ rfl
          refine ⟨_, rfl, _, rfl, a, b, rfl, ?_⟩
          have fin : ∀ c : Int, c = (if b < 0 then -((Nat.gcd a.natAbs b.natAbs : Nat) : Int) else ((Nat.gcd a.natAbs b.natAbs : Nat) : Int)) →
              tSeq (sFld K (tVar 0) (tOp (rI (fun _ j => j ≠ 0 ∧ j.natAbs.log2 < 9000) fun i j => .int (i.fdiv j)) (tVar 1) (tVar 3)) "_top") (sFld K (tVar 0) (tOp (rI (fun _ j => j ≠ 0 ∧ j.natAbs.log2 < 9000) fun i j => .int (i.fdiv j)) (tVar 2) (tVar 3)) "_bottom")
                { nx := fun _ H' => Q .non H', rt := Q } [some (.ref p), some (.int a), some (.int b), some (.int c)] H := fun c hc => by
            rw [← hc] at m1 m2 m3 m4 m5 m6
            have lg : c.natAbs.log2 < 9000 := Nat.lt_trans ((Nat.log2_lt (by omega)).mpr (Nat.lt_of_le_of_lt m2 e6)) (by decide)
            refine ⟨_, rfl, _, rfl, _, _, rfl, rfl, ⟨m1, lg⟩, _, rfl, p, CA K, dx, [], rfl, hp, T.cl, T.noT, (by show 0 < 1000; decide), ?_⟩
            refine ⟨_, rfl, _, rfl, _, _, rfl, rfl, ⟨m1, lg⟩, _, rfl, p, CA K, dx, _, rfl, upd_same, T.cl, T.noB, (by show 1 < 1000; decide), ?_⟩
            rw [upd_upd]
            exact e7 _ _ m3 m4 m5 m6
          refine ⟨_, rfl, _, _, rfl, rfl, _, rfl, ?_⟩
          refine ite2 (fun c => ?_) (fun c => ?_)
          · have c2 : b < 0 := of_decide_eq_true c
            refine ⟨_, rfl, _, rfl, ?_⟩
            exact fin _ (by rw [if_pos c2])
          · have c2 : ¬ b < 0 := fun z => c (decide_eq_true z)
            exact fin _ (by rw [if_neg c2])
end

end K09
set_option Elab.async false
set_option linter.all false
set_option maxRecDepth 100000
set_option maxHeartbeats 4000000
namespace K09
open PySem PySem.Spec PyProof.Rows L2 Fa Fb


/-- an argument that counts as an amount -/
def Arg (K : PySem.W.Frag) (H : Hp) (x : V) (t u : Int) (n : Nat) : Prop := IsA K H x t u n ∨ (x = .int t ∧ u = 1 ∧ t.natAbs < 2 ^ n ∧ 1 ≤ n)
/-- one that doesn't -/
def Bad (K : PySem.W.Frag) (H : Hp) (x : V) : Prop := ∃ T, TyX K H x T ∧ PySem.W.kitOne K T (.ref (CA K)) = some false ∧ Wh K H x false
def spIsA (K : PySem.W.Frag) : Sp := fun vs H Q _ => ∃ x t b1 b2, vs = [x] ∧ TyX K H x t ∧ PySem.W.kitOne K t (.ref (CA K)) = some b1 ∧ Wh K H x b2 ∧ Q (.bl (b1 || b2)) H
def spAs (K : PySem.W.Frag) : Sp := fun vs H Q E => ∃ x, vs = [x] ∧ ((Bad K H x ∧ Err (CV K) x H E) ∨ ∃ t u n, Arg K H x t u n ∧ ∀ y H', Same H H' → IsA K H' y t u n → Q y H')
def spEq (K : PySem.W.Frag) : Sp := fun vs H Q _ => ∃ x y t u n, vs = [x, y] ∧ IsA K H x t u n ∧ ((∃ t2 u2 m, IsA K H y t2 u2 m ∧ Q (.bl (decide (t = t2) && decide (u = u2))) H) ∨ (∃ T, TyX K H y (.type T) ∧ PySem.W.kitOne K (.type T) (.ref (CA K)) = some false ∧ Q (.bl false) H))
section
variable {K : PySem.W.Frag} {mg : Str → Option Value}
theorem make_read (T : AF K mg) {H : Hp} {Q : VK} {E : XK} {a b : Int} {n : Nat} (hb : b ≠ 0) (hs : n ≤ 8000) (ha : a.natAbs < 2 ^ n) (hbn : b.natAbs < 2 ^ n)
    (k : ∀ y H' t u, Same H H' → IsA K H' y t u n → t * b = a * u → Q y H') : ∀ x dx, H x = none → H dx = none → dx ≠ x →
    spInit K [.ref x, .int a, .int b] (upd (upd H dx (.own x)) x (.ins (CA K) dx [])) (fun v H2 => v = .non ∧ Q (.ref x) H2) E := by
  intro x dx hx hdx hne
  refine ⟨x, dx, .int a, .int b, true, true, rfl, upd_same, wh_int _, wh_int _, (fun z => by cases z), (fun _ z => by cases z), fun _ _ => ⟨a, b, rfl, rfl, fun z => absurd z hb, fun _ => ⟨?_, fun t u r e h1 h2 => ⟨rfl, ?_⟩⟩⟩⟩
  · exact Nat.lt_of_lt_of_le hbn (Nat.pow_le_pow_right (by decide) hs)
  · refine k _ _ t u (fun c o z => ?_) ⟨x, dx, rfl, upd_same, r, Nat.lt_of_le_of_lt h1 ha, Nat.lt_of_le_of_lt h2 hbn⟩ e
    rw [upd_upd, upd_ne (ne_of_none z hx), upd_ne (ne_of_none z hdx)]
    exact z
theorem spInit_imp {vs : List V} {H : Hp} {Q Q' : VK} {E : XK} (h : spInit K vs H Q E) (k : ∀ v H2, Q v H2 → Q' v H2) : spInit K vs H Q' E := by
  obtain ⟨p, dx, x, y, bx, bz, e, hp, wx, wy, e1, e2, e3⟩ := h
  refine ⟨p, dx, x, y, bx, bz, e, hp, wx, wy, e1, e2, fun h1 h2 => ?_⟩
  obtain ⟨a, b, ea, eb, f1, f2⟩ := e3 h1 h2
  exact ⟨a, b, ea, eb, f1, fun hb => ⟨(f2 hb).1, fun t u r e4 e5 e6 => k _ _ ((f2 hb).2 t u r e4 e5 e6)⟩⟩
def MadeA (K : PySem.W.Frag) (H H2 : Hp) (x : Addr) (a b : Int) (n : Nat) : Prop := ∃ t u, Same H H2 ∧ IsA K H2 (.ref x) t u n ∧ t * b = a * u
theorem make_fact (T : AF K mg) {H : Hp} {E : XK} {a b : Int} {n : Nat} (hb : b ≠ 0) (hs : n ≤ 8000) (ha : a.natAbs < 2 ^ n) (hbn : b.natAbs < 2 ^ n) {x dx : Addr} (hx : H x = none) (hdx : H dx = none) (hne : dx ≠ x) :
    spInit K [.ref x, .int a, .int b] (upd (upd H dx (.own x)) x (.ins (CA K) dx [])) (fun v H2 => v = .non ∧ MadeA K H H2 x a b n) E := by
  refine ⟨x, dx, .int a, .int b, true, true, rfl, upd_same, wh_int _, wh_int _, (fun z => by cases z), (fun _ z => by cases z), fun _ _ => ⟨a, b, rfl, rfl, fun z => absurd z hb, fun _ => ⟨?_, fun t u r e h1 h2 => ⟨rfl, t, u, fun c o z => ?_, ⟨x, dx, rfl, upd_same, r, Nat.lt_of_le_of_lt h1 ha, Nat.lt_of_le_of_lt h2 hbn⟩, e⟩⟩⟩⟩
  · exact Nat.lt_of_lt_of_le hbn (Nat.pow_le_pow_right (by decide) hs)
  · rw [upd_upd, upd_ne (ne_of_none z hx), upd_ne (ne_of_none z hdx)]
    exact z
theorem one_pow {n : Nat} (h : 1 ≤ n) : (1 : Nat) < 2 ^ n := Nat.one_lt_two_pow (by omega)
theorem lt_pow_mul {a b n m : Nat} (h1 : a < 2 ^ n) (h2 : b < 2 ^ m) : a * b < 2 ^ (n + m) := by
  rw [Nat.pow_add]
  exact Nat.mul_lt_mul'' h1 h2
theorem mulW_of {i j : Int} {n m : Nat} (h1 : i.natAbs < 2 ^ n) (h2 : j.natAbs < 2 ^ m) (h : n + m < 900000) : CMulW i j := by
  have l : ∀ (x : Int) (k : Nat), x.natAbs < 2 ^ k → x.natAbs.log2 ≤ k := fun x k hx => by
    by_cases z : x.natAbs = 0
    · rw [z]
      exact Nat.zero_le _
    · exact Nat.le_of_lt ((Nat.log2_lt z).mpr hx)
  have a1 := l i n h1
  have a2 := l j m h2
  show i.natAbs.log2 + j.natAbs.log2 < 1000000
  omega
theorem abs_mul_lt {i j : Int} {n m : Nat} (h1 : i.natAbs < 2 ^ n) (h2 : j.natAbs < 2 ^ m) : (i * j).natAbs < 2 ^ (n + m) := by
  rw [Int.natAbs_mul]
  exact lt_pow_mul h1 h2
theorem abs_add_lt {i j : Int} {n : Nat} (h1 : i.natAbs < 2 ^ n) (h2 : j.natAbs < 2 ^ n) : (i + j).natAbs < 2 ^ (n + 1) := by
  have := Int.natAbs_add_le i j
  rw [Nat.pow_succ]
  omega
theorem abs_sub_lt {i j : Int} {n : Nat} (h1 : i.natAbs < 2 ^ n) (h2 : j.natAbs < 2 ^ n) : (i - j).natAbs < 2 ^ (n + 1) := by
  have := Int.natAbs_sub_le i j
  rw [Nat.pow_succ]
  omega
theorem pow_step {a n m : Nat} (h : a < 2 ^ n) (hm : n ≤ m) : a < 2 ^ m := Nat.lt_of_lt_of_le h (Nat.pow_le_pow_right (by decide) hm)
theorem IsA.one (h : IsA K H x t u n) : 1 ≤ n := by
  obtain ⟨p, dx, _, _, ⟨h1, _⟩, _, h2⟩ := h
  rcases Nat.eq_zero_or_pos n with z | z
  · subst z
    have : u.natAbs < 1 := h2
    omega
  · exact z
end
section
variable {P : Program} {w : World} {K : PySem.W.Frag} {mg : Str → Option Value} {base : Heap} {f fW : Addr} {fd fdW fdI fdA : FuncData} {qi ti qv tv : Str} {fI fV fAs : Addr}
theorem ok_top (F : FunD K "top" "Amount.top" (defArgs sTop) (defBody sTop) (defScope sTop) [] [] f fd) (T : AF K mg) {CX : CXT} : FnOk P w K mg base CX 1 f fd ["self"] (getSp (CA K) "_top") := by
  refine F.ok scTop (fun vs H Q E h => ?_) (fun cdv A outer s H vs Q E hr h => ?_)
  · obtain ⟨a, dx, fs, v, rfl, _⟩ := h
    rfl
  · obtain ⟨a, dx, fs, v, rfl, h1, h2, q⟩ := h
    exact ⟨_, pss_one (ps_ret (pe_fld (pv 0) rfl)), .ref a, rfl, a, CA K, dx, fs, v, rfl, h1, T.cl, T.noT, h2, q⟩
theorem ok_bot (F : FunD K "bottom" "Amount.bottom" (defArgs sBot) (defBody sBot) (defScope sBot) [] [] f fd) (T : AF K mg) {CX : CXT} : FnOk P w K mg base CX 1 f fd ["self"] (getSp (CA K) "_bottom") := by
  refine F.ok scBot (fun vs H Q E h => ?_) (fun cdv A outer s H vs Q E hr h => ?_)
  · obtain ⟨a, dx, fs, v, rfl, _⟩ := h
    rfl
  · obtain ⟨a, dx, fs, v, rfl, h1, h2, q⟩ := h
    exact ⟨_, pss_one (ps_ret (pe_fld (pv 0) rfl)), .ref a, rfl, a, CA K, dx, fs, v, rfl, h1, T.cl, T.noB, h2, q⟩
theorem ok_eq (F : FunD K "__eq__" "Amount.__eq__" (defArgs sEq) (defBody sEq) (defScope sEq) [] [] f fd) (T : AF K mg) {CX : CXT} : FnOk P w K mg base CX 1 f fd ["self", "other"] (spEq K) := by
  refine F.ok scEq (fun vs H Q E h => ?_) (fun cdv A outer s H vs Q E hr h => ?_)
  · obtain ⟨x, y, t, u, n, rfl, _⟩ := h
    rfl
  · obtain ⟨x, y, t, u, n, rfl, ⟨p, dx, rfl, hp, _⟩, q⟩ := h
    refine ⟨_, pss_one (ps_ret (pe_and (pe_isi T.isi (pv 1) (pe_glob (v := .ref (CA K)) rfl T.g rfl)) (pe_and (pe_cmpR op_eq (pe_fld (pv 0) rfl) (pe_fld (pv 1) rfl) (nomark _)) (pe_one (pe_cmpR op_eq (pe_fld (pv 0) rfl) (pe_fld (pv 1) rfl) (nomark _)))))), ?_⟩
    rcases q with ⟨t2, u2, m, ⟨p2, dx2, rfl, hp2, _⟩, q⟩ | ⟨Ty, ty, hk, q⟩
    · refine ⟨_, rfl, .ref p2, _, _, _, true, rfl, .own _, T.ty hp2, T.kS, true, rfl, iteT ?_⟩
      refine ⟨_, rfl, p, CA K, dx, _, _, rfl, hp, T.cl, T.noT, fl_top _ _, _, rfl, p2, CA K, dx2, _, _, rfl, hp2, T.cl, T.noT, fl_top _ _, rfl, decide (V.int t = V.int t2), rfl, ?_⟩
      by_cases e : t = t2
      · subst e
        refine if_true_of (decide_eq_true rfl) ?_
        refine ⟨_, rfl, p, CA K, dx, _, _, rfl, hp, T.cl, T.noB, fl_bot _ _, _, rfl, p2, CA K, dx2, _, _, rfl, hp2, T.cl, T.noB, fl_bot _ _, rfl, ?_⟩
        rw [decide_eq_true rfl, Bool.true_and] at q
        by_cases e2 : u = u2
        · subst e2
          rw [decide_eq_true rfl] at q
          show Q (.bl (decide (V.int u = V.int u))) H
          rw [decide_eq_true rfl]
          exact q
        · rw [decide_eq_false e2] at q
          show Q (.bl (decide (V.int u = V.int u2))) H
          rw [decide_eq_false fun z => e2 (V.int.inj z)]
          exact q
      · refine if_false_of (decide_eq_false fun z => e (V.int.inj z)) ?_
        rw [decide_eq_false e, Bool.false_and] at q
        exact q
    · exact ⟨_, rfl, y, _, _, _, false, rfl, .own _, ty, hk, false, rfl, iteF q⟩
theorem ok_isA (F : FnP K "is_amount" sIsA f fd) (T : AF K mg) (FW : FnP K "is_whole" sWhole fW fdW) (gW : mg "is_whole" = some (.ref fW)) : FnOk P w K mg base (L2.CX P w) 2 f fd ["value"] (spIsA K) := by
  have GW : FnOk P w K mg base (L2.CX P w) 1 fW fdW ["value"] (spWhole K) := ok_whole FW T
  have bW : Binds K fdW ["value"] [] := FW.bindsN fun _ _ _ _ _ _ us hl => match us, hl with | [_], _ => rfl
  refine F.ok scIsA (fun vs H Q E h => ?_) (fun cdv A outer s H vs Q E hr h => ?_)
  · obtain ⟨x, t, b1, b2, rfl, _⟩ := h
    rfl
  · obtain ⟨x, t, b1, b2, rfl, ty, k1, wh, q⟩ := h
    refine ⟨_, pss_one (ps_ret (pe_or (pe_isi T.isi (pv 0) (pe_glob (v := .ref (CA K)) rfl T.g rfl)) (pe_one (pe_call GW hr rfl gW FW.kp bW .nil passL (pa_cons (pv 0) pa_nil))))), ?_⟩
    refine ⟨_, rfl, x, _, t, _, b1, rfl, .own _, ty, k1, b1, rfl, ?_⟩
    cases b1 with
    | true => exact iteT q
    | false => exact iteF ⟨_, rfl, x, b2, rfl, wh, q⟩
theorem ok_as (F : FnP K "as_amount" sAsA f fd) (T : AF K mg) (FW : FnP K "is_whole" sWhole fW fdW) (gW : mg "is_whole" = some (.ref fW)) (FA : FnP K "is_amount" sIsA fAs fdA) (gA : mg "is_amount" = some (.ref fAs))
    (FI : FunD K "__init__" "Amount.__init__" (defArgs sInit) (defBody sInit) (defScope sInit) [.int 1] [] (aI K) fdI)
    (XI : Xb.Txt P.main.file K qi "value" ti (CI K) fI) (XV : Xb.Txt P.main.file K qv "value" tv (CV K) fV) (htop : (P.main.scope.names.lookup ("super" : Str)).isSome = false) : FnOk P w K mg base (L2.CX P w) 6 f fd ["value"] (spAs K) := by
  have GA : FnOk P w K mg base (L2.CX P w) 2 fAs fdA ["value"] (spIsA K) := ok_isA FA T FW gW
  have bA : Binds K fdA ["value"] [] := FA.bindsN fun _ _ _ _ _ _ us hl => match us, hl with | [_], _ => rfl
  have GI : FnOk P w K mg base (L2.CX P w) 4 (aI K) fdI ["self", "top", "bottom"] (spInit K) := ok_init FI T FW gW XI htop
  obtain ⟨ds, hds, bI⟩ := FI.binds1 (ps := ["self", "top", "bottom"]) 2 0 (by simp) rfl (fun _ _ _ _ _ _ _ us its hu hi => match us, its, hu, hi with | [_, _], [_], _, _ => ⟨_, rfl, rfl⟩)
  refine F.ok scAsA (fun vs H Q E h => ?_) (fun cdv A outer s H vs Q E hr h => ?_)
  · obtain ⟨x, rfl, _⟩ := h
    rfl
  · obtain ⟨x, rfl, q⟩ := h
    have hr1 := hr.mono (show 2 ≤ 5 by decide)
    refine ⟨_, pss_cons (ps_if (pt_not (pt_val (pe_call GA hr1 rfl gA FA.kp bA .nil passL (pa_cons (pv 0) pa_nil)))) (pss_one (Xb.ps_raiseX (W := fun cls d _ H => E cls d H) rfl XV T.gV htop hr1 (takes_of rfl rfl rfl rfl) (pa_cons (pv 0) pa_nil))) pss_nil)
      (pss_one (ps_ret (pe_ifExp (pt_val (pe_isi T.isi (pv 0) (pe_glob (v := .ref (CA K)) rfl T.g rfl))) (pv 0) (pe_make T.mkA GI hr rfl T.g bI hds passL (pa_cons (pv 0) pa_nil))))), ?_⟩
    rcases q with ⟨⟨Ty, ty, hT, wh⟩, er⟩ | ⟨t, u, n, ar, q⟩
    · refine ⟨_, rfl, x, _, false, false, rfl, ty, hT, wh, false, rfl, iteT ⟨_, rfl, _, rfl, er⟩⟩
    · rcases ar with ia | ⟨rfl, rfl, hn, h1⟩
      · obtain ⟨p, dx, rfl, hp, r⟩ := id ia
        refine ⟨_, rfl, .ref p, _, true, false, rfl, T.ty hp, T.kS, T.wh hp, true, rfl, iteF ?_⟩
        exact ⟨_, rfl, .ref p, _, _, _, true, rfl, .own _, T.ty hp, T.kS, true, rfl, iteT ⟨_, rfl, q _ _ (Same.refl _) ia⟩⟩
      · have kI := T.kT "int" (by simp [tys])
        refine ⟨_, rfl, .int t, _, false, true, rfl, .base (.int t), kI, wh_int t, true, rfl, iteF ?_⟩
        refine ⟨_, rfl, .int t, _, _, _, false, rfl, .own _, .base (.int t), kI, false, rfl, iteF ⟨_, rfl, ?_⟩⟩
        intro y dy hy hdy hne
        refine ⟨y, dy, .int t, .int 1, true, true, rfl, upd_same, wh_int _, wh_int _, (fun z => by cases z), (fun _ z => by cases z), fun _ _ => ⟨t, 1, rfl, rfl, (fun z => by cases z), fun _ => ⟨by decide, fun t' u' r e h2 h3 => ⟨rfl, ?_⟩⟩⟩⟩
        have eu : u' = 1 := by
          have r0 := r.1
          have : u'.natAbs ≤ 1 := h3
          omega
        subst eu
        have et : t' = t := by omega
        subst et
        refine q _ _ (fun c o z => ?_) ⟨y, dy, rfl, upd_same, r, hn, by show (1 : Nat) < _; exact one_pow h1⟩
        rw [upd_upd, upd_ne (ne_of_none z hy), upd_ne (ne_of_none z hdy)]
        exact z
end

end K09
set_option Elab.async false
set_option linter.all false
set_option maxRecDepth 100000
set_option maxHeartbeats 4000000
set_option exponentiation.threshold 100000
namespace K09
open PySem PySem.Spec PyProof.Rows L2 Fa Fb


theorem IsA.mono {K : PySem.W.Frag} {H : Hp} {x : V} {t u : Int} {n m : Nat} (h : IsA K H x t u n) (e : n ≤ m) : IsA K H x t u m := by
  obtain ⟨p, dx, h1, h2, h3, h4, h5⟩ := h
  exact ⟨p, dx, h1, h2, h3, pow_step h4 e, pow_step h5 e⟩
abbrev gFl (K : PySem.W.Frag) (i : Nat) (f : Str) : TE := tFld K (tVar i) f
/-- a two-place operation: num and den are the fraction that is due -/
def spOp (K : PySem.W.Frag) (num den : Int → Int → Int → Int → Int) : Sp := fun vs H Q E => ∃ x y t u n, vs = [x, y] ∧ IsA K H x t u n ∧ ((Bad K H y ∧ Err (CV K) y H E) ∨ ∃ t2 u2 m, Arg K H y t2 u2 m ∧ n + m < 7000 ∧
  ∀ z H' t' u', Same H H' → IsA K H' z t' u' (n + m + 1) → t' * den t u t2 u2 = num t u t2 u2 * u' → Q z H')
def spDiv (K : PySem.W.Frag) : Sp := fun vs H Q E => ∃ x y t u n, vs = [x, y] ∧ IsA K H x t u n ∧ ((Bad K H y ∧ Err (CV K) y H E) ∨ ∃ t2 u2 m, Arg K H y t2 u2 m ∧ n + m < 7000 ∧
  (t2 = 0 → ∀ H', Same H H' → Err (CV K) y H' E) ∧ (t2 ≠ 0 → ∀ z H' t' u', Same H H' → IsA K H' z t' u' (n + m + 1) → t' * (u * t2) = (t * u2) * u' → Q z H'))
def spCmp (K : PySem.W.Frag) : Sp := fun vs H Q E => ∃ x y t u n, vs = [x, y] ∧ IsA K H x t u n ∧ ((Bad K H y ∧ Err (CV K) y H E) ∨ ∃ t2 u2 m, Arg K H y t2 u2 m ∧ n + m < 7000 ∧
  ∀ H', Same H H' → Q (.int (if t * u2 - t2 * u = 0 then 0 else if 0 < t * u2 - t2 * u then 1 else -1)) H')
def spUn (K : PySem.W.Frag) (g : Int → Int) : Sp := fun vs H Q _ => ∃ x t u n, vs = [x] ∧ IsA K H x t u n ∧ n ≤ 8000 ∧ ∀ z H' t' u', Same H H' → IsA K H' z t' u' n → t' * u = g t * u' → Q z H'
section
variable {P : Program} {w : World} {K : PySem.W.Frag} {mg : Str → Option Value} {base : Heap} {f fS : Addr} {fd fdS fdI : FuncData} {qv tv : Str} {fV : Addr}

abbrev sAdd : Stmt := inClass (top 13) 4
theorem scAdd : FnScope ["self", "other", "right"] ["self", "other"] (defScope sAdd) := ⟨rfl, rfl, rfl, by decide +kernel, rfl, by decide +kernel, by decide +kernel⟩
theorem ok_add (F : FunD K "__add__" "Amount.__add__" (defArgs sAdd) (defBody sAdd) (defScope sAdd) [] [] f fd) (T : AF K mg) (GS : FnOk P w K mg base (L2.CX P w) 6 fS fdS ["value"] (spAs K)) (gS : mg "as_amount" = some (.ref fS)) (kS : PySem.W.keepIn K (.ref fS) = true) (bS : Binds K fdS ["value"] [])
    (GI : FnOk P w K mg base (L2.CX P w) 4 (aI K) fdI ["self", "top", "bottom"] (spInit K)) (bI : Binds K fdI ["self", "top", "bottom"] []) : FnOk P w K mg base (L2.CX P w) 7 f fd ["self", "other"] (spOp K (fun t u t2 u2 => t * u2 + t2 * u) (fun _ u _ u2 => u * u2)) := by
  refine F.ok scAdd (fun vs H Q E h => ?_) (fun cdv A outer s H vs Q E hr h => ?_)
  · obtain ⟨x, y, t, u, n, rfl, _⟩ := h
    rfl
  · obtain ⟨x, y, t, u, n, rfl, ix, q⟩ := h
    have hr1 := hr.mono (show 5 ≤ 6 by decide)
    refine ⟨_, pss_cons (ps_set (i := 2) scAdd.nd rfl (Or.inl rfl) (pe_callS GS hr rfl gS kS bS (fun σ => passAt (W := fun cls d _ H => E cls d H) (takes_of rfl rfl rfl rfl) σ) (pa_cons (pv 1) pa_nil)))
      (pss_one (ps_ret (pe_make T.mkA GI hr1 rfl T.g bI .nil passL (pa_cons (pe_op op_add (pe_op op_mulW (pe_fld (pv 0) rfl) (pe_fld (pv 2) rfl)) (pe_op op_mulW (pe_fld (pv 2) rfl) (pe_fld (pv 0) rfl))) (pa_cons (pe_op op_mulW (pe_fld (pv 0) rfl) (pe_fld (pv 2) rfl)) pa_nil))))), ?_⟩
    refine ⟨_, rfl, y, rfl, ?_⟩
    rcases q with ⟨hb, er⟩ | ⟨t2, u2, m, ar, hnm, q⟩
    · exact .inl ⟨hb, er⟩
    · refine .inr ⟨t2, u2, m, ar, fun z H' sm iz => ?_⟩
      have ix' := ix.same sm
      obtain ⟨p, dx, rfl, hp, r, b1, b2⟩ := id ix'
      obtain ⟨p2, dx2, rfl, hp2, r2, b3, b4⟩ := id iz
      refine ⟨_, rfl, p, CA K, dx, _, _, rfl, hp, T.cl, T.noT, fl_top _ _, ?_⟩
      refine ⟨_, rfl, p2, CA K, dx2, _, _, rfl, hp2, T.cl, T.noB, fl_bot _ _, ?_⟩
      refine ⟨_, _, rfl, rfl, mulW_of b1 b4 (by omega), ?_⟩
      refine ⟨_, rfl, p2, CA K, dx2, _, _, rfl, hp2, T.cl, T.noT, fl_top _ _, ?_⟩
      refine ⟨_, rfl, p, CA K, dx, _, _, rfl, hp, T.cl, T.noB, fl_bot _ _, ?_⟩
      refine ⟨_, _, rfl, rfl, mulW_of b3 b2 (by omega), _, _, rfl, rfl, ?_⟩
      refine ⟨_, rfl, p, CA K, dx, _, _, rfl, hp, T.cl, T.noB, fl_bot _ _, ?_⟩
      refine ⟨_, rfl, p2, CA K, dx2, _, _, rfl, hp2, T.cl, T.noB, fl_bot _ _, ?_⟩
      refine ⟨_, _, rfl, rfl, mulW_of b2 b4 (by omega), ?_⟩
      have hu : u * u2 ≠ 0 := Int.mul_ne_zero (by have := r.1; omega) (by have := r2.1; omega)
      refine make_read T (n := n + m + 1) hu (by omega) ?_ ?_ fun y' H2 t' u' s2 i2 e => q y' H2 t' u' (sm.trans s2) i2 e
      · exact abs_add_lt (abs_mul_lt b1 b4) (by rw [Nat.add_comm]; exact abs_mul_lt b3 b2)
      · exact pow_step (abs_mul_lt b2 b4) (by omega)

abbrev sSub : Stmt := inClass (top 13) 5
theorem scSub : FnScope ["self", "other", "right"] ["self", "other"] (defScope sSub) := ⟨rfl, rfl, rfl, by decide +kernel, rfl, by decide +kernel, by decide +kernel⟩
theorem ok_sub (F : FunD K "__sub__" "Amount.__sub__" (defArgs sSub) (defBody sSub) (defScope sSub) [] [] f fd) (T : AF K mg) (GS : FnOk P w K mg base (L2.CX P w) 6 fS fdS ["value"] (spAs K)) (gS : mg "as_amount" = some (.ref fS)) (kS : PySem.W.keepIn K (.ref fS) = true) (bS : Binds K fdS ["value"] [])
    (GI : FnOk P w K mg base (L2.CX P w) 4 (aI K) fdI ["self", "top", "bottom"] (spInit K)) (bI : Binds K fdI ["self", "top", "bottom"] []) : FnOk P w K mg base (L2.CX P w) 7 f fd ["self", "other"] (spOp K (fun t u t2 u2 => t * u2 - t2 * u) (fun _ u _ u2 => u * u2)) := by
  refine F.ok scSub (fun vs H Q E h => ?_) (fun cdv A outer s H vs Q E hr h => ?_)
  · obtain ⟨x, y, t, u, n, rfl, _⟩ := h
    rfl
  · obtain ⟨x, y, t, u, n, rfl, ix, q⟩ := h
    have hr1 := hr.mono (show 5 ≤ 6 by decide)
    refine ⟨_, pss_cons (ps_set (i := 2) scSub.nd rfl (Or.inl rfl) (pe_callS GS hr rfl gS kS bS (fun σ => passAt (W := fun cls d _ H => E cls d H) (takes_of rfl rfl rfl rfl) σ) (pa_cons (pv 1) pa_nil)))
      (pss_one (ps_ret (pe_make T.mkA GI hr1 rfl T.g bI .nil passL (pa_cons (pe_op op_sub (pe_op op_mulW (pe_fld (pv 0) rfl) (pe_fld (pv 2) rfl)) (pe_op op_mulW (pe_fld (pv 2) rfl) (pe_fld (pv 0) rfl))) (pa_cons (pe_op op_mulW (pe_fld (pv 0) rfl) (pe_fld (pv 2) rfl)) pa_nil))))), ?_⟩
    refine ⟨_, rfl, y, rfl, ?_⟩
    rcases q with ⟨hb, er⟩ | ⟨t2, u2, m, ar, hnm, q⟩
    · exact .inl ⟨hb, er⟩
    · refine .inr ⟨t2, u2, m, ar, fun z H' sm iz => ?_⟩
      have ix' := ix.same sm
      obtain ⟨p, dx, rfl, hp, r, b1, b2⟩ := id ix'
      obtain ⟨p2, dx2, rfl, hp2, r2, b3, b4⟩ := id iz
      refine ⟨_, rfl, p, CA K, dx, _, _, rfl, hp, T.cl, T.noT, fl_top _ _, ?_⟩
      refine ⟨_, rfl, p2, CA K, dx2, _, _, rfl, hp2, T.cl, T.noB, fl_bot _ _, ?_⟩
      refine ⟨_, _, rfl, rfl, mulW_of b1 b4 (by omega), ?_⟩
      refine ⟨_, rfl, p2, CA K, dx2, _, _, rfl, hp2, T.cl, T.noT, fl_top _ _, ?_⟩
      refine ⟨_, rfl, p, CA K, dx, _, _, rfl, hp, T.cl, T.noB, fl_bot _ _, ?_⟩
      refine ⟨_, _, rfl, rfl, mulW_of b3 b2 (by omega), _, _, rfl, rfl, ?_⟩
      refine ⟨_, rfl, p, CA K, dx, _, _, rfl, hp, T.cl, T.noB, fl_bot _ _, ?_⟩
      refine ⟨_, rfl, p2, CA K, dx2, _, _, rfl, hp2, T.cl, T.noB, fl_bot _ _, ?_⟩
      refine ⟨_, _, rfl, rfl, mulW_of b2 b4 (by omega), ?_⟩
      have hu : u * u2 ≠ 0 := Int.mul_ne_zero (by have := r.1; omega) (by have := r2.1; omega)
      refine make_read T (n := n + m + 1) hu (by omega) ?_ ?_ fun y' H2 t' u' s2 i2 e => q y' H2 t' u' (sm.trans s2) i2 e
      · exact abs_sub_lt (abs_mul_lt b1 b4) (by rw [Nat.add_comm]; exact abs_mul_lt b3 b2)
      · exact pow_step (abs_mul_lt b2 b4) (by omega)

abbrev sMul : Stmt := inClass (top 13) 6
theorem scMul : FnScope ["self", "other", "right"] ["self", "other"] (defScope sMul) := ⟨rfl, rfl, rfl, by decide +kernel, rfl, by decide +kernel, by decide +kernel⟩
theorem ok_mul (F : FunD K "__mul__" "Amount.__mul__" (defArgs sMul) (defBody sMul) (defScope sMul) [] [] f fd) (T : AF K mg) (GS : FnOk P w K mg base (L2.CX P w) 6 fS fdS ["value"] (spAs K)) (gS : mg "as_amount" = some (.ref fS)) (kS : PySem.W.keepIn K (.ref fS) = true) (bS : Binds K fdS ["value"] [])
    (GI : FnOk P w K mg base (L2.CX P w) 4 (aI K) fdI ["self", "top", "bottom"] (spInit K)) (bI : Binds K fdI ["self", "top", "bottom"] []) : FnOk P w K mg base (L2.CX P w) 7 f fd ["self", "other"] (spOp K (fun t _ t2 _ => t * t2) (fun _ u _ u2 => u * u2)) := by
  refine F.ok scMul (fun vs H Q E h => ?_) (fun cdv A outer s H vs Q E hr h => ?_)
  · obtain ⟨x, y, t, u, n, rfl, _⟩ := h
    rfl
  · obtain ⟨x, y, t, u, n, rfl, ix, q⟩ := h
    have hr1 := hr.mono (show 5 ≤ 6 by decide)
    refine ⟨_, pss_cons (ps_set (i := 2) scMul.nd rfl (Or.inl rfl) (pe_callS GS hr rfl gS kS bS (fun σ => passAt (W := fun cls d _ H => E cls d H) (takes_of rfl rfl rfl rfl) σ) (pa_cons (pv 1) pa_nil)))
      (pss_one (ps_ret (pe_make T.mkA GI hr1 rfl T.g bI .nil passL (pa_cons (pe_op op_mulW (pe_fld (pv 0) rfl) (pe_fld (pv 2) rfl)) (pa_cons (pe_op op_mulW (pe_fld (pv 0) rfl) (pe_fld (pv 2) rfl)) pa_nil))))), ?_⟩
    refine ⟨_, rfl, y, rfl, ?_⟩
    rcases q with ⟨hb, er⟩ | ⟨t2, u2, m, ar, hnm, q⟩
    · exact .inl ⟨hb, er⟩
    · refine .inr ⟨t2, u2, m, ar, fun z H' sm iz => ?_⟩
      have ix' := ix.same sm
      obtain ⟨p, dx, rfl, hp, r, b1, b2⟩ := id ix'
      obtain ⟨p2, dx2, rfl, hp2, r2, b3, b4⟩ := id iz
      refine ⟨_, rfl, p, CA K, dx, _, _, rfl, hp, T.cl, T.noT, fl_top _ _, ?_⟩
      refine ⟨_, rfl, p2, CA K, dx2, _, _, rfl, hp2, T.cl, T.noT, fl_top _ _, ?_⟩
      refine ⟨_, _, rfl, rfl, mulW_of b1 b3 (by omega), ?_⟩
      refine ⟨_, rfl, p, CA K, dx, _, _, rfl, hp, T.cl, T.noB, fl_bot _ _, ?_⟩
      refine ⟨_, rfl, p2, CA K, dx2, _, _, rfl, hp2, T.cl, T.noB, fl_bot _ _, ?_⟩
      refine ⟨_, _, rfl, rfl, mulW_of b2 b4 (by omega), ?_⟩
      have hu : u * u2 ≠ 0 := Int.mul_ne_zero (by have := r.1; omega) (by have := r2.1; omega)
      refine make_read T (n := n + m + 1) hu (by omega) ?_ ?_ fun y' H2 t' u' s2 i2 e => q y' H2 t' u' (sm.trans s2) i2 e
      · exact pow_step (abs_mul_lt b1 b3) (by omega)
      · exact pow_step (abs_mul_lt b2 b4) (by omega)
end

end K09
set_option Elab.async false
set_option linter.all false
set_option maxRecDepth 100000
set_option maxHeartbeats 4000000
set_option exponentiation.threshold 100000
namespace K09
open PySem PySem.Spec PyProof.Rows L2 Fa Fb


abbrev sNeg : Stmt := inClass (top 13) 7
abbrev sAbs : Stmt := inClass (top 13) 8
abbrev sDiv : Stmt := inClass (top 13) 9
abbrev sCmp : Stmt := inClass (top 13) 10
theorem scNeg : FnScope ["self"] ["self"] (defScope sNeg) := ⟨rfl, rfl, rfl, by decide +kernel, rfl, by decide +kernel, by decide +kernel⟩
theorem scAbs : FnScope ["self"] ["self"] (defScope sAbs) := ⟨rfl, rfl, rfl, by decide +kernel, rfl, by decide +kernel, by decide +kernel⟩
theorem scDiv : FnScope ["self", "other", "right"] ["self", "other"] (defScope sDiv) := ⟨rfl, rfl, rfl, by decide +kernel, rfl, by decide +kernel, by decide +kernel⟩
theorem scCmp : FnScope ["self", "other", "right", "difference"] ["self", "other"] (defScope sCmp) := ⟨rfl, rfl, rfl, by decide +kernel, rfl, by decide +kernel, by decide +kernel⟩
section
variable {P : Program} {w : World} {K : PySem.W.Frag} {mg : Str → Option Value} {base : Heap} {f fS : Addr} {fd fdS fdI : FuncData} {qv tv : Str} {fV : Addr}
theorem ok_neg (F : FunD K "__neg__" "Amount.__neg__" (defArgs sNeg) (defBody sNeg) (defScope sNeg) [] [] f fd) (T : AF K mg) (GI : FnOk P w K mg base (L2.CX P w) 4 (aI K) fdI ["self", "top", "bottom"] (spInit K)) (bI : Binds K fdI ["self", "top", "bottom"] []) : FnOk P w K mg base (L2.CX P w) 6 f fd ["self"] (spUn K fun t => -t) := by
  refine F.ok scNeg (fun vs H Q E h => ?_) (fun cdv A outer s H vs Q E hr h => ?_)
  · obtain ⟨x, t, u, n, rfl, _⟩ := h
    rfl
  · obtain ⟨x, t, u, n, rfl, ix, hn, q⟩ := h
    obtain ⟨p, dx, rfl, hp, r, b1, b2⟩ := id ix
    refine ⟨_, pss_one (ps_ret (pe_make T.mkA GI hr rfl T.g bI .nil passL (pa_cons (pe_un un_neg (pe_fld (pv 0) rfl)) (pa_cons (pe_fld (pv 0) rfl) pa_nil)))), ?_⟩
    refine ⟨_, rfl, p, CA K, dx, _, _, rfl, hp, T.cl, T.noT, fl_top _ _, _, rfl, ?_⟩
    refine ⟨_, rfl, p, CA K, dx, _, _, rfl, hp, T.cl, T.noB, fl_bot _ _, ?_⟩
    exact make_read T (n := n) (by have := r.1; omega) hn (by rw [Int.natAbs_neg]; exact b1) b2 fun y' H2 t' u' s2 i2 e => q y' H2 t' u' s2 i2 e
theorem ok_abs (F : FunD K "__abs__" "Amount.__abs__" (defArgs sAbs) (defBody sAbs) (defScope sAbs) [] [] f fd) (T : AF K mg) (mA : mg "abs" = none) (GI : FnOk P w K mg base (L2.CX P w) 4 (aI K) fdI ["self", "top", "bottom"] (spInit K)) (bI : Binds K fdI ["self", "top", "bottom"] []) : FnOk P w K mg base (L2.CX P w) 6 f fd ["self"] (spUn K fun t => if t < 0 then -t else t) := by
  refine F.ok scAbs (fun vs H Q E h => ?_) (fun cdv A outer s H vs Q E hr h => ?_)
  · obtain ⟨x, t, u, n, rfl, _⟩ := h
    rfl
  · obtain ⟨x, t, u, n, rfl, ix, hn, q⟩ := h
    obtain ⟨p, dx, rfl, hp, r, b1, b2⟩ := id ix
    refine ⟨_, pss_one (ps_ret (pe_make T.mkA GI hr rfl T.g bI .nil passL (pa_cons (pe_callB call_abs rfl mA (by decide +kernel) (pa_cons (pe_fld (pv 0) rfl) pa_nil)) (pa_cons (pe_fld (pv 0) rfl) pa_nil)))), ?_⟩
    refine ⟨_, rfl, p, CA K, dx, _, _, rfl, hp, T.cl, T.noT, fl_top _ _, _, rfl, ?_⟩
    refine ⟨_, rfl, p, CA K, dx, _, _, rfl, hp, T.cl, T.noB, fl_bot _ _, ?_⟩
    exact make_read T (n := n) (by have := r.1; omega) hn (by split <;> omega) b2 fun y' H2 t' u' s2 i2 e => q y' H2 t' u' s2 i2 e
theorem ok_div (F : FunD K "divided" "Amount.divided" (defArgs sDiv) (defBody sDiv) (defScope sDiv) [] [] f fd) (T : AF K mg) (GS : FnOk P w K mg base (L2.CX P w) 6 fS fdS ["value"] (spAs K)) (gS : mg "as_amount" = some (.ref fS)) (kS : PySem.W.keepIn K (.ref fS) = true) (bS : Binds K fdS ["value"] [])
    (GI : FnOk P w K mg base (L2.CX P w) 4 (aI K) fdI ["self", "top", "bottom"] (spInit K)) (bI : Binds K fdI ["self", "top", "bottom"] []) (XV : Xb.Txt P.main.file K qv "value" tv (CV K) fV) (htop : (P.main.scope.names.lookup ("super" : Str)).isSome = false) :
    FnOk P w K mg base (L2.CX P w) 7 f fd ["self", "other"] (spDiv K) := by
  refine F.ok scDiv (fun vs H Q E h => ?_) (fun cdv A outer s H vs Q E hr h => ?_)
  · obtain ⟨x, y, t, u, n, rfl, _⟩ := h
    rfl
  · obtain ⟨x, y, t, u, n, rfl, ix, q⟩ := h
    have hr1 := hr.mono (show 5 ≤ 6 by decide)
    refine ⟨_, pss_cons (ps_set (i := 2) scDiv.nd rfl (Or.inl rfl) (pe_callS GS hr rfl gS kS bS (fun σ => passAt (W := fun cls d _ H => E cls d H) (takes_of rfl rfl rfl rfl) σ) (pa_cons (pv 1) pa_nil)))
      (pss_cons (ps_if (pt_cmpR op_eq (pe_fld (pv 2) rfl) pe_int (nomark _)) (pss_one (Xb.ps_raiseX (W := fun cls d _ H => E cls d H) rfl XV T.gV htop hr1 (takes_of rfl rfl rfl rfl) (pa_cons (pv 1) pa_nil))) pss_nil)
      (pss_one (ps_ret (pe_make T.mkA GI hr1 rfl T.g bI .nil passL (pa_cons (pe_op op_mulW (pe_fld (pv 0) rfl) (pe_fld (pv 2) rfl)) (pa_cons (pe_op op_mulW (pe_fld (pv 0) rfl) (pe_fld (pv 2) rfl)) pa_nil)))))), ?_⟩
    refine ⟨_, rfl, y, rfl, ?_⟩
    rcases q with ⟨hb, er⟩ | ⟨t2, u2, m, ar, hnm, qz, q⟩
    · exact .inl ⟨hb, er⟩
    · refine .inr ⟨t2, u2, m, ar, fun z H' sm iz => ?_⟩
      have ix' := ix.same sm
      obtain ⟨p, dx, rfl, hp, r, b1, b2⟩ := id ix'
      obtain ⟨p2, dx2, rfl, hp2, r2, b3, b4⟩ := id iz
      refine ⟨_, rfl, p2, CA K, dx2, _, _, rfl, hp2, T.cl, T.noT, fl_top _ _, rfl, _, rfl, ?_⟩
      by_cases h0 : t2 = 0
      · subst h0
        exact if_true_of (decide_eq_true rfl) ⟨_, rfl, _, rfl, qz rfl _ sm⟩
      · refine if_false_of (decide_eq_false fun z => h0 (V.int.inj z)) ?_
        refine ⟨_, rfl, p, CA K, dx, _, _, rfl, hp, T.cl, T.noT, fl_top _ _, ?_⟩
        refine ⟨_, rfl, p2, CA K, dx2, _, _, rfl, hp2, T.cl, T.noB, fl_bot _ _, ?_⟩
        refine ⟨_, _, rfl, rfl, mulW_of b1 b4 (by omega), ?_⟩
        refine ⟨_, rfl, p, CA K, dx, _, _, rfl, hp, T.cl, T.noB, fl_bot _ _, ?_⟩
        refine ⟨_, rfl, p2, CA K, dx2, _, _, rfl, hp2, T.cl, T.noT, fl_top _ _, ?_⟩
        refine ⟨_, _, rfl, rfl, mulW_of b2 b3 (by omega), ?_⟩
        have hu : u * t2 ≠ 0 := Int.mul_ne_zero (by have := r.1; omega) h0
        refine make_read T (n := n + m + 1) hu (by omega) ?_ ?_ fun y' H2 t' u' s2 i2 e => q h0 y' H2 t' u' (sm.trans s2) i2 e
        · exact pow_step (abs_mul_lt b1 b4) (by omega)
        · exact pow_step (abs_mul_lt b2 b3) (by omega)
theorem ok_cmp (F : FunD K "compare" "Amount.compare" (defArgs sCmp) (defBody sCmp) (defScope sCmp) [] [] f fd) (T : AF K mg) (GS : FnOk P w K mg base (L2.CX P w) 6 fS fdS ["value"] (spAs K)) (gS : mg "as_amount" = some (.ref fS)) (kS : PySem.W.keepIn K (.ref fS) = true) (bS : Binds K fdS ["value"] []) :
    FnOk P w K mg base (L2.CX P w) 7 f fd ["self", "other"] (spCmp K) := by
  refine F.ok scCmp (fun vs H Q E h => ?_) (fun cdv A outer s H vs Q E hr h => ?_)
  · obtain ⟨x, y, t, u, n, rfl, _⟩ := h
    rfl
  · obtain ⟨x, y, t, u, n, rfl, ix, q⟩ := h
    refine ⟨_, pss_cons (ps_set (i := 2) scCmp.nd rfl (Or.inl rfl) (pe_callS GS hr rfl gS kS bS (fun σ => passAt (W := fun cls d _ H => E cls d H) (takes_of rfl rfl rfl rfl) σ) (pa_cons (pv 1) pa_nil)))
      (pss_cons (ps_set (i := 3) scCmp.nd rfl (Or.inl rfl) (pe_op op_sub (pe_op op_mulW (pe_fld (pv 0) rfl) (pe_fld (pv 2) rfl)) (pe_op op_mulW (pe_fld (pv 2) rfl) (pe_fld (pv 0) rfl))))
      (pss_cons (ps_if (pt_cmpR op_eq (pv 3) pe_int (nomark _)) (pss_one (ps_ret pe_int)) pss_nil)
      (pss_one (ps_ret (pe_ifExp (pt_cmpR op_gt (pv 3) pe_int (nomark _)) pe_int (pe_un un_neg pe_int)))))), ?_⟩
    refine ⟨_, rfl, y, rfl, ?_⟩
    rcases q with ⟨hb, er⟩ | ⟨t2, u2, m, ar, hnm, q⟩
    · exact .inl ⟨hb, er⟩
    · refine .inr ⟨t2, u2, m, ar, fun z H' sm iz => ?_⟩
      have ix' := ix.same sm
      have q := q H' sm
      obtain ⟨p, dx, rfl, hp, r, b1, b2⟩ := id ix'
      obtain ⟨p2, dx2, rfl, hp2, r2, b3, b4⟩ := id iz
      refine ⟨_, rfl, p, CA K, dx, _, _, rfl, hp, T.cl, T.noT, fl_top _ _, ?_⟩
      refine ⟨_, rfl, p2, CA K, dx2, _, _, rfl, hp2, T.cl, T.noB, fl_bot _ _, ?_⟩
      refine ⟨_, _, rfl, rfl, mulW_of b1 b4 (by omega), ?_⟩
      refine ⟨_, rfl, p2, CA K, dx2, _, _, rfl, hp2, T.cl, T.noT, fl_top _ _, ?_⟩
      refine ⟨_, rfl, p, CA K, dx, _, _, rfl, hp, T.cl, T.noB, fl_bot _ _, ?_⟩
      refine ⟨_, _, rfl, rfl, mulW_of b3 b2 (by omega), _, _, rfl, rfl, ?_⟩
      refine ⟨_, rfl, rfl, _, rfl, ?_⟩
      by_cases h0 : t * u2 - t2 * u = 0
      · rw [if_pos h0] at q
        refine if_true_of (decide_eq_true (congrArg V.int h0)) q
      · rw [if_neg h0] at q
        refine if_false_of (decide_eq_false fun z => h0 (V.int.inj z)) ?_
        refine ⟨_, rfl, _, _, rfl, rfl, _, rfl, ?_⟩
        by_cases h1 : 0 < t * u2 - t2 * u
        · rw [if_pos h1] at q
          exact if_true_of (decide_eq_true h1) q
        · rw [if_neg h1] at q
          exact if_false_of (decide_eq_false h1) ⟨_, rfl, q⟩
end

end K09
set_option linter.all false
/-! Piecewise straight lines: points that rise in both, slope 1 before the first and behind the last. -/
namespace M08
abbrev Pt := Rat × Rat
def Up : List Pt → Prop
  | [] => True
  | [_] => True
  | p :: q :: r => p.1 < q.1 ∧ p.2 < q.2 ∧ Up (q :: r)
def slope (p q : Pt) : Rat := (q.2 - p.2) / (q.1 - p.1)
def nx (p : Pt) : List Pt → Rat
  | [] => 1
  | q :: _ => slope p q
def fil (l : Rat) : List Pt → List Pt
  | [] => []
  | p :: r => if l = nx p r then fil (nx p r) r else p :: fil (nx p r) r
def E (p : Pt) : List Pt → Rat → Rat
  | [], x => p.2 + (x - p.1)
  | q :: r, x => if x < q.1 then p.2 + (x - p.1) * slope p q else E q r x
def f : List Pt → Rat → Rat
  | [], x => x
  | p :: r, x => if x < p.1 then p.2 + (x - p.1) else E p r x
def S (p : Pt) : List Pt → Rat → Rat
  | [], _ => 1
  | q :: r, x => if x < q.1 then slope p q else S q r x
def sl : List Pt → Rat → Rat
  | [], _ => 1
  | p :: r, x => if x < p.1 then 1 else S p r x
def std (ps : List Pt) : List Pt := if fil 1 ps = [] then [(0, f ps 0)] else fil 1 ps
theorem Up.tail {p : Pt} {r : List Pt} (h : Up (p :: r)) : Up r := by
  cases r with
  | nil => exact True.intro
  | cons q r => exact h.2.2
theorem slope_line {p q : Pt} (h : p.1 < q.1) : q.2 = p.2 + (q.1 - p.1) * slope p q := by
  unfold slope
  have : q.1 - p.1 ≠ 0 := by grind
  grind
theorem slope_of {p q : Pt} {m : Rat} (h : p.1 < q.1) (e : q.2 = p.2 + (q.1 - p.1) * m) : slope p q = m := by
  unfold slope
  have : q.1 - p.1 ≠ 0 := by grind
  rw [e]
  grind
structure Line (p : Pt) (m : Rat) (r L : List Pt) : Prop where
  a : L = [] → m = 1
  b : ∀ q L', L = q :: L' → p.1 < q.1 ∧ q.2 = p.2 + (q.1 - p.1) * m
  c : ∀ x, p.1 ≤ x → E p r x = E p L x
  d : ∀ x, p.1 ≤ x → S p r x = S p L x
theorem line : ∀ (r : List Pt) (p : Pt), Up (p :: r) → Line p (nx p r) r (fil (nx p r) r)
  | [], p, _ => ⟨fun _ => rfl, (fun q L' e => by cases e), fun _ _ => rfl, fun _ _ => rfl⟩
  | q :: r, p, h => by
    obtain ⟨h1, h2, h3⟩ := h
    have ih := line r q h3
    have lp := slope_line h1
    show Line p (slope p q) (q :: r) (fil (slope p q) (q :: r))
    have ef : fil (slope p q) (q :: r) = if slope p q = nx q r then fil (nx q r) r else q :: fil (nx q r) r := rfl
    rw [ef]
    generalize hm : slope p q = m at lp ef ⊢
    by_cases c : m = nx q r
    · rw [if_pos c]
      generalize hL : fil (nx q r) r = L at ih ⊢
      rw [← c] at ih
      have hx : ∀ x, p.1 ≤ x → (E p (q :: r) x = E p L x) ∧ S p (q :: r) x = S p L x := by
        intro x hx
        show ((if x < q.1 then p.2 + (x - p.1) * slope p q else E q r x) = E p L x) ∧ (if x < q.1 then slope p q else S q r x) = S p L x
        rw [hm]
        cases L with
        | nil =>
          have m1 := ih.a rfl
          by_cases c2 : x < q.1
          · simp only [if_pos c2]
            refine ⟨?_, m1⟩
            show _ = p.2 + (x - p.1)
            rw [m1]
            grind
          · simp only [if_neg c2]
            rw [ih.c x (by grind), ih.d x (by grind)]
            refine ⟨?_, by first | rfl | exact True.intro⟩
            show q.2 + (x - q.1) = p.2 + (x - p.1)
            rw [lp, m1]
            grind
        | cons q2 L' =>
          obtain ⟨b1, b2⟩ := ih.b q2 L' rfl
          have s1 := slope_of b1 b2
          have s2 : slope p q2 = m := slope_of (by grind) (by rw [b2, lp]; grind)
          by_cases c2 : x < q.1
          · simp only [if_pos c2]
            show _ = (if x < q2.1 then p.2 + (x - p.1) * slope p q2 else E q2 L' x) ∧ m = (if x < q2.1 then slope p q2 else S q2 L' x)
            rw [if_pos (by grind), if_pos (by grind), s2]
            first | exact ⟨rfl, rfl⟩ | exact ⟨rfl, True.intro⟩ | exact True.intro | exact ⟨True.intro, True.intro⟩
          · simp only [if_neg c2]
            rw [ih.c x (by grind), ih.d x (by grind)]
            show (if x < q2.1 then q.2 + (x - q.1) * slope q q2 else E q2 L' x) = (if x < q2.1 then p.2 + (x - p.1) * slope p q2 else E q2 L' x) ∧ (if x < q2.1 then slope q q2 else S q2 L' x) = (if x < q2.1 then slope p q2 else S q2 L' x)
            rw [s1, s2]
            by_cases c3 : x < q2.1
            · simp only [if_pos c3]
              refine ⟨?_, by first | rfl | exact True.intro⟩
              rw [lp]
              grind
            · simp only [if_neg c3]
              first | exact ⟨rfl, rfl⟩ | exact ⟨rfl, True.intro⟩ | exact True.intro | exact ⟨True.intro, True.intro⟩
      refine ⟨fun e => ih.a e, fun q2 L' e => ?_, fun x hx' => (hx x hx').1, fun x hx' => (hx x hx').2⟩
      obtain ⟨b1, b2⟩ := ih.b q2 L' e
      exact ⟨by grind, by rw [b2, lp]; grind⟩
    · rw [if_neg c]
      refine ⟨(fun e => by cases e), fun q2 L' e => ?_, fun x hx => ?_, fun x hx => ?_⟩
      · cases e
        exact ⟨h1, lp⟩
      · show (if x < q.1 then p.2 + (x - p.1) * slope p q else E q r x) = (if x < q.1 then p.2 + (x - p.1) * slope p q else E q (fil (nx q r) r) x)
        by_cases c2 : x < q.1
        · simp only [if_pos c2]
        · simp only [if_neg c2]
          rw [ih.c x (by grind)]
      · show (if x < q.1 then slope p q else S q r x) = (if x < q.1 then slope p q else S q (fil (nx q r) r) x)
        by_cases c2 : x < q.1
        · simp only [if_pos c2]
        · simp only [if_neg c2]
          rw [ih.d x (by grind)]
theorem Line.nx {p : Pt} {r : List Pt} (h : Line p (nx p r) r (fil (nx p r) r)) : M08.nx p (fil (M08.nx p r) r) = M08.nx p r := by
  cases e : fil (M08.nx p r) r with
  | nil => exact (h.a e).symm
  | cons q L =>
    obtain ⟨b1, b2⟩ := h.b q L e
    exact slope_of b1 b2
/-- nothing is left: a straight line -/
theorem flat {p : Pt} {r : List Pt} (h : Up (p :: r)) (e : fil 1 (p :: r) = []) (x : Rat) : f (p :: r) x = p.2 + (x - p.1) ∧ sl (p :: r) x = 1 := by
  have l := line r p h
  have ef : fil 1 (p :: r) = if 1 = nx p r then fil (nx p r) r else p :: fil (nx p r) r := rfl
  rw [ef] at e
  by_cases c : 1 = nx p r
  · rw [if_pos c] at e
    show (if x < p.1 then p.2 + (x - p.1) else E p r x) = _ ∧ (if x < p.1 then 1 else S p r x) = 1
    by_cases c2 : x < p.1
    · simp only [if_pos c2]
      first | exact ⟨rfl, rfl⟩ | exact ⟨rfl, True.intro⟩ | exact True.intro | exact ⟨True.intro, True.intro⟩
    · simp only [if_neg c2]
      rw [l.c x (by grind), l.d x (by grind), e]
      first | exact ⟨rfl, rfl⟩ | exact ⟨rfl, True.intro⟩ | exact True.intro | exact ⟨True.intro, True.intro⟩
  · rw [if_neg c] at e
    cases e
theorem f_std (ps : List Pt) (h : Up ps) (x : Rat) : f (std ps) x = f ps x ∧ sl (std ps) x = sl ps x := by
  unfold std
  cases ps with
  | nil =>
    show (if x < 0 then (0 : Rat) + (x - 0) else 0 + (x - 0)) = x ∧ (if x < 0 then (1 : Rat) else 1) = 1
    by_cases c : x < 0 <;> simp [c] <;> grind
  | cons p r =>
    by_cases e : fil 1 (p :: r) = []
    · rw [if_pos e]
      have h0 := (flat h e 0).1
      have hx := flat h e x
      rw [hx.1, hx.2, h0]
      show (if x < 0 then (p.2 + (0 - p.1)) + (x - 0) else (p.2 + (0 - p.1)) + (x - 0)) = _ ∧ (if x < 0 then (1 : Rat) else 1) = 1
      by_cases c : x < 0 <;> simp [c] <;> grind
    · rw [if_neg e]
      have l := line r p h
      have ef : fil 1 (p :: r) = if 1 = nx p r then fil (nx p r) r else p :: fil (nx p r) r := rfl
      by_cases c : 1 = nx p r
      · rw [ef, if_pos c] at e ⊢
        generalize hL : fil (nx p r) r = L at l e ⊢
        cases L with
        | nil => exact absurd rfl e
        | cons q L' =>
          obtain ⟨b1, b2⟩ := l.b q L' rfl
          have s1 := slope_of b1 b2
          show (if x < q.1 then q.2 + (x - q.1) else E q L' x) = (if x < p.1 then p.2 + (x - p.1) else E p r x) ∧ (if x < q.1 then 1 else S q L' x) = (if x < p.1 then 1 else S p r x)
          by_cases c2 : x < p.1
          · rw [if_pos c2, if_pos c2, if_pos (show x < q.1 by grind), if_pos (show x < q.1 by grind)]
            refine ⟨?_, by first | rfl | exact True.intro⟩
            rw [b2, ← c]
            grind
          · simp only [if_neg c2]
            rw [l.c x (by grind), l.d x (by grind)]
            show _ = (if x < q.1 then p.2 + (x - p.1) * slope p q else E q L' x) ∧ _ = (if x < q.1 then slope p q else S q L' x)
            rw [s1, ← c]
            by_cases c3 : x < q.1
            · simp only [if_pos c3]
              refine ⟨?_, by first | rfl | exact True.intro⟩
              rw [b2, ← c]
              grind
            · simp only [if_neg c3]
              first | exact ⟨rfl, rfl⟩ | exact ⟨rfl, True.intro⟩ | exact True.intro | exact ⟨True.intro, True.intro⟩
      · rw [ef, if_neg c]
        show (if x < p.1 then p.2 + (x - p.1) else E p (fil (nx p r) r) x) = (if x < p.1 then p.2 + (x - p.1) else E p r x) ∧ (if x < p.1 then 1 else S p (fil (nx p r) r) x) = (if x < p.1 then 1 else S p r x)
        by_cases c2 : x < p.1
        · simp only [if_pos c2]
          first | exact ⟨rfl, rfl⟩ | exact ⟨rfl, True.intro⟩ | exact True.intro | exact ⟨True.intro, True.intro⟩
        · simp only [if_neg c2]
          rw [l.c x (by grind), l.d x (by grind)]
          first | exact ⟨rfl, rfl⟩ | exact ⟨rfl, True.intro⟩ | exact True.intro | exact ⟨True.intro, True.intro⟩
theorem fil_fil : ∀ (ps : List Pt) (l : Rat), Up ps → fil l (fil l ps) = fil l ps
  | [], _, _ => rfl
  | p :: r, l, h => by
    have li := line r p h
    have ih := fil_fil r (nx p r) h.tail
    have ef : fil l (p :: r) = if l = nx p r then fil (nx p r) r else p :: fil (nx p r) r := rfl
    rw [ef]
    by_cases c : l = nx p r
    · rw [if_pos c, c]
      exact ih
    · rw [if_neg c]
      show (if l = nx p (fil (nx p r) r) then fil (nx p (fil (nx p r) r)) (fil (nx p r) r) else p :: fil (nx p (fil (nx p r) r)) (fil (nx p r) r)) = _
      rw [li.nx, if_neg c, ih]
theorem std_std (ps : List Pt) (h : Up ps) : std (std ps) = std ps := by
  by_cases e : fil 1 ps = []
  · have e1 : std ps = [(0, f ps 0)] := if_pos e
    rw [e1]
    have e2 : fil 1 [((0 : Rat), f ps 0)] = [] := by
      show (if (1 : Rat) = 1 then fil 1 [] else _) = []
      rw [if_pos rfl]
      rfl
    unfold std
    rw [if_pos e2]
    show [((0 : Rat), (if (0 : Rat) < 0 then f ps 0 + (0 - 0) else f ps 0 + (0 - 0)))] = _
    congr 2
    split <;> grind
  · have e1 : std ps = fil 1 ps := if_neg e
    rw [e1]
    unfold std
    rw [fil_fil ps 1 h, if_neg e]
end M08
set_option linter.all false
namespace M08
/-! ### what rises -/
theorem Up.cons {p q : Pt} {r : List Pt} (h : Up (q :: r)) (h1 : p.1 < q.1) (h2 : p.2 < q.2) : Up (p :: q :: r) := ⟨h1, h2, h⟩
theorem up_pw : ∀ (ps : List Pt), Up ps → List.Pairwise (fun p q : Pt => p.1 < q.1 ∧ p.2 < q.2) ps
  | [], _ => .nil
  | [p], _ => .cons (fun q h => by cases h) .nil
  | p :: q :: r, h => by
    obtain ⟨h1, h2, h3⟩ := h
    have ih := up_pw (q :: r) h3
    refine .cons (fun z hz => ?_) ih
    rcases List.mem_cons.mp hz with e | m
    · rw [e]; exact ⟨h1, h2⟩
    · cases ih with
      | cons a _ =>
        obtain ⟨b1, b2⟩ := a z m
        exact ⟨by grind, by grind⟩
theorem pw_up : ∀ (ps : List Pt), List.Pairwise (fun p q : Pt => p.1 < q.1 ∧ p.2 < q.2) ps → Up ps
  | [], _ => True.intro
  | [p], _ => True.intro
  | p :: q :: r, h => by
    cases h with
    | cons a b => exact ⟨(a q List.mem_cons_self).1, (a q List.mem_cons_self).2, pw_up (q :: r) b⟩
theorem fil_sub : ∀ (ps : List Pt) (l : Rat), (fil l ps).Sublist ps
  | [], _ => .slnil
  | p :: r, l => by
    have ih := fil_sub r (nx p r)
    show (if l = nx p r then fil (nx p r) r else p :: fil (nx p r) r).Sublist (p :: r)
    split
    · exact ih.cons p
    · exact ih.cons₂ p
theorem up_std {ps : List Pt} (h : Up ps) : Up (std ps) := by
  unfold std
  split
  · exact True.intro
  · exact pw_up _ ((up_pw _ h).sublist (fil_sub ps 1))
theorem std_len (ps : List Pt) : (std ps).length ≤ ps.length + 1 ∧ std ps ≠ [] := by
  unfold std
  split
  · exact ⟨by simp, by simp⟩
  · rename_i h
    have := (fil_sub ps 1).length_le
    exact ⟨by omega, h⟩
/-! ### finer points -/
def mid (p q : Pt) : Pt := ((p.1 + q.1) / 2, (p.2 + q.2) / 2)
def fn (e : Bool) : List Pt → List Pt
  | [] => []
  | [p] => if e then [p, (p.1 + 3, p.2 + 3)] else [p]
  | p :: q :: r => p :: mid p q :: fn e (q :: r)
theorem fn_head (e : Bool) (q : Pt) (r : List Pt) : ∃ T, fn e (q :: r) = q :: T := by
  cases r with
  | nil =>
    cases e
    · exact ⟨[], rfl⟩
    · exact ⟨[(q.1 + 3, q.2 + 3)], rfl⟩
  | cons z r => exact ⟨mid q z :: fn e (z :: r), rfl⟩
theorem half (a b : Rat) (h : a < b) : a < (a + b) / 2 ∧ (a + b) / 2 < b := by
  constructor <;> grind
theorem up_fn : ∀ (e : Bool) (ps : List Pt), Up ps → Up (fn e ps)
  | _, [], _ => True.intro
  | e, [p], _ => by
    cases e
    · exact True.intro
    · exact ⟨by grind, by grind, True.intro⟩
  | e, p :: q :: r, h => by
    obtain ⟨h1, h2, h3⟩ := h
    have ih := up_fn e (q :: r) h3
    obtain ⟨T, eT⟩ := fn_head e q r
    show Up (p :: mid p q :: fn e (q :: r))
    rw [eT] at ih ⊢
    obtain ⟨a1, a2⟩ := half _ _ h1
    obtain ⟨b1, b2⟩ := half _ _ h2
    exact ⟨a1, b1, a2, b2, ih⟩
theorem mid_slope {p q : Pt} (h : p.1 < q.1) : slope p (mid p q) = slope p q ∧ slope (mid p q) q = slope p q := by
  have l := slope_line h
  obtain ⟨a1, a2⟩ := half _ _ h
  refine ⟨slope_of a1 ?_, slope_of a2 ?_⟩
  · show (p.2 + q.2) / 2 = p.2 + ((p.1 + q.1) / 2 - p.1) * slope p q
    rw [l]
    grind
  · show q.2 = (p.2 + q.2) / 2 + (q.1 - (p.1 + q.1) / 2) * slope p q
    rw [l]
    grind
theorem fil_fn : ∀ (e : Bool) (ps : List Pt) (l : Rat), Up ps → fil l (fn e ps) = fil l ps
  | _, [], _, _ => rfl
  | e, [p], l, _ => by
    cases e
    · rfl
    · have s : slope p (p.1 + 3, p.2 + 3) = 1 := slope_of (by grind) (by grind)
      show (if l = slope p (p.1 + 3, p.2 + 3) then fil (slope p (p.1 + 3, p.2 + 3)) [(p.1 + 3, p.2 + 3)] else p :: fil (slope p (p.1 + 3, p.2 + 3)) [(p.1 + 3, p.2 + 3)]) = (if l = 1 then fil 1 [] else p :: fil 1 [])
      rw [s]
      have : fil 1 [(p.1 + 3, p.2 + 3)] = [] := by
        show (if (1 : Rat) = 1 then fil 1 [] else _) = []
        rw [if_pos rfl]
        rfl
      rw [this]
      rfl
  | e, p :: q :: r, l, h => by
    obtain ⟨h1, h2, h3⟩ := h
    have ih := fil_fn e (q :: r) (slope p q) h3
    obtain ⟨T, eT⟩ := fn_head e q r
    obtain ⟨m1, m2⟩ := mid_slope h1
    show (if l = slope p (mid p q) then fil (slope p (mid p q)) (mid p q :: fn e (q :: r)) else p :: fil (slope p (mid p q)) (mid p q :: fn e (q :: r))) = (if l = slope p q then fil (slope p q) (q :: r) else p :: fil (slope p q) (q :: r))
    rw [m1]
    have e2 : fil (slope p q) (mid p q :: fn e (q :: r)) = fil (slope p q) (q :: r) := by
      rw [eT] at ih ⊢
      show (if slope p q = slope (mid p q) q then fil (slope (mid p q) q) (q :: T) else mid p q :: fil (slope (mid p q) q) (q :: T)) = _
      rw [m2, if_pos rfl]
      exact ih
    rw [e2]
theorem std_fn (e : Bool) {ps : List Pt} (h : Up ps) : std (fn e ps) = std ps := by
  have ef := fil_fn e ps 1 h
  unfold std
  rw [ef]
  by_cases c : fil 1 ps = []
  · rw [if_pos c, if_pos c]
    cases ps with
    | nil => rfl
    | cons p r =>
      obtain ⟨T, eT⟩ := fn_head e p r
      have h2 := up_fn e (p :: r) h
      rw [(flat h c 0).1]
      rw [eT] at h2 ef ⊢
      rw [(flat h2 (ef.trans c) 0).1]
  · rw [if_neg c, if_neg c]
/-! ### a further bend behind the last point -/
theorem fil_last : ∀ (r : List Pt) (l : Rat) (z e : Pt), slope z e ≠ 1 → ∃ K, fil l (r ++ [z, e]) = K ++ [e]
  | [], l, z, e, h => by
    have e1 : fil (slope z e) [e] = [e] := by
      show (if slope z e = 1 then fil 1 [] else e :: fil 1 []) = _
      rw [if_neg h]
      rfl
    show ∃ K, (if l = slope z e then fil (slope z e) [e] else z :: fil (slope z e) [e]) = K ++ [e]
    rw [e1]
    split
    · exact ⟨[], rfl⟩
    · exact ⟨[z], rfl⟩
  | p :: r, l, z, e, h => by
    obtain ⟨K, eK⟩ := fil_last r (nx p (r ++ [z, e])) z e h
    show ∃ K, (if l = nx p (r ++ [z, e]) then fil (nx p (r ++ [z, e])) (r ++ [z, e]) else p :: fil (nx p (r ++ [z, e])) (r ++ [z, e])) = K ++ [e]
    rw [eK]
    split
    · exact ⟨K, rfl⟩
    · exact ⟨p :: K, rfl⟩
theorem bent_ne (r : List Pt) (z : Pt) : std (r ++ [z, (z.1 + 1, z.2 + 3 / 2)]) ≠ r ++ [z] := by
  have s : slope z (z.1 + 1, z.2 + 3 / 2) = 3 / 2 := slope_of (by grind) (by grind)
  obtain ⟨K, eK⟩ := fil_last r 1 z (z.1 + 1, z.2 + 3 / 2) (by rw [s]; grind)
  unfold std
  rw [eK, if_neg (by simp)]
  intro e
  have h := List.append_inj_right' e rfl
  have h2 : (z.1 + 1, z.2 + 3 / 2) = z := (List.cons.inj h).1
  have h3 : z.1 + 1 = z.1 := congrArg Prod.fst h2
  grind
theorem up_bent : ∀ (r : List Pt) (z : Pt), Up (r ++ [z]) → Up (r ++ [z, (z.1 + 1, z.2 + 3 / 2)])
  | [], z, _ => ⟨by grind, by grind, True.intro⟩
  | [p], z, h => ⟨h.1, h.2.1, by grind, by grind, True.intro⟩
  | p :: q :: r, z, h => ⟨h.1, h.2.1, up_bent (q :: r) z h.2.2⟩
/-! ### by index -/
def pc (ps : List Pt) (n : Nat) : Rat := if n = 0 then 1 else nx (ps.getD (n - 1) (0, 0)) (ps.drop n)
theorem E_at : ∀ (r : List Pt) (p : Pt) (x : Rat) (n : Nat) (q : Pt), (p :: r)[n]? = some q → (∀ (j : Nat) z, j < n → r[j]? = some z → z.1 ≤ x) → (∀ (j : Nat) z, n ≤ j → r[j]? = some z → x < z.1) → E p r x = q.2 + (x - q.1) * nx q (r.drop n) ∧ S p r x = nx q (r.drop n)
  | [], p, x, n, q, h, _, _ => by
    cases n with
    | zero =>
      cases h
      show p.2 + (x - p.1) = p.2 + (x - p.1) * 1 ∧ (1 : Rat) = 1
      exact ⟨by grind, rfl⟩
    | succ n => simp at h
  | q0 :: r, p, x, n, q, h, h1, h2 => by
    cases n with
    | zero =>
      have eq : p = q := Option.some.inj h
      rw [← eq]
      have c := h2 0 q0 (Nat.le_refl _) rfl
      show (if x < q0.1 then p.2 + (x - p.1) * slope p q0 else E q0 r x) = p.2 + (x - p.1) * slope p q0 ∧ (if x < q0.1 then slope p q0 else S q0 r x) = slope p q0
      rw [if_pos c, if_pos c]
      exact ⟨rfl, rfl⟩
    | succ n =>
      have c := h1 0 q0 (Nat.zero_lt_succ _) rfl
      have ih := E_at r q0 x n q h (fun j z hj e => h1 (j + 1) z (by omega) e) (fun j z hj e => h2 (j + 1) z (by omega) e)
      show (if x < q0.1 then p.2 + (x - p.1) * slope p q0 else E q0 r x) = _ ∧ (if x < q0.1 then slope p q0 else S q0 r x) = _
      rw [if_neg (by grind), if_neg (by grind)]
      exact ih
theorem f_at {ps : List Pt} {x : Rat} {n : Nat} {q : Pt} (h : ps[n - 1]? = some q) (hn : n ≤ ps.length) (h1 : ∀ (j : Nat) z, j < n → ps[j]? = some z → z.1 ≤ x) (h2 : ∀ (j : Nat) z, n ≤ j → ps[j]? = some z → x < z.1) : f ps x = q.2 + (x - q.1) * pc ps n ∧ sl ps x = pc ps n := by
  cases ps with
  | nil => simp at h
  | cons p r =>
    cases n with
    | zero =>
      have eq : p = q := Option.some.inj h
      rw [← eq]
      have c := h2 0 p (Nat.le_refl _) rfl
      show (if x < p.1 then p.2 + (x - p.1) else E p r x) = p.2 + (x - p.1) * 1 ∧ (if x < p.1 then 1 else S p r x) = 1
      rw [if_pos c, if_pos c]
      exact ⟨by grind, rfl⟩
    | succ n =>
      have c := h1 0 p (Nat.zero_lt_succ _) rfl
      have hq : (p :: r)[n]? = some q := h
      have := E_at r p x n q hq (fun j z hj e => h1 (j + 1) z (by omega) e) (fun j z hj e => h2 (j + 1) z (by omega) e)
      show (if x < p.1 then p.2 + (x - p.1) else E p r x) = _ ∧ (if x < p.1 then 1 else S p r x) = _
      rw [if_neg (by grind), if_neg (by grind)]
      have e : pc (p :: r) (n + 1) = nx q (r.drop n) := by
        show nx ((p :: r).getD n (0, 0)) (r.drop n) = _
        rw [List.getD_eq_getElem?_getD, hq]
        rfl
      rw [e]
      exact this
theorem pc_zero (ps : List Pt) : pc ps 0 = 1 := rfl
theorem pc_end {ps : List Pt} : pc ps ps.length = 1 := by
  unfold pc
  split
  · rfl
  · rw [List.drop_length]
    rfl
theorem pc_at {ps : List Pt} {n : Nat} {p q : Pt} (hp : ps[n]? = some p) (hq : ps[n + 1]? = some q) : pc ps (n + 1) = slope p q := by
  unfold pc
  rw [if_neg (by omega), Nat.add_sub_cancel, List.getD_eq_getElem?_getD, hp]
  have hl := (List.getElem?_eq_some_iff.mp hq).1
  have e := (List.getElem?_eq_some_iff.mp hq).2
  rw [List.drop_eq_getElem_cons hl, e]
  rfl
theorem fil_step {ps : List Pt} {i : Nat} {p : Pt} (h : ps[i]? = some p) : fil (pc ps i) (ps.drop i) = if pc ps i = pc ps (i + 1) then fil (pc ps (i + 1)) (ps.drop (i + 1)) else p :: fil (pc ps (i + 1)) (ps.drop (i + 1)) := by
  have hl := (List.getElem?_eq_some_iff.mp h).1
  have e := (List.getElem?_eq_some_iff.mp h).2
  have e2 : pc ps (i + 1) = nx p (ps.drop (i + 1)) := by
    unfold pc
    rw [if_neg (by omega), Nat.add_sub_cancel, List.getD_eq_getElem?_getD, h]
    rfl
  rw [e2, List.drop_eq_getElem_cons hl, e]
  rfl
end M08
set_option Elab.async false
set_option linter.all false
set_option maxRecDepth 100000
set_option maxHeartbeats 1000000
set_option exponentiation.threshold 100000
namespace K09
open PySem PySem.Spec PyProof.Rows L2 Fa Fb
/-! ### the value of a fraction -/
def vq (t u : Int) : Rat := (t : Rat) / (u : Rat)
theorem cast_ne {u : Int} (h : u ≠ 0) : (u : Rat) ≠ 0 := fun z => h (Rat.intCast_inj.mp (z.trans Rat.intCast_zero.symm))
theorem cast_pos {u : Int} (h : 0 < u) : 0 < (u : Rat) := by
  have := Rat.intCast_lt_intCast.mpr h
  rwa [Rat.intCast_zero] at this
theorem vq_eq {t u t2 u2 : Int} (h : u ≠ 0) (h2 : u2 ≠ 0) : vq t u = vq t2 u2 ↔ t * u2 = t2 * u := by
  have hu := cast_ne h
  have hu2 := cast_ne h2
  unfold vq
  constructor
  · intro e
    have h3 : (t : Rat) * u2 = t2 * u := by grind
    exact Rat.intCast_inj.mp (by rw [Rat.intCast_mul, Rat.intCast_mul]; exact h3)
  · intro e
    have h3 : (t : Rat) * u2 = t2 * u := by
      rw [← Rat.intCast_mul, ← Rat.intCast_mul, e]
    grind
theorem vq_inj {t u t2 u2 : Int} (r : Am.Red t u) (r2 : Am.Red t2 u2) (e : vq t u = vq t2 u2) : t = t2 ∧ u = u2 := Am.uniq r r2 ((vq_eq (Int.ne_of_gt r.1) (Int.ne_of_gt r2.1)).mp e)
theorem vq_add {t u t2 u2 a b : Int} (h : u ≠ 0) (h2 : u2 ≠ 0) (hb : b ≠ 0) (e : a * (u * u2) = (t * u2 + t2 * u) * b) : vq a b = vq t u + vq t2 u2 := by
  rw [(vq_eq hb (Int.mul_ne_zero h h2)).mpr e]
  have hu := cast_ne h
  have hu2 := cast_ne h2
  unfold vq
  rw [Rat.intCast_add, Rat.intCast_mul, Rat.intCast_mul, Rat.intCast_mul]
  grind
theorem vq_sub {t u t2 u2 a b : Int} (h : u ≠ 0) (h2 : u2 ≠ 0) (hb : b ≠ 0) (e : a * (u * u2) = (t * u2 - t2 * u) * b) : vq a b = vq t u - vq t2 u2 := by
  rw [(vq_eq hb (Int.mul_ne_zero h h2)).mpr e]
  have hu := cast_ne h
  have hu2 := cast_ne h2
  unfold vq
  rw [Rat.intCast_sub, Rat.intCast_mul, Rat.intCast_mul, Rat.intCast_mul]
  grind
theorem vq_mul {t u t2 u2 a b : Int} (h : u ≠ 0) (h2 : u2 ≠ 0) (hb : b ≠ 0) (e : a * (u * u2) = (t * t2) * b) : vq a b = vq t u * vq t2 u2 := by
  rw [(vq_eq hb (Int.mul_ne_zero h h2)).mpr e]
  have hu := cast_ne h
  have hu2 := cast_ne h2
  unfold vq
  rw [Rat.intCast_mul, Rat.intCast_mul]
  grind
theorem vq_div {t u t2 u2 a b : Int} (h : u ≠ 0) (h2 : u2 ≠ 0) (ht : t2 ≠ 0) (hb : b ≠ 0) (e : a * (u * t2) = (t * u2) * b) : vq a b = vq t u / vq t2 u2 := by
  rw [(vq_eq hb (Int.mul_ne_zero h ht)).mpr e]
  have hu := cast_ne h
  have hu2 := cast_ne h2
  have ht2 := cast_ne ht
  unfold vq
  rw [Rat.intCast_mul, Rat.intCast_mul]
  grind
theorem vq_lt {t u t2 u2 : Int} (h : 0 < u) (h2 : 0 < u2) : t * u2 < t2 * u ↔ vq t u < vq t2 u2 := by
  have hu := cast_pos h
  have hu2 := cast_pos h2
  have hp := Rat.mul_pos hu hu2
  have nu : (u : Rat) ≠ 0 := by grind
  have nu2 : (u2 : Rat) ≠ 0 := by grind
  have e1 : vq t u * ((u : Rat) * u2) = ((t * u2 : Int) : Rat) := by
    rw [Rat.intCast_mul]
    unfold vq
    grind
  have e2 : vq t2 u2 * ((u : Rat) * u2) = ((t2 * u : Int) : Rat) := by
    rw [Rat.intCast_mul]
    unfold vq
    grind
  rw [← Rat.intCast_lt_intCast, ← e1, ← e2]
  exact Rat.mul_lt_mul_right hp
theorem vq_int (a : Int) : vq a 1 = (a : Rat) := by
  unfold vq
  have : ((1 : Int) : Rat) = 1 := rfl
  rw [this]
  grind
theorem vq_zero : vq 0 1 = 0 := by rw [vq_int]; rfl
theorem vq_one : vq 1 1 = 1 := by rw [vq_int]; rfl
/-- an amount of the value q -/
def QA (K : PySem.W.Frag) (H : Hp) (x : V) (q : Rat) (n : Nat) : Prop := ∃ t u, IsA K H x t u n ∧ vq t u = q
theorem QA.same {K : PySem.W.Frag} {H H' : Hp} {x : V} {q : Rat} {n : Nat} (h : QA K H x q n) (s : Same H H') : QA K H' x q n := let ⟨t, u, a, e⟩ := h; ⟨t, u, a.same s, e⟩
theorem QA.mono {K : PySem.W.Frag} {H : Hp} {x : V} {q : Rat} {n m : Nat} (h : QA K H x q n) (e : n ≤ m) : QA K H x q m := let ⟨t, u, a, e'⟩ := h; ⟨t, u, a.mono e, e'⟩
end K09
set_option Elab.async false
set_option linter.all false
set_option maxRecDepth 100000
set_option maxHeartbeats 4000000
/-! Defs that show lists: the guards of repr stand empty around them. -/
namespace Fg
open PySem PySem.Spec PyProof.Rows L2
/-- a def's promise where no repr is under way -/
structure FnG (P : Program) (w : World) (K : PySem.W.Frag) (mg : Str → Option Value) (base : Heap) (CX : CXT) (k : Nat) (f : Addr) (fd : FuncData) (ps : List Str) (sp : Sp) : Prop where
  len : ∀ vs H Q E, sp vs H Q E → vs.length = ps.length
  run : ∀ (A : Around) (ou : List Env) (s : Shared) (H : Hp) (ar : Args) (us : List Value) (vs : List V) (Q : VK) (E : XK), A.guards = some [] → Room k A → Env0 P w K mg base A ou s H → BindsTo s fd ar (ps.zip us) →
    Vals vs us → sp vs H Q E → codeAny (model P w) A (.call (.ref f) ar) (CR CX ou P w H s Q E) s
section
variable {CX : CXT} {P : Program} {w : World} {K : PySem.W.Frag} {mg : Str → Option Value} {base : Heap} {k : Nat} {f : Addr} {fd : FuncData} {x qual : Str} {params : Arguments} {body : List Stmt} {scope : Scope} {dvs : List V} {kws : List (Str × V)} {N ps : List Str} {sp : Sp}
theorem okG (F : FunD K x qual params body scope dvs kws f fd) (S : FnScope N ps scope) (len : ∀ vs H Q E, sp vs H Q E → vs.length = ps.length)
    (hb : ∀ (cdv : Value) (A : Around) (ou : List Env) (s : Shared) (H : Hp) (vs : List V) (Q : VK) (E : XK), A.guards = some [] → Room k (A.deeper (envOfC qual scope s.heap.objs.size f cdv)) → sp vs H Q E →
      ∃ t, PSs (cxOf CX P w K mg base N qual scope f cdv A ou s H E) body t ∧ t { nx := fun _ H' => Q .non H', rt := Q } (start N vs) H) : FnG P w K mg base CX (k + 1) f fd ps sp := by
  obtain ⟨oc, od, dV, kV, doc, pm, an, cdv, ct, osl, rfl, lk, hcd, _, _⟩ := F.ex
  constructor
  · exact len
  intro A ou s H ar us vs Q E hg hr e0 bi rv hsp
  have keep : ∀ b o, base.get? b = some o → s.heap.get? b = some o := fun b o e => (e0.bs b o e).1
  have inK : K.In s.heap := e0.mod.kin.keeps keep
  have noL : s.heap.NoLimit := e0.mod.nolimit.keeps keep
  have kinds : ∀ y ∈ ps.zip us, scope.names.lookup y.1 = some .local ∨ (scope.names.lookup y.1 = some .cell ∧ ((cellsFrom (s.heap.objs.size + 1) scope.names []).lookup y.1).isSome = true) := by
    rintro ⟨n, v⟩ hy
    exact (S.par n (List.of_mem_zip hy).1).imp id fun q => ⟨q, PySem.W.cellsFrom_some _ _ _ (.inl q)⟩
  refine codeAny_call_function hr.depth (inK _ _ lk) rfl S.co S.gen rfl (PySem.W.codeRec_of inK hcd) (bi _ _ _ _ ?_)
  refine wpAny_newFunctionEnv_cells S.kind kinds fun env he s1 ic => ?_
  cases he
  refine ⟨noL.keeps ic.toInCall.keep, codeAny_func ?_⟩
  obtain ⟨t, pt, tq⟩ := hb cdv A ou s H vs Q E hg (hr.deeper _) hsp
  have J : Inv (cxOf CX P w K mg base N qual scope f cdv A ou s H E) [] (start N vs) H s1 := inv_start S hr.hd e0 (len _ _ _ _ hsp) rv ic
  refine wpAny_mono (pt.run [] s1 (start N vs) H _ J tq) (fun fl s2 h2 => ?_) fun _ _ h2 => h2
  match fl, h2 with
  | .ret u, h2 =>
    obtain ⟨v, σ2, H2, J2, ru, q2⟩ := h2
    exact ⟨v, H2, J2.os, J2.bare, J2.base, J2.hok, ru, q2⟩
  | .next, h2 =>
    obtain ⟨σ2, H2, J2, q2⟩ := h2
    exact ⟨V.non, H2, J2.os, J2.bare, J2.base, J2.hok, rfl, q2⟩
  | .brk, h2 => exact (let ⟨_, _, _, z⟩ := h2; False.elim z)
  | .cont, h2 => exact (let ⟨_, _, _, z⟩ := h2; False.elim z)
end
section
variable {X : Cx} {CX : CXT} {k : Nat} {f : Addr} {fd : FuncData} {ps : List Str} {sp : Sp} {E : L2.St → XK} {x : Str} {p pos : Pos} {e : Expr} {es : List Expr} {t : TA}
theorem run_G {pn : List (Addr × Obj)} {σ : L2.St} {H : Hp} {s : Shared} {Q : VK} {us : List Value} {vs : List V} (G : X.A.guards = some []) (F : FnG X.prog X.w X.K X.mg X.base CX k f fd ps sp) (hr : Room k X.A) (hb : Binds X.K fd ps []) (px : PassesAt CX X σ (E σ))
    (I : Inv X pn σ H s) (r : Vals vs us) (h : sp vs H Q (E σ)) : wpAny (model X.prog X.w) X.A (call (.ref f) us) (EP X pn σ Q) X.xe s := by
  have bi := hb s us I.kIn (by rw [List.append_nil, ← r.length]; exact F.len _ _ _ _ h)
  rw [List.append_nil] at bi
  refine wpAny_call (codeAny_mono (F.run X.A X.stack s H ⟨us, []⟩ us vs Q (E σ) G hr I.env0 bi r h) fun res s2 out => ?_)
  match res, out with
  | .error er, out => exact px pn H s er s2 I out
  | .ok (.ret u), out => exact I.after out
  | .ok .next, out => exact out.elim
  | .ok .brk, out => exact out.elim
  | .ok .cont, out => exact out.elim
theorem pe_callG (G : X.A.guards = some []) (F : FnG X.prog X.w X.K X.mg X.base CX k f fd ps sp) (hr : Room k X.A) (hg : Gl X x) (hm : X.mg x = some (.ref f)) (hk : PySem.W.keepIn X.K (.ref f) = true) (hb : Binds X.K fd ps []) (px : ∀ σ, PassesAt CX X σ (E σ))
    (ha : PA X (e :: es) t) (nd : (x == ("__debug__" : Str)) = false := by decide) (he : starEach (e :: es) X.env = (false, eval e X.env) :: starEach es X.env := by rfl) (hpl : (backTo pos (starEach es X.env)).any (·.1) = false := by rfl) :
    PE X (.Call (.Name x p) (e :: es) [] pos) (tCallS sp E t) := by
  constructor
  intro pn s σ H Q I h
  refine wpAny_Call_Name_kw (ld_glob I hg hm ?_ nd)
  refine PySem.W.callWith_K (h₀ := X.base) I.ok.mod.kin hk (thn (ha.run pos pn s σ H _ I h) ?_) he hpl
  rintro us s1 ⟨vs, H1, I1, r, q⟩
  exact ⟨I1.kIn, run_G G F hr hb (px σ) I1 r q⟩
theorem pe_callG0 (G : X.A.guards = some []) (F : FnG X.prog X.w X.K X.mg X.base CX k f fd ps sp) (hr : Room k X.A) (hg : Gl X x) (hm : X.mg x = some (.ref f)) (hk : PySem.W.keepIn X.K (.ref f) = true) (hb : Binds X.K fd ps []) (px : ∀ σ, PassesAt CX X σ (E σ))
    (nd : (x == ("__debug__" : Str)) = false := by decide) : PE X (.Call (.Name x p) [] [] pos) (tCallS sp E tNil) := by
  constructor
  intro pn s σ H Q I h
  exact wpAny_Call_Name_kw (ld_glob I hg hm (PySem.W.callWith_K0 I.kIn hk (run_G (us := []) G F hr hb (px σ) I .nil h)) nd)
end
/-! ### repr of what is tracked -/
/-- the object of sys.modules is a dict of the written part -/
def SysD (K : PySem.W.Frag) : Prop := ∃ c dd es ep sl, K.lookup sysModules = some ⟨c, dd, .dict es ep, sl⟩
def Sh (X : Cx) (H : Hp) (v : V) (d : PyData) : Prop := ∀ (pn : List (Addr × Obj)) (σ : L2.St) (s : Shared) (u : Value), Inv X pn σ H s → RelV v u → ∃ as, Reads s.heap u d as ∧ sysModules ∉ as
inductive ShA (X : Cx) (H : Hp) : List V → List PyData → Prop
  | nil : ShA X H [] []
  | cons {v : V} {vs : List V} {d : PyData} {ds : List PyData} : Sh X H v d → ShA X H vs ds → ShA X H (v :: vs) (d :: ds)
section
variable {X : Cx} {H : Hp}
theorem ShA.reads {pn : List (Addr × Obj)} {σ : L2.St} {s : Shared} (I : Inv X pn σ H s) : ∀ {vs : List V} {ds : List PyData} {us : List Value}, ShA X H vs ds → Vals vs us → ∃ as, ReadsAll s.heap us ds as ∧ sysModules ∉ as
  | _, _, _, .nil, .nil => ⟨[], .nil, by simp⟩
  | _, _, _, .cons h hs, .cons r rs => by
    obtain ⟨as, a1, a2⟩ := h _ _ _ _ I r
    obtain ⟨bs, b1, b2⟩ := ShA.reads I hs rs
    exact ⟨as ++ bs, .cons a1 b1, by simp [a2, b2]⟩
theorem sh_non : Sh X H .non .none := fun _ _ _ u _ r => by
  cases r
  exact ⟨[], .none, by simp⟩
theorem sh_bl (b : Bool) : Sh X H (.bl b) (.bool b) := fun _ _ _ u _ r => by
  cases r
  exact ⟨[], .bool b, by simp⟩
theorem sh_int (i : Int) : Sh X H (.int i) (.int i) := fun _ _ _ u _ ⟨t, e⟩ => by
  cases e
  exact ⟨[], .int i t, by simp⟩
theorem sh_str (x : Str) : Sh X H (.str x) (.str x) := fun _ _ _ u _ ⟨t, e⟩ => by
  cases e
  exact ⟨[], .str x t, by simp⟩
theorem sh_lst (S : SysD X.K) {a : Addr} {xs : List V} {ds : List PyData} (h : H a = some (.lst xs)) (hs : ShA X H xs ds) : Sh X H (.ref a) (.list ds) := fun pn σ s u I r => by
  cases r
  obtain ⟨its, rv, ⟨o, n, ho, hc, _, hd⟩, _⟩ := I.list (SqL.of (K := X.K) h)
  obtain ⟨as, a1, a2⟩ := hs.reads I rv
  refine ⟨a :: as, .list ho hc hd a1, fun z => ?_⟩
  rcases List.mem_cons.mp z with z | z
  · obtain ⟨c, dd, es, ep, sl, hk⟩ := S
    have h2 := I.kIn _ _ hk
    rw [z, ho] at h2
    cases h2
    cases hd
  · exact a2 z
theorem sh_tup {a : Addr} {xs : List V} {ds : List PyData} (h : H a = some (.tup xs)) (hs : ShA X H xs ds) : Sh X H (.ref a) (.tuple ds) := fun pn σ s u I r => by
  cases r
  obtain ⟨its, rv, ⟨o, ho, hc, n, hd⟩, _⟩ := I.tuple (SqT.of (K := X.K) h)
  obtain ⟨as, a1, a2⟩ := hs.reads I rv
  exact ⟨as, .tuple ho hc hd a1, a2⟩
theorem sh_dict0 {a : Addr} (h : H a = some (.dK [])) : Sh X H (.ref a) (.dict []) := fun pn σ s u I r => by
  cases r
  obtain ⟨_, h1, vs, kv, hd⟩ := dk_of I.hok h
  obtain ⟨o, es, ep, ho, hc, hdat, _, hp, _⟩ := hd
  cases kv
  have el : es.toList = [] := List.eq_nil_of_length_eq_zero hp.length
  refine ⟨a :: [] ++ [], Reads.dict ho hc.1 hdat (by rw [el]; exact .nil) (by rw [el]; exact .nil), fun z => ?_⟩
  have z2 : sysModules = a := by simpa using z
  rw [← z2] at h1
  simp at h1
mutual
/-- what is shown of a value, by the tracked heap alone -/
inductive Sv (H : Hp) : V → PyData → Prop
  | non : Sv H .non .none
  | bl (b : Bool) : Sv H (.bl b) (.bool b)
  | int (i : Int) : Sv H (.int i) (.int i)
  | str (x : Str) : Sv H (.str x) (.str x)
  | lst {a : Addr} {xs : List V} {ds : List PyData} : H a = some (.lst xs) → SvA H xs ds → Sv H (.ref a) (.list ds)
  | tup {a : Addr} {xs : List V} {ds : List PyData} : H a = some (.tup xs) → SvA H xs ds → Sv H (.ref a) (.tuple ds)
  | dic {a : Addr} : H a = some (.dK []) → Sv H (.ref a) (.dict [])
inductive SvA (H : Hp) : List V → List PyData → Prop
  | nil : SvA H [] []
  | cons {v : V} {vs : List V} {d : PyData} {ds : List PyData} : Sv H v d → SvA H vs ds → SvA H (v :: vs) (d :: ds)
end
mutual
theorem Sv.sh (S : SysD X.K) : ∀ {d : PyData} {v : V}, Sv H v d → Sh X H v d
  | _, _, .non => sh_non
  | _, _, .bl b => sh_bl b
  | _, _, .int i => sh_int i
  | _, _, .str x => sh_str x
  | _, _, .lst h hs => sh_lst S h (SvA.sh S hs)
  | _, _, .tup h hs => sh_tup h (SvA.sh S hs)
  | _, _, .dic h => sh_dict0 h
theorem SvA.sh (S : SysD X.K) : ∀ {ds : List PyData} {vs : List V}, SvA H vs ds → ShA X H vs ds
  | _, _, .nil => .nil
  | _, _, .cons h hs => .cons (Sv.sh S h) (SvA.sh S hs)
end
mutual
theorem Sv.same {H' : Hp} (s : ∀ a o, H a = some o → H' a = some o) : ∀ {d : PyData} {v : V}, Sv H v d → Sv H' v d
  | _, _, .non => .non
  | _, _, .bl b => .bl b
  | _, _, .int i => .int i
  | _, _, .str x => .str x
  | _, _, .lst h hs => .lst (s _ _ h) (SvA.same s hs)
  | _, _, .tup h hs => .tup (s _ _ h) (SvA.same s hs)
  | _, _, .dic h => .dic (s _ _ h)
theorem SvA.same {H' : Hp} (s : ∀ a o, H a = some o → H' a = some o) : ∀ {ds : List PyData} {vs : List V}, SvA H vs ds → SvA H' vs ds
  | _, _, .nil => .nil
  | _, _, .cons h hs => .cons (Sv.same s h) (SvA.same s hs)
end
theorem call_reprD (S : SysD X.K) (G : X.A.guards = some []) (hu : X.A.units + 64 < cLine) : CallR X (.builtin "repr") (fun xs H Q => ∃ a d, xs = [.ref a] ∧ Sv H (.ref a) d ∧ d.showable = true ∧ d.depth ≤ 20 ∧ d.shown.length ≤ sizeLine ∧ Q (.str d.shown) H) := by
  intro pn s σ H xs us Q I r h
  obtain ⟨a, d, rfl, sv, h1, h2, h3, q⟩ := h
  obtain ⟨u, rfl, r1⟩ := vals1 r
  obtain rfl : u = Value.ref a := r1
  obtain ⟨as, rd, ns⟩ := sv.sh S _ _ _ _ I rfl
  exact repr_of_reads' rd h1 (fun _ => ns) G (by omega) (fun _ _ e => e) (fun h' u tk hk => ⟨.str d.shown, H, I.kept (t' := tk) hk, ⟨u, rfl⟩, q⟩) h3
end
theorem deeper_guards {A : Around} {env : Env} : (A.deeper env).guards = A.guards := rfl
end Fg
set_option Elab.async false
set_option linter.all false
set_option maxRecDepth 100000
set_option maxHeartbeats 4000000
/-! sep.join(reversed(a list of texts)) -/
namespace Fj
open PySem PySem.Spec PyProof.Rows PySem.Builtin PySem.Builtin.Str RT
section
variable {prog : Program} {w : World} {A : Around} {E : Value → Shared → Prop} {s : Shared}
theorem join_rev {x : Str} {t : Tok} {ys : List Str} {it l : Addr} {items : Array Value} {Q : Value → Shared → Prop} (hh : A.handled = none) (hit : s.heap.IsRevIter it l ((items.size : Int) - 1)) (hl : s.heap.IsList l items) (hne : l ≠ it) (hn : items.size ≤ sizeLine)
    (hP : ∀ acc : Array Value, ItemsOf (fun i v => items[items.size - 1 - i]? = some v) acc items.size → StrsAre acc.toList ys) (hok : (ys.map (·.length)).sum + ys.length * x.length ≤ 16777216)
    (hq : ∀ h' t' k, (∀ b o, b ≠ it → s.heap.get? b = some o → h'.get? b = some o) → Q (.str (Txt.join x ys) t') { s with heap := h', toks := k }) :
    wpAny (model prog w) A (call (.builtin "str.join") [.str x t, .ref it]) Q E s := by
  refine wpAny_call (codeAny_call_builtin F.slot_str_join.plain F.entry_str_join (F.slot_str_join.check _ _ _ _ _ _ _ _ (typeIs_str _ _ _) (F.args_str_join_2 _ _) ?_))
  have ty : s.TypeIs (.ref it) "list_reverseiterator" := hit.typeIs
  rw [join_tree_other]
  refine wpAny_bind (wpAny_typeOf ty ?_)
  show wpAny _ A.in1 ((pyIter (.ref it)).tryCatch _ >>= fun z => collect z >>= fun got => joinTail x got) _ _ s
  refine wpAny_bind (wpAny_tryCatch (wpAny_pyIter_revIter hit ?_))
  refine wpAny_bind (collect_rev (A := A.in1) hh hit hl hne hn fun h' tk acc hk hacc => ?_)
  obtain ⟨vals, hv, ht⟩ := strsAre_values (hP acc hacc)
  subst ht
  rw [hv]
  have fits := joinOk_of hok
  unfold JoinOk at fits
  rw [Bool.not_eq_true'] at fits
  have made : Gives (joinTail x (strValues vals)) (joinMade x vals) := by
    have z := gives_joinTail x vals fits
    cases vals with
    | nil => exact z
    | cons p1 rest => cases rest with
      | nil => exact z
      | cons p2 rest2 => exact z
  exact made prog w A (wants Q E) _ (post_join vals ⟨joinFit_length fits, fun t' k => hq h' t' k hk⟩)
end
end Fj
namespace Fj
open PySem PySem.Spec PyProof.Rows L2
section
variable {X : Cx}
/-- sep.join(reversed(xs)), xs a list of texts -/
def tJoinRev (K : PySem.W.Frag) (to te : TE) : TE := fun σ H Q => to σ H fun x H1 => (∃ a, x = .str a) ∧ te σ H1 fun v H2 => ∃ (a : Str) (q : Addr) (ys : List Str), x = .str a ∧ v = .ref q ∧ SqL K H2 q (ys.map V.str) ∧ (ys.map (·.length)).sum + ys.length * a.length ≤ 16777216 ∧ Q (.str (Txt.join a ys.reverse)) H2
theorem sum_rev : ∀ l : List Nat, l.reverse.sum = l.sum
  | [] => rfl
  | a :: l => by
    rw [List.reverse_cons, List.sum_append, sum_rev l, List.sum_cons, List.sum_cons, List.sum_nil]
    omega
theorem pe_joinRev {o e : Expr} {to te : TE} {apos pos p pos2 : Pos} (hc : X.calm = true) (ho : PE X o to) (hg : Gl X "reversed") (hm : X.mg "reversed" = none) (he : PE X e te)
    (hs1 : starEach [.Call (.Name "reversed" p) [e] [] pos2] X.env = [(false, eval (.Call (.Name "reversed" p) [e] [] pos2) X.env)] := by rfl) (hs : starEach [e] X.env = (false, eval e X.env) :: starEach [] X.env := by rfl)
    (hbase : attributeBase o "join" X.env (eval o X.env) = eval o X.env := by rfl) (hline : (apos.endLine == pos.line) = true := by rfl) :
    PE X (.Call (.Attribute o "join" apos) [.Call (.Name "reversed" p) [e] [] pos2] [] pos) (tJoinRev X.K to te) := by
  constructor
  intro pn s σ H Q I h
  refine PySem.Call_method1 hbase hs1 hline (thn (ho.run pn s σ H _ I h) ?_)
  rintro v s1 ⟨x, H1, I1, r1, ⟨a, rfl⟩, q1⟩
  obtain ⟨t, rfl⟩ := _root_.id r1
  refine ⟨"str", _, F.plainAttrs_str, F.slot_str_join, F.type_str_join, typeIs_str _ _ _, (fun _ e => nomatch e), Calls.callWith_builtin rfl (Calls.evalArgs_plain (Calls.spliced_cons ?_))⟩
  refine Call_ (ld_blt I1 hg hm PyProof.Rows.boot_reversed (PyProof.Rows.callWith_type1 (args_cons (thn (he.run pn s1 σ H1 _ I1 q1) fun u s2 ⟨v2, H2, I2, r2, q2⟩ => args_nil ?_) hs) hs rfl))
  obtain ⟨a', q, ys, ea, rfl, hq, fits, q3⟩ := q2
  cases ea
  cases r2
  obtain ⟨its, rv, pl, hz⟩ := I2.list hq
  refine call_reversed_list pl.isList (Calls.spliced_nil ?_)
  have keep : ∀ b o, s2.heap.get? b = some o → (s2.heap.push (revObj q ((its.toArray.size : Int) - 1))).get? b = some o := fun b o e => Heap.get?_push_of_some _ e
  have J : Inv X pn σ H2 { s2 with heap := s2.heap.push (revObj q ((its.toArray.size : Int) - 1)) } := I2.kept (t' := s2.toks) keep
  obtain ⟨f0, f1, f2, f3, f4, f5⟩ := I2.fpOk (H' := H2) (b := s2.heap.objs.size) (Nat.le_refl _) (I2.hok.fresh (Nat.le_refl _))
  have hl := pl.isList
  obtain ⟨ol, hol, _⟩ := id hl
  have ne : q ≠ s2.heap.objs.size := Nat.ne_of_lt (Heap.lt_size hol)
  have hn : its.toArray.size ≤ sizeLine := by rw [List.size_toArray, ← rv.length]; exact hz
  refine join_rev (s := { s2 with heap := s2.heap.push (revObj q ((its.toArray.size : Int) - 1)) }) (ys := ys.reverse) (I2.ok.hd hc) ⟨_, Heap.get?_push_size _ rfl, rfl, rfl⟩ (hl.push _) ne hn (fun acc hacc => ?_) ?_ fun h' t' k hk => ?_
  · have z := RT.vals_rev rv hacc
    rw [← List.map_reverse] at z
    exact strs_of_vals z
  · rw [List.map_reverse, sum_rev, List.length_reverse]
    exact fits
  · exact ⟨.str _, H2, J.turned (t' := k) (fun b o hb e => hk b o hb e) f0 f1 f3 f4 f5, ⟨t', rfl⟩, q3⟩
end
end Fj
set_option Elab.async false
set_option linter.all false
set_option maxRecDepth 100000
set_option maxHeartbeats 4000000
/-! xs != [], xs == [] of lists of any items. -/
namespace Fk
open PySem PySem.Spec PyProof.Rows L2
theorem op_neNil {X : Cx} (hu : X.A.units + 64 < cLine) : OpR X (compareOp .NotEq) (fun x y H Q => ∃ (a b : Addr) (xs : List V), x = .ref a ∧ y = .ref b ∧ SqL X.K H a xs ∧ SqL X.K H b [] ∧ Q (.bl (!xs.isEmpty)) H) := by
  intro pn s σ H x y v u Q I rx ry h
  obtain ⟨a, b, xs, rfl, rfl, ha, hb, q⟩ := h
  cases rx
  cases ry
  obtain ⟨its, rv, pl, _⟩ := I.list ha
  obtain ⟨its2, rv2, pl2, _⟩ := I.list hb
  cases rv2
  show wpAny (model X.prog X.w) X.A (richCompare .NotEq (.ref a) (.ref b)) (EP X pn σ Q) X.xe s
  have hu1 : X.A.units < cLine := by omega
  cases rv with
  | nil => exact SeqAt.RcNeAt.lists (e := fun _ => true) pl.isList pl2.isList rfl hu1 (fun j h1 _ => absurd h1 (by simp)) X.prog X.w X.xe _ ⟨.bl _, H, I, rfl, q⟩
  | cons r rs => exact SeqAt.RcNeAt.lists_lengths pl.isList pl2.isList (by simp) hu1 X.prog X.w X.xe _ ⟨.bl _, H, I, rfl, q⟩
theorem op_eqNil {X : Cx} (hu : X.A.units + 64 < cLine) : OpR X (compareOp .Eq) (fun x y H Q => ∃ (a b : Addr) (xs : List V), x = .ref a ∧ y = .ref b ∧ SqL X.K H a xs ∧ SqL X.K H b [] ∧ Q (.bl xs.isEmpty) H) := by
  intro pn s σ H x y v u Q I rx ry h
  obtain ⟨a, b, xs, rfl, rfl, ha, hb, q⟩ := h
  cases rx
  cases ry
  obtain ⟨its, rv, pl, _⟩ := I.list ha
  obtain ⟨its2, rv2, pl2, _⟩ := I.list hb
  cases rv2
  show wpAny (model X.prog X.w) X.A (richCompare .Eq (.ref a) (.ref b)) (EP X pn σ Q) X.xe s
  have hu1 : X.A.units < cLine := by omega
  cases rv with
  | nil => exact SeqAt.RcAt.lists (e := fun _ => true) pl.isList pl2.isList rfl hu1 (fun j h1 _ => absurd h1 (by simp)) X.prog X.w X.xe _ ⟨.bl _, H, I, rfl, q⟩
  | cons r rs => exact SeqAt.RcAt.lists_lengths pl.isList pl2.isList (by simp) hu1 X.prog X.w X.xe _ ⟨.bl _, H, I, rfl, q⟩
end Fk
set_option Elab.async false
set_option linter.all false
set_option maxRecDepth 100000
set_option maxHeartbeats 4000000
/-! a dict == a text: False -/
namespace Fd
open PySem PySem.SeqAt
open AutoSeq1 (wpAny_loadPart')
open MeetsSeq MeetsSeq2 MeetsSeq3 SeqRoads2
theorem dict_eq_declines_str (l : Addr) (o : Obj) (b : Str) (u : Tok) :
    Meets (Builtin.«dict.__eq__» ⟨[.ref l, .str b u], []⟩) (fun _ R s => (s.heap.get? l = some o ∧ o.cls = .type "dict" ∧ ∃ es ep, o.data = .dict es ep) ∧ R (.ok (.ret .notImplemented)) s) :=
  .of_wp fun prog w A R s h => by
    obtain ⟨hp, g, d, tk, os⟩ := s
    obtain ⟨⟨hl, hc, es, ep, hd⟩, h⟩ := h
    obtain ⟨c, dd, da, sl⟩ := o
    simp only at hc hd
    subst hc hd
    have f1 := F.sub_str_dict
    wp_walk using wpAny_loadPart' hl, wpAny_load hl
    exact ⟨_, rfl, h⟩
theorem str_eq_declines_dict (l : Addr) (o : Obj) (b : Str) (u : Tok) :
    Meets (Builtin.«str.__eq__» ⟨[.str b u, .ref l], []⟩) (fun _ R s => (s.heap.get? l = some o ∧ o.cls = .type "dict" ∧ ∃ es ep, o.data = .dict es ep) ∧ R (.ok (.ret .notImplemented)) s) :=
  .of_wp fun prog w A R s h => by
    obtain ⟨hp, g, d, tk, os⟩ := s
    obtain ⟨⟨hl, hc, es, ep, hd⟩, h⟩ := h
    obtain ⟨c, dd, da, sl⟩ := o
    simp only at hc hd
    subst hc hd
    wp_walk using wpAny_loadPart' hl, wpAny_load hl
    exact ⟨_, rfl, h⟩
end Fd
namespace Fd
open PySem PySem.Spec PyProof.Rows L2
theorem op_eqDS {X : Cx} (hu : X.A.units < cLine) : OpR X (compareOp .Eq) (fun x y H Q => ∃ a kvs z, x = .ref a ∧ y = .str z ∧ H a = some (.dK kvs) ∧ Q (.bl false) H) := by
  intro pins s σ H x y v u Q I rx ry h
  obtain ⟨a, kvs, z, rfl, rfl, ha, q⟩ := h
  cases rx
  obtain ⟨t, rfl⟩ := ry
  obtain ⟨_, h1, vs, kv, hd⟩ := dk_of I.hok ha
  obtain ⟨o, es, ep, ho, hc, hdat, _⟩ := hd
  have f : s.heap.get? a = some o ∧ o.cls = .type "dict" ∧ ∃ es ep, o.data = .dict es ep := ⟨ho, hc.1, es, ep, hdat⟩
  show wpAny (model X.prog X.w) X.A (richCompare .Eq (.ref a) (.str z t)) (EP X pins σ Q) X.xe s
  exact SeqAt.rc_eq_decline_or (k := false) ⟨_, ho, hc.1⟩ (typeIs_str s z t) (by decide) F.sub_str_dict F.slot_dict_eq F.slot_str_eq_refl
    (fun _ hq => call_meets F.slot_dict_eq ⟨_, ho, hc.1⟩ F.entry_dict_eq (F.args_dict_eq_2 _ _) (dict_eq_declines_str a o z t) ⟨f, hq⟩)
    (fun _ hq => call_meets F.slot_str_eq_refl (typeIs_str s z t) F.entry_str_eq (F.args_str_eq_2 _ _) (str_eq_declines_dict a o z t) ⟨f, hq⟩)
    (fun _ hq => wpAny_of_eq (rfl : isSame (.ref a) (.str z t) = pure false) hq) (.inr hu) ⟨.bl false, H, I, rfl, q⟩
end Fd
set_option Elab.async false
set_option linter.all false
set_option maxRecDepth 100000
set_option maxHeartbeats 4000000
/-! a != b by an own == of the class, != being object's. -/
namespace PySem.W
open PySem PySem.Spec PySem.Calls PyProof.Rows
theorem one_plain : plainId "object.__ne__" = true := by decide +kernel
theorem one_entry : entryFor table "object.__ne__" = some Builtin.«object.__ne__» := entryFor_of_fast (by kernel_rfl)
theorem one_args (a b : Value) : argsOk "object.__ne__" ⟨[a, b], []⟩ := by unfold argsOk; kernel_rfl
theorem one_bind (self : Value) : bindSpecial (.builtin "object.__ne__") self = pure (.builtin "object.__ne__", [self]) :=
  (Slot.of (T := "object") (name := "__ne__") (owner := "object") (n := "__ne__") (by rw [typeLookup_type, builtinLookup_eq_fast]; kernel_rfl) (by decide +kernel) (by decide +kernel) (by decide +kernel)
    (.inl (by decide +kernel)) (by rw [isSubtype_type]; kernel_rfl)).bind self
section
variable {prog : Program} {w : World} {A A₀ : Around} {E : Value → Shared → Prop} {s : Shared} {K : Frag} {x C L f : Addr} {h₀ : Heap} {m : Str → Option Value} {ox : Obj} {od : Option Obj} {name : Str} {b tb : Value}
theorem ifBound_B {M : Model} {args : List Value} {id : String} {Q : Option Value → Shared → Prop} (X : K.In s.heap) (I : InstAt s.heap x ox C od) (hs : findIn K (.ref C) name = some (some (.builtin id))) (hb : ∀ self, bindSpecial (.builtin id) self = pure (.builtin id, [self]))
    (h : wpAny M A (call (.builtin id) (.ref x :: args)) (fun v => Q (some v)) E s) : wpAny M A (callSpecialIfBound? (.ref x) name args) Q E s := by
  simp only [callSpecialIfBound?, bindSpecialIfBound?]
  refine wpAny_holding (wpAny_bind (wpAny_bind (wpAny_bind (I.type.here ((looks_findIn X hs).here ?_)))))
  refine wpAny_bind (wpAny_askSetting (wpAny_ite ?_))
  have fin : wpAny M A (call (.builtin id) ([.ref x] ++ args) >>= fun v => pure (some v)) Q E s := wpAny_bind (wpAny_mono h (fun v s' h' => wpAny_pure h') fun _ _ h' => h')
  split
  · exact wpAny_bind (wpAny_of_eq (hb _) (wpAny_pure (by exact fin)))
  · exact wpAny_tryCatch (wpAny_bind (wpAny_of_eq (hb _) (wpAny_pure (by exact fin))))
theorem ne_call {Q : Value → Shared → Prop} (hu : A.in1.units < cLine) (X : K.In s.heap) (I : InstAt s.heap x ox C od) (ho : subIn K (.ref C) (.type "object") = some true) (hs : findIn K (.ref C) "__eq__" = some (some (.ref f))) (hf : isFn K (.ref f) = true)
    (h : wpAny (model prog w) A.in1 (call (.ref f) [.ref x, b]) (fun v s' => ∃ k, v = .bool k ∧ Q (.bool (!k)) s') E s) : wpAny (model prog w) A (call (.builtin "object.__ne__") [.ref x, b]) Q E s := by
  refine wpAny_call (codeAny_call_builtin one_plain one_entry ?_)
  refine @check_slot (model prog w) _ _ s "object.__ne__" "object" "__ne__" (.ref x) [b] [] _ (by decide +kernel) (by decide +kernel) (I.type.andThen (looks_subIn X ho)) (one_args _ _) ?_
  unfold Builtin.«object.__ne__»
  refine wpAny_bind (wpAny_of_eq (a := ((Value.ref x : Value), [b])) (by first | rfl | (simp only [slotArgs]; rfl)) ?_)
  refine wpAny_bind (wpAny_cRoomFor hu ?_)
  refine wpAny_bind (ifBound_K X I hs hf (wpAny_mono h (fun v s' hv => ?_) fun _ _ e => e))
  obtain ⟨k, rfl, q⟩ := hv
  refine wpAny_bind (wpAny_truthy_bool ?_)
  exact wpAny_pure q
theorem ne_K {Q : Value → Shared → Prop} (hu : A.units < cLine) (hu1 : A.in1.units < cLine) (X : K.In s.heap) (I : InstAt s.heap x ox C od) (hb : Looks (model prog w) s.heap (typeOf b) tb) (hn : notFirst K C tb = true)
    (hne : findIn K (.ref C) "__ne__" = some (some (.builtin "object.__ne__"))) (ho : subIn K (.ref C) (.type "object") = some true) (hs : findIn K (.ref C) "__eq__" = some (some (.ref f))) (hf : isFn K (.ref f) = true)
    (h : wpAny (model prog w) A.in1 (call (.ref f) [.ref x, b]) (fun v s' => ∃ k, v = .bool k ∧ Q (.bool (!k)) s') E s) : wpAny (model prog w) A (richCompare .NotEq (.ref x) b) Q E s := by
  have one : wpAny (model prog w) A (tryCompare (.ref x) (cmpInfo .NotEq).2.1 b) (fun r s' => ∃ v, r = some v ∧ Q v s') E s := by
    unfold tryCompare
    have two : wpAny (model prog w) A (call (.builtin "object.__ne__") [.ref x, b]) (fun v s' => ∃ k, v = .bool k ∧ Q v s') E s := ne_call hu1 X I ho hs hf (wpAny_mono h (fun v s' hv => by
      obtain ⟨k, rfl, q⟩ := hv
      exact ⟨k, rfl, _, rfl, q⟩) fun _ _ e => e)
    refine wpAny_bind (ifBound_B X I hne one_bind (wpAny_mono two (fun v s' hv => ?_) fun _ _ e => e))
    obtain ⟨k, rfl, q⟩ := hv
    exact wpAny_pure ⟨_, rfl, q⟩
  unfold richCompare
  simp only [oneThing_ref]
  refine wpAny_holding (wpAny_bind (wpAny_cRoomFor hu ?_))
  refine wpAny_bind (I.type.here (wpAny_bind (hb.here ?_)))
  split
  · rename_i q
    have e : subIn K tb (.ref C) = some false := by
      rcases Bool.or_eq_true_iff.mp hn with e | e
      · rw [beq_iff_eq.mp e] at q; simp at q
      · exact beq_iff_eq.mp e
    refine wpAny_bind ((looks_subIn X e).here ?_)
    simp only [Bool.false_eq_true, if_false]
    refine wpAny_bind (wpAny_mono one (fun r s' z => ?_) fun _ _ e => e)
    obtain ⟨v, rfl, hq⟩ := z
    exact wpAny_pure hq
  · refine wpAny_bind (wpAny_pure ?_)
    simp only [Bool.false_eq_true, if_false]
    refine wpAny_bind (wpAny_mono one (fun r s' z => ?_) fun _ _ e => e)
    obtain ⟨v, rfl, hq⟩ := z
    exact wpAny_pure hq
end
end PySem.W
namespace Fn
open PySem PySem.Spec PyProof.Rows L2
section
variable {X : Cx} {CX : CXT} {k : Nat} {f C : Addr} {fd : FuncData} {ps : List Str} {sp : Sp} {E : L2.St → XK} {a b : Expr} {ta tb : TE} {pos p : Pos}
/-- a != b, a an instance, by its own == -/
theorem pe_neX (at_ : PySem.W.findIn X.K (.ref C) "__eq__" = some (some (.ref f))) (fn : PySem.W.isFn X.K (.ref f) = true) (hne : PySem.W.findIn X.K (.ref C) "__ne__" = some (some (.builtin "object.__ne__"))) (ho : PySem.W.subIn X.K (.ref C) (.type "object") = some true)
    (F : FnOk X.prog X.w X.K X.mg X.base CX k f fd ps sp) (hr : Room (k + 2) X.A) (hb : Binds X.K fd ps []) (hx : ∀ σ, PassesAt CX X σ (E σ)) (ha : PE X a ta) (hb2 : PE X b tb) :
    PC X .NotEq a b (fun σ H Q => ta σ H fun x H1 => tb σ H1 fun y H2 => ∃ p dx fs, x = .ref p ∧ H2 p = some (.ins C dx fs) ∧ ((∃ q dy gs, y = .ref q ∧ H2 q = some (.ins C dy gs)) ∨ ∃ T, TyX X.K H2 y (.type T) ∧ PySem.W.subIn X.K (.type T) (.ref C) = some false) ∧
      sp [x, y] H2 (fun v H3 => ∃ k : Bool, v = .bl k ∧ Q (.bl (!k)) H3) (E σ)) := by
  refine ⟨fun pins s σ H Q I h => ?_⟩
  refine bin ha hb2 I h fun v u s2 x y H2 I2 rx ry q => ?_
  obtain ⟨p, dx, fs, ex, hp, rk, q⟩ := q
  subst ex
  obtain rfl : v = Value.ref p := rx
  obtain ⟨mA, O, _⟩ := ins_get I2.hok hp
  obtain ⟨od, J, _⟩ := O.look
  have hr2 : Room k X.A.in1 := (show Room (k + 1) X.A.in1 from Room.in1 hr).mono (Nat.le_succ _)
  have hl : ([V.ref p, y]).length = ps.length := F.len _ _ _ _ q
  have go : wpAny (model X.prog X.w) X.A.in1 (call (.ref f) [.ref p, u]) (fun v s' => ∃ k, v = .bool k ∧ EP X pins σ Q (.bool (!k)) s') X.xe s2 := by
    refine wpAny_call (codeAny_mono (F.run X.A.in1 X.stack s2 H2 ⟨[.ref p, u], []⟩ [.ref p, u] [.ref p, y] _ (E σ) hr2 I2.env0.in1 (by
      have z := hb s2 [.ref p, u] I2.kIn (by simpa using hl)
      simpa using z) (.cons rfl (.cons ry .nil)) q) fun r s' hq => ?_)
    cases r with
    | error e => exact hx σ pins H2 s2 e s' I2 hq
    | ok fl =>
      cases fl with
      | ret u =>
        obtain ⟨z, H', I', rz, kk, ez, q2⟩ := I2.after hq
        subst ez
        cases rz
        exact ⟨kk, rfl, .bl (!kk), H', I', rfl, q2⟩
      | next => exact False.elim hq
      | brk => exact False.elim hq
      | cont => exact False.elim hq
  obtain ⟨m, hF⟩ := I2.fr
  have u1 : X.A.in1.units < cLine := (Room.in1 (show Room (k + 1 + 1) X.A from hr)).units0
  rcases rk with ⟨q', dy, gs, ey, hq'⟩ | ⟨T, ty, h3⟩
  · subst ey
    obtain rfl : u = Value.ref q' := ry
    obtain ⟨mB, O', _⟩ := ins_get I2.hok hq'
    obtain ⟨od', J', _⟩ := O'.look
    exact PySem.W.ne_K (tb := .ref C) hr.units0 u1 I2.kIn J J'.type (by simp [PySem.W.notFirst]) hne ho at_ fn go
  · obtain ⟨P, Z, hP, _⟩ := kit_of I2 ry ty
    exact PySem.W.ne_K (tb := .type T) hr.units0 u1 I2.kIn J (fun A Q E s k z => Z.ty _ _ I2.kIn hP A Q E s k z) (by simp [PySem.W.notFirst, h3]) hne ho at_ fn go
end
end Fn
set_option Elab.async false
set_option linter.all false
set_option maxRecDepth 100000
set_option maxHeartbeats 4000000
/-! enumerate(tuple) -/
namespace PySem
open Sem (wp)
open AutoSeq1 (wpAny_loadPart')
theorem meets_enumerate_newT (l : Addr) (items : Array Value) (n : Nat) (dct : Option Addr) (sl : Array (Option Value)) :
    Meets (Builtin.«enumerate.__new__» ⟨[.type "enumerate", .ref l], []⟩) (fun _ R s => s.heap.get? l = some { cls := .type "tuple", dict := dct, data := .seq items n, slots := sl } ∧
      R (.ok (.ret (.ref (s.heap.push { cls := .type "tuple_iterator", data := .fields #[.ref l, .int 0 0] }).objs.size)))
        { s with heap := (s.heap.push { cls := .type "tuple_iterator", data := .fields #[.ref l, .int 0 0] }).push { cls := .type "enumerate", data := .fields #[.none, .bool false, .ref s.heap.objs.size, rawInt 0, .none, .none] } }) :=
  .of_wp fun prog w A R s h => by
    obtain ⟨hp, g, d, tk, os⟩ := s; obtain ⟨hl, h⟩ := h
    have hsub := sub_enumerate
    have hL : Heap.IsTuple (Shared.heap ⟨hp, g, d, tk, os⟩) l items := ⟨_, hl, rfl, n, rfl⟩
    wp_walk using wpAny_loadPart' hl
    refine wpAny_stack_any fun st => wpAny_pure ?_
    split
    · rename_i c _ _ _ _ _
      cases (c == Value.type "enumerate")
      · wp_walk using wpAny_loadPart' hl, wpAny_pyIter_tuple hL
        exact ⟨_, rfl, h⟩
      · wp_walk using wpAny_loadPart' hl, wpAny_pyIter_tuple hL
        exact ⟨_, rfl, h⟩
    · wp_walk using wpAny_loadPart' hl, wpAny_pyIter_tuple hL
      exact ⟨_, rfl, h⟩
section
variable {prog : Program} {w : World} {A : Around} {E : Value → Shared → Prop} {s : Shared}
theorem call_enumerate_tuple {l : Addr} {items : Array Value} {Q : Value → Shared → Prop} (hL : s.heap.IsTuple l items)
    (h : ∀ h', IsEnum h' (s.heap.objs.size + 1) s.heap.objs.size 0 .none → h'.IsTupleIter s.heap.objs.size l 0 → h'.objs.size = s.heap.objs.size + 2 →
      (∀ b o, s.heap.get? b = some o → h'.get? b = some o) → Q (.ref (s.heap.objs.size + 1)) { s with heap := h' }) :
    wpAny (model prog w) A (call (.type "enumerate") [.ref l]) Q E s := by
  obtain ⟨⟨c, dct, dt, sl⟩, hl, hc, n, hd⟩ := hL
  replace hc : c = .type "tuple" := hc
  replace hd : dt = .seq items n := hd
  subst hc hd
  refine callType_new F.called_enumerate (by decide) (F.typeCall_enumerate_1 _) (F.newCall_enumerate_1 _) (fun obj => F.args_object_init_2 obj _) F.entry_enumerate_new
    (meets_enumerate_newT l items n dct sl) ⟨hl, ?_⟩
  have hz : (s.heap.push { cls := .type "tuple_iterator", data := .fields #[.ref l, .int 0 0] }).objs.size = s.heap.objs.size + 1 := Heap.size_push ..
  show _ ∧ _
  rw [hz]
  have he : IsEnum ((s.heap.push { cls := .type "tuple_iterator", data := .fields #[.ref l, .int 0 0] }).push
      { cls := .type "enumerate", data := .fields #[.none, .bool false, .ref s.heap.objs.size, rawInt 0, .none, .none] }) (s.heap.objs.size + 1) s.heap.objs.size 0 .none := by
    have := Heap.get?_push_size (s.heap.push { cls := .type "tuple_iterator", data := .fields #[.ref l, .int 0 0] })
      (o := { cls := .type "enumerate", data := .fields #[.none, .bool false, .ref s.heap.objs.size, rawInt 0, .none, .none] }) rfl
    rw [hz] at this; exact this
  refine ⟨⟨_, he, rfl⟩, h _ he ⟨_, Heap.get?_push_of_some _ (Heap.get?_push_size _ rfl), rfl, rfl⟩ (by rw [Heap.size_push, hz]) fun b o x => Heap.get?_push_of_some _ (Heap.get?_push_of_some _ x)⟩
end
end PySem
namespace Fp
open PySem PySem.Spec PyProof.Rows L2
def IteT (K : PySem.W.Frag) (a : Addr) : It :=
  ⟨fun i H => ∃ (xs : List V) (x : V), SqT K H a xs ∧ xs[i]? = some x, fun i H v H' => ∃ T x, v = .ref T ∧ H T = none ∧ H' = upd H T (.tup [.int (i : Nat), x]) ∧ ∀ xs, SqT K H a xs → xs[i]? = some x, fun i H => ∃ xs : List V, SqT K H a xs ∧ xs.length ≤ i⟩
theorem turn_enumT {P : Program} {w : World} {K : PySem.W.Frag} {elts : List Expr} {kk : Nat} {tpos : Pos} (a e it : Addr) (hna : a ≠ it) (hne0 : a ≠ e) :
    Turn P w K (.Tuple elts kk tpos) (IteT K a) [e, it] e (fun i h => (∃ old, IsEnum h e it ((i : Nat) : Int) old) ∧ h.IsTupleIter it a i ∧ e ≠ it) where
  mem := by simp
  obj := fun i h st b hb => by
    obtain ⟨⟨old, he⟩, ⟨o, ho, hc, hd⟩, _⟩ := st
    have e' : b = e ∨ b = it := by simpa using hb
    rcases e' with z | z
    · rw [z]; exact ⟨_, he, fun v q => nomatch q⟩
    · rw [z]; exact ⟨o, ho, fun v q => by rw [hd] at q; cases q⟩
  keep := fun i h h' st k => let ⟨⟨old, he⟩, hi, hne⟩ := st; ⟨⟨old, k e (by simp) _ he⟩, hi.at fun o q => k it (by simp) o q, hne⟩
  item := by
    intro X hP hw hK hc i pins s σ H E I hf st hg
    subst hP hw hK
    obtain ⟨⟨old, he⟩, hit, hne⟩ := st
    obtain ⟨xs, x, hq, hx⟩ := hg
    obtain ⟨its, rv, p, hz⟩ := I.tuple hq
    obtain ⟨u, hu, ru⟩ := rv.get hx
    have hel : e < s.heap.objs.size := Heap.lt_size he
    have hil : it < s.heap.objs.size := by obtain ⟨_, q, _⟩ := hit; exact Heap.lt_size q
    have hi : i < its.toArray.size := by
      rw [List.size_toArray]
      exact (List.getElem?_eq_some_iff.mp hu).1
    have D := Draws.tuple (prog := X.prog) (w := X.w) (A := X.A.in1) (show X.A.in1.handled = none from I.ok.hd hc) it a hna its.toArray
    refine wpAny_pyNext_enum_itemD D he ⟨hit, p⟩ hi hne (by simp [hne, Ne.symm hne0]) fun x0 h' tk hP0 ho hit' hT hsz hk => ?_
    have hxu : x0 = u := by
      rw [show its.toArray[i]? = some u by simpa using hu] at hP0
      exact (Option.some.inj hP0).symm
    subst hxu
    refine ⟨_, rfl, wpAny_letOwnedTupleGo_enum (s := { s with heap := h', toks := tk + 1 }) ho fun h'' he' sb => ?_⟩
    have hT2 : h''.get? s.heap.objs.size = some { cls := .type "tuple", data := .seq #[.int i tk, x0] } := (sb.2 _ (Nat.ne_of_gt hel)).trans hT
    have new : ObjOk X.prog X.w (upd H s.heap.objs.size (.tup [.int (i : Nat), x])) h'' s.heap.objs.size (.tup [.int (i : Nat), x]) :=
      ⟨by show 2 ≤ sizeLine; decide, [.int i tk, x0], .cons ⟨_, rfl⟩ (.cons ru .nil), ⟨_, hT2, rfl, _, rfl⟩⟩
    have I1 : Inv X pins σ (upd H s.heap.objs.size (.tup [.int (i : Nat), x])) { s with heap := h'', toks := tk + 1 } :=
      I.turnedNew (ch := [e, it]) (fun b ob hb q => (sb.2 b (fun z => hb (by simp [z]))).trans (hk b ob (fun z => hb (by simp [z])) (fun z => hb (by simp [z])) q)) hf (Nat.le_refl _) new
    refine ⟨.ref s.heap.objs.size, _, I1, rfl, ⟨_, x, rfl, I.hok.fresh (Nat.le_refl _), rfl, fun ys hy => by rw [I.tuple_inj hy hq]; exact hx⟩, ⟨⟨x0, ?_⟩, hit'.1.at fun o q => (sb.2 it (Ne.symm hne)).trans q, hne⟩, fun b hb => ?_⟩
    · have e1 : ((i + 1 : Nat) : Int) = (i : Int) + 1 := by omega
      rw [e1]; exact he'
    · have hb' : b < s.heap.objs.size := by
        have e' : b = e ∨ b = it := by simpa using hb
        rcases e' with z | z
        · rw [z]; exact hel
        · rw [z]; exact hil
      rw [upd_ne (Nat.ne_of_lt hb')]
      exact (hf b hb).1
  done := by
    intro X hP hw hK hc i pins s σ H E I hf st hg
    subst hP hw hK
    obtain ⟨⟨old, he⟩, hit, hne⟩ := st
    obtain ⟨xs, hq, hx⟩ := hg
    obtain ⟨its, rv, p, hz⟩ := I.tuple hq
    obtain ⟨f0, f1, f2, f3, f4, f5⟩ := hf it (by simp)
    have hl := rv.length
    have hT : s.TypeIs (.ref e) "enumerate" := ⟨_, he, rfl⟩
    unfold pyNext
    refine wpAny_bind (wpAny_attempt (wpAny_callSpecial?_slot (name := Str.ofString "__next__") hT F.slot_enumerate_next
      (wpAny_call_entry F.slot_enumerate_next hT F.entry_enumerate_next ?_ (F.args_enumerate_next_1 _))))
    show wpAny _ _ (field (.ref e) 2 >>= _) _ _ _
    refine wpAny_bind (wpAny_field he rfl (x := .ref it) rfl ?_)
    refine wpAny_bind (wpAny_nextOf_tuple_end (show X.A.in1.handled = none from I.ok.hd hc) hit p (by simp; omega) fun h' x he' hx' => ?_)
    obtain ⟨o, ho, hc'⟩ := hx'
    refine wpAny_bind (wpAny_isInstance (T := "StopIteration") (b := true) ⟨o, ho, hc'⟩ isSubtype_stop ?_)
    exact wpAny_pure ⟨rfl, I.turned (t' := s.toks) (fun b o hb q => he' b o hb q) f0 f1 f3 f4 f5⟩
  self := fun A i s Q E st h => let ⟨⟨_, he⟩, _⟩ := st; wpAny_pyIter_enum he h
def iEnumT (K : PySem.W.Frag) (ta : TA) : TI := fun σ H R => ta σ H fun vs H1 => ∃ a xs, vs = [.ref a] ∧ SqT K H1 a xs ∧ R (IteT K a) H1
theorem pi_enumT {X : Cx} {e : Expr} {ta : TA} {p pos tpos : Pos} {elts : List Expr} {kk : Nat} (hg : Gl X "enumerate") (hm : X.mg "enumerate" = none) (ha : PA X [e] ta) (hs : starEach [e] X.env = [(false, eval e X.env)] := by rfl) :
    PI X (.Tuple elts kk tpos) (.Call (.Name "enumerate" p) [e] [] pos) (iEnumT X.K ta) := by
  refine ⟨fun pins s σ H R I h => ?_⟩
  refine Call_ (ld_blt I hg hm boot_enumerate (PyProof.Rows.callWith_type1 (thn (ha.run pos pins s σ H _ I h) fun us s1 ⟨vs, H1, I1, r1, q1⟩ => ?_) hs rfl))
  obtain ⟨a, xs, ex, hq, q⟩ := q1
  subst ex
  cases r1 with
  | cons r rr =>
    cases rr
    cases r
    obtain ⟨its, rv, p', hz⟩ := I1.tuple hq
    have hal : a < s1.heap.objs.size := by
      obtain ⟨o, ho, _⟩ := id p'
      exact Heap.lt_size ho
    refine call_enumerate_tuple p' fun h' he hit hsz hk => wpAny_pyIter_enum he ?_
    have I2 : Inv X pins σ H1 { s1 with heap := h' } := I1.kept (t' := s1.toks) hk
    refine ⟨s1.heap.objs.size + 1, [s1.heap.objs.size + 1, s1.heap.objs.size], _, _, H1, rfl, I2, turn_enumT a (s1.heap.objs.size + 1) s1.heap.objs.size (Nat.ne_of_lt hal) (Nat.ne_of_lt (Nat.lt_succ_of_lt hal)), ⟨⟨.none, he⟩, hit, Nat.succ_ne_self _⟩, fun b hb => ?_, q⟩
    have e' : b = s1.heap.objs.size + 1 ∨ b = s1.heap.objs.size := by simpa using hb
    have hle : s1.heap.objs.size ≤ b := by
      rcases e' with z | z
      · rw [z]; exact Nat.le_add_right _ _
      · rw [z]; exact Nat.le_refl _
    exact I1.fpOk hle (I1.hok.fresh hle)
/-- one of two walks -/
theorem pi_or {X : Cx} {tg it : Expr} {w1 w2 : TI} (h1 : PI X tg it w1) (h2 : PI X tg it w2) : PI X tg it (fun σ H R => w1 σ H R ∨ w2 σ H R) :=
  ⟨fun pins s σ H R I h => h.elim (h1.run pins s σ H R I) (h2.run pins s σ H R I)⟩
end Fp
set_option Elab.async false
set_option linter.all false
set_option maxRecDepth 100000
set_option maxHeartbeats 1000000
set_option exponentiation.threshold 100000
namespace K09
open PySem PySem.Spec PyProof.Rows L2 Fa Fb
structure OpF (K : PySem.W.Frag) (nm : String) (f : Addr) : Prop where
  own : OwnOp K (CA K) nm f
  ty : ∀ T ∈ tys, TyOp K (CA K) nm T
theorem OpF.arg {K : PySem.W.Frag} {nm : String} {f : Addr} (o : OpF K nm f) {H : Hp} {x : V} {t u : Int} {n : Nat} (h : Arg K H x t u n) : RK K (CA K) nm H x := by
  rcases h with ⟨p, dx, e, hp, _⟩ | ⟨e, _⟩
  · exact .inl ⟨p, dx, _, e, hp⟩
  · rw [e]
    exact .inr ⟨"int", .base (.int t), o.ty "int" (by simp [tys])⟩
structure Fn (P : Program) (w : World) (K : PySem.W.Frag) (mg : Str → Option Value) (base : Heap) (x : Str) (lev : Nat) (ps : List Str) (sp : Sp) (f : Addr) (fd : FuncData) : Prop where
  ok : FnOk P w K mg base (L2.CX P w) lev f fd ps sp
  g : mg x = some (.ref f)
  k : PySem.W.keepIn K (.ref f) = true
  b : Binds K fd ps []
structure OpK (P : Program) (w : World) (K : PySem.W.Frag) (mg : Str → Option Value) (base : Heap) (nm : String) (lev : Nat) (sp : Sp) (f : Addr) (fd : FuncData) : Prop where
  op : OpF K nm f
  ok : FnOk P w K mg base (L2.CX P w) lev f fd ["self", "other"] sp
  b : Binds K fd ["self", "other"] []
structure MeK (P : Program) (w : World) (K : PySem.W.Frag) (mg : Str → Option Value) (base : Heap) (m : Str) (lev : Nat) (sp : Sp) (f : Addr) (fd : FuncData) : Prop where
  me : Meth K (CA K) m f
  ok : FnOk P w K mg base (L2.CX P w) lev f fd ["self", "other"] sp
  b : Binds K fd ["self", "other"] []
abbrev spAdd (K : PySem.W.Frag) : Sp := spOp K (fun t u t2 u2 => t * u2 + t2 * u) (fun _ u _ u2 => u * u2)
abbrev spSub (K : PySem.W.Frag) : Sp := spOp K (fun t u t2 u2 => t * u2 - t2 * u) (fun _ u _ u2 => u * u2)
abbrev spMul (K : PySem.W.Frag) : Sp := spOp K (fun t _ t2 _ => t * t2) (fun _ u _ u2 => u * u2)


theorem passS {X : Cx} (σ : L2.St) : PassesAt (L2.CX X.prog X.w) X σ ((fun _ => E0 : L2.St → XK) σ) := fun pins H s e s' i c => passL pins σ H s e s' i c
structure EqK (P : Program) (w : World) (K : PySem.W.Frag) (mg : Str → Option Value) (base : Heap) (f : Addr) (fd : FuncData) : Prop where
  at_ : PySem.W.findIn K (.ref (CA K)) "__eq__" = some (some (.ref f))
  fn : PySem.W.isFn K (.ref f) = true
  ok : FnOk P w K mg base (L2.CX P w) 1 f fd ["self", "other"] (spEq K)
  b : Binds K fd ["self", "other"] []
  ne : PySem.W.findIn K (.ref (CA K)) "__ne__" = some (some (.builtin "object.__ne__"))
  ob : PySem.W.subIn K (.ref (CA K)) (.type "object") = some true
theorem pss_imp {X : Cx} {b : List Stmt} {u S : TS} (h : PSs X b u) (k : ∀ D σ H, S D σ H → u D σ H) : PSs X b S := ⟨fun pn s σ H D I z => h.run pn s σ H D I (k D σ H z)⟩
theorem Same.upd {H : Hp} {p : Addr} {o : HO} (h : H p = none) : Same H (upd H p o) := fun c u z => by
  rw [upd_ne (ne_of_none z h)]
  exact z
theorem same_put {H H' : Hp} {D : Addr} {o : HO} (s : Same H H') (h : H D = none) : Same H (upd H' D o) := fun c u z => by
  rw [upd_ne (ne_of_none z h)]
  exact s c u z
/-- a point: the tuple at q of the amounts at a and b -/
structure Pg where
  q : Addr
  a : Addr
  b : Addr
  t : Int
  u : Int
  t2 : Int
  u2 : Int
def PgOk (K : PySem.W.Frag) (n : Nat) (H : Hp) (g : Pg) : Prop := H g.q = some (.tup [.ref g.a, .ref g.b]) ∧ IsA K H (.ref g.a) g.t g.u n ∧ IsA K H (.ref g.b) g.t2 g.u2 n
theorem PgOk.same {K : PySem.W.Frag} {n : Nat} {H H' : Hp} {g : Pg} (h : PgOk K n H g) (s : Same H H') : PgOk K n H' g := ⟨s _ _ h.1, h.2.1.same s, h.2.2.same s⟩
def Rises (g h : Pg) : Prop := g.t * h.u < h.t * g.u ∧ g.t2 * h.u2 < h.t2 * g.u2
structure PtL (K : PySem.W.Frag) (m : Nat) (H : Hp) (p : Addr) (gs : List Pg) : Prop where
  l : H p = some (.lst (gs.map fun g => V.ref g.q))
  ok : ∀ g ∈ gs, PgOk K m H g
  up : ∀ (i : Nat) g h, gs[i]? = some g → gs[i + 1]? = some h → Rises g h
  n : gs.length ≤ 20
theorem PtL.same {K : PySem.W.Frag} {m : Nat} {H H' : Hp} {p : Addr} {gs : List Pg} (h : PtL K m H p gs) (s : Same H H') : PtL K m H' p gs := ⟨s _ _ h.l, fun g hg => (h.ok g hg).same s, h.up, h.n⟩
def spLs (K : PySem.W.Frag) : Sp := fun vs H Q _ => ∃ x t b, vs = [x] ∧ (∀ J, Same H J → TyX K J x t) ∧ PySem.W.kitAny K t [.type "list", .type "tuple"] = some b ∧ ∀ H', Same H H' → Q (.bl b) H'
def spRise (K : PySem.W.Frag) : Sp := fun vs H Q _ => ∃ (g h : Pg) (n : Nat), vs = [.ref g.q, .ref h.q] ∧ PgOk K n H g ∧ PgOk K n H h ∧ n ≤ 3000 ∧ ∀ H', Same H H' → Q (.bl (decide (g.t * h.u < h.t * g.u) && decide (g.t2 * h.u2 < h.t2 * g.u2))) H'
abbrev bq (g : Pg) : Rat := vq g.t g.u
abbrev sq (g : Pg) : Rat := vq g.t2 g.u2
def ptl (gs : List Pg) : List M08.Pt := gs.map fun g => (bq g, sq g)
theorem PgOk.pos {K : PySem.W.Frag} {n : Nat} {H : Hp} {g : Pg} (h : PgOk K n H g) : 0 < g.u ∧ 0 < g.u2 := by
  obtain ⟨_, ⟨_, _, _, _, ⟨a, _⟩, _⟩, ⟨_, _, _, _, ⟨b, _⟩, _⟩⟩ := h
  exact ⟨a, b⟩
theorem rises_q {g h : Pg} (a : 0 < g.u ∧ 0 < g.u2) (b : 0 < h.u ∧ 0 < h.u2) : Rises g h ↔ bq g < bq h ∧ sq g < sq h := by
  unfold Rises
  rw [vq_lt a.1 b.1, vq_lt a.2 b.2]
theorem ptl_at {gs : List Pg} {i : Nat} {g : Pg} (h : gs[i]? = some g) : (ptl gs)[i]? = some (bq g, sq g) := by
  unfold ptl
  rw [List.getElem?_map, h]
  rfl
theorem up_of : ∀ {gs : List Pg}, (∀ g ∈ gs, 0 < g.u ∧ 0 < g.u2) → (∀ (i : Nat) g h, gs[i]? = some g → gs[i + 1]? = some h → Rises g h) → M08.Up (ptl gs)
  | [], _, _ => True.intro
  | [_], _, _ => True.intro
  | g :: h :: r, p, u => by
    obtain ⟨a, b⟩ := (rises_q (p g (by simp)) (p h (by simp))).mp (u 0 g h rfl rfl)
    exact ⟨a, b, up_of (gs := h :: r) (fun z hz => p z (List.mem_cons_of_mem _ hz)) fun i x y e1 e2 => u (i + 1) x y e1 e2⟩
theorem PtL.rise {K : PySem.W.Frag} {m : Nat} {H : Hp} {p : Addr} {gs : List Pg} (h : PtL K m H p gs) : M08.Up (ptl gs) := up_of (fun g hg => (h.ok g hg).pos) h.up
def spPace (K : PySem.W.Frag) : Sp := fun vs H Q _ => ∃ (p : Addr) (gs : List Pg) (i n : Nat), vs = [.ref p, .int (i : Int)] ∧ PtL K n H p gs ∧ n ≤ 800 ∧ i ≤ gs.length ∧ ∀ y H', Same H H' → QA K H' y (M08.pc (ptl gs) i) (4 * n + 3) → Q y H'
def spRch (K : PySem.W.Frag) : Sp := fun vs H Q _ => ∃ (p : Addr) (gs : List Pg) (y : V) (x : Rat) (n m : Nat), vs = [.ref p, y] ∧ PtL K n H p gs ∧ QA K H y x m ∧ n + m < 7000 ∧ ∀ (k : Nat) H', k ≤ gs.length → (∀ (j : Nat) g, j < k → gs[j]? = some g → bq g ≤ x) → (∀ (j : Nat) g, k ≤ j → gs[j]? = some g → x < bq g) → Same H H' → Q (.int (k : Int)) H'

abbrev sRise : Stmt := top 19
theorem scRise : FnScope ["one", "other"] ["one", "other"] (defScope sRise) := ⟨rfl, rfl, rfl, by decide +kernel, rfl, by decide +kernel, by decide +kernel⟩
abbrev sPace : Stmt := top 21
theorem scPace : FnScope ["points", "index", "beat", "second", "next_beat", "next_second"] ["points", "index"] (defScope sPace) := ⟨rfl, rfl, rfl, by decide +kernel, rfl, by decide +kernel, by decide +kernel⟩
abbrev sRch : Stmt := top 22
theorem scRch : FnScope ["points", "beat", "low", "high", "middle"] ["points", "beat"] (defScope sRch) := ⟨rfl, rfl, rfl, by decide +kernel, rfl, by decide +kernel, by decide +kernel⟩
abbrev sLs : Stmt := top 11
theorem scLs : FnScope ["value"] ["value"] (defScope sLs) := ⟨rfl, rfl, rfl, by decide +kernel, rfl, by decide +kernel, by decide +kernel⟩
section
variable {P : Program} {w : World} {K : PySem.W.Frag} {mg : Str → Option Value} {base : Heap} {f fC fD fA fS fM fE : Addr} {fd fdC fdD fdA fdS fdM fdE fdI : FuncData}
theorem ok_ls (F : FnP K "is_listing" sLs f fd) (T : AF K mg) (mLi : mg "list" = none) (mTu : mg "tuple" = none) : FnOk P w K mg base (L2.CX P w) 1 f fd ["value"] (spLs K) := by
  refine F.ok scLs (fun vs H Q E h => ?_) (fun cdv A outer s H vs Q E hr h => ?_)
  · obtain ⟨x, t, b, rfl, _⟩ := h
    rfl
  · obtain ⟨x, t, b, rfl, ty, kt, q⟩ := h
    refine ⟨_, pss_one (ps_ret (pe_callB call_isiT rfl T.isi (by decide +kernel) (pa_cons (pv 0) (pa_cons (pe_tup (pa_cons (pe_ty mLi (by decide +kernel : bootBuiltins "list" = some (.type "list"))) (pa_cons (pe_ty mTu (by decide +kernel : bootBuiltins "tuple" = some (.type "tuple"))) pa_nil))) pa_nil)))), ?_⟩
    refine ⟨_, rfl, by show 2 ≤ sizeLine; decide, fun tp htp => ?_⟩
    exact ⟨x, tp, _, t, [.type "list", .type "tuple"], b, rfl, upd_same, .cons (.ty _) (.cons (.ty _) .nil), ty _ (Same.upd htp), kt, q _ (Same.upd htp)⟩
theorem ok_rise (F : FnP K "_rises" sRise f fd) (T : AF K mg) (MC : MeK P w K mg base "compare" 7 (spCmp K) fC fdC) : FnOk P w K mg base (L2.CX P w) 8 f fd ["one", "other"] (spRise K) := by
  refine F.ok scRise (fun vs H Q E h => ?_) (fun cdv A outer s H vs Q E hr h => ?_)
  · obtain ⟨g, h, n, rfl, _⟩ := h
    rfl
  · obtain ⟨g, h, n, rfl, hg, hh, hn, q⟩ := h
    have hu : (A.deeper (envOfC "_rises" (defScope sRise) s.heap.objs.size f cdv)).units + 64 < cLine := by
      have := hr.un
      omega
    have hr1 := hr.mono (show 1 ≤ 7 by decide)
    have hr2 := hr.mono (show 2 ≤ 7 by decide)
    have hr3 := hr.mono (show 3 ≤ 7 by decide)
    have hr5 := hr.mono (show 5 ≤ 7 by decide)
    have hr6 := hr.mono (show 6 ≤ 7 by decide)
    have hr7 := hr.mono (show 7 ≤ 7 by decide)
    refine ⟨_, (pss_one (ps_ret (pe_and (pe_cmpR op_lt (pe_meth (pe_ix ix_tup (pv 0) pe_int (fun _ _ => rfl)) T.cl MC.me MC.ok hr7 MC.b .nil passL (pa_cons (pe_ix ix_tup (pv 1) pe_int (fun _ _ => rfl)) pa_nil)) pe_int (nomark _)) (pe_one (pe_cmpR op_lt (pe_meth (pe_ix ix_tup (pv 0) pe_int (fun _ _ => rfl)) T.cl MC.me MC.ok hr7 MC.b .nil passL (pa_cons (pe_ix ix_tup (pv 1) pe_int (fun _ _ => rfl)) pa_nil)) pe_int (nomark _)))))), ?_⟩
    obtain ⟨hq, ia, ib⟩ := hg
    obtain ⟨hq2, ia2, ib2⟩ := hh
    obtain ⟨pa, da, ea, hpa, ⟨ua, _⟩, _⟩ := id ia
    obtain ⟨pb, db, eb, hpb, ⟨ub, _⟩, _⟩ := id ib
    have sg : ∀ d : Int, decide ((if d = 0 then (0 : Int) else if 0 < d then 1 else -1) < 0) = decide (d < 0) := fun d => by
      by_cases c : d = 0
      · subst c
        rfl
      · by_cases c2 : 0 < d
        · rw [if_neg c, if_pos c2, decide_eq_false (by omega), decide_eq_false (by omega)]
        · rw [if_neg c, if_neg c2, decide_eq_true (by omega), decide_eq_true (by omega)]
    refine ⟨_, rfl, _, _, _, _, rfl, rfl, SqT.of hq, rfl, pa, da, _, ea, hpa, fl_no _ _ (by decide +kernel) (by decide +kernel), _, rfl, _, _, _, _, rfl, rfl, SqT.of hq2, rfl, ?_⟩
    refine ⟨_, _, _, _, _, rfl, ia, .inr ⟨_, _, _, .inl ia2, by omega, fun H1 s1 => ?_⟩⟩
    refine ⟨_, _, rfl, rfl, _, rfl, ?_⟩
    have e1 : decide (g.t * h.u - h.t * g.u < 0) = decide (g.t * h.u < h.t * g.u) := by
      by_cases c : g.t * h.u < h.t * g.u
      · rw [decide_eq_true c, decide_eq_true (by omega)]
      · rw [decide_eq_false c, decide_eq_false (by omega)]
    have e2 : decide (g.t2 * h.u2 - h.t2 * g.u2 < 0) = decide (g.t2 * h.u2 < h.t2 * g.u2) := by
      by_cases c : g.t2 * h.u2 < h.t2 * g.u2
      · rw [decide_eq_true c, decide_eq_true (by omega)]
      · rw [decide_eq_false c, decide_eq_false (by omega)]
    rw [sg, e1]
    by_cases c : g.t * h.u < h.t * g.u
    · refine if_true_of (decide_eq_true c) ?_
      refine ⟨_, rfl, _, _, _, _, rfl, rfl, SqT.of (s1 _ _ hq), rfl, pb, db, _, eb, s1 _ _ hpb, fl_no _ _ (by decide +kernel) (by decide +kernel), _, rfl, _, _, _, _, rfl, rfl, SqT.of (s1 _ _ hq2), rfl, ?_⟩
      refine ⟨_, _, _, _, _, rfl, ib.same s1, .inr ⟨_, _, _, .inl (ib2.same s1), by omega, fun H2 s2 => ?_⟩⟩
      refine ⟨_, _, rfl, rfl, ?_⟩
      have q' := q H2 (s1.trans s2)
      rw [decide_eq_true c, Bool.true_and] at q'
      show Q (V.bl (decide (_ < _))) H2
      rw [sg, e2]
      exact q'
    · refine if_false_of (decide_eq_false c) ?_
      have q' := q H1 s1
      rw [decide_eq_false c, Bool.false_and] at q'
      exact q'

theorem rise_ne {a b c d : Int} (hb : 0 < b) (hd : 0 < d) (h : a * d < c * b) : c * b - a * d ≠ 0 := by omega
theorem ok_pace (F : FnP K "_pace" sPace f fd) (T : AF K mg) (mL : mg "len" = none) (OS : OpK P w K mg base "sub" 7 (spSub K) fS fdS) (MD : MeK P w K mg base "divided" 7 (spDiv K) fD fdD) (GI : FnOk P w K mg base (L2.CX P w) 4 (aI K) fdI ["self", "top", "bottom"] (spInit K)) {ds : List Value} (hds : Vals [.int 1] ds) (bI : Binds K fdI ["self", "top", "bottom"] ds) :
    FnOk P w K mg base (L2.CX P w) 8 f fd ["points", "index"] (spPace K) := by
  refine F.ok scPace (fun vs H Q E h => ?_) (fun cdv A outer s H vs Q E hr h => ?_)
  · obtain ⟨p, gs, i, n, rfl, _⟩ := h
    rfl
  · obtain ⟨p, gs, i, n, rfl, hp, hn, hi, q⟩ := h
    have hu : (A.deeper (envOfC "_pace" (defScope sPace) s.heap.objs.size f cdv)).units + 64 < cLine := by
      have := hr.un
      omega
    have hr1 := hr.mono (show 1 ≤ 7 by decide)
    have hr2 := hr.mono (show 2 ≤ 7 by decide)
    have hr3 := hr.mono (show 3 ≤ 7 by decide)
    have hr5 := hr.mono (show 5 ≤ 7 by decide)
    have hr6 := hr.mono (show 6 ≤ 7 by decide)
    have hr7 := hr.mono (show 7 ≤ 7 by decide)
    refine ⟨_, (pss_cons (ps_if (PW.pt (pw_or (pt_cmpR op_eq (pv 1) pe_int (nomark _)) (pw_or1 (pt_cmpR op_eq (pv 1) (pe_callB call_len rfl mL PySem.boot_len (pa_cons (pv 0) pa_nil)) (nomark _))))) (pss_one (ps_ret (pe_make T.mkA GI hr5 rfl T.g bI hds passL (pa_cons pe_int pa_nil)))) pss_nil)
      (pss_cons (ps_asg (pe_ix ix_list (pv 0) (pe_op op_sub (pv 1) pe_int) (fun _ _ => rfl)) (pg_tup (by rfl) (pgs_cons (pg_name (i := 2) scPace.nd rfl (Or.inl rfl)) (pgs_cons (pg_name (i := 3) scPace.nd rfl (Or.inl rfl)) pgs_nil))))
      (pss_cons (ps_asg (pe_ix ix_list (pv 0) (pv 1) (fun _ _ => rfl)) (pg_tup (by rfl) (pgs_cons (pg_name (i := 4) scPace.nd rfl (Or.inl rfl)) (pgs_cons (pg_name (i := 5) scPace.nd rfl (Or.inl rfl)) pgs_nil))))
      (pss_one (ps_ret (pe_meth (pe_binX (op := .Sub) OS.op.own OS.ok hr7 OS.b passS (pv 5) (pv 3)) T.cl MD.me MD.ok hr7 MD.b .nil passL (pa_cons (pe_binX (op := .Sub) OS.op.own OS.ok hr7 OS.b passS (pv 4) (pv 2)) pa_nil))))))), ?_⟩
    have one : M08.pc (ptl gs) i = 1 → ∀ (D : Ends), D.rt = Q → tMake (CA K) (spInit K) [.int 1] E0 (tCons (tC (.int 1)) tNil) [some (.ref p), some (.int (i : Int)), none, none, none, none] H (fun v H' => D.rt v H') := fun hpc D hD => by
      refine fun y dy hy hdy hne => spInit_imp (make_fact T (n := 3) (a := 1) (b := 1) (by decide) (by decide) (by decide) (by decide) hy hdy hne) fun v2 H2 ⟨hv, t2, u2, s2, iy, e2⟩ => ⟨hv, ?_⟩
      rw [hD]
      refine q _ _ s2 ⟨t2, u2, iy.mono (by omega), ?_⟩
      obtain ⟨_, _, _, _, ⟨u0, _⟩, _⟩ := id iy
      rw [hpc, ← vq_one]
      exact (vq_eq (Int.ne_of_gt u0) (by decide)).mpr e2
    refine ⟨_, rfl, rfl, _, rfl, ?_⟩
    by_cases c0 : i = 0
    · subst c0
      refine if_true_of (by rfl) (iteT ?_)
      exact one (M08.pc_zero _) _ rfl
    · refine if_false_of (decide_eq_false fun z => c0 (by have := V.int.inj z; omega)) ?_
      refine ⟨_, rfl, _, rfl, _, _, rfl, .inl ⟨_, SqL.of hp.l, rfl⟩, rfl, _, rfl, ?_⟩
      by_cases cn : i = gs.length
      · refine if_true_of (decide_eq_true (by rw [cn, List.length_map])) ?_
        exact one (by rw [cn, ← show (ptl gs).length = gs.length from List.length_map ..]; exact M08.pc_end) _ rfl
      · refine if_false_of (decide_eq_false fun z => cn (by have := V.int.inj z; rw [List.length_map] at this; omega)) ?_
        obtain ⟨j, rfl⟩ : ∃ j, i = j + 1 := ⟨i - 1, by omega⟩
        have hj1 : j + 1 < gs.length := by omega
        have hj : j < gs.length := by omega
        have eg : gs[j]? = some gs[j] := List.getElem?_eq_getElem hj
        have eh : gs[j + 1]? = some gs[j + 1] := List.getElem?_eq_getElem hj1
        have og := hp.ok _ (List.getElem_mem hj)
        have oh := hp.ok _ (List.getElem_mem hj1)
        have hpc := M08.pc_at (ptl_at eg) (ptl_at eh)
        obtain ⟨r1, r2⟩ := hp.up j _ _ eg eh
        generalize gs[j] = g at eg og r1 r2 hpc
        generalize gs[j + 1] = h at eh oh r1 r2 hpc
        obtain ⟨gq, ga, gb⟩ := og
        obtain ⟨hq, ha, hb⟩ := oh
        obtain ⟨pga, dga, ega, hga, ⟨uga, _⟩, _⟩ := id ga
        obtain ⟨pha, dha, eha, hha, ⟨uha, _⟩, _⟩ := id ha
        obtain ⟨phb, dhb, ehb, hhb, ⟨uhb', _⟩, _⟩ := id hb
        obtain ⟨_, _, _, _, ⟨ugb', _⟩, _⟩ := id gb
        refine ⟨_, rfl, _, rfl, _, _, rfl, rfl, p, _, _, _, rfl, rfl, SqL.of hp.l, ?_, g.q, _, rfl, SqT.of gq, rfl, _, _, rfl, _, _, rfl, rfl, ?_⟩
        · have e : ((j + 1 : Nat) : Int) - 1 = (j : Int) := by omega
          show atI _ (((j + 1 : Nat) : Int) - 1) = _
          rw [e]
          exact atI_nat (by rw [List.getElem?_map, eg]; rfl)
        refine ⟨_, rfl, _, rfl, p, _, _, _, rfl, rfl, SqL.of hp.l, atI_nat (by rw [List.getElem?_map, eh]; rfl), h.q, _, rfl, SqT.of hq, rfl, _, _, rfl, _, _, rfl, rfl, ?_⟩
        refine ⟨_, rfl, _, rfl, phb, dhb, _, ehb, hhb, OS.op.arg (.inl gb), _, _, _, _, _, rfl, hb, .inr ⟨_, _, _, .inl gb, by omega, fun z H1 t1 u1 s1 iz ez => ?_⟩⟩
        obtain ⟨pz, dz, eqz, hz, ⟨uz, _⟩, _⟩ := id iz
        refine ⟨pz, dz, _, eqz, hz, fl_no _ _ (by decide +kernel) (by decide +kernel), ?_⟩
        refine ⟨_, rfl, _, rfl, pha, dha, _, eha, s1 _ _ hha, OS.op.arg (.inl (ga.same s1)), _, _, _, _, _, rfl, ha.same s1, .inr ⟨_, _, _, .inl (ga.same s1), by omega, fun y H2 t2 u2 s2 iy ey => ?_⟩⟩
        obtain ⟨_, _, _, _, ⟨uy, _⟩, _⟩ := id iy
        have dn : h.t * g.u - g.t * h.u ≠ 0 := by omega
        have t20 : t2 ≠ 0 := fun e => by
          rw [e, Int.zero_mul] at ey
          rcases Int.mul_eq_zero.mp ey.symm with z | z
          · exact dn z
          · omega
        exact ⟨_, _, _, _, _, rfl, iz.same s2, .inr ⟨_, _, _, .inl iy, by omega, fun e => absurd e t20, fun tn y3 H3 t3 u3 s3 iy3 e3 => q y3 H3 (s1.trans (s2.trans s3)) ⟨t3, u3, iy3.mono (by omega), by
          obtain ⟨_, _, _, _, ⟨u30, _⟩, _⟩ := id iy3
          have v1 := vq_sub (Int.ne_of_gt uhb') (Int.ne_of_gt ugb') (Int.ne_of_gt uz) ez
          have v2 := vq_sub (Int.ne_of_gt uha) (Int.ne_of_gt uga) (Int.ne_of_gt uy) ey
          rw [vq_div (Int.ne_of_gt uz) (Int.ne_of_gt uy) tn (Int.ne_of_gt u30) e3, v1, v2, hpc]
          rfl⟩⟩⟩

theorem ok_rch (F : FnP K "_reached" sRch f fd) (T : AF K mg) (mL : mg "len" = none) (MC : MeK P w K mg base "compare" 7 (spCmp K) fC fdC) : FnOk P w K mg base (L2.CX P w) 8 f fd ["points", "beat"] (spRch K) := by
  refine F.ok scRch (fun vs H Q E h => ?_) (fun cdv A outer s H vs Q E hr h => ?_)
  · obtain ⟨p, gs, y, x, n, m, rfl, _⟩ := h
    rfl
  · obtain ⟨p, gs, y, x, nb, mb, rfl, hp, ⟨t, u, iy, exq⟩, hnm, q⟩ := h
    have hu : (A.deeper (envOfC "_reached" (defScope sRch) s.heap.objs.size f cdv)).units + 64 < cLine := by
      have := hr.un
      omega
    have hr1 := hr.mono (show 1 ≤ 7 by decide)
    have hr2 := hr.mono (show 2 ≤ 7 by decide)
    have hr3 := hr.mono (show 3 ≤ 7 by decide)
    have hr5 := hr.mono (show 5 ≤ 7 by decide)
    have hr6 := hr.mono (show 6 ≤ 7 by decide)
    have hr7 := hr.mono (show 7 ≤ 7 by decide)
    refine ⟨_, (pss_cons (ps_par (by rfl) scRch.nd (i := 2) (j := 3) rfl rfl (by decide) rfl rfl (pa_cons pe_int (pa_cons (pe_callB call_len rfl mL PySem.boot_len (pa_cons (pv 0) pa_nil)) pa_nil)) (by rfl))
      (pss_cons (ps_while (passes_of rfl) (pt_cmpR op_lt (pv 2) (pv 3) (nomark _))
      (pss_cons (ps_set (i := 4) scRch.nd rfl (Or.inl rfl) (pe_op op_fdiv (pe_op op_add (pv 2) (pv 3)) pe_int))
      (pss_one (ps_if (pt_cmpR op_le (pe_meth (pe_ix ix_tup (pe_ix ix_list (pv 0) (pv 4) (fun _ _ => rfl)) pe_int (fun _ _ => rfl)) T.cl MC.me MC.ok hr7 MC.b .nil passL (pa_cons (pv 1) pa_nil)) pe_int (nomark _)) (pss_one (ps_set (i := 2) scRch.nd rfl (Or.inl rfl) (pe_op op_add (pv 4) pe_int))) (pss_one (ps_set (i := 3) scRch.nd rfl (Or.inl rfl) (pv 4)))))))
      (pss_one (ps_ret (pv 2))))), ?_⟩
    refine ⟨_, rfl, _, (gs.map fun g => V.ref g.q).length, rfl, .inl ⟨_, SqL.of hp.l, rfl⟩, _, _, rfl, ?_⟩
    rw [List.length_map]
    refine while_by (fun σ H' => Same H H' ∧ ∃ (lo hi : Nat) (v4 : Option V), (lo ≤ hi ∧ (∀ (j : Nat) g, j < lo → gs[j]? = some g → bq g ≤ x) ∧ ∀ (j : Nat) g, hi ≤ j → gs[j]? = some g → x < bq g) ∧ hi ≤ gs.length ∧ σ = [some (.ref p), some y, some (.int (lo : Int)), some (.int (hi : Int)), v4])
      (fun σ _ => match σ with | [_, _, some (.int a), some (.int b), _] => (b - a).toNat | _ => 0) ⟨Same.refl _, 0, gs.length, _, ⟨Nat.zero_le _, fun j g hj => by omega, fun j g hj e => absurd (List.getElem?_eq_some_iff.mp e).1 (by omega)⟩, Nat.le_refl _, rfl⟩ ?_ ?_
    · rintro σ H1 ⟨s1, lo, hi, v4, ⟨hlh, hlow, hhig⟩, hh, rfl⟩
      refine ⟨_, rfl, _, rfl, _, _, rfl, rfl, _, rfl, ?_⟩
      by_cases c : lo < hi
      · refine if_true_of (decide_eq_true (by omega)) ?_
        refine ⟨_, rfl, _, rfl, _, _, rfl, rfl, _, _, rfl, rfl, ⟨by decide, by decide⟩, ?_⟩
        obtain ⟨m, hm⟩ : ∃ m : Nat, ((lo : Int) + (hi : Int)) / 2 = (m : Int) := ⟨(lo + hi) / 2, by omega⟩
        have hml : lo ≤ m ∧ m < hi := by omega
        show gName 4 (V.int (((lo : Int) + (hi : Int)) / 2)) _ _ _
        rw [hm]
        have hmg : m < gs.length := by omega
        have eg : gs[m]? = some gs[m] := List.getElem?_eq_getElem hmg
        have og := (hp.ok _ (List.getElem_mem hmg)).same s1
        generalize gs[m] = g at eg og
        obtain ⟨gq, ga, gb⟩ := og
        obtain ⟨pga, dga, ega, hga, ⟨uga0, _⟩, _⟩ := id ga
        obtain ⟨_, _, _, _, ⟨u0, _⟩, _⟩ := id iy
        have below : ∀ (j : Nat) g', j ≤ m → gs[j]? = some g' → bq g' ≤ bq g := fun j g' hj e => by
          rcases Nat.lt_or_ge j m with c | c
          · have pw := M08.up_pw _ hp.rise
            have := List.pairwise_iff_getElem.mp pw j m (by rw [show (ptl gs).length = gs.length from List.length_map ..]; omega) (by rw [show (ptl gs).length = gs.length from List.length_map ..]; omega) c
            have e1 := ptl_at e
            have e2 := ptl_at eg
            rw [List.getElem?_eq_getElem (by rw [show (ptl gs).length = gs.length from List.length_map ..]; omega)] at e1 e2
            rw [Option.some.inj e1, Option.some.inj e2] at this
            exact Rat.le_of_lt this.1
          · have : j = m := by omega
            rw [this, eg] at e
            cases e
            exact Rat.le_refl
        have above : ∀ (j : Nat) g', m ≤ j → gs[j]? = some g' → bq g ≤ bq g' := fun j g' hj e => by
          have lj := (List.getElem?_eq_some_iff.mp e).1
          rcases Nat.lt_or_ge m j with c | c
          · have pw := M08.up_pw _ hp.rise
            have := List.pairwise_iff_getElem.mp pw m j (by rw [show (ptl gs).length = gs.length from List.length_map ..]; omega) (by rw [show (ptl gs).length = gs.length from List.length_map ..]; omega) c
            have e1 := ptl_at e
            have e2 := ptl_at eg
            rw [List.getElem?_eq_getElem (by rw [show (ptl gs).length = gs.length from List.length_map ..]; omega)] at e1 e2
            rw [Option.some.inj e1, Option.some.inj e2] at this
            exact Rat.le_of_lt this.1
          · have : j = m := by omega
            rw [this, eg] at e
            cases e
            exact Rat.le_refl
        have cmp : (x < bq g) ↔ 0 < g.t * u - t * g.u := by
          rw [← exq, ← vq_lt u0 uga0]
          omega
        refine ⟨_, rfl, _, rfl, p, _, _, _, rfl, rfl, SqL.of (hp.same s1).l, atI_nat (by rw [List.getElem?_map, eg]; rfl), g.q, _, _, _, rfl, rfl, SqT.of gq, rfl, pga, dga, _, ega, hga, fl_no _ _ (by decide +kernel) (by decide +kernel), _, rfl, _, _, _, _, _, rfl, ga, .inr ⟨_, _, _, .inl (iy.same s1), by omega, fun H2 s2 => ?_⟩⟩
        refine ⟨_, _, rfl, rfl, _, rfl, ?_⟩
        have s12 := s1.trans s2
        have sg : ∀ d : Int, ((if d = 0 then (0 : Int) else if 0 < d then 1 else -1) ≤ 0) ↔ ¬ 0 < d := fun d => by
          by_cases c : d = 0
          · subst c
            simp
          · by_cases c2 : 0 < d
            · rw [if_neg c, if_pos c2]
              exact ⟨fun h => absurd h (by decide), fun h => absurd c2 h⟩
            · rw [if_neg c, if_neg c2]
              exact ⟨fun _ => c2, fun _ => by decide⟩
        refine ite2 (fun ct => ?_) (fun cf => ?_)
        · have le : bq g ≤ x := Rat.not_lt.mp fun h => (sg _).mp (of_decide_eq_true ct) (cmp.mp h)
          refine ⟨_, rfl, _, _, rfl, rfl, ⟨s12, m + 1, hi, _, ⟨by omega, fun j g' hj e => Rat.le_trans (below j g' (by omega) e) le, hhig⟩, hh, rfl⟩, ?_⟩
          show ((hi : Int) - ((m : Int) + 1)).toNat < ((hi : Int) - (lo : Int)).toNat
          omega
        · have lt : x < bq g := Classical.byContradiction fun h => cf (decide_eq_true ((sg _).mpr fun h2 => h (cmp.mpr h2)))
          refine ⟨_, rfl, ⟨s12, lo, m, _, ⟨by omega, hlow, fun j g' hj e => Std.lt_of_lt_of_le lt (above j g' hj e)⟩, by omega, rfl⟩, ?_⟩
          show ((m : Int) - (lo : Int)).toNat < ((hi : Int) - (lo : Int)).toNat
          omega
      · refine if_false_of (decide_eq_false (by omega)) ?_
        exact ⟨_, rfl, q lo H1 (by omega) hlow (fun j g hj e => hhig j g (by omega) e) s1⟩
    · intro σ H' Q1 Q2 k h
      obtain ⟨v, h1, v2, h1', i, j, h2, h3, b', h4, h5⟩ := h
      exact ⟨v, h1, v2, h1', i, j, h2, h3, b', h4, k _ _ h5⟩

end
end K09
set_option linter.all false
namespace M08
theorem up_sh2 (c : Rat) : ∀ ps : List Pt, Up ps → Up (ps.map fun z => (z.1, z.2 + c))
  | [], _ => True.intro
  | [_], _ => True.intro
  | p :: q :: r, h => ⟨h.1, by have h2 := h.2.1; show p.2 + c < q.2 + c; grind, up_sh2 c (q :: r) h.2.2⟩
theorem up_sh1 (c : Rat) : ∀ ps : List Pt, Up ps → Up (ps.map fun z => (z.1 + c, z.2))
  | [], _ => True.intro
  | [_], _ => True.intro
  | p :: q :: r, h => ⟨by have h2 := h.1; show p.1 + c < q.1 + c; grind, h.2.1, up_sh1 c (q :: r) h.2.2⟩
theorem up_low : ∀ (ps : List Pt) (i : Nat) (z z' : Pt), Up ps → ps[i]? = some z → z'.1 ≤ z.1 → z'.2 ≤ z.2 → (∀ y, 0 < i → ps[i - 1]? = some y → y.1 < z'.1 ∧ y.2 < z'.2) → Up (ps.take i ++ z' :: ps.drop (i + 1))
  | [], i, z, z', _, h, _, _, _ => by simp at h
  | p :: r, 0, z, z', u, h, h1, h2, _ => by
    cases h
    show Up (z' :: r)
    cases r with
    | nil => exact True.intro
    | cons q r => exact ⟨by have := u.1; grind, by have := u.2.1; grind, u.2.2⟩
  | p :: r, i + 1, z, z', u, h, h1, h2, h3 => by
    have h' : r[i]? = some z := h
    have ih := up_low r i z z' u.tail h' h1 h2 (fun y hi e => h3 y (by omega) (by cases i with
      | zero => omega
      | succ j => exact e))
    show Up (p :: (r.take i ++ z' :: r.drop (i + 1)))
    cases i with
    | zero =>
      obtain ⟨a, b⟩ := h3 p (by omega) rfl
      exact ⟨a, b, ih⟩
    | succ j =>
      cases r with
      | nil => simp at h'
      | cons q r => exact ⟨u.1, u.2.1, ih⟩
end M08
set_option linter.all false
namespace M08
theorem lt_or_le (x y : Rat) : x < y ∨ y ≤ x := (Classical.em (x < y)).imp id Rat.not_lt.mp
/-! ### maps there and back -/
def sw (ps : List Pt) : List Pt := ps.map fun z => (z.2, z.1)
theorem sw_sw (ps : List Pt) : sw (sw ps) = ps := by
  unfold sw
  rw [List.map_map]
  exact List.map_id ps
theorem up_sw : ∀ ps : List Pt, Up ps → Up (sw ps)
  | [], _ => True.intro
  | [_], _ => True.intro
  | p :: q :: r, h => ⟨h.2.1, h.1, up_sw (q :: r) h.2.2⟩
theorem slope_pos {p q : Pt} (h : p.1 < q.1) (h2 : p.2 < q.2) : 0 < slope p q := by
  unfold slope
  have a : 0 < q.1 - p.1 := by grind
  have b : 0 < q.2 - p.2 := by grind
  rw [Rat.div_def]
  exact Rat.mul_pos b (Rat.inv_pos.mpr a)
theorem E_ge : ∀ (r : List Pt) (p : Pt) (x : Rat), Up (p :: r) → p.1 ≤ x → p.2 ≤ E p r x
  | [], p, x, _, h => by
    show p.2 ≤ p.2 + (x - p.1)
    grind
  | q :: r, p, x, u, h => by
    show p.2 ≤ (if x < q.1 then p.2 + (x - p.1) * slope p q else E q r x)
    by_cases c : x < q.1
    · rw [if_pos c]
      have s := slope_pos u.1 u.2.1
      have : 0 ≤ (x - p.1) * slope p q := Rat.mul_nonneg (by grind) (Rat.le_of_lt s)
      grind
    · rw [if_neg c]
      have := E_ge r q x u.2.2 (by grind)
      have := u.2.1
      grind
theorem E_inv : ∀ (r : List Pt) (p : Pt) (x : Rat), Up (p :: r) → p.1 ≤ x → E (p.2, p.1) (sw r) (E p r x) = x
  | [], p, x, _, h => by
    show p.1 + (p.2 + (x - p.1) - p.2) = x
    grind
  | q :: r, p, x, u, h => by
    have l := slope_line u.1
    have s := slope_pos u.1 u.2.1
    show (if (if x < q.1 then p.2 + (x - p.1) * slope p q else E q r x) < q.2 then p.1 + ((if x < q.1 then p.2 + (x - p.1) * slope p q else E q r x) - p.2) * slope (p.2, p.1) (q.2, q.1) else E (q.2, q.1) (sw r) (if x < q.1 then p.2 + (x - p.1) * slope p q else E q r x)) = x
    by_cases c : x < q.1
    · simp only [if_pos c]
      have lt : p.2 + (x - p.1) * slope p q < q.2 := by
        have := Rat.mul_lt_mul_of_pos_right (show x - p.1 < q.1 - p.1 by grind) s
        grind
      rw [if_pos lt]
      have e : slope (p.2, p.1) (q.2, q.1) * slope p q = 1 := by
        unfold slope
        show (q.1 - p.1) / (q.2 - p.2) * ((q.2 - p.2) / (q.1 - p.1)) = 1
        have a : q.1 - p.1 ≠ 0 := by have := u.1; grind
        have b : q.2 - p.2 ≠ 0 := by have := u.2.1; grind
        grind
      generalize slope (p.2, p.1) (q.2, q.1) = m' at e
      generalize slope p q = m at e
      grind
    · simp only [if_neg c]
      have ge := E_ge r q x u.2.2 (by grind)
      rw [if_neg (by grind)]
      exact E_inv r q x u.2.2 (by grind)
theorem f_inv (ps : List Pt) (u : Up ps) (x : Rat) : f (sw ps) (f ps x) = x := by
  cases ps with
  | nil => rfl
  | cons p r =>
    show (if (if x < p.1 then p.2 + (x - p.1) else E p r x) < p.2 then p.1 + ((if x < p.1 then p.2 + (x - p.1) else E p r x) - p.2) else E (p.2, p.1) (sw r) (if x < p.1 then p.2 + (x - p.1) else E p r x)) = x
    by_cases c : x < p.1
    · simp only [if_pos c]
      rw [if_pos (by grind)]
      grind
    · simp only [if_neg c]
      have ge := E_ge r p x u (by grind)
      rw [if_neg (by grind)]
      exact E_inv r p x u (by grind)
theorem f_inv' (ps : List Pt) (u : Up ps) (x : Rat) : f ps (f (sw ps) x) = x := by
  have := f_inv (sw ps) (up_sw ps u) x
  rw [sw_sw] at this
  exact this
theorem E_lt : ∀ (r : List Pt) (p : Pt) (x y : Rat), Up (p :: r) → p.1 ≤ x → x < y → E p r x < E p r y
  | [], p, x, y, _, h, h2 => by
    show p.2 + (x - p.1) < p.2 + (y - p.1)
    grind
  | q :: r, p, x, y, u, h, h2 => by
    have l := slope_line u.1
    have s := slope_pos u.1 u.2.1
    show (if x < q.1 then p.2 + (x - p.1) * slope p q else E q r x) < (if y < q.1 then p.2 + (y - p.1) * slope p q else E q r y)
    by_cases c : x < q.1
    · by_cases c2 : y < q.1
      · rw [if_pos c, if_pos c2]
        have := Rat.mul_lt_mul_of_pos_right (show x - p.1 < y - p.1 by grind) s
        grind
      · rw [if_pos c, if_neg c2]
        have ge := E_ge r q y u.2.2 (by grind)
        have := Rat.mul_lt_mul_of_pos_right (show x - p.1 < q.1 - p.1 by grind) s
        grind
    · rw [if_neg c, if_neg (by grind)]
      exact E_lt r q x y u.2.2 (by grind) h2
theorem f_lt (ps : List Pt) (u : Up ps) {x y : Rat} (h : x < y) : f ps x < f ps y := by
  cases ps with
  | nil => exact h
  | cons p r =>
    show (if x < p.1 then p.2 + (x - p.1) else E p r x) < (if y < p.1 then p.2 + (y - p.1) else E p r y)
    by_cases c : x < p.1
    · by_cases c2 : y < p.1
      · rw [if_pos c, if_pos c2]
        grind
      · rw [if_pos c, if_neg c2]
        have ge := E_ge r p y u (by grind)
        grind
    · rw [if_neg c, if_neg (by grind)]
      exact E_lt r p x y u (by grind) h
theorem f_lt_iff (ps : List Pt) (u : Up ps) {x y : Rat} : f ps x < f ps y ↔ x < y := by
  constructor
  · intro h
    rcases lt_or_le x y with c | c
    · exact c
    · rcases Rat.le_iff_lt_or_eq.mp c with c | c
      · have := f_lt ps u c
        grind
      · rw [c] at h
        grind
  · exact f_lt ps u
/-! ### the standard form is one -/
theorem fil_red {l : Rat} {p : Pt} {r : List Pt} (h : fil l (p :: r) = p :: r) : l ≠ nx p r ∧ fil (nx p r) r = r := by
  have e : (if l = nx p r then fil (nx p r) r else p :: fil (nx p r) r) = p :: r := h
  by_cases c : l = nx p r
  · rw [if_pos c] at e
    have := (fil_sub r (nx p r)).length_le
    rw [e, List.length_cons] at this
    omega
  · rw [if_neg c] at e
    exact ⟨c, (List.cons.inj e).2⟩
/-- a number between -/
theorem between (a b : Rat) (h : a < b) : ∃ x, a < x ∧ x < b := ⟨(a + b) / 2, by grind, by grind⟩
/-- right behind p the line has the slope nx p r -/
theorem E_near (r : List Pt) (p : Pt) (u : Up (p :: r)) : ∃ e, p.1 < e ∧ ∀ x, p.1 ≤ x → x < e → E p r x = p.2 + (x - p.1) * nx p r := by
  cases r with
  | nil => exact ⟨p.1 + 1, by grind, fun x _ _ => by show p.2 + (x - p.1) = p.2 + (x - p.1) * 1; grind⟩
  | cons q r => exact ⟨q.1, u.1, fun x _ h => by show (if x < q.1 then _ else _) = _; rw [if_pos h]; rfl⟩
theorem line_slope {a b m n x y c : Rat} (hx : x ≠ y) (h1 : a + (x - c) * m = b + (x - c) * n) (h2 : a + (y - c) * m = b + (y - c) * n) : m = n := by
  have e : (x - y) * m = (x - y) * n := by grind
  have d : x - y ≠ 0 := by grind
  grind
theorem E_ext : ∀ (r s : List Pt) (p : Pt), Up (p :: r) → Up (p :: s) → fil (nx p r) r = r → fil (nx p s) s = s → (∀ x, p.1 ≤ x → E p r x = E p s x) → r = s := by
  intro r
  induction r with
  | nil =>
    intro s p u v hr hs h
    cases s with
    | nil => rfl
    | cons q s =>
      exfalso
      obtain ⟨ne, _⟩ := fil_red hs
      have l := slope_line v.1
      have ne' : slope p q ≠ nx q s := ne
      -- slope p q = 1
      obtain ⟨x, x1, x2⟩ := between p.1 q.1 v.1
      have e1 := h x (by grind)
      have e1' : p.2 + (x - p.1) = (if x < q.1 then p.2 + (x - p.1) * slope p q else E q s x) := e1
      rw [if_pos x2] at e1'
      have m1 : slope p q = 1 := by
        have d : x - p.1 ≠ 0 := by grind
        generalize slope p q = m at e1'
        grind
      obtain ⟨e, he, near⟩ := E_near s q v.2.2
      obtain ⟨y, y1, y2⟩ := between q.1 e he
      have e2 : p.2 + (y - p.1) = (if y < q.1 then p.2 + (y - p.1) * slope p q else E q s y) := h y (by grind)
      rw [if_neg (by grind), near y (by grind) y2] at e2
      rw [m1] at l ne'
      apply ne'
      generalize nx q s = m at e2
      have d : y - q.1 ≠ 0 := by grind
      grind
  | cons q r ih =>
    intro s p u v hr hs h
    have lq := slope_line u.1
    obtain ⟨neq, redq⟩ := fil_red hr
    have neq' : slope p q ≠ nx q r := neq
    cases s with
    | nil =>
      exfalso
      obtain ⟨x, x1, x2⟩ := between p.1 q.1 u.1
      have e1 : (if x < q.1 then p.2 + (x - p.1) * slope p q else E q r x) = p.2 + (x - p.1) := h x (by grind)
      rw [if_pos x2] at e1
      have m1 : slope p q = 1 := by
        have d : x - p.1 ≠ 0 := by grind
        generalize slope p q = m at e1
        grind
      obtain ⟨e, he, near⟩ := E_near r q u.2.2
      obtain ⟨y, y1, y2⟩ := between q.1 e he
      have e2 : (if y < q.1 then p.2 + (y - p.1) * slope p q else E q r y) = p.2 + (y - p.1) := h y (by grind)
      rw [if_neg (by grind), near y (by grind) y2] at e2
      rw [m1] at lq neq'
      apply neq'
      generalize nx q r = m at e2
      have d : y - q.1 ≠ 0 := by grind
      grind
    | cons z s =>
      have lz := slope_line v.1
      obtain ⟨nez, redz⟩ := fil_red hs
      have nez' : slope p z ≠ nx z s := nez
      have hh : ∀ x, p.1 ≤ x → (if x < q.1 then p.2 + (x - p.1) * slope p q else E q r x) = (if x < z.1 then p.2 + (x - p.1) * slope p z else E z s x) := h
      have mm : slope p q = slope p z := by
        obtain ⟨x, x1, x2⟩ := between p.1 (if q.1 < z.1 then q.1 else z.1) (by split; exact u.1; exact v.1)
        have xq : x < q.1 := by split at x2 <;> grind
        have xz : x < z.1 := by split at x2 <;> grind
        have e1 := hh x (by grind)
        rw [if_pos xq, if_pos xz] at e1
        have d : x - p.1 ≠ 0 := by grind
        generalize slope p q = m at e1
        generalize slope p z = n at e1
        grind
      have e1 : q.1 = z.1 := by
        rcases lt_or_le q.1 z.1 with c | c
        · exfalso
          obtain ⟨e, he, near⟩ := E_near r q u.2.2
          obtain ⟨y, y1, y2⟩ := between q.1 (if e < z.1 then e else z.1) (by split; exact he; exact c)
          have ye : y < e := by split at y2 <;> grind
          have yz : y < z.1 := by split at y2 <;> grind
          have e2 := hh y (by have := u.1; grind)
          rw [if_neg (by grind), if_pos yz, near y (by grind) ye, ← mm] at e2
          apply neq'
          generalize slope p q = m at e2 lq
          generalize nx q r = n at e2
          have d : y - q.1 ≠ 0 := by grind
          grind
        · rcases Rat.le_iff_lt_or_eq.mp c with c | c
          · exfalso
            obtain ⟨e, he, near⟩ := E_near s z v.2.2
            obtain ⟨y, y1, y2⟩ := between z.1 (if e < q.1 then e else q.1) (by split; exact he; exact c)
            have ye : y < e := by split at y2 <;> grind
            have yq : y < q.1 := by split at y2 <;> grind
            have e2 := hh y (by have := v.1; grind)
            rw [if_pos yq, if_neg (by grind), near y (by grind) ye, mm] at e2
            apply nez'
            generalize slope p z = m at e2 lz
            generalize nx z s = n at e2
            have d : y - z.1 ≠ 0 := by grind
            grind
          · exact c.symm
      have e2 : q.2 = z.2 := by rw [lq, lz, e1, mm]
      have eq : q = z := Prod.ext e1 e2
      subst eq
      congr 1
      exact ih s q u.2.2 v.2.2 redq redz fun x hx => by
        have := hh x (by have := u.1; grind)
        rw [if_neg (by grind), if_neg (by grind)] at this
        exact this
theorem std_red (ps : List Pt) (u : Up ps) : (∃ c, std ps = [(0, c)] ∧ ∀ x, f ps x = c + x) ∨ ∃ p r, std ps = p :: r ∧ fil 1 (p :: r) = p :: r := by
  by_cases e : fil 1 ps = []
  · refine .inl ⟨f ps 0, by unfold std; rw [if_pos e], fun x => ?_⟩
    cases ps with
    | nil => show x = 0 + x; grind
    | cons p r =>
      have a := (flat u e x).1
      have b := (flat u e 0).1
      rw [a, b]
      grind
  · refine .inr ?_
    have es : std ps = fil 1 ps := by unfold std; rw [if_neg e]
    cases h : fil 1 ps with
    | nil => exact absurd h e
    | cons p r =>
      refine ⟨p, r, by rw [es, h], ?_⟩
      rw [← h, fil_fil ps 1 u]
theorem straight_no {p : Pt} {r : List Pt} (u : Up (p :: r)) (red : fil 1 (p :: r) = p :: r) (c : Rat) (h : ∀ x, f (p :: r) x = c + x) : False := by
  obtain ⟨ne, _⟩ := fil_red red
  obtain ⟨e, he, near⟩ := E_near r p u
  obtain ⟨y, y1, y2⟩ := between p.1 e he
  have h0 : (if p.1 < p.1 then p.2 + (p.1 - p.1) else E p r p.1) = c + p.1 := h p.1
  rw [if_neg (by grind), near p.1 (by grind) he] at h0
  have h1 : (if y < p.1 then p.2 + (y - p.1) else E p r y) = c + y := h y
  rw [if_neg (by grind), near y (by grind) y2] at h1
  apply ne
  generalize nx p r = m at h0 h1
  have d : y - p.1 ≠ 0 := by grind
  grind
theorem first_no {p q : Pt} {r s : List Pt} (u : Up (p :: r)) (red : fil 1 (p :: r) = p :: r) (h : ∀ x, f (p :: r) x = f (q :: s) x) : ¬ p.1 < q.1 := fun c => by
  obtain ⟨ne, _⟩ := fil_red red
  obtain ⟨e, he, near⟩ := E_near r p u
  obtain ⟨y, y1, y2⟩ := between p.1 (if e < q.1 then e else q.1) (by split; exact he; exact c)
  have ye : y < e := by split at y2 <;> grind
  have yq : y < q.1 := by split at y2 <;> grind
  have h0 : (if p.1 < p.1 then p.2 + (p.1 - p.1) else E p r p.1) = (if p.1 < q.1 then q.2 + (p.1 - q.1) else E q s p.1) := h p.1
  rw [if_neg (by grind), near p.1 (by grind) he, if_pos c] at h0
  have h1 : (if y < p.1 then p.2 + (y - p.1) else E p r y) = (if y < q.1 then q.2 + (y - q.1) else E q s y) := h y
  rw [if_neg (by grind), near y (by grind) ye, if_pos yq] at h1
  apply ne
  generalize nx p r = m at h0 h1
  have d : y - p.1 ≠ 0 := by grind
  grind
/-- maps that take each beat to the same second have one standard form -/
theorem std_ext {ps qs : List Pt} (u : Up ps) (v : Up qs) (h : ∀ x, f ps x = f qs x) : std ps = std qs := by
  have us := up_std u
  have vs := up_std v
  have hp : ∀ x, f (std ps) x = f ps x := fun x => (f_std ps u x).1
  have hq : ∀ x, f (std qs) x = f qs x := fun x => (f_std qs v x).1
  rcases std_red ps u with ⟨c, e, hc⟩ | ⟨p, r, e, red⟩
  · rcases std_red qs v with ⟨d, e2, hd⟩ | ⟨q, s, e2, red2⟩
    · have := h 0
      rw [hc, hd] at this
      rw [e, e2]
      have : c = d := by grind
      rw [this]
    · exfalso
      rw [e2] at vs hq
      exact straight_no vs red2 c fun x => by rw [hq, ← h, hc]
  · rcases std_red qs v with ⟨d, e2, hd⟩ | ⟨q, s, e2, red2⟩
    · exfalso
      rw [e] at us hp
      exact straight_no us red d fun x => by rw [hp, h, hd]
    · rw [e] at us hp
      rw [e2] at vs hq
      rw [e, e2]
      have hpq : ∀ x, f (p :: r) x = f (q :: s) x := fun x => by rw [hp, hq, h]
      have e1 : p.1 = q.1 := by
        have a := first_no us red hpq
        have b := first_no vs red2 fun x => (hpq x).symm
        grind
      have e0 : p.2 = q.2 := by
        have h0 : (if p.1 < p.1 then p.2 + (p.1 - p.1) else E p r p.1) = (if p.1 < q.1 then q.2 + (p.1 - q.1) else E q s p.1) := hpq p.1
        obtain ⟨e, he, near⟩ := E_near r p us
        obtain ⟨e', he', near'⟩ := E_near s q vs
        rw [if_neg (by grind), if_neg (by grind), near p.1 (by grind) he, near' p.1 (by grind) (by rw [e1]; exact he')] at h0
        grind
      have ee : p = q := Prod.ext e1 e0
      subst ee
      congr 1
      refine E_ext r s p us vs (fil_red red).2 (fil_red red2).2 fun x hx => ?_
      have : (if x < p.1 then p.2 + (x - p.1) else E p r x) = (if x < p.1 then p.2 + (x - p.1) else E p s x) := hpq x
      rw [if_neg (by grind), if_neg (by grind)] at this
      exact this
end M08
set_option Elab.async false
set_option linter.all false
set_option maxRecDepth 100000
set_option maxHeartbeats 1000000
set_option exponentiation.threshold 100000
namespace K09
open PySem PySem.Spec PyProof.Rows L2 Fa Fb
def tNeY (K : PySem.W.Frag) (C : Addr) (sp : Sp) (E : L2.St → XK) (ta tb : TE) : TE := fun σ H Q => ta σ H fun x H1 => tb σ H1 fun y H2 => ∃ p dx fs, x = .ref p ∧ H2 p = some (.ins C dx fs) ∧ ((∃ q dy gs, y = .ref q ∧ H2 q = some (.ins C dy gs)) ∨ ∃ T, TyX K H2 y (.type T) ∧ PySem.W.subIn K (.type T) (.ref C) = some false) ∧
      sp [x, y] H2 (fun v H3 => ∃ k : Bool, v = .bl k ∧ Q (.bl (!k)) H3) (E σ)
theorem pe_neY {X : Cx} {CX : CXT} {k : Nat} {f C : Addr} {fd : FuncData} {ps : List Str} {sp : Sp} {E : L2.St → XK} {a b : Expr} {ta tb : TE} (at_ : PySem.W.findIn X.K (.ref C) "__eq__" = some (some (.ref f))) (fn : PySem.W.isFn X.K (.ref f) = true) (hne : PySem.W.findIn X.K (.ref C) "__ne__" = some (some (.builtin "object.__ne__"))) (ho : PySem.W.subIn X.K (.ref C) (.type "object") = some true)
    (F : FnOk X.prog X.w X.K X.mg X.base CX k f fd ps sp) (hr : Room (k + 2) X.A) (hb : Binds X.K fd ps []) (hx : ∀ σ, PassesAt CX X σ (E σ)) (ha : PE X a ta) (hb2 : PE X b tb) : PC X .NotEq a b (tNeY X.K C sp E ta tb) := Fn.pe_neX at_ fn hne ho F hr hb hx ha hb2
def spTak (K : PySem.W.Frag) : Sp := fun vs H Q _ => ∃ (p : Addr) (gs : List Pg) (y : V) (x : Rat) (n m : Nat), vs = [.ref p, y] ∧ PtL K n H p gs ∧ n ≤ 800 ∧ m ≤ 2000 ∧ 0 < gs.length ∧ QA K H y x m ∧ ∀ z H', Same H H' → QA K H' z (M08.f (ptl gs) x) (m + 6 * n + 6) → Q z H'
def TupsOk (H : Hp) (rs : List V) : Prop := ∀ r ∈ rs, ∃ q x y, r = .ref q ∧ H q = some (.tup [x, y])
theorem TupsOk.same {H H' : Hp} {rs : List V} (h : TupsOk H rs) (s : Same H H') : TupsOk H' rs := fun r hr => by
  obtain ⟨q, x, y, e, hq⟩ := h r hr
  exact ⟨q, x, y, e, s _ _ hq⟩
def spExc (K : PySem.W.Frag) : Sp := fun vs H Q _ => ∃ (q : Addr) (gs : List Pg) (n : Nat), vs = [.ref q] ∧ PtL K n H q gs ∧ ∀ H' r hs, Same H H' → PtL K n H' r hs → ptl hs = M08.sw (ptl gs) → H r = none → Q (.ref r) H'
theorem PgOk.putD {K : PySem.W.Frag} {m : Nat} {H : Hp} {g : Pg} {l : Addr} {xs : List V} {o : HO} (hl : H l = some (.lst xs)) (h : PgOk K m H g) : PgOk K m (upd H l o) g := by
  obtain ⟨a, ⟨p, dx, e, hp, r⟩, ⟨p2, dx2, e2, hp2, r2⟩⟩ := h
  have ne : ∀ {c : Addr} {ob : HO}, H c = some ob → (∀ ys, ob ≠ .lst ys) → c ≠ l := fun h1 h2 e => by
    rw [e, hl] at h1
    exact h2 xs (Option.some.inj h1).symm
  exact ⟨by rw [upd_ne (ne a fun _ z => by cases z)]; exact a, ⟨p, dx, e, by rw [upd_ne (ne hp fun _ z => by cases z)]; exact hp, r⟩, ⟨p2, dx2, e2, by rw [upd_ne (ne hp2 fun _ z => by cases z)]; exact hp2, r2⟩⟩
def spStd (K : PySem.W.Frag) : Sp := fun vs H Q _ => ∃ (p : Addr) (gs : List Pg) (n : Nat), vs = [.ref p] ∧ PtL K n H p gs ∧ n ≤ 800 ∧ ∀ H' q hs, Same H H' → PtL K (2 * n + 2) H' q hs → ptl hs = M08.std (ptl gs) → Q (.ref q) H'
theorem red_le {t u a b : Int} (r : Am.Red t u) (hb : b ≠ 0) (e : t * b = a * u) : t.natAbs ≤ a.natAbs ∧ u.natAbs ≤ b.natAbs := by
  obtain ⟨_, _, k3, k4, k5, k6⟩ := Am.mk a b hb _ rfl
  have hu := r.1
  obtain ⟨e1, e2⟩ := Am.uniq r k3 (Int.eq_of_mul_eq_mul_right hb (by
    have h1 := k4
    generalize a.fdiv _ = c at h1 ⊢
    generalize b.fdiv _ = d at h1 ⊢
    have : t * d * b = t * b * d := by grind
    rw [this, e]
    have : c * u * b = c * b * u := by grind
    rw [this, h1]
    grind))
  rw [e1, e2]
  exact ⟨k5, k6⟩
theorem up_back {gs : List Pg} (p : ∀ g ∈ gs, 0 < g.u ∧ 0 < g.u2) (h : M08.Up (ptl gs)) (i : Nat) (g g' : Pg) (e1 : gs[i]? = some g) (e2 : gs[i + 1]? = some g') : Rises g g' := by
  refine (rises_q (p g (List.mem_of_getElem? e1)) (p g' (List.mem_of_getElem? e2))).mpr ?_
  have pw := M08.up_pw _ h
  have l2 := (List.getElem?_eq_some_iff.mp e2).1
  have ll : (ptl gs).length = gs.length := List.length_map ..
  have := List.pairwise_iff_getElem.mp pw i (i + 1) (by omega) (by omega) (by omega)
  have e1 := ptl_at e1
  have e2 := ptl_at e2
  rw [List.getElem?_eq_getElem (by omega)] at e1 e2
  rw [Option.some.inj e1, Option.some.inj e2] at this
  exact this
abbrev sTak : Stmt := top 23
theorem scTak : FnScope ["points", "beat", "index", "from_beat", "from_second"] ["points", "beat"] (defScope sTak) := ⟨rfl, rfl, rfl, by decide +kernel, rfl, by decide +kernel, by decide +kernel⟩
abbrev sExc : Stmt := top 24
theorem scExc : FnScope ["points", "beat", "second"] ["points"] (defScope sExc) := ⟨rfl, rfl, rfl, by decide +kernel, rfl, by decide +kernel, by decide +kernel⟩
abbrev sStd : Stmt := top 20
theorem scStd : FnScope ["points", "paces", "found", "index"] ["points"] (defScope sStd) := ⟨rfl, rfl, rfl, by decide +kernel, rfl, by decide +kernel, by decide +kernel⟩
section
variable {P : Program} {w : World} {K : PySem.W.Frag} {mg : Str → Option Value} {base : Heap} {f fC fD fA fS fM fE fR fP fT : Addr} {fd fdC fdD fdA fdS fdM fdE fdI fdR fdP fdT : FuncData}
theorem ok_tak (F : FnP K "_taken" sTak f fd) (T : AF K mg) (mMax : mg "max" = none) (OA : OpK P w K mg base "add" 7 (spAdd K) fA fdA) (OS : OpK P w K mg base "sub" 7 (spSub K) fS fdS) (OM : OpK P w K mg base "mul" 7 (spMul K) fM fdM)
    (RC : Fn P w K mg base "_reached" 8 ["points", "beat"] (spRch K) fR fdR) (PC : Fn P w K mg base "_pace" 8 ["points", "index"] (spPace K) fP fdP) : FnOk P w K mg base (L2.CX P w) 9 f fd ["points", "beat"] (spTak K) := by
  refine F.ok scTak (fun vs H Q E h => ?_) (fun cdv A outer s H vs Q E hr h => ?_)
  · obtain ⟨p, gs, y, x, n, m, rfl, _⟩ := h
    rfl
  · obtain ⟨p, gs, y, x, nb, mb, rfl, hp, hnb, hmb, h0, ⟨t, u, iy, eyx⟩, q⟩ := h
    have hu : (A.deeper (envOfC "_taken" (defScope sTak) s.heap.objs.size f cdv)).units + 64 < cLine := by
      have := hr.un
      omega
    have hr1 := hr.mono (show 1 ≤ 8 by decide)
    have hr2 := hr.mono (show 2 ≤ 8 by decide)
    have hr3 := hr.mono (show 3 ≤ 8 by decide)
    have hr5 := hr.mono (show 5 ≤ 8 by decide)
    have hr6 := hr.mono (show 6 ≤ 8 by decide)
    have hr7 := hr.mono (show 7 ≤ 8 by decide)
    have hr8 := hr.mono (show 8 ≤ 8 by decide)
    refine ⟨_, (pss_cons (ps_set (i := 2) scTak.nd rfl (Or.inl rfl) (pe_call RC.ok hr8 rfl RC.g RC.k RC.b .nil passL (pa_cons (pv 0) (pa_cons (pv 1) pa_nil))))
      (pss_cons (ps_asg (pe_ix ix_list (pv 0) (pe_callB (call_max2 rfl) rfl mMax (by decide +kernel) (pa_cons (pe_op op_sub (pv 2) pe_int) (pa_cons pe_int pa_nil))) (fun _ _ => rfl)) (pg_tup (by rfl) (pgs_cons (pg_name (i := 3) scTak.nd rfl (Or.inl rfl)) (pgs_cons (pg_name (i := 4) scTak.nd rfl (Or.inl rfl)) pgs_nil))))
      (pss_one (ps_ret (pe_binX (op := .Add) OA.op.own OA.ok hr7 OA.b passS (pv 4) (pe_binX (op := .Mult) OM.op.own OM.ok hr7 OM.b passS (pe_binX (op := .Sub) OS.op.own OS.ok hr7 OS.b passS (pv 1) (pv 3)) (pe_call PC.ok hr8 rfl PC.g PC.k PC.b .nil passL (pa_cons (pv 0) (pa_cons (pv 2) pa_nil))))))))), ?_⟩
    refine ⟨_, rfl, _, rfl, p, gs, y, x, _, _, rfl, hp, ⟨t, u, iy, eyx⟩, by omega, fun n H1 hn hlow hhig s1 => ?_⟩
    refine ⟨_, rfl, _, rfl, _, _, rfl, rfl, _, _, rfl, ?_⟩
    obtain ⟨m, hm, hml, emn⟩ : ∃ m : Nat, (if (0 : Int) > (n : Int) - 1 then (0 : Int) else (n : Int) - 1) = (m : Int) ∧ m < gs.length ∧ m = n - 1 := by
      by_cases c : n = 0
      · exact ⟨0, by rw [if_pos (by omega)]; rfl, h0, by omega⟩
      · exact ⟨n - 1, by rw [if_neg (by omega)]; omega, by omega, rfl⟩
    have eg : gs[m]? = some gs[m] := List.getElem?_eq_getElem hml
    have og := (hp.ok _ (List.getElem_mem hml)).same s1
    generalize gs[m] = g at eg og
    have fat := (M08.f_at (ps := ptl gs) (x := x) (n := n) (q := (bq g, sq g)) (by rw [← emn]; exact ptl_at eg) (by rw [show (ptl gs).length = gs.length from List.length_map ..]; exact hn) (fun j z hj e => by
      unfold ptl at e
      rw [List.getElem?_map] at e
      cases ez : gs[j]? with
      | none => rw [ez] at e; cases e
      | some g' => rw [ez] at e; cases e; exact hlow j g' hj ez) (fun j z hj e => by
      unfold ptl at e
      rw [List.getElem?_map] at e
      cases ez : gs[j]? with
      | none => rw [ez] at e; cases e
      | some g' => rw [ez] at e; cases e; exact hhig j g' hj ez)).1
    obtain ⟨gq, ga, gb⟩ := og
    obtain ⟨pga, dga, ega, hga, ⟨uga0, _⟩, _⟩ := id ga
    obtain ⟨pgb, dgb, egb, hgb, ⟨ugb0, _⟩, _⟩ := id gb
    obtain ⟨_, _, _, _, ⟨u0, _⟩, _⟩ := id iy
    refine ⟨p, _, _, _, rfl, rfl, SqL.of (hp.same s1).l, ?_, g.q, _, rfl, SqT.of gq, rfl, _, _, rfl, _, _, rfl, rfl, ?_⟩
    · show atI _ (if (0 : Int) > (n : Int) - 1 then (0 : Int) else (n : Int) - 1) = _
      rw [hm]
      exact atI_nat (by rw [List.getElem?_map, eg]; rfl)
    have iy1 := iy.same s1
    obtain ⟨py, dy, eqy, hy, _⟩ := id iy1
    refine ⟨_, rfl, _, rfl, _, rfl, py, dy, _, eqy, hy, OS.op.arg (.inl ga), _, _, _, _, _, rfl, iy1, .inr ⟨_, _, _, .inl ga, by omega, fun z1 H2 t1 u1 s2 iz1 ez1 => ?_⟩⟩
    refine ⟨_, rfl, _, rfl, p, gs, n, nb, rfl, hp.same (s1.trans s2), hnb, hn, fun z2 H3 s3 ⟨t2, u2, iz2, ez2⟩ => ?_⟩
    obtain ⟨pz, dz, eqz, hz, _⟩ := id (iz1.same s3)
    refine ⟨pz, dz, _, eqz, hz, OM.op.arg (.inl iz2), _, _, _, _, _, rfl, iz1.same s3, .inr ⟨_, _, _, .inl iz2, by omega, fun z3 H4 t3 u3 s4 iz3 ez3 => ?_⟩⟩
    have s14 := s2.trans (s3.trans s4)
    refine ⟨pgb, dgb, _, egb, s14 _ _ hgb, OA.op.arg (.inl iz3), _, _, _, _, _, rfl, gb.same s14, .inr ⟨_, _, _, .inl iz3, by omega, fun z4 H5 t4 u4 s5 iz4 ez4 => ?_⟩⟩
    refine q _ _ (s1.trans (s14.trans s5)) ⟨t4, u4, iz4.mono (by omega), ?_⟩
    obtain ⟨_, _, _, _, ⟨p1, _⟩, _⟩ := id iz1
    obtain ⟨_, _, _, _, ⟨p2, _⟩, _⟩ := id iz2
    obtain ⟨_, _, _, _, ⟨p3, _⟩, _⟩ := id iz3
    obtain ⟨_, _, _, _, ⟨p4, _⟩, _⟩ := id iz4
    rw [vq_add (Int.ne_of_gt ugb0) (Int.ne_of_gt p3) (Int.ne_of_gt p4) ez4, vq_mul (Int.ne_of_gt p1) (Int.ne_of_gt p2) (Int.ne_of_gt p3) ez3, vq_sub (Int.ne_of_gt u0) (Int.ne_of_gt uga0) (Int.ne_of_gt p1) ez1, ez2, eyx, fat]
theorem ok_exc (F : FnP K "_exchanged" sExc f fd) : FnOk P w K mg base (L2.CX P w) 1 f fd ["points"] (spExc K) := by
  refine F.ok scExc (fun vs H Q E h => ?_) (fun cdv A outer s H vs Q E hr h => ?_)
  · obtain ⟨q, gs, n, rfl, _⟩ := h
    rfl
  · obtain ⟨q, gs, n, rfl, hp, k⟩ := h
    have hu : (A.deeper (envOfC "_exchanged" (defScope sExc) s.heap.objs.size f cdv)).units + 64 < cLine := by
      have := hr.un
      omega
    have n20 := hp.n
    refine ⟨_, (pss_one (ps_ret (pe_lc (own := [("beat", 1), ("second", 2)]) (g := gTup K 2 (gCons (gName 1) (gCons (gName 2) gNil)))  (by rfl) scExc.nd (pi_list (pv 0)) (blkOk_by (own := [("beat", 1), ("second", 2)]) (N := ["points", "beat", "second"]) (sc := defScope sExc) (by decide +kernel)) (fun _ _ _ _ _ => (pg_tup (by rfl) (pgs_cons (pg_name (i := 1) scExc.nd rfl (Or.inl rfl)) (pgs_cons (pg_name (i := 2) scExc.nd rfl (Or.inl rfl)) pgs_nil)))) (fun _ _ _ _ _ => pts_nil) (fun _ _ _ _ _ => (pe_tup (pa_cons (pv 2) (pa_cons (pv 1) pa_nil))))))), ?_⟩
    refine ⟨_, rfl, q, rfl, ⟨_, SqL.of hp.l⟩, fun D hD => ?_⟩
    refine lc_list (K := K) (a := q) (xs := gs.map fun g => V.ref g.q) (fun i H' => Same H H' ∧ ∃ hs : List Pg, hs.length = i ∧ H' D = some (.lst (hs.map fun (g : Pg) => V.ref g.q)) ∧ (∀ g ∈ hs, PgOk K n H' g) ∧ ∀ (j : Nat) (h : Pg), hs[j]? = some h → ∃ g, gs[j]? = some g ∧ h.t = g.t2 ∧ h.u = g.u2 ∧ h.t2 = g.t ∧ h.u2 = g.u) ⟨Same.upd hD, [], rfl, upd_same, (fun g hg => by cases hg), fun j h e => by cases e⟩ (fun i H' _ ⟨s, _⟩ => SqL.of (s _ _ hp.l)) ?_ ?_
    · rintro i x H1 hx ⟨s1, hs, hn, ha, ok, ev⟩
      rw [List.getElem?_map] at hx
      obtain ⟨g, eg, rfl⟩ := Option.map_eq_some_iff.mp hx
      have hi := (List.getElem?_eq_some_iff.mp eg).1
      obtain ⟨c1, c2, c3⟩ := (hp.ok g (List.mem_of_getElem? eg)).same s1
      refine ⟨g.q, _, rfl, SqT.of c1, rfl, _, _, rfl, _, _, rfl, rfl, ?_⟩
      refine ⟨rfl, _, rfl, _, rfl, by show 2 ≤ sizeLine; decide, fun t1 h1 => ?_⟩
      have s2 := Same.upd (o := .tup [.ref g.b, .ref g.a]) h1
      have e2 : upd H1 t1 (.tup [.ref g.b, .ref g.a]) t1 = some (.tup [.ref g.b, .ref g.a]) := upd_same
      generalize upd H1 t1 (.tup [.ref g.b, .ref g.a]) = H2 at s2 e2 ⊢
      have ha2 := s2 _ _ ha
      refine ⟨_, ha2, ?_, same_put (s1.trans s2) hD, hs ++ [⟨t1, g.b, g.a, g.t2, g.u2, g.t, g.u⟩], by rw [List.length_append, hn]; rfl, by rw [upd_same, List.map_append]; rfl, fun h hh => ?_, fun j h ej => ?_⟩
      · rw [List.length_map, hn]
        exact Nat.lt_of_lt_of_le (show i < 100 by omega) (by decide)
      · rcases List.mem_append.mp hh with m | m
        · exact ((ok h m).same s2).putD ha2
        · rw [List.mem_singleton.mp m]
          exact PgOk.putD ha2 ⟨e2, c3.same s2, c2.same s2⟩
      · rcases Nat.lt_trichotomy j hs.length with c | c | c
        · rw [List.getElem?_append_left c] at ej
          exact ev j h ej
        · subst c
          have : (⟨t1, g.b, g.a, g.t2, g.u2, g.t, g.u⟩ : Pg) = h := by simpa using ej
          subst this
          exact ⟨g, by rw [hn]; exact eg, rfl, rfl, rfl, rfl⟩
        · rw [List.getElem?_eq_none (by rw [List.length_append]; show hs.length + 1 ≤ j; omega)] at ej
          cases ej
    · rintro H1 ⟨s1, hs, hn, ha, ok, ev⟩
      rw [List.length_map] at hn
      refine k H1 D hs s1 ⟨ha, ok, fun i g h eg eh => ?_, by omega⟩ ?_ hD
      · obtain ⟨g', f1, f2, f3, f4, f5⟩ := ev i g eg
        obtain ⟨h', k1, k2, k3, k4, k5⟩ := ev (i + 1) h eh
        obtain ⟨r1, r2⟩ := hp.up i g' h' f1 k1
        exact ⟨by rw [f2, k3, k2, f3]; exact r2, by rw [f4, k5, k4, f5]; exact r1⟩
      · unfold M08.sw ptl
        rw [List.map_map]
        refine List.ext_getElem? fun i => ?_
        rw [List.getElem?_map, List.getElem?_map]
        cases e : hs[i]? with
        | none =>
          have : gs.length ≤ i := by
            have := List.getElem?_eq_none_iff.mp e
            omega
          rw [List.getElem?_eq_none this]
          rfl
        | some h =>
          obtain ⟨g, f1, f2, f3, f4, f5⟩ := ev i h e
          rw [f1]
          show some (vq h.t h.u, vq h.t2 h.u2) = some (vq g.t2 g.u2, vq g.t g.u)
          rw [f2, f3, f4, f5]

theorem ok_std (F : FnP K "_standard" sStd f fd) (T : AF K mg) (mL : mg "len" = none) (mG : mg "range" = none) (EQ : EqK P w K mg base fE fdE) (PC : Fn P w K mg base "_pace" 8 ["points", "index"] (spPace K) fP fdP) (TK : Fn P w K mg base "_taken" 9 ["points", "beat"] (spTak K) fT fdT)
    (GI : FnOk P w K mg base (L2.CX P w) 4 (aI K) fdI ["self", "top", "bottom"] (spInit K)) {ds : List Value} (hds : Vals [.int 1] ds) (bI : Binds K fdI ["self", "top", "bottom"] ds) : FnOk P w K mg base (L2.CX P w) 10 f fd ["points"] (spStd K) := by
  refine F.ok scStd (fun vs H Q E h => ?_) (fun cdv A outer s H vs Q E hr h => ?_)
  · obtain ⟨p, gs, n, rfl, _⟩ := h
    rfl
  · obtain ⟨p, gs, nb, rfl, hp, hnb, q⟩ := h
    have hu : (A.deeper (envOfC "_standard" (defScope sStd) s.heap.objs.size f cdv)).units + 64 < cLine := by
      have := hr.un
      omega
    have hr1 := hr.mono (show 1 ≤ 9 by decide)
    have hr2 := hr.mono (show 2 ≤ 9 by decide)
    have hr3 := hr.mono (show 3 ≤ 9 by decide)
    have hr5 := hr.mono (show 5 ≤ 9 by decide)
    have hr6 := hr.mono (show 6 ≤ 9 by decide)
    have hr7 := hr.mono (show 7 ≤ 9 by decide)
    have hr8 := hr.mono (show 8 ≤ 9 by decide)
    have hr9 := hr.mono (show 9 ≤ 9 by decide)
    refine ⟨_, (pss_cons (ps_if (pt_cmpR op_eq (pe_callB call_len rfl mL PySem.boot_len (pa_cons (pv 0) pa_nil)) pe_int (nomark _)) (pss_one (ps_ret (pe_lst (pa_cons (pe_tup (pa_cons (pe_make T.mkA GI hr5 rfl T.g bI hds passL (pa_cons pe_int pa_nil)) (pa_cons (pe_make T.mkA GI hr5 rfl T.g bI hds passL (pa_cons pe_int pa_nil)) pa_nil))) pa_nil)))) pss_nil)
      (pss_cons (ps_set (i := 1) scStd.nd rfl (Or.inr rfl) (pe_lc (own := [("index", 3)]) (g := gName 3)  (by rfl) scStd.nd (pi_range1 rfl mG (pa_cons (pe_op op_add (pe_callB call_len rfl mL PySem.boot_len (pa_cons (pv 0) pa_nil)) pe_int) pa_nil)) (blkOk_by (own := [("index", 3)]) (N := ["points", "paces", "found", "index"]) (sc := defScope sStd) (by decide +kernel)) (fun _ _ _ _ _ => (pg_name (i := 3) scStd.nd rfl (Or.inl rfl))) (fun _ _ _ _ _ => pts_nil) (fun _ _ _ _ _ => (pe_call PC.ok hr8 rfl PC.g PC.k PC.b .nil passL (pa_cons (pv 0) (pa_cons (pv 3) pa_nil))))))
      (pss_cons (ps_setLc (i := 2) (own := [("index", 3)]) (g := gName 3) (tt := tB (tNeY K (CA K) (spEq K) (fun _ => E0) (tOp (rIxL K) (tVar 1) (tVar 3)) (tOp (rIxL K) (tVar 1) (tOp (rI0 fun i j => V.int (i + j)) (tVar 3) (tC (.int 1)))))) (te := tOp (rIxL K) (tVar 0) (tVar 3)) (by rfl) scStd.nd rfl rfl (sw_true rfl rfl rfl (by decide +kernel)) (pi_range1 rfl mG (pa_cons (pe_callB call_len rfl mL PySem.boot_len (pa_cons (pv 0) pa_nil)) pa_nil)) (blkOk_by (own := [("index", 3)]) (N := ["points", "paces", "found", "index"]) (sc := defScope sStd) (by decide +kernel)) (fun _ _ _ _ _ => (pg_name (i := 3) scStd.nd rfl (Or.inl rfl))) (fun _ _ _ _ _ => pts_one (pt_cmp (pe_neY EQ.at_ EQ.fn EQ.ne EQ.ob EQ.ok hr3 EQ.b passS (pe_ix ix_list (pv 1) (pv 3) (fun _ _ => rfl)) (pe_ix ix_list (pv 1) (pe_op op_add (pv 3) pe_int) (fun _ _ => rfl))))) (fun _ _ _ _ _ => (pe_ix ix_list (pv 0) (pv 3) (fun _ _ => rfl))))
      (pss_one (ps_ret (pe_ifExp (pt_cmpR op_gt (pe_callB call_len rfl mL PySem.boot_len (pa_cons (pv 2) pa_nil)) pe_int (nomark _)) (pv 2) (pe_lst (pa_cons (pe_tup (pa_cons (pe_make T.mkA GI hr5 rfl T.g bI hds passL (pa_cons pe_int pa_nil)) (pa_cons (pe_call TK.ok hr9 rfl TK.g TK.k TK.b .nil passL (pa_cons (pv 0) (pa_cons (pe_make T.mkA GI hr5 rfl T.g bI hds passL (pa_cons pe_int pa_nil)) pa_nil))) pa_nil))) pa_nil)))))))), ?_⟩
    have gl := hp.n
    refine ⟨_, rfl, _, (gs.map fun g => V.ref g.q).length, rfl, .inl ⟨_, SqL.of hp.l, rfl⟩, rfl, _, rfl, ?_⟩
    rw [List.length_map]
    by_cases c0 : gs.length = 0
    · refine if_true_of (decide_eq_true (by rw [c0]; rfl)) ?_
      refine fun y1 dy1 h1 hd1 n1 => spInit_imp (make_fact T (n := 2) (a := 0) (b := 1) (by decide) (by decide) (by decide) (by decide) h1 hd1 n1) fun v1 H1 ⟨hv1, t1, u1, s1, i1, e1⟩ => ⟨hv1, ?_⟩
      refine fun y2 dy2 h2 hd2 n2 => spInit_imp (make_fact T (n := 2) (a := 0) (b := 1) (by decide) (by decide) (by decide) (by decide) h2 hd2 n2) fun v2 H2 ⟨hv2, t2, u2, s2, i2, e2⟩ => ⟨hv2, ?_⟩
      refine ⟨by show 2 ≤ sizeLine; decide, fun t3 h3 => ⟨by show 1 ≤ sizeLine; decide, fun l hl => ?_⟩⟩
      have s3 := Same.upd (o := .tup [.ref y1, .ref y2]) h3
      have s4 := Same.upd (o := .lst [.ref t3]) hl
      have g0 : gs = [] := List.eq_nil_of_length_eq_zero c0
      obtain ⟨_, _, _, _, ⟨p1, _⟩, _⟩ := id i1
      obtain ⟨_, _, _, _, ⟨p2, _⟩, _⟩ := id i2
      refine q _ l [⟨t3, y1, y2, t1, u1, t2, u2⟩] (s1.trans (s2.trans (s3.trans s4))) ⟨upd_same, fun g hg => ?_, (fun i g h e1 e2 => by simp at e2), by simp⟩ ?_
      · rw [List.mem_singleton] at hg
        rw [hg]
        exact ⟨s4 _ _ upd_same, ((((i1.same s2).same s3).same s4)).mono (by omega), ((i2.same s3).same s4).mono (by omega)⟩
      · rw [g0]
        show [(vq t1 u1, vq t2 u2)] = [((0 : Rat), (0 : Rat))]
        rw [(vq_eq (Int.ne_of_gt p1) (by decide)).mpr e1, (vq_eq (Int.ne_of_gt p2) (by decide)).mpr e2, vq_zero]
    · refine if_false_of (decide_eq_false fun z => c0 (by have := V.int.inj z; omega)) ?_
      refine ⟨_, rfl, _, (gs.map fun g => V.ref g.q).length, rfl, .inl ⟨_, SqL.of hp.l, rfl⟩, _, _, rfl, rfl, _, rfl, ?_, ?_, fun D1 hD1 => ?_⟩
      · rw [List.length_map]
        omega
      · rw [List.length_map]
        omega
      rw [List.length_map]
      have eN : ((gs.length : Int) + 1).toNat = gs.length + 1 := by omega
      have sD1 := Same.upd (o := .lst []) hD1
      refine lc_range (lo := 0) (n := ((gs.length : Int) + 1).toNat) (fun i H' => Same H H' ∧ ∃ ys : List (V × Int × Int), ys.length = i ∧ H' D1 = some (.lst (ys.map fun y => y.1)) ∧ ∀ (j : Nat) y, ys[j]? = some y → IsA K H' y.1 y.2.1 y.2.2 (4 * nb + 3) ∧ vq y.2.1 y.2.2 = M08.pc (ptl gs) j) ⟨sD1, [], rfl, upd_same, fun j y e => by cases e⟩ ?_ ?_
      · rintro i H1 hi ⟨s1, ys, hn, hD, hy⟩
        rw [Int.zero_add]
        refine ⟨rfl, _, rfl, _, rfl, p, gs, i, nb, rfl, hp.same s1, hnb, by omega, fun y H2 s2 ⟨t, u, iy, evy⟩ => ?_⟩
        have hD2 := s2 _ _ hD
        have kt : ∀ z t u, IsA K H2 z t u (4 * nb + 3) → IsA K (upd H2 D1 (.lst ((ys.map fun y => y.1) ++ [y]))) z t u (4 * nb + 3) := fun z t u ⟨pz, dz, e, h1, h2⟩ => ⟨pz, dz, e, by
          rw [upd_ne (fun x => by rw [x, hD2] at h1; cases h1)]
          exact h1, h2⟩
        refine ⟨_, hD2, ?_, same_put (s1.trans s2) hD1, ys ++ [(y, t, u)], by rw [List.length_append, hn]; rfl, ?_, ?_⟩
        · rw [List.length_map]
          exact Nat.lt_of_lt_of_le (show ys.length < 100 by omega) (by decide)
        · rw [upd_same, List.map_append]
          rfl
        · intro j z hz
          rcases Nat.lt_or_ge j ys.length with c | c
          · rw [List.getElem?_append_left c] at hz
            obtain ⟨a1, a2⟩ := hy j z hz
            exact ⟨kt _ _ _ (a1.same s2), a2⟩
          · have lj := (List.getElem?_eq_some_iff.mp hz).1
            rw [List.length_append, List.length_singleton] at lj
            have ej : j = ys.length := by omega
            rw [List.getElem?_append_right c, ej, Nat.sub_self] at hz
            cases hz
            exact ⟨kt _ _ _ iy, by rw [ej, hn]; exact evy⟩
      rintro H1 ⟨s1, ys, hn, hD, hy⟩
      rw [eN] at hn
      have ix : ∀ (J : Hp) (j : Nat), Same H1 J → j < gs.length + 1 → ∃ v t u pv dv, atI (ys.map fun y => y.1) (j : Int) = some v ∧ (IsA K J v t u (4 * nb + 3) ∧ vq t u = M08.pc (ptl gs) j) ∧ v = .ref pv ∧ J pv = some (.ins (CA K) dv (fl t u)) := fun J j sJ hj => by
        have e : ys[j]? = some ys[j] := List.getElem?_eq_getElem (by omega)
        obtain ⟨o', ov⟩ := hy j _ e
        have o := o'.same sJ
        obtain ⟨pv, dv, ev, hv, _⟩ := id o
        exact ⟨_, _, _, pv, dv, atI_nat (by rw [List.getElem?_map, e]; rfl), ⟨o, ov⟩, ev, hv⟩
      refine ⟨_, rfl, _, (gs.map fun g => V.ref g.q).length, rfl, .inl ⟨_, SqL.of (s1 _ _ hp.l), rfl⟩, _, rfl, ?_, ?_, fun D2 hD2 => ?_⟩
      · rw [List.length_map]
        omega
      · rw [List.length_map]
        omega
      rw [List.length_map]
      refine lc_range (lo := 0) (n := ((gs.length : Int)).toNat) (fun i H' => Same H1 H' ∧ ∃ hs : List Pg, H' D2 = some (.lst (hs.map fun g => V.ref g.q)) ∧ hs.length ≤ i ∧ (∀ g ∈ hs, g ∈ gs) ∧ ptl hs ++ M08.fil (M08.pc (ptl gs) i) ((ptl gs).drop i) = M08.fil 1 (ptl gs)) ⟨Same.upd hD2, [], upd_same, Nat.le_refl _, (fun g hg => by cases hg), rfl⟩ ?_ ?_
      · rintro i H2 hi ⟨s2, hs, hr2, hrn, hrs, hfil⟩
        rw [Int.zero_add]
        obtain ⟨v1, t1, u1, p1, d1, a1, ⟨i1, w1⟩, e1, q1⟩ := ix H2 i s2 (by omega)
        obtain ⟨v2, t2, u2, p2, d2, a2, ⟨i2, w2⟩, e2, q2⟩ := ix H2 (i + 1) s2 (by omega)
        refine ⟨rfl, _, rfl, _, rfl, D1, _, _, _, rfl, rfl, SqL.of (s2 _ _ hD), a1, _, rfl, _, rfl, _, _, rfl, rfl, D1, _, _, _, rfl, rfl, SqL.of (s2 _ _ hD), a2, p1, d1, _, e1, q1, .inl ⟨p2, d2, _, e2, q2⟩, ?_⟩
        refine ⟨_, _, _, _, _, rfl, i1, .inl ⟨_, _, _, i2, _, rfl, _, rfl, ?_⟩⟩
        have hi2 : i < gs.length := by omega
        have eg : gs[i]? = some gs[i] := List.getElem?_eq_getElem hi2
        have fs := M08.fil_step (ptl_at eg)
        obtain ⟨_, _, _, _, rd1, _⟩ := id i1
        obtain ⟨_, _, _, _, rd2, _⟩ := id i2
        have same : (decide (t1 = t2) && decide (u1 = u2)) = decide (M08.pc (ptl gs) i = M08.pc (ptl gs) (i + 1)) := by
          rw [← w1, ← w2]
          by_cases c : vq t1 u1 = vq t2 u2
          · obtain ⟨a, b⟩ := vq_inj rd1 rd2 c
            rw [decide_eq_true a, decide_eq_true b, decide_eq_true c]
            rfl
          · rw [decide_eq_false c]
            cases h : (decide (t1 = t2) && decide (u1 = u2)) with
            | false => rfl
            | true =>
              rw [Bool.and_eq_true, decide_eq_true_eq, decide_eq_true_eq] at h
              exact absurd (by rw [h.1, h.2]) c
        rw [same]
        refine ite2 (fun c => ?_) (fun c => ?_)
        · have cne : ¬ M08.pc (ptl gs) i = M08.pc (ptl gs) (i + 1) := fun e => by
            rw [decide_eq_true e] at c
            cases c
          rw [if_neg cne] at fs
          refine ⟨_, rfl, _, rfl, p, _, _, _, rfl, rfl, SqL.of ((s1.trans s2) _ _ hp.l), atI_nat (by rw [List.getElem?_map, eg]; rfl), _, hr2, ?_, same_put s2 hD2, hs ++ [gs[i]], by rw [upd_same, List.map_append]; rfl, by rw [List.length_append]; exact Nat.add_le_add_right hrn 1, ?_, ?_⟩
          · rw [List.length_map]
            exact Nat.lt_of_lt_of_le (show hs.length < 100 by omega) (by decide)
          · intro r hr
            rcases List.mem_append.mp hr with m | m
            · exact hrs r m
            · rw [List.mem_singleton] at m
              rw [m]
              exact List.getElem_mem hi2
          · rw [← hfil, fs]
            unfold ptl
            rw [List.map_append, List.append_assoc]
            rfl
        · have ceq : M08.pc (ptl gs) i = M08.pc (ptl gs) (i + 1) := Classical.byContradiction fun e => c (by rw [decide_eq_false e]; rfl)
          rw [if_pos ceq] at fs
          exact ⟨s2, hs, hr2, by omega, hrs, by rw [← hfil, fs]⟩
      rintro H2 ⟨s2, hs, hr2, hrn, hrs, hfil⟩
      have eNl : ((gs.length : Int)).toNat = (ptl gs).length := by rw [show (ptl gs).length = gs.length from List.length_map ..]; omega
      rw [eNl, List.drop_length] at hfil
      have hfil2 : ptl hs = M08.fil 1 (ptl gs) := by rw [← hfil]; exact (List.append_nil _).symm
      have s12 := s1.trans s2
      have gl := hp.n
      have upg := hp.rise
      refine ⟨_, rfl, _, (hs.map fun g => V.ref g.q).length, rfl, .inl ⟨_, SqL.of hr2, rfl⟩, _, _, rfl, rfl, _, rfl, ?_⟩
      rw [List.length_map]
      have okh : ∀ g ∈ hs, PgOk K (2 * nb + 2) H2 g := fun g hg => by
        obtain ⟨a, b, c⟩ := (hp.ok g (hrs g hg)).same s12
        exact ⟨a, b.mono (by omega), c.mono (by omega)⟩
      by_cases c1 : 0 < hs.length
      · have ne : M08.fil 1 (ptl gs) ≠ [] := fun e => by
          rw [e] at hfil2
          have := congrArg List.length hfil2
          rw [show (ptl hs).length = hs.length from List.length_map ..] at this
          simp at this
          rw [this] at c1
          cases c1
        have est : M08.std (ptl gs) = M08.fil 1 (ptl gs) := if_neg ne
        refine if_true_of (decide_eq_true (by omega)) ⟨_, rfl, q H2 D2 hs s12 ⟨hr2, okh, up_back (fun g hg => (okh g hg).pos) (by rw [hfil2, ← est]; exact M08.up_std upg), by omega⟩ (by rw [hfil2, est])⟩
      · refine if_false_of (decide_eq_false (by omega)) ?_
        have h0 : hs = [] := List.eq_nil_of_length_eq_zero (by omega)
        have nil : M08.fil 1 (ptl gs) = [] := by rw [← hfil2, h0]; rfl
        have est : M08.std (ptl gs) = [(0, M08.f (ptl gs) 0)] := if_pos nil
        refine fun y1 dy1 h1 hd1 n1 => spInit_imp (make_fact T (n := 2) (a := 0) (b := 1) (by decide) (by decide) (by decide) (by decide) h1 hd1 n1) fun v1 H3 ⟨hv1, t1, u1, s3, i1, e1⟩ => ⟨hv1, ?_⟩
        refine ⟨_, rfl, ?_⟩
        refine fun y2 dy2 h2 hd2 n2 => spInit_imp (make_fact T (n := 2) (a := 0) (b := 1) (by decide) (by decide) (by decide) (by decide) h2 hd2 n2) fun v2 H4 ⟨hv2, t2, u2, s4, i4, e2⟩ => ⟨hv2, ?_⟩
        obtain ⟨_, _, _, _, ⟨p1, _⟩, _⟩ := id i1
        obtain ⟨_, _, _, _, ⟨p2, _⟩, _⟩ := id i4
        have z1 : vq t1 u1 = 0 := by rw [(vq_eq (Int.ne_of_gt p1) (by decide)).mpr e1, vq_zero]
        have z2 : vq t2 u2 = 0 := by rw [(vq_eq (Int.ne_of_gt p2) (by decide)).mpr e2, vq_zero]
        refine ⟨p, gs, _, 0, nb, 2, rfl, hp.same (s12.trans (s3.trans s4)), hnb, by decide, by omega, ⟨t2, u2, i4, z2⟩, fun z H5 s5 ⟨t5, u5, i5, e5⟩ => ?_⟩
        obtain ⟨pz, dz, ez, hz, rz, bz1, bz2⟩ := id i5
        subst ez
        refine ⟨by show 2 ≤ sizeLine; decide, fun t1' h3 => ⟨by show 1 ≤ sizeLine; decide, fun l hl => ?_⟩⟩
        have s6 := Same.upd (o := .tup [.ref y1, .ref pz]) h3
        have s7 := Same.upd (o := .lst [.ref t1']) hl
        have small : t5.natAbs < 2 ^ (2 * nb + 2) ∧ u5.natAbs < 2 ^ (2 * nb + 2) := by
          cases hg : gs with
          | nil => exact absurd (by rw [hg]; rfl) c0
          | cons g0 gr =>
            have og := hp.ok g0 (by rw [hg]; simp)
            obtain ⟨_, ⟨_, _, _, _, ⟨a1, _⟩, b1, b2⟩, ⟨_, _, _, _, ⟨a2, _⟩, b3, b4⟩⟩ := og
            have ep : ptl gs = (bq g0, sq g0) :: ptl gr := by rw [hg]; rfl
            rw [ep] at e5 upg nil
            rw [(M08.flat upg nil 0).1] at e5
            have e6 : vq t5 u5 = vq (g0.t2 * g0.u - g0.t * g0.u2) (g0.u2 * g0.u) := by
              rw [vq_sub (t := g0.t2) (u := g0.u2) (t2 := g0.t) (u2 := g0.u) (Int.ne_of_gt a2) (Int.ne_of_gt a1) (Int.mul_ne_zero (Int.ne_of_gt a2) (Int.ne_of_gt a1)) rfl, e5]
              show sq g0 + (0 - bq g0) = sq g0 - bq g0
              grind
            obtain ⟨l1, l2⟩ := red_le rz (Int.mul_ne_zero (Int.ne_of_gt a2) (Int.ne_of_gt a1)) ((vq_eq (Int.ne_of_gt rz.1) (Int.mul_ne_zero (Int.ne_of_gt a2) (Int.ne_of_gt a1))).mp e6)
            exact ⟨pow_step (Nat.lt_of_le_of_lt l1 (abs_sub_lt (abs_mul_lt b3 b2) (abs_mul_lt b1 b4))) (by omega), pow_step (Nat.lt_of_le_of_lt l2 (abs_mul_lt b4 b2)) (by omega)⟩
        have i5' : IsA K H5 (.ref pz) t5 u5 (2 * nb + 2) := ⟨pz, dz, rfl, hz, rz, small.1, small.2⟩
        refine q _ l [⟨t1', y1, pz, t1, u1, t5, u5⟩] (s12.trans (s3.trans (s4.trans (s5.trans (s6.trans s7))))) ⟨upd_same, fun g hg => ?_, (fun i g h e1 e2 => by simp at e2), by simp⟩ ?_
        · rw [List.mem_singleton] at hg
          rw [hg]
          exact ⟨s7 _ _ upd_same, (((((i1.same s4).same s5).same s6).same s7)).mono (by omega), (i5'.same s6).same s7⟩
        · rw [est]
          show [(vq t1 u1, vq t5 u5)] = _
          rw [z1, e5]
end
end K09
set_option Elab.async false
set_option linter.all false
set_option maxRecDepth 100000
set_option maxHeartbeats 1000000
set_option exponentiation.threshold 100000
namespace K09
open PySem PySem.Spec PyProof.Rows L2 Fa Fb
def SameV (g h : Pg) : Prop := g.t = h.t ∧ g.u = h.u ∧ g.t2 = h.t2 ∧ g.u2 = h.u2
theorem Arg.same {K : PySem.W.Frag} {H H' : Hp} {x : V} {t u : Int} {n : Nat} (h : Arg K H x t u n) (s : Same H H') : Arg K H' x t u n := h.imp (fun h => h.same s) id
theorem Arg.pos {K : PySem.W.Frag} {H : Hp} {x : V} {t u : Int} {n : Nat} (h : Arg K H x t u n) : 0 < u := by
  rcases h with ⟨_, _, _, _, ⟨a, _⟩, _⟩ | ⟨_, e, _⟩
  · exact a
  · rw [e]; decide
theorem ty_sqt {K : PySem.W.Frag} {H : Hp} {a : Addr} {xs : List V} (h : SqT K H a xs) : TyX K H (.ref a) (.type "tuple") := by
  rcases h with (h | ⟨o, h⟩) | ⟨o, its, n, h, hc, _⟩
  · exact .base (.tup h)
  · exact .fTuple h
  · exact .kTuple h hc
/-- an item: a list or tuple of two amounts -/
def It2 (H : Hp) (l : Addr) (x y : V) : Prop := H l = some (.lst [x, y]) ∨ H l = some (.tup [x, y])
theorem It2.same {H H' : Hp} {l : Addr} {x y : V} (h : It2 H l x y) (s : Same H H') : It2 H' l x y := h.imp (s _ _) (s _ _)
def GdI (K : PySem.W.Frag) (n : Nat) (H : Hp) (l : Addr) (g : Pg) : Prop := ∃ x y, It2 H l x y ∧ Arg K H x g.t g.u n ∧ Arg K H y g.t2 g.u2 n
theorem GdI.same {K : PySem.W.Frag} {n : Nat} {H H' : Hp} {l : Addr} {g : Pg} (h : GdI K n H l g) (s : Same H H') : GdI K n H' l g := let ⟨x, y, a, b, c⟩ := h; ⟨x, y, a.same s, b.same s, c.same s⟩
structure TPOk (K : PySem.W.Frag) (n : Nat) (H : Hp) (a : Addr) (xs : List V) (gs : List Pg) : Prop where
  seq : H a = some (.lst xs) ∨ SqT K H a xs
  sz : xs.length ≤ 20
  len : gs.length = xs.length
  ok : ∀ (i : Nat) g, gs[i]? = some g → ∃ l, xs[i]? = some (V.ref l) ∧ GdI K n H l g
  up : ∀ (i : Nat) g h, gs[i]? = some g → gs[i + 1]? = some h → Rises g h
theorem TPOk.same {K : PySem.W.Frag} {n : Nat} {H H' : Hp} {a : Addr} {xs : List V} {gs : List Pg} (h : TPOk K n H a xs gs) (s : Same H H') : TPOk K n H' a xs gs :=
  ⟨h.seq.imp (s _ _) (fun z => SqT.ext z s), h.sz, h.len, fun i g e => let ⟨l, h1, h2⟩ := h.ok i g e; ⟨l, h1, h2.same s⟩, h.up⟩
def spTP (K : PySem.W.Frag) : Sp := fun vs H Q _ => ∃ a xs gs n, vs = [.ref a] ∧ TPOk K n H a xs gs ∧ n ≤ 3000 ∧ ∀ H' p ps, Same H H' → PtL K n H' p ps → ptl ps = ptl gs → Q (.ref p) H'
structure TPI (K : PySem.W.Frag) (n : Nat) (H : Hp) (gs : List Pg) (l : Addr) (i : Nat) (H' : Hp) : Prop where
  s : Same H H'
  le : i ≤ gs.length
  new : H l = none
  pts : ∃ ps, PtL K n H' l ps ∧ ps.length = i ∧ ∀ (j : Nat) g, ps[j]? = some g → ∃ h, gs[j]? = some h ∧ SameV g h
theorem TPI.same {K : PySem.W.Frag} {n : Nat} {H : Hp} {gs : List Pg} {l : Addr} {i : Nat} {H' H'' : Hp} (h : TPI K n H gs l i H') (s : Same H' H'') : TPI K n H gs l i H'' := by
  obtain ⟨h1, h2, h3, ps, h4, h5, h6⟩ := h
  exact ⟨h1.trans s, h2, h3, ps, h4.same s, h5, h6⟩
theorem none_of {H H' : Hp} {p : Addr} (s : Same H H') (h : H' p = none) : H p = none := by
  cases e : H p with
  | none => rfl
  | some o =>
    rw [s _ _ e] at h
    cases h
def sTPb (K : PySem.W.Frag) (n : Nat) (x : V) (xs : List V) (gs : List Pg) (H : Hp) : TS := fun D σ H' => ∃ (l : Addr) (i : Nat) (y : V) (v4 : Option V), σ = [some x, some (.ref l), some (.int (i : Int)), some y, v4] ∧ xs[i]? = some y ∧ TPI K n H gs l i H' ∧
  ∀ v4' H'', TPI K n H gs l (i + 1) H'' → D.nx [some x, some (.ref l), some (.int (i : Int)), some y, v4'] H''
theorem rises_sv {g g' h h' : Pg} (a : SameV g g') (b : SameV h h') : Rises g h ↔ Rises g' h' := by
  obtain ⟨a1, a2, a3, a4⟩ := a
  obtain ⟨b1, b2, b3, b4⟩ := b
  unfold Rises
  rw [a1, a2, a3, a4, b1, b2, b3, b4]
theorem PgOk.put {K : PySem.W.Frag} {m : Nat} {H : Hp} {g : Pg} {l : Addr} {xs : List V} {o : HO} (hl : H l = some (.lst xs)) (h : PgOk K m H g) : PgOk K m (upd H l o) g := by
  obtain ⟨h1, ⟨pa, da, ea, ha, ra⟩, ⟨pb, db, eb, hb, rb⟩⟩ := h
  refine ⟨?_, ⟨pa, da, ea, ?_, ra⟩, ⟨pb, db, eb, ?_, rb⟩⟩
  · rw [upd_ne fun e => by rw [e, hl] at h1; cases h1]
    exact h1
  · rw [upd_ne fun e => by rw [e, hl] at ha; cases ha]
    exact ha
  · rw [upd_ne fun e => by rw [e, hl] at hb; cases hb]
    exact hb
theorem PtL.push {K : PySem.W.Frag} {m : Nat} {H : Hp} {l : Addr} {ps : List Pg} {g : Pg} (h : PtL K m H l ps) (hg : PgOk K m H g) (hn : ps.length < 20) (hup : ∀ h', ps[ps.length - 1]? = some h' → Rises h' g) :
    PtL K m (upd H l (.lst ((ps.map fun g => V.ref g.q) ++ [.ref g.q]))) l (ps ++ [g]) := by
  refine ⟨by rw [upd_same, List.map_append]; rfl, fun x hx => ?_, fun i a b ha hb => ?_, by rw [List.length_append]; exact hn⟩
  · rcases List.mem_append.mp hx with m | m
    · exact (h.ok x m).put h.l
    · rw [List.mem_singleton] at m
      subst m
      exact hg.put h.l
  · have li : i + 1 < (ps ++ [g]).length := (List.getElem?_eq_some_iff.mp hb).1
    rw [List.length_append, List.length_singleton] at li
    rw [List.getElem?_append_left (by omega)] at ha
    by_cases c : i + 1 < ps.length
    · rw [List.getElem?_append_left c] at hb
      exact h.up i a b ha hb
    · have ei : i + 1 = ps.length := by omega
      rw [List.getElem?_append_right (by omega), ei, Nat.sub_self] at hb
      cases hb
      exact hup a (by rw [← ei]; exact ha)
theorem kT {K : PySem.W.Frag} {A B : String} (h : kitB A B = some true) : PySem.W.kitOne K (.type A) (.type B) = some true := kit_ty h
theorem kF {K : PySem.W.Frag} {A B : String} (h : kitB A B = some false) : PySem.W.kitOne K (.type A) (.type B) = some false := kit_ty h
theorem ka_list {K : PySem.W.Frag} : PySem.W.kitAny K (.type "list") [.type "list", .type "tuple"] = some true := by
  unfold PySem.W.kitAny
  rw [kT (by decide +kernel)]
theorem ka_tuple {K : PySem.W.Frag} : PySem.W.kitAny K (.type "tuple") [.type "list", .type "tuple"] = some true := by
  unfold PySem.W.kitAny
  rw [kF (by decide +kernel)]
  unfold PySem.W.kitAny
  rw [kT (by decide +kernel)]
theorem ka_no {K : PySem.W.Frag} {T : String} (h1 : kitB T "list" = some false) (h2 : kitB T "tuple" = some false) : PySem.W.kitAny K (.type T) [.type "list", .type "tuple"] = some false := by
  unfold PySem.W.kitAny
  rw [kit_ty h1]
  unfold PySem.W.kitAny
  rw [kit_ty h2]
  rfl
theorem atI_last {α : Type} {xs : List α} {v : α} (h : xs[xs.length - 1]? = some v) : atI xs (-1) = some v := by
  have hl : 0 < xs.length := by
    rcases Nat.eq_zero_or_pos xs.length with e | e
    · have : xs = [] := List.eq_nil_of_length_eq_zero e
      subst this
      cases h
    · exact e
  have e : ixN xs.length (-1) = some (xs.length - 1) := by
    unfold ixN
    rw [if_neg (by decide), if_pos (by omega)]
    congr 1
    omega
  unfold atI
  rw [e]
  exact h
theorem pss_never {X : Cx} {b : List Stmt} : PSs X b (fun _ _ _ => False) := ⟨fun _ _ _ _ _ _ h => h.elim⟩
theorem walk_enumT {K : PySem.W.Frag} {a : Addr} {xs : List V} : Walk (Fp.IteT K a) xs.length (fun H => SqT K H a xs) (YPair (fun i => some (.int (i : Nat))) (fun i => xs[i]?)) := by
  refine ⟨fun i _ hi q => ⟨xs, xs[i], q, by simp [hi]⟩, fun _ q => ⟨xs, q, Nat.le_refl _⟩, fun i H v H' _ q y => ?_⟩
  obtain ⟨T, x, h1, h2, h3, h4⟩ := y
  exact ⟨T, .int (i : Nat), x, h1, h2, h3, rfl, h4 xs q⟩
theorem rix0 {K : PySem.W.Frag} {J : Hp} {l : Addr} {x y : V} {Q' : VK} (h : It2 J l x y) (q : Q' x J) : rIxL K (.ref l) (.int 0) J Q' ∨ rIxT K (.ref l) (.int 0) J Q' := by
  rcases h with h | h
  · exact .inl ⟨l, _, _, _, rfl, rfl, SqL.of h, rfl, q⟩
  · exact .inr ⟨l, _, _, _, rfl, rfl, SqT.of h, rfl, q⟩
theorem rix1 {K : PySem.W.Frag} {J : Hp} {l : Addr} {x y : V} {Q' : VK} (h : It2 J l x y) (q : Q' y J) : rIxL K (.ref l) (.int 1) J Q' ∨ rIxT K (.ref l) (.int 1) J Q' := by
  rcases h with h | h
  · exact .inl ⟨l, _, _, _, rfl, rfl, SqL.of h, rfl, q⟩
  · exact .inr ⟨l, _, _, _, rfl, rfl, SqT.of h, rfl, q⟩
theorem arg_am {K : PySem.W.Frag} {mg : Str → Option Value} (T : AF K mg) {H : Hp} {x : V} {t u : Int} {n : Nat} (h : Arg K H x t u n) : ∃ ty b1 b2, TyX K H x ty ∧ PySem.W.kitOne K ty (.ref (CA K)) = some b1 ∧ Wh K H x b2 ∧ (b1 || b2) = true := by
  rcases h with ⟨p, dx, rfl, hp, _⟩ | ⟨rfl, _⟩
  · exact ⟨_, true, false, T.ty hp, T.kS, T.wh hp, rfl⟩
  · exact ⟨_, false, true, .base (.int t), T.kT "int" (by simp [tys]), wh_int t, rfl⟩
theorem it2_ty {K : PySem.W.Frag} {J : Hp} {l : Addr} {x y : V} (h : It2 J l x y) : ∃ t, (∀ J', Same J J' → TyX K J' (.ref l) t) ∧ PySem.W.kitAny K t [.type "list", .type "tuple"] = some true := by
  rcases h with h | h
  · exact ⟨.type "list", fun J' s => .base (.lst (s _ _ h)), ka_list⟩
  · exact ⟨.type "tuple", fun J' s => .base (.tup (s _ _ h)), ka_tuple⟩
abbrev sTP : Stmt := top 18
theorem scTP : FnScope ["points", "found", "index", "item", "point"] ["points"] (defScope sTP) := ⟨rfl, rfl, rfl, by decide +kernel, rfl, by decide +kernel, by decide +kernel⟩
section
variable {P : Program} {w : World} {K : PySem.W.Frag} {mg : Str → Option Value} {base : Heap} {f fL fA fI fR : Addr} {fd fdL fdA fdI fdR : FuncData}
theorem ok_tp (F : FnP K "_told_points" sTP f fd) (T : AF K mg) (mL : mg "len" = none) (mE : mg "enumerate" = none) (LS : Fn P w K mg base "is_listing" 1 ["value"] (spLs K) fL fdL) (IA : Fn P w K mg base "is_amount" 2 ["value"] (spIsA K) fA fdA) (AS : Fn P w K mg base "as_amount" 6 ["value"] (spAs K) fI fdI)
    (RS : Fn P w K mg base "_rises" 8 ["one", "other"] (spRise K) fR fdR) : FnOk P w K mg base (L2.CX P w) 9 f fd ["points"] (spTP K) := by
  refine F.ok scTP (fun vs H Q E h => ?_) (fun cdv A outer s H vs Q E hr h => ?_)
  · obtain ⟨a, xs, gs, n, rfl, _⟩ := h
    rfl
  · obtain ⟨a, xs, gs, nb, rfl, tk, hnb, q⟩ := h
    have hu : (A.deeper (envOfC "_told_points" (defScope sTP) s.heap.objs.size f cdv)).units + 64 < cLine := by
      have := hr.un
      omega
    have hr1 := hr.mono (show 1 ≤ 8 by decide)
    have hr2 := hr.mono (show 2 ≤ 8 by decide)
    have hr3 := hr.mono (show 3 ≤ 8 by decide)
    have hr5 := hr.mono (show 5 ≤ 8 by decide)
    have hr6 := hr.mono (show 6 ≤ 8 by decide)
    have hr7 := hr.mono (show 7 ≤ 8 by decide)
    have hr8 := hr.mono (show 8 ≤ 8 by decide)

    generalize hx : V.ref a = x
    refine ⟨_, (pss_cons (ps_if (pt_not (pt_val (pe_call LS.ok hr1 rfl LS.g LS.k LS.b .nil passL (pa_cons (pv 0) pa_nil)))) pss_never pss_nil)
      (pss_cons (ps_set (i := 1) scTP.nd rfl (Or.inl rfl) (pe_lst pa_nil))
      (pss_cons (ps_for (passes_of rfl) rfl (Fp.pi_or (pi_enum rfl mE (pa_cons (pv 0) pa_nil)) (Fp.pi_enumT rfl mE (pa_cons (pv 0) pa_nil))) (pg_tup (by rfl) (pgs_cons (pg_name (i := 2) scTP.nd rfl (Or.inl rfl)) (pgs_cons (pg_name (i := 3) scTP.nd rfl (Or.inl rfl)) pgs_nil)))
      (pss_imp (S := sTPb K nb x xs gs H) (pss_cons (ps_if (PW.pt (pw_or (pt_not (pt_val (pe_call LS.ok hr1 rfl LS.g LS.k LS.b .nil passL (pa_cons (pv 3) pa_nil)))) (pw_or (pt_cmpR op_ne (pe_callB call_len rfl mL PySem.boot_len (pa_cons (pv 3) pa_nil)) pe_int (nomark _)) (pw_or (pt_not (pt_val (pe_call IA.ok hr2 rfl IA.g IA.k IA.b .nil passL (pa_cons (pe_ix (ix_list.or ix_tup) (pv 3) pe_int (fun _ _ => rfl)) pa_nil)))) (pw_or1 (pt_not (pt_val (pe_call IA.ok hr2 rfl IA.g IA.k IA.b .nil passL (pa_cons (pe_ix (ix_list.or ix_tup) (pv 3) pe_int (fun _ _ => rfl)) pa_nil))))))))) pss_never pss_nil)
      (pss_cons (ps_set (i := 4) scTP.nd rfl (Or.inl rfl) (pe_tup (pa_cons (pe_call AS.ok hr6 rfl AS.g AS.k AS.b .nil passL (pa_cons (pe_ix (ix_list.or ix_tup) (pv 3) pe_int (fun _ _ => rfl)) pa_nil)) (pa_cons (pe_call AS.ok hr6 rfl AS.g AS.k AS.b .nil passL (pa_cons (pe_ix (ix_list.or ix_tup) (pv 3) pe_int (fun _ _ => rfl)) pa_nil)) pa_nil))))
      (pss_cons (ps_if (PW.pt (pw_and (pt_cmpR op_gt (pv 2) pe_int (nomark _)) (pw_and1 (pt_not (pt_val (pe_call RS.ok hr rfl RS.g RS.k RS.b .nil passL (pa_cons (pe_ix ix_list (pv 1) (pe_un un_neg pe_int) (fun _ _ => rfl)) (pa_cons (pv 4) pa_nil)))))))) pss_never pss_nil)
      (pss_one (ps_expr (pe_bm PySem.F.plainAttrs_list PySem.F.slot_list_append PySem.F.type_list_append mt_append (pv 1) (pa_cons (pv 4) pa_nil))))))) ?body))
      (pss_one (ps_ret (pv 1)))))), ?_⟩
    case body =>
      subst hx
      rintro D σ H1 ⟨l, i, y, v4, rfl, hy, ⟨s1, le, lnew, ps, hps, pn, psv⟩, k⟩
      have r2 : 2 ≤ sizeLine := by decide
      have hi20 : i < 20 := by
        have := (List.getElem?_eq_some_iff.mp hy).1
        have := tk.sz
        omega
      have hi : i < gs.length := by
        have := (List.getElem?_eq_some_iff.mp hy).1
        have := tk.len
        omega
      have eh : gs[i]? = some gs[i] := List.getElem?_eq_getElem hi
      obtain ⟨l0, h1, gd⟩ := tk.ok i _ eh
      rw [hy] at h1
      obtain rfl := Option.some.inj h1
      have ris : ∀ h', gs[i - 1]? = some h' → 0 < i → Rises h' gs[i] := fun h' e' h0 => tk.up (i - 1) _ _ e' (by rw [Nat.sub_add_cancel h0]; exact eh)
      generalize gs[i] = g at eh gd ris
      have gd1 := gd.same s1
      obtain ⟨xx, yy, it, aa, ab⟩ := id gd1
      obtain ⟨tyi, tyh, tyk⟩ := it2_ty (K := K) it
      refine ⟨_, rfl, _, tyi, true, rfl, tyh, tyk, fun H2 s2 => ⟨_, rfl, iteF ?_⟩⟩
      have it2 := it.same s2
      have aa2 := aa.same s2
      have ab2 := ab.same s2
      have len2 : LenV K (.ref l0) H2 2 := by
        rcases it2 with h | h
        · exact .inl ⟨_, SqL.of h, rfl⟩
        · exact .inr ⟨_, SqT.of h, rfl⟩
      refine ⟨_, rfl, _, 2, rfl, len2, rfl, _, rfl, if_false_of (by rfl) ?_⟩
      obtain ⟨ty1, c1, c2, d1, d2, d3, d4⟩ := arg_am T aa2
      obtain ⟨ty2, c3, c4, d5, d6, d7, d8⟩ := arg_am T ab2
      refine ⟨_, rfl, rix0 it2 ⟨_, ty1, c1, c2, rfl, d1, d2, d3, _, rfl, ?_⟩⟩
      rw [d4]
      refine iteF ?_
      refine ⟨_, rfl, rix1 it2 ⟨_, ty2, c3, c4, rfl, d5, d6, d7, _, rfl, ?_⟩⟩
      rw [d8]
      refine iteF ?_
      refine ⟨_, rfl, rix0 it2 ⟨_, rfl, .inr ⟨_, _, _, aa2, fun ya H3 s3 iya => ?_⟩⟩⟩
      refine ⟨_, rfl, rix1 (it2.same s3) ⟨_, rfl, .inr ⟨_, _, _, ab2.same s3, fun yb H4 s4 iyb => ⟨r2, fun q0 hq0 => ?_⟩⟩⟩⟩
      obtain ⟨pya, dya, eya, hya, _⟩ := id iya
      obtain ⟨pyb, dyb, eyb, hyb, _⟩ := id iyb
      cases eya
      cases eyb
      have s5 := Same.upd (o := .tup [.ref pya, .ref pyb]) hq0
      have s15 : Same H1 _ := s2.trans (s3.trans (s4.trans s5))
      have pg : PgOk K nb (upd H4 q0 (.tup [.ref pya, .ref pyb])) ⟨q0, pya, pyb, g.t, g.u, g.t2, g.u2⟩ := ⟨upd_same, iya.same (s4.trans s5), iyb.same s5⟩
      generalize upd H4 q0 (.tup [.ref pya, .ref pyb]) = H5 at s5 s15 pg
      have hp5 := hps.same s15
      have app : (∀ h', ps[ps.length - 1]? = some h' → Rises h' ⟨q0, pya, pyb, g.t, g.u, g.t2, g.u2⟩) → ∀ H6, Same H5 H6 → TPI K nb H gs l (i + 1) (upd H6 l (.lst ((ps.map fun g => V.ref g.q) ++ [.ref q0]))) := fun up H6 s6 => by
        refine ⟨same_put (s1.trans (s15.trans s6)) lnew, hi, lnew, _, (hp5.same s6).push (pg.same s6) (by omega) up, by rw [List.length_append, pn]; rfl, fun j g' hj => ?_⟩
        rcases Nat.lt_or_ge j ps.length with c | c
        · rw [List.getElem?_append_left c] at hj
          exact psv j g' hj
        · have ej : j = i := by
            have := (List.getElem?_eq_some_iff.mp hj).1
            rw [List.length_append, List.length_singleton] at this
            omega
          rw [List.getElem?_append_right c, ej, pn, Nat.sub_self] at hj
          cases hj
          exact ⟨g, by rw [ej]; exact eh, rfl, rfl, rfl, rfl⟩
      refine ⟨_, rfl, _, _, rfl, rfl, _, rfl, ?_⟩
      by_cases c0 : 0 < i
      · refine if_true_of (decide_eq_true (by omega)) ?_
        have el : ps[ps.length - 1]? = some ps[ps.length - 1] := List.getElem?_eq_getElem (by omega)
        have ol := hp5.ok _ (List.getElem_mem (show ps.length - 1 < ps.length by omega))
        obtain ⟨hv, ehv, svl⟩ := psv _ _ el
        rw [pn] at ehv
        refine ⟨_, rfl, _, rfl, l, _, _, _, rfl, rfl, SqL.of hp5.l, atI_last (by rw [List.length_map, List.getElem?_map, el]; rfl), _, rfl, _, ⟨q0, pya, pyb, g.t, g.u, g.t2, g.u2⟩, nb, rfl, ol, pg, hnb, fun H6 s6 => ⟨_, rfl, ?_⟩⟩
        generalize ps[ps.length - 1] = last at el ol svl
        have rr : Rises last ⟨q0, pya, pyb, g.t, g.u, g.t2, g.u2⟩ := (rises_sv svl (show SameV ⟨q0, pya, pyb, g.t, g.u, g.t2, g.u2⟩ g from ⟨rfl, rfl, rfl, rfl⟩)).mpr (ris hv ehv c0)
        refine if_false_of (by
          have r1 := rr.1
          have r2 := rr.2
          rw [decide_eq_true r1, decide_eq_true r2]
          rfl) ?_
        refine ⟨_, rfl, .inl ⟨rfl, _, SqL.of (hp5.same s6).l⟩, _, rfl, l, _, _, rfl, rfl, (hp5.same s6).l, ?_, ?_⟩
        · rw [List.length_map]
          exact Nat.lt_of_lt_of_le (show ps.length < 100 by omega) (by decide)
        · exact k _ _ (app (fun h' e' => by rw [el] at e'; cases e'; exact rr) H6 s6)
      · refine if_false_of (decide_eq_false (by omega)) ?_
        refine ⟨_, rfl, .inl ⟨rfl, _, SqL.of hp5.l⟩, _, rfl, l, _, _, rfl, rfl, hp5.l, ?_, ?_⟩
        · rw [List.length_map]
          exact Nat.lt_of_lt_of_le (show ps.length < 100 by omega) (by decide)
        · refine k _ _ (app (fun h' e' => ?_) H5 (Same.refl _))
          have := (List.getElem?_eq_some_iff.mp e').1
          omega
    subst hx
    have tyX : ∃ t, (∀ J, Same H J → TyX K J (.ref a) t) ∧ PySem.W.kitAny K t [.type "list", .type "tuple"] = some true := by
      rcases tk.seq with h | h
      · exact ⟨.type "list", fun J sJ => .base (.lst (sJ _ _ h)), ka_list⟩
      · exact ⟨.type "tuple", fun J sJ => ty_sqt (SqT.ext h sJ), ka_tuple⟩
    obtain ⟨t, ty, kt⟩ := tyX
    refine ⟨_, rfl, _, t, true, rfl, ty, kt, fun H1 s1 => ⟨_, rfl, iteF ⟨by show 0 ≤ sizeLine; decide, fun l hl => ?_⟩⟩⟩
    have sl : Same H (upd H1 l (.lst [])) := s1.trans (Same.upd hl)
    have lnew := none_of s1 hl
    have inv0 : TPI K nb H gs l 0 (upd H1 l (.lst [])) := ⟨sl, Nat.zero_le _, lnew, [], ⟨upd_same, by simp, by simp, Nat.zero_le _⟩, rfl, by simp⟩
    have stop : ∀ H', TPI K nb H gs l xs.length H' → Q (.ref l) H' := fun H' inv => by
      obtain ⟨ps, hps, pn, psv⟩ := inv.pts
      refine q H' l ps inv.s hps (List.ext_getElem? fun j => ?_)
      unfold ptl
      rw [List.getElem?_map, List.getElem?_map]
      rcases Nat.lt_or_ge j ps.length with c | c
      · have e : ps[j]? = some ps[j] := List.getElem?_eq_getElem c
        obtain ⟨h, e2, v1, v2, v3, v4⟩ := psv j _ e
        rw [e, e2]
        show some ((vq _ _, vq _ _) : M08.Pt) = some (vq _ _, vq _ _)
        rw [v1, v2, v3, v4]
      · rw [List.getElem?_eq_none c, List.getElem?_eq_none (by have := tk.len; omega)]
    rcases tk.seq with h | h
    · refine .inl ⟨_, rfl, a, xs, rfl, SqL.of (sl _ _ h), ?_⟩
      refine for_it (walk_enum (K := K) (a := a) (xs := xs)) (fun i σ H' => ∃ v2 v3 v4 : Option V, σ = [some (.ref a), some (.ref l), v2, v3, v4] ∧ TPI K nb H gs l i H') ⟨_, _, _, rfl, inv0⟩ (fun i σ H' _ ⟨_, _, _, _, inv⟩ => SqL.of (inv.s _ _ h)) ?_ ?_
      · rintro i x σ H2 H3 hi ⟨v2, v3, v4, rfl, inv⟩ ⟨T1, x1, y1, rfl, hT, rfl, e1, e2⟩
        cases e1
        exact ⟨T1, _, rfl, SqT.of upd_same, rfl, _, _, rfl, _, _, rfl, rfl, l, i, y1, _, rfl, e2, inv.same (Same.upd hT), fun v4' H'' inv' => ⟨_, _, _, rfl, inv'⟩⟩
      · rintro σ H2 ⟨v2, v3, v4, rfl, inv⟩
        exact ⟨_, rfl, stop H2 inv⟩
    · refine .inr ⟨_, rfl, a, xs, rfl, SqT.ext h sl, ?_⟩
      refine for_it (walk_enumT (K := K) (a := a) (xs := xs)) (fun i σ H' => ∃ v2 v3 v4 : Option V, σ = [some (.ref a), some (.ref l), v2, v3, v4] ∧ TPI K nb H gs l i H') ⟨_, _, _, rfl, inv0⟩ (fun i σ H' _ ⟨_, _, _, _, inv⟩ => SqT.ext h inv.s) ?_ ?_
      · rintro i x σ H2 H3 hi ⟨v2, v3, v4, rfl, inv⟩ ⟨T1, x1, y1, rfl, hT, rfl, e1, e2⟩
        cases e1
        exact ⟨T1, _, rfl, SqT.of upd_same, rfl, _, _, rfl, _, _, rfl, rfl, l, i, y1, _, rfl, e2, inv.same (Same.upd hT), fun v4' H'' inv' => ⟨_, _, _, rfl, inv'⟩⟩
      · rintro σ H2 ⟨v2, v3, v4, rfl, inv⟩
        exact ⟨_, rfl, stop H2 inv⟩
end
end K09
set_option Elab.async false
set_option linter.all false
set_option maxRecDepth 100000
set_option maxHeartbeats 4000000
/-! l != b of two lists whose items are equal by an own ==: False. -/
namespace Fe
open PySem PySem.SeqAt
open AutoSeq1 (wpAny_loadPart')
open MeetsSeq MeetsSeq2 MeetsSeq3 SeqRoads2 GQ
section
variable {prog : Program} {w : World} {A : Around} {R : Result → Shared → Prop}
theorem ne_goes (l b : Addr) (N : Nat) (I : Nat → Shared → Prop) (hl : ListI prog w A (fun e s' => R (.error e) s') l b N I) (fin : ∀ s, I N s → R (.ok (.ret (.bool false))) s) (m : Nat) :
    ∀ j : Nat, m + j = N → ∀ s, I j s → wpAny (model prog w) A.in1 (Builtin.«list.__eq__.loop» ⟨[.ref l, .ref b, rawInt j, rawInt 3], []⟩) (FinOf prog w A R) (fun e s' => R (.error e) s') s := by
  induction m with
  | zero =>
    intro j hj s h
    obtain ⟨xs, ys, n, n2, g1, g2, z1, z2, _⟩ := hl _ _ h
    have jN : j = N := by omega
    have done : R (.ok (.ret (.bool false))) s := fin s (jN ▸ h)
    obtain ⟨hp, gl, dr, tk, os⟩ := s
    wp_walk using wpAny_loadPart' g1, wpAny_loadPart' g2
    have e1 : xs[((j : Nat) : Int).toNat]? = none := by
      simp
      omega
    have e2 : ys[((j : Nat) : Int).toNat]? = none := by
      simp
      omega
    rw [e1, e2]
    wp_walk using wpAny_loadPart' g1, wpAny_loadPart' g2
    show R (.ok (.ret (.bool (xs.size != ys.size)))) _
    rw [z1, z2]
    simpa using done
  | succ m ih =>
    intro j hj s h
    obtain ⟨xs, ys, n, n2, g1, g2, z1, z2, turn⟩ := hl _ _ h
    have l1 : j < xs.size := by omega
    have l2 : j < ys.size := by omega
    have one := turn l1 l2
    obtain ⟨hp, gl, dr, tk, os⟩ := s
    wp_walk using wpAny_loadPart' g1, wpAny_loadPart' g2
    have e1 : xs[((j : Nat) : Int).toNat]? = some xs[j] := by simp [l1]
    have e2 : ys[((j : Nat) : Int).toNat]? = some ys[j] := by simp [l2]
    rw [e1, e2]
    refine wpAny_bind (wpAny_mono one (fun r s2 hr => ?_) fun _ _ z => z)
    obtain ⟨er, h2⟩ := hr
    subst er
    have rest := ih (j + 1) (by omega) s2 h2
    obtain ⟨hp2, gl2, dr2, tk2, os2⟩ := s2
    wp_walk
    rw [show ((j : Int) + 1) = ((j + 1 : Nat) : Int) by omega]
    refine ⟨plainId_quiet plain_eq_loop _, codeAny_builtin entry_eq_loop ?_⟩
    rw [Around.under_plainId plain_eq_loop _]
    exact rest
theorem list_ne (l b : Addr) (N : Nat) (I : Nat → Shared → Prop) (hl : ListI prog w A (fun e s' => R (.error e) s') l b N I) (fin : ∀ s, I N s → R (.ok (.ret (.bool false))) s) {s : Shared} (h : I 0 s) :
    wpAny (model prog w) A.in1 (Builtin.«list.__ne__» ⟨[.ref l, .ref b], []⟩) (FinOf prog w A R) (fun e s' => R (.error e) s') s := by
  obtain ⟨xs, ys, n, n2, g1, g2, z1, z2, _⟩ := hl _ _ h
  have rest := ne_goes (A := A) (R := R) l b N I hl fin N 0 (by omega) s h
  obtain ⟨hp, gl, dr, tk, os⟩ := s
  have sub := AutoSeq1.sub_list_list
  have same : ¬ (xs.size != ys.size) = true := by simp [z1, z2]
  wp_walk using wpAny_loadPart' g1, wpAny_loadPart' g2
  refine ⟨plainId_quiet plain_eq_loop _, codeAny_builtin entry_eq_loop ?_⟩
  rw [Around.under_plainId plain_eq_loop _]
  exact rest
theorem rc_ne {l b : Addr} {N : Nat} {E : Value → Shared → Prop} {s : Shared} {Q : Value → Shared → Prop} (hu : A.units < cLine) (I : Nat → Shared → Prop) (hl : ListI prog w A E l b N I) (fin : ∀ s, I N s → Q (.bool false) s) (h : I 0 s) :
    wpAny (model prog w) A (richCompare .NotEq (.ref l) (.ref b)) Q E s := by
  obtain ⟨xs, ys, n, n2, g1, g2, _, _, _⟩ := hl _ _ h
  refine wpAny_richCompare_same_room (op := .NotEq) ⟨_, g1, rfl⟩ ⟨_, g2, rfl⟩ F.slot_list_ne (call_here F.slot_list_ne ⟨_, g1, rfl⟩ F.entry_list_ne (F.args_list_ne_2 _ _) ?_) hu
  exact list_ne (R := wants (fun v s' => v ≠ .notImplemented ∧ Q v s') E) l b N I hl (fun s' q => ⟨(fun x => nomatch x), fin s' q⟩) h
end
end Fe
namespace Fe
open PySem PySem.Spec PyProof.Rows L2
theorem op_neG {X : Cx} {n : Nat} {D : Eqv} (hD : Mon D) (h : EqG X n D) (hr : Room (n + 1) X.A) : OpR X (compareOp .NotEq) (fun x y H Q => DList D x y H ∧ ∀ H', Ext H H' → Q (.bl false) H') := by
  intro pn s σ H x y v u Q I rx ry hq
  obtain ⟨⟨a, b, xs, ys, rfl, rfl, ha, hb, p⟩, q⟩ := hq
  cases rx
  cases ry
  show wpAny (model X.prog X.w) X.A (richCompare .NotEq (.ref a) (.ref b)) (EP X pn σ Q) X.xe s
  have sb : Sub X (n + 1) X.A := ⟨hr, rfl⟩
  refine rc_ne (N := xs.length) sb.room.units0 (fun _ s' => LoopI X pn σ H s') (fun i s' l => ?_) (fun s' l => ?_) ⟨H, I, Ext.rfl'⟩
  · obtain ⟨H1, I1, e1⟩ := id l
    obtain ⟨z, its, k, r, e⟩ := I1.hok a _ (e1 _ _ ha)
    obtain ⟨z2, its2, k2, r2, e2⟩ := I1.hok b _ (e1 _ _ hb)
    exact ⟨its.toArray, its2.toArray, k, k2, e, e2, by rw [List.size_toArray, ← r.length], by rw [List.size_toArray, ← r2.length, ← p.1], fun h1 h2 => turnG hD h sb p r r2 i h1 h2 s' l⟩
  · obtain ⟨H1, I1, e1⟩ := l
    exact ⟨.bl false, H1, I1, rfl, q H1 e1⟩
/-- one of two readings -/
theorem op_or {X : Cx} {f : Value → Value → Sem Value} {r1 r2 : R2} (h1 : OpR X f r1) (h2 : OpR X f r2) : OpR X f (fun x y H Q => r1 x y H Q ∨ r2 x y H Q) := by
  intro pn s σ H x y v u Q I rx ry h
  rcases h with h | h
  · exact h1 pn s σ H x y v u Q I rx ry h
  · exact h2 pn s σ H x y v u Q I rx ry h
end Fe
set_option Elab.async false
set_option linter.all false
set_option maxRecDepth 100000
set_option maxHeartbeats 4000000
/-! l == b of two lists or two tuples, with either answer. -/
namespace Fq
open PySem PySem.SeqAt
open AutoSeq1 (wpAny_loadPart')
open MeetsSeq MeetsSeq2 MeetsSeq3 SeqRoads2 GQ
section
variable {prog : Program} {w : World} {A : Around} {R : Result → Shared → Prop}
/-- as ListI; an item that is not equal ends it -/
def ListB (prog : Program) (w : World) (A : Around) (E : Value → Shared → Prop) (l b : Addr) (N M : Nat) (I : Nat → Shared → Prop) (J : Shared → Prop) : Prop :=
  ∀ i s, I i s → ∃ (xs ys : Array Value) (n n2 : Nat), s.heap.get? l = some { cls := .type "list", data := .seq xs n } ∧ s.heap.get? b = some { cls := .type "list", data := .seq ys n2 } ∧ xs.size = N ∧ ys.size = M ∧
    ∀ (h1 : i < xs.size) (h2 : i < ys.size), N = M → wpAny (model prog w) A.in1 (eqBool xs[i] ys[i]) (fun r s' => (r = true ∧ I (i + 1) s') ∨ (r = false ∧ J s')) E s
theorem goes (l b : Addr) (N : Nat) (I : Nat → Shared → Prop) (J : Shared → Prop) (hl : ListB prog w A (fun e s' => R (.error e) s') l b N N I J) (fin : ∀ s, I N s → R (.ok (.ret (.bool true))) s) (no : ∀ s, J s → (∃ (xs ys : Array Value) (n n2 : Nat), s.heap.get? l = some { cls := .type "list", data := .seq xs n } ∧ s.heap.get? b = some { cls := .type "list", data := .seq ys n2 } ∧ xs.size = N ∧ ys.size = N) ∧ R (.ok (.ret (.bool false))) s) (m : Nat) :
    ∀ j : Nat, m + j = N → ∀ s, I j s → wpAny (model prog w) A.in1 (Builtin.«list.__eq__.loop» ⟨[.ref l, .ref b, rawInt j, rawInt 2], []⟩) (FinOf prog w A R) (fun e s' => R (.error e) s') s := by
  induction m with
  | zero =>
    intro j hj s h
    obtain ⟨xs, ys, n, n2, g1, g2, z1, z2, _⟩ := hl _ _ h
    have jN : j = N := by omega
    have done : R (.ok (.ret (.bool true))) s := fin s (jN ▸ h)
    obtain ⟨hp, gl, dr, tk, os⟩ := s
    wp_walk using wpAny_loadPart' g1, wpAny_loadPart' g2
    have e1 : xs[((j : Nat) : Int).toNat]? = none := by
      simp
      omega
    have e2 : ys[((j : Nat) : Int).toNat]? = none := by
      simp
      omega
    rw [e1, e2]
    wp_walk using wpAny_loadPart' g1, wpAny_loadPart' g2
    show R (.ok (.ret (.bool (xs.size == ys.size)))) _
    rw [z1, z2]
    simpa using done
  | succ m ih =>
    intro j hj s h
    obtain ⟨xs, ys, n, n2, g1, g2, z1, z2, turn⟩ := hl _ _ h
    have l1 : j < xs.size := by omega
    have l2 : j < ys.size := by omega
    have one := turn l1 l2 rfl
    obtain ⟨hp, gl, dr, tk, os⟩ := s
    wp_walk using wpAny_loadPart' g1, wpAny_loadPart' g2
    have e1 : xs[((j : Nat) : Int).toNat]? = some xs[j] := by simp [l1]
    have e2 : ys[((j : Nat) : Int).toNat]? = some ys[j] := by simp [l2]
    rw [e1, e2]
    refine wpAny_bind (wpAny_mono one (fun r s2 hr => ?_) fun _ _ z => z)
    rcases hr with ⟨er, h2⟩ | ⟨er, h2⟩
    · subst er
      have rest := ih (j + 1) (by omega) s2 h2
      obtain ⟨hp2, gl2, dr2, tk2, os2⟩ := s2
      wp_walk
      rw [show ((j : Int) + 1) = ((j + 1 : Nat) : Int) by omega]
      refine ⟨plainId_quiet plain_eq_loop _, codeAny_builtin entry_eq_loop ?_⟩
      rw [Around.under_plainId plain_eq_loop _]
      exact rest
    · subst er
      obtain ⟨⟨xs2, ys2, m1, m2, k1, k2, y1, y2⟩, rest⟩ := no s2 h2
      obtain ⟨hp2, gl2, dr2, tk2, os2⟩ := s2
      wp_walk using wpAny_loadPart' k1, wpAny_loadPart' k2
      have f1 : xs2[((j : Nat) : Int).toNat]? = some (xs2[j]'(by omega)) := by simp
      have f2 : ys2[((j : Nat) : Int).toNat]? = some (ys2[j]'(by omega)) := by simp
      rw [f1, f2]
      wp_walk
      exact rest
theorem list_eqB (l b : Addr) (N M : Nat) (I : Nat → Shared → Prop) (J : Shared → Prop) (hl : ListB prog w A (fun e s' => R (.error e) s') l b N M I J) (fin : ∀ s, N = M → I N s → R (.ok (.ret (.bool true))) s) (no : ∀ s, J s → (∃ (xs ys : Array Value) (n n2 : Nat), s.heap.get? l = some { cls := .type "list", data := .seq xs n } ∧ s.heap.get? b = some { cls := .type "list", data := .seq ys n2 } ∧ xs.size = N ∧ ys.size = M) ∧ R (.ok (.ret (.bool false))) s) (ne : ∀ s, N ≠ M → I 0 s → R (.ok (.ret (.bool false))) s) {s : Shared} (h : I 0 s) :
    wpAny (model prog w) A.in1 (Builtin.«list.__eq__» ⟨[.ref l, .ref b], []⟩) (FinOf prog w A R) (fun e s' => R (.error e) s') s := by
  obtain ⟨xs, ys, n, n2, g1, g2, z1, z2, _⟩ := hl _ _ h
  by_cases c : N = M
  · subst c
    have rest := goes (A := A) (R := R) l b N I J hl (fun s q => fin s rfl q) no N 0 (by omega) s h
    obtain ⟨hp, gl, dr, tk, os⟩ := s
    have sub := AutoSeq1.sub_list_list
    have same : ¬ (xs.size != ys.size) = true := by simp [z1, z2]
    wp_walk using wpAny_loadPart' g1, wpAny_loadPart' g2
    refine ⟨plainId_quiet plain_eq_loop _, codeAny_builtin entry_eq_loop ?_⟩
    rw [Around.under_plainId plain_eq_loop _]
    exact rest
  · have rest := ne s c h
    obtain ⟨hp, gl, dr, tk, os⟩ := s
    have sub := AutoSeq1.sub_list_list
    have same : (xs.size != ys.size) = true := by simp [z1, z2, c]
    wp_walk using wpAny_loadPart' g1, wpAny_loadPart' g2
    exact rest
theorem rc_listB {l b : Addr} {N M : Nat} {E : Value → Shared → Prop} {s : Shared} {Q : Value → Shared → Prop} (hu : A.units < cLine) (I : Nat → Shared → Prop) (J : Shared → Prop) (hl : ListB prog w A E l b N M I J) (fin : ∀ s, N = M → I N s → Q (.bool true) s) (no : ∀ s, J s → (∃ (xs ys : Array Value) (n n2 : Nat), s.heap.get? l = some { cls := .type "list", data := .seq xs n } ∧ s.heap.get? b = some { cls := .type "list", data := .seq ys n2 } ∧ xs.size = N ∧ ys.size = M) ∧ Q (.bool false) s) (ne : ∀ s, N ≠ M → I 0 s → Q (.bool false) s) (h : I 0 s) :
    wpAny (model prog w) A (richCompare .Eq (.ref l) (.ref b)) Q E s := by
  obtain ⟨xs, ys, n, n2, g1, g2, _, _, _⟩ := hl _ _ h
  refine wpAny_richCompare_same_room (op := .Eq) ⟨_, g1, rfl⟩ ⟨_, g2, rfl⟩ F.slot_list_eq (call_here F.slot_list_eq ⟨_, g1, rfl⟩ F.entry_list_eq (F.args_list_eq_2 _ _) ?_) hu
  exact list_eqB (R := wants (fun v s' => v ≠ .notImplemented ∧ Q v s') E) l b N M I J hl (fun s' c q => ⟨(fun x => nomatch x), fin s' c q⟩) (fun s' q => ⟨(no s' q).1, (fun x => nomatch x), (no s' q).2⟩) (fun s' c q => ⟨(fun x => nomatch x), ne s' c q⟩) h
theorem tuple_eqB (l b : Addr) (xs ys : Array Value) (n n2 : Nat) (dd dd2 : Option Addr) (sl sl2 : Array (Option Value)) (hsz : xs.size = ys.size) (I : Nat → Shared → Prop) (J : Shared → Prop)
    (turn : ∀ i (h1 : i < xs.size) (h2 : i < ys.size) s, I i s → wpAny (model prog w) A.in1 (eqBool xs[i] ys[i]) (fun r s' => (r = true ∧ I (i + 1) s') ∨ (r = false ∧ J s')) (fun e s' => R (.error e) s') s)
    (fin : ∀ s, I xs.size s → R (.ok (.ret (.bool true))) s) (no : ∀ s, J s → R (.ok (.ret (.bool false))) s) {s : Shared} (g1 : s.heap.get? l = some { cls := .type "tuple", dict := dd, data := .seq xs n, slots := sl }) (g2 : s.heap.get? b = some { cls := .type "tuple", dict := dd2, data := .seq ys n2, slots := sl2 }) (h : I 0 s) :
    wpAny (model prog w) A.in1 (Builtin.«tuple.__eq__» ⟨[.ref l, .ref b], []⟩) (FinOf prog w A R) (fun e s' => R (.error e) s') s := by
  have sub := AutoSeq1.sub_tuple_tuple
  have hZ : (xs.toList.zip ys.toList).length = xs.size := by simp [hsz]
  have h0 := h
  obtain ⟨hp, g, d, tk, os⟩ := s
  wp_walk using wpAny_loadPart' g1, wpAny_loadPart' g2, wpAny_forIn_list _ (fun rest b s' => (b.1 = none ∧ ∃ i, rest = (xs.toList.zip ys.toList).drop i ∧ i ≤ xs.size ∧ I i s') ∨ (b.1 = some (.done (.ret (.bool false))) ∧ rest = [] ∧ J s')) _
  case turn =>
    rintro ⟨y, x⟩ rest b s' hyp
    rcases hyp with ⟨hb', i, hz, hi, hI⟩ | ⟨_, hz, _⟩
    · have hlt : i < (xs.toList.zip ys.toList).length := by
        rcases Nat.lt_or_ge i (xs.toList.zip ys.toList).length with h' | h'
        · exact h'
        · rw [List.drop_of_length_le h'] at hz; cases hz
      have h1 : i < xs.size := hZ ▸ hlt
      have h2 : i < ys.size := hsz ▸ h1
      rw [List.drop_eq_getElem_cons hlt] at hz
      injection hz with hyx hrest
      have hy : y = xs[i] := by have := congrArg Prod.fst hyx; simpa using this
      have hx : x = ys[i] := by have := congrArg Prod.snd hyx; simpa using this
      subst hy hx
      refine wpAny_bind (wpAny_mono (turn i h1 h2 s' hI) (fun r s2 q2 => ?_) fun _ _ x => x)
      rcases q2 with ⟨hr, q2⟩ | ⟨hr, q2⟩
      · subst hr
        wp_walk
        exact .inl ⟨rfl, i + 1, hrest, h1, q2⟩
      · subst hr
        wp_walk
        exact no s2 q2
    · cases hz
  case fin =>
    rintro ⟨b1, b2⟩ s' hyp
    rcases hyp with ⟨hb', i, hz, hi, hI⟩ | ⟨hb', _, hJ⟩
    · simp only at hb'
      subst hb'
      have hge : xs.size ≤ i := by
        rcases Nat.lt_or_ge i (xs.toList.zip ys.toList).length with h' | h'
        · rw [List.drop_eq_getElem_cons h'] at hz; cases hz
        · exact hZ ▸ h'
      have hi' : i = xs.size := by omega
      have hR : R (.ok (.ret (.bool true))) s' := fin s' (hi' ▸ hI)
      wp_walk
      simpa [Builtin.Tuple.tupleCompareSizes, hsz] using hR
    · simp only at hb'
      subst hb'
      have hR := no s' hJ
      wp_walk
      exact hR
  case h =>
    exact .inl ⟨rfl, 0, rfl, Nat.zero_le _, h0⟩
theorem rc_tupB {l b : Addr} {xs ys : Array Value} {E : Value → Shared → Prop} {s : Shared} {Q : Value → Shared → Prop} (hsz : xs.size = ys.size) (hu : A.units < cLine) (I : Nat → Shared → Prop) (J : Shared → Prop)
    (hl : s.heap.IsTuple l xs) (hb : s.heap.IsTuple b ys)
    (turn : ∀ i (h1 : i < xs.size) (h2 : i < ys.size) s, I i s → wpAny (model prog w) A.in1 (eqBool xs[i] ys[i]) (fun r s' => (r = true ∧ I (i + 1) s') ∨ (r = false ∧ J s')) E s)
    (fin : ∀ s, I xs.size s → Q (.bool true) s) (no : ∀ s, J s → Q (.bool false) s) (h : I 0 s) : wpAny (model prog w) A (richCompare .Eq (.ref l) (.ref b)) Q E s := by
  obtain ⟨⟨cls, dd, data, sl⟩, ho, hc, n, hd⟩ := id hl
  obtain ⟨⟨cls2, dd2, data2, sl2⟩, ho2, hc2, n2, hd2⟩ := id hb
  simp only at hc hd hc2 hd2
  subst hc hd hc2 hd2
  refine wpAny_richCompare_same_room (op := .Eq) ⟨_, ho, rfl⟩ ⟨_, ho2, rfl⟩ F.slot_tuple_eq (call_here F.slot_tuple_eq ⟨_, ho, rfl⟩ F.entry_tuple_eq (F.args_tuple_eq_2 _ _) ?_) hu
  exact tuple_eqB (R := wants (fun v s' => v ≠ .notImplemented ∧ Q v s') E) l b xs ys n n2 dd dd2 sl sl2 hsz I J turn (fun s' q => ⟨(fun x => nomatch x), fin s' q⟩) (fun s' q => ⟨(fun x => nomatch x), no s' q⟩) ho ho2 h
end
end Fq
namespace Fq
open PySem PySem.Spec PyProof.Rows L2
abbrev EqvB := V → V → Bool → Hp → Prop
def MonB (D : EqvB) : Prop := ∀ x y b H H', Ext H H' → D x y b H → D x y b H'
/-- == gives what D says, and only makes objects -/
def EqB (X : Cx) (n : Nat) (D : EqvB) : Prop :=
  ∀ (A : Around) (pins : List (Addr × Obj)) (s : Shared) (σ : L2.St) (H : Hp) (x y : V) (u v : Value) (b : Bool), Sub X n A → Inv X pins σ H s → RelV x u → RelV y v → D x y b H →
    wpAny (model X.prog X.w) A (eqBool u v) (fun r s' => r = b ∧ ∃ H', Inv X pins σ H' s' ∧ Ext H H') X.xe s
def RcB (X : Cx) (n : Nat) (D : EqvB) : Prop :=
  ∀ (A : Around) (pins : List (Addr × Obj)) (s : Shared) (σ : L2.St) (H : Hp) (x y : V) (u v : Value) (b : Bool), Sub X n A → Inv X pins σ H s → RelV x u → RelV y v → D x y b H →
    wpAny (model X.prog X.w) A (richCompare .Eq u v) (fun r s' => r = .bool b ∧ ∃ H', Inv X pins σ H' s' ∧ Ext H H') X.xe s
def AllB (D : EqvB) (xs ys : List V) (b : Bool) (H : Hp) : Prop := (xs.length ≠ ys.length ∧ b = false) ∨ (xs.length = ys.length ∧ ∃ bs : Nat → Bool, (∀ (i : Nat) x y, xs[i]? = some x → ys[i]? = some y → D x y (bs i) H) ∧ ((b = true ∧ ∀ i, i < xs.length → bs i = true) ∨ (b = false ∧ ∃ i, i < xs.length ∧ bs i = false)))
variable {X : Cx} {n : Nat} {D : EqvB}
theorem turnB (hD : MonB D) (h : EqB X n D) {A : Around} (sb : Sub X (n + 1) A) {pins : List (Addr × Obj)} {σ : L2.St} {H : Hp} {xs ys : List V} {its its2 : List Value} {bs : Nat → Bool} (p : ∀ (i : Nat) x y, xs[i]? = some x → ys[i]? = some y → D x y (bs i) H) (r : Vals xs its) (r2 : Vals ys its2)
    (i : Nat) (h1 : i < its.toArray.size) (h2 : i < its2.toArray.size) (s' : Shared) (l : LoopI X pins σ H s') :
    wpAny (model X.prog X.w) A.in1 (eqBool its.toArray[i] its2.toArray[i]) (fun r s2 => r = bs i ∧ LoopI X pins σ H s2) X.xe s' := by
  obtain ⟨H1, I1, e1⟩ := l
  have g1 : its[i]? = some its.toArray[i] := by
    have h1' : i < its.length := by simpa using h1
    rw [List.getElem?_eq_getElem h1'] <;> simp
  have g2 : its2[i]? = some its2.toArray[i] := by
    have h2' : i < its2.length := by simpa using h2
    rw [List.getElem?_eq_getElem h2'] <;> simp
  have k1 : i < xs.length := by rw [r.length]; simpa using h1
  have k2 : i < ys.length := by rw [r2.length]; simpa using h2
  obtain ⟨u, hu, ru⟩ := r.get (List.getElem?_eq_getElem k1)
  obtain ⟨v, hv, rv⟩ := r2.get (List.getElem?_eq_getElem k2)
  rw [g1] at hu
  rw [g2] at hv
  rw [Option.some.inj hu, Option.some.inj hv]
  refine wpAny_mono (h A.in1 pins s' σ H1 _ _ u v (bs i) sb.in1 I1 ru rv (hD _ _ _ _ _ e1 (p i _ _ (List.getElem?_eq_getElem k1) (List.getElem?_eq_getElem k2)))) (fun r s2 q => ?_) fun _ _ x => x
  obtain ⟨hr, H2, I2, e2⟩ := q
  exact ⟨hr, H2, I2, e1.trans e2⟩
def DListB (D : EqvB) : EqvB := fun x y b H => ∃ a c xs ys, x = .ref a ∧ y = .ref c ∧ H a = some (.lst xs) ∧ H c = some (.lst ys) ∧ AllB D xs ys b H
def DTupB (D : EqvB) : EqvB := fun x y b H => ∃ a c xs ys, x = .ref a ∧ y = .ref c ∧ H a = some (.tup xs) ∧ H c = some (.tup ys) ∧ xs.length = ys.length ∧ AllB D xs ys b H
theorem AllB.mon (hD : MonB D) {xs ys : List V} {b : Bool} {H H' : Hp} (e : Ext H H') (h : AllB D xs ys b H) : AllB D xs ys b H' := by
  rcases h with h | ⟨h1, bs, h2, h3⟩
  · exact .inl h
  · exact .inr ⟨h1, bs, fun i x y a c => hD _ _ _ _ _ e (h2 i x y a c), h3⟩
theorem monB_tup (hD : MonB D) : MonB (DTupB D) := fun x y b H H' e d => by
  obtain ⟨a, c, xs, ys, hx, hy, h1, h2, h3, p⟩ := d
  exact ⟨a, c, xs, ys, hx, hy, e _ _ h1, e _ _ h2, h3, p.mon hD e⟩
theorem rcB_list (hD : MonB D) (h : EqB X n D) : RcB X (n + 1) (DListB D) := by
  intro A pins s σ H x y u v b sb I rx ry d
  obtain ⟨a, c, xs, ys, rfl, rfl, ha, hb, p⟩ := d
  cases rx
  cases ry
  have rd : ∀ s', LoopI X pins σ H s' → ∃ (its its2 : List Value) (k k2 : Nat), s'.heap.get? a = some { cls := .type "list", data := .seq its.toArray k } ∧ s'.heap.get? c = some { cls := .type "list", data := .seq its2.toArray k2 } ∧ its.toArray.size = xs.length ∧ its2.toArray.size = ys.length ∧ Vals xs its ∧ Vals ys its2 := by
    intro s' q
    obtain ⟨H1, I1, e1⟩ := q
    obtain ⟨z, its, k, r, e⟩ := I1.hok a _ (e1 _ _ ha)
    obtain ⟨z2, its2, k2, r2, e2⟩ := I1.hok c _ (e1 _ _ hb)
    exact ⟨its, its2, k, k2, e, e2, by rw [List.size_toArray, ← r.length], by rw [List.size_toArray, ← r2.length], r, r2⟩
  rcases p with ⟨ne, rfl⟩ | ⟨el, bs, pb, hbs⟩
  · refine rc_listB (N := xs.length) (M := ys.length) sb.room.units0 (fun i s' => i = 0 ∧ LoopI X pins σ H s') (fun s' => False) (fun i s' q => ?_) (fun s' e q => absurd e ne) (fun s' q => q.elim) (fun s' _ q => ⟨rfl, q.2⟩) ⟨rfl, H, I, Ext.rfl'⟩
    obtain ⟨its, its2, k, k2, e, e2, z1, z2, r, r2⟩ := rd s' q.2
    exact ⟨its.toArray, its2.toArray, k, k2, e, e2, z1, z2, fun _ _ e => absurd e ne⟩
  · refine rc_listB (N := xs.length) (M := ys.length) sb.room.units0 (fun i s' => LoopI X pins σ H s' ∧ ∀ j, j < i → bs j = true) (fun s' => LoopI X pins σ H s' ∧ b = false) (fun i s' q => ?_) (fun s' _ q => ⟨?_, q.1⟩) (fun s' q => ⟨?_, by rw [q.2], q.1⟩) (fun s' e => absurd el e) ⟨⟨H, I, Ext.rfl'⟩, fun j hj => absurd hj (by omega)⟩
    · obtain ⟨its, its2, k, k2, e, e2, z1, z2, r, r2⟩ := rd s' q.1
      refine ⟨its.toArray, its2.toArray, k, k2, e, e2, z1, z2, fun h1 h2 _ => ?_⟩
      refine wpAny_mono (turnB hD h sb pb r r2 i h1 h2 s' q.1) (fun rr s2 z => ?_) fun _ _ z => z
      obtain ⟨er, l2⟩ := z
      cases hb' : bs i with
      | true => exact .inl ⟨by rw [er, hb'], l2, fun j hj => by
          rcases Nat.lt_or_ge j i with c | c
          · exact q.2 j c
          · rw [show j = i by omega]; exact hb'⟩
      | false =>
        refine .inr ⟨by rw [er, hb'], l2, ?_⟩
        rcases hbs with ⟨_, all⟩ | ⟨e, _⟩
        · rw [all i (by omega)] at hb'
          cases hb'
        · exact e
    · rcases hbs with ⟨e, _⟩ | ⟨_, i, hi, e⟩
      · rw [e]
      · rw [q.2 i hi] at e
        cases e
    · obtain ⟨its, its2, k, k2, e, e2, z1, z2, r, r2⟩ := rd s' q.1
      exact ⟨its.toArray, its2.toArray, k, k2, e, e2, z1, z2⟩
theorem rcB_tup (hD : MonB D) (h : EqB X n D) : RcB X (n + 1) (DTupB D) := by
  intro A pins s σ H x y u v b sb I rx ry d
  obtain ⟨a, c, xs, ys, rfl, rfl, ha, hb, hl, p⟩ := d
  cases rx
  cases ry
  obtain ⟨its, r, e, z⟩ := I.tuple (SqT.of ha)
  obtain ⟨its2, r2, e2, z2⟩ := I.tuple (SqT.of hb)
  have hsz : its.toArray.size = its2.toArray.size := by rw [List.size_toArray, List.size_toArray, ← r.length, ← r2.length]; exact hl
  rcases p with ⟨ne, _⟩ | ⟨_, bs, pb, hbs⟩
  · exact absurd hl ne
  refine rc_tupB hsz sb.room.units0 (fun i s' => LoopI X pins σ H s' ∧ ∀ j, j < i → bs j = true) (fun s' => LoopI X pins σ H s' ∧ b = false) e e2 (fun i h1 h2 s' q => ?_) (fun s' q => ⟨?_, q.1⟩) (fun s' q => ⟨by rw [q.2], q.1⟩) ⟨⟨H, I, Ext.rfl'⟩, fun j hj => absurd hj (by omega)⟩
  · refine wpAny_mono (turnB hD h sb pb r r2 i h1 h2 s' q.1) (fun rr s2 z => ?_) fun _ _ z => z
    obtain ⟨er, l2⟩ := z
    have hx : i < xs.length := by rw [r.length]; simpa using h1
    cases hb' : bs i with
    | true => exact .inl ⟨by rw [er, hb'], l2, fun j hj => by
        rcases Nat.lt_or_ge j i with c | c
        · exact q.2 j c
        · rw [show j = i by omega]; exact hb'⟩
    | false =>
      refine .inr ⟨by rw [er, hb'], l2, ?_⟩
      rcases hbs with ⟨_, all⟩ | ⟨e, _⟩
      · rw [all i hx] at hb'
        cases hb'
      · exact e
  · rcases hbs with ⟨e, _⟩ | ⟨_, i, hi, e⟩
    · rw [e]
    · rw [q.2 i (by rw [List.size_toArray, ← r.length]; exact hi)] at e
      cases e
/-- the same object is equal to itself -/
theorem RcB.eqB (h : RcB X n D) (hr : ∀ x y b H, D x y b H → ∃ a c, x = .ref a ∧ y = .ref c ∧ (a = c → b = true)) : EqB X n D := by
  intro A pins s σ H x y u v b sb I rx ry d
  obtain ⟨a, c, rfl, rfl, hs⟩ := hr _ _ _ _ d
  cases rx
  cases ry
  by_cases hac : a = c
  · rw [hs hac]
    subst hac
    exact SeqAt.EqAt.same (A := A) (s := s) (.ref a) X.prog X.w X.xe _ ⟨rfl, H, I, Ext.rfl'⟩
  · refine GQ.eqBool_refG hac (wpAny_mono (h A pins s σ H (.ref a) (.ref c) _ _ b sb I rfl rfl d) (fun r s' q => ?_) fun _ _ x => x)
    obtain ⟨hr', q⟩ := q
    exact ⟨b, hr', rfl, q⟩
def rEqB (D : EqvB) : R2 := fun x y H Q => ∃ b, D x y b H ∧ ∀ H', Ext H H' → Q (.bl b) H'
theorem op_eqB (h : RcB X n D) (hr : Room n X.A) : OpR X (compareOp .Eq) (rEqB D) := by
  intro pn s σ H x y v u Q I rx ry hq
  obtain ⟨b, d, q⟩ := hq
  show wpAny (model X.prog X.w) X.A (richCompare .Eq v u) (EP X pn σ Q) X.xe s
  refine wpAny_mono (h X.A pn s σ H x y v u b ⟨hr, rfl⟩ I rx ry d) (fun r s' z => ?_) fun _ _ z => z
  obtain ⟨er, H', I', e⟩ := z
  exact ⟨.bl b, H', I', er, q H' e⟩
end Fq
set_option Elab.async false
set_option linter.all false
set_option maxRecDepth 100000
set_option maxHeartbeats 4000000
/-! isinstance of a caught error of a class of one's own, the error has a dict. -/
namespace Xe
open PySem PySem.W PySem.Spec PySem.Calls PyProof.Rows
section
variable {prog : Program} {w : World} {A : Around} {E : Value → Shared → Prop} {s : Shared} {K : Frag} {x D : Addr} {ox od : Obj}
theorem classD {Q : Option Value → Shared → Prop} (ga : findIn K (.ref D) "__getattribute__" = some (some (.builtin "BaseException.__getattribute__"))) (gt : findIn K (.ref D) "__getattr__" = some none)
    (sb : subIn K (.ref D) (.type "BaseException") = some true) (hd : hasDictIn K D = true) (c1 : findIn K (.ref D) "__class__" = some (some (.builtin "object.__class__")))
    (c2 : specialIn K (.builtin "object.__class__") "__get__" = some (some (.builtin "getset_descriptor.__get__"))) (c3 : takesIn K (.builtin "object.__class__") = some true) (c4 : mroIn K D (.type "object") = some true)
    (X : K.In s.heap) (I : InstAt s.heap x ox D (some od)) (q : Q (some (.ref D)) { s with toks := s.toks + 1 }) : wpAny (model prog w) A (getAttr? (.ref x) "__class__") Q E s := by
  obtain ⟨cd, hcd, _⟩ := any_some hd
  have fo : findObj K D (some od) "__class__" = some (.bind (.builtin "getset_descriptor.__get__") (.builtin "object.__class__")) := findObj_data (by rw [hcd]; rfl) c1 c2 c3
  obtain ⟨hp, g, d, t, os⟩ := s
  have t0 := I.type (M := model prog w)
  have t1 := looks_findIn (M := model prog w) X ga
  have t2 := looks_findIn (M := model prog w) X gt
  have t3 := looks_find (M := model prog w) X I fo
  have isB : Looks (model prog w) hp (isInstance (.ref x) (.type "BaseException")) true := t0.andThen (looks_subIn X sb)
  have n0 : (false && onTheHeap (Value.builtin "BaseException.__getattribute__")) = false := rfl
  have n2 : (Value.builtin "BaseException.__getattribute__" == Value.builtin "object.__getattribute__") = false := by decide +kernel
  have n1 : (onTheHeap (Value.ref D) && Value.builtin "BaseException.__getattribute__" == Value.builtin "object.__getattribute__") = false := by
    rw [n2]
    rfl
  unfold getAttr? getAttrBy? getAttrBy
  refine wpAny_bind (wpAny_mkText (wpAny_bind (wpAny_attempt (wpAny_holding (wpAny_bind (t0.at (wpAny_bind (t1.at ?_))))))))
  show wpAny _ _ (if (onTheHeap (Value.ref D) && Value.builtin "BaseException.__getattribute__" == Value.builtin "object.__getattribute__") = true then _ else _) _ _ _
  rw [n1, if_neg Bool.false_ne_true]
  unfold getAttrByItsOwn hookBefore
  refine wpAny_bind ?_
  rw [if_pos (show onTheHeap (Value.ref D) = true from rfl)]
  refine t2.at ?_
  refine wpAny_bind (wpAny_attempt (wpAny_holding ?_))
  unfold callGetattribute
  rw [n0, if_neg Bool.false_ne_true]
  unfold boundAndCalled
  rw [PySem.F.excAttr_ValueError.ga.bind (.ref x)]
  refine wpAny_bind (wpAny_pure ?_)
  show wpAny _ _ (call (.builtin "BaseException.__getattribute__") [.ref x, .str "__class__" t]) _ _ _
  refine wpAny_call (codeAny_call_builtin PySem.F.excAttr_ValueError.ga.plain PySem.F.entry_bexc_ga ?_)
  refine @check_slot (model prog w) _ _ ⟨hp, g, d, t + 1, os⟩ "BaseException.__getattribute__" "BaseException" "__getattribute__" (.ref x) [.str "__class__" t] [] _ (by decide +kernel) (by decide +kernel) isB (PySem.F.args_bexc_ga (.ref x) (.str "__class__" t)) ?_
  unfold Builtin.«object.__getattribute__»
  refine wpAny_bind (wpAny_of_eq (a := ((Value.ref x : Value), [Value.str "__class__" t])) (by first | rfl | (simp only [slotArgs]; rfl)) ?_)
  refine wpAny_bind (wpAny_pure (wpAny_bind (t0.at (wpAny_bind (t3.at ?_)))))
  show wpAny _ _ (holding [Value.builtin "object.__class__"] (call (.builtin "getset_descriptor.__get__") [.builtin "object.__class__", .ref x, .ref D]) >>= ret) _ _ _
  refine wpAny_bind (wpAny_holding (wpAny_call (class_get (s := ⟨hp, g, d, t + 1, os⟩) (ox := ox) (od := some od) X I c4 ?_)))
  refine wpAny_pure ?_
  show wpAny _ _ (handedOut (.ref D)) _ _ _
  rw [handedOut_of (v := .ref D) rfl]
  first
    | exact wpAny_pure (wpAny_pure q)
    | exact wpAny_pure q
    | exact wpAny_pure (wpAny_bind (wpAny_pure (wpAny_pure q)))
theorem kitD (ga : findIn K (.ref D) "__getattribute__" = some (some (.builtin "BaseException.__getattribute__"))) (gt : findIn K (.ref D) "__getattr__" = some none) (sb : subIn K (.ref D) (.type "BaseException") = some true) (hd : hasDictIn K D = true)
    (c1 : findIn K (.ref D) "__class__" = some (some (.builtin "object.__class__"))) (c2 : specialIn K (.builtin "object.__class__") "__get__" = some (some (.builtin "getset_descriptor.__get__"))) (c3 : takesIn K (.builtin "object.__class__") = some true) (c4 : mroIn K D (.type "object") = some true) :
    KitX K (.ref x) (.ref D) (fun h => InstAt h x ox D (some od)) where
  ty := fun _ _ _ I => I.type
  it := fun _ _ X _ => by
    obtain ⟨cd, hcd, _⟩ := any_some hd
    unfold clsIn at hcd
    split at hcd
    · rename_i _ _ _ _ ho
      intro _ _ _ _ k q
      unfold isType loadHead
      exact wpAny_bind (wpAny_loadPart (k _ _ (X _ _ ho)) (wpAny_pure q))
    · cases hcd
  ne := fun h tp dd its n sl X htp => by
    obtain ⟨cd, hcd, _⟩ := any_some hd
    refine Bool.eq_false_iff.mpr fun q => ?_
    have e : D = tp := Value.ref.inj (beq_iff_eq.mp q)
    subst e
    unfold clsIn at hcd
    split at hcd
    · rename_i _ _ _ _ ho
      have z := (X _ _ ho).symm.trans htp
      cases z
    · cases hcd
  ca := fun X I k => classD ga gt sb hd c1 c2 c3 c4 X I k
end
end Xe
namespace Xe
open PySem PySem.Spec PyProof.Rows L2
def rIsD (K : PySem.W.Frag) (D a : Addr) (cls : Value) (d : Option Addr) : List V → Hp → VK → Prop := fun xs H Q => ∃ (c : V) (cv : Value) (b : Bool) (dd : Addr) (F : Str) (v : V), xs = [.ref a, c] ∧ cls = .ref D ∧ (∀ u, RelV c u → u = cv) ∧ d = some dd ∧ H dd = some (.xd [(F, v)]) ∧ PySem.W.kitOne K (.ref D) cv = some b ∧ Q (.bl b) H
theorem call_isD {X : Cx} {a D : Addr} {d : Option Addr} {oe : Obj} {pn : List (Addr × Obj)} {cls : Value} (C : ExcC X.K D) (hz : Zc cls d oe) (hf : ∃ vs, oe.data = .fields vs) : CallR (X.suite a ((a, oe) :: pn)) (.builtin "isinstance") (rIsD X.K D a cls d) := by
  intro pins s σ H xs us Q I r h
  obtain ⟨c, cv, b, dd, F, v, rfl, ec0, hcv, ed, ea, e, q⟩ := h
  subst ed
  subst ec0
  cases r with
  | cons rx rr =>
    cases rr with
    | cons rt rr =>
      cases rr
      cases rx
      have ec := hcv _ rt
      subst ec
      obtain ⟨hget, _⟩ := I.pin (a, oe) (List.mem_append.mpr (.inl List.mem_cons_self))
      obtain ⟨vs, hv⟩ := hf
      have hx : ObjOk X.prog X.w H s.heap dd (.xd [(F, v)]) := I.hok dd _ ea
      obtain ⟨mA, hns, hr⟩ := hx
      obtain ⟨od, ho, hl⟩ := lookIn_ns hns
      have J : PySem.W.InstAt s.heap a oe D (some od) := ⟨hget, hz.1, by unfold PySem.W.notCls; rw [hv] <;> rfl, by rw [hz.2]; exact ho⟩
      exact PySem.W.kia_one (kitD C.hg C.hk C.hs C.hd C.ha C.hn C.ht C.hm) I.kIn J e (fun z => nomatch z) fun tk => ⟨.bl b, H, I.kept (t' := tk) fun _ _ z => z, rfl, q⟩
end Xe
set_option Elab.async false
set_option linter.all false
set_option maxRecDepth 100000
set_option maxHeartbeats 1000000
set_option exponentiation.threshold 100000
namespace K09
open PySem PySem.Spec PyProof.Rows L2 Fa Fb
abbrev CM (K : PySem.W.Frag) : Addr := He.ga K "TempoMap"
abbrev aM (K : PySem.W.Frag) : Addr := He.ma K (CM K) "__init__"
structure MF (K : PySem.W.Frag) (mg : Str → Option Value) : Prop where
  cl : Cls K (CM K)
  n1 : NoAttr K (CM K) "_points"
  n2 : NoAttr K (CM K) "_turned"
  make : Mk K (CM K) (aM K)
  g : mg "TempoMap" = some (.ref (CM K))
abbrev sTMI : Stmt := inClass (top 17) 0
abbrev sPts : Stmt := inClass (top 17) 5
theorem scTMI : FnScope ["self", "points"] ["self", "points"] (defScope sTMI) := ⟨rfl, rfl, rfl, by decide +kernel, rfl, by decide +kernel, by decide +kernel⟩
abbrev sCal : Stmt := inClass (top 17) 1
abbrev sMEq : Stmt := inClass (top 17) 2
abbrev sBOf : Stmt := inClass (top 17) 3
abbrev sMPa : Stmt := inClass (top 17) 4
theorem scCal : FnScope ["self", "beat"] ["self", "beat"] (defScope sCal) := ⟨rfl, rfl, rfl, by decide +kernel, rfl, by decide +kernel, by decide +kernel⟩
theorem scBOf : FnScope ["self", "second"] ["self", "second"] (defScope sBOf) := ⟨rfl, rfl, rfl, by decide +kernel, rfl, by decide +kernel, by decide +kernel⟩
theorem scMPa : FnScope ["self", "beat"] ["self", "beat"] (defScope sMPa) := ⟨rfl, rfl, rfl, by decide +kernel, rfl, by decide +kernel, by decide +kernel⟩
theorem scMEq : FnScope ["self", "other"] ["self", "other"] (defScope sMEq) := ⟨rfl, rfl, rfl, by decide +kernel, rfl, by decide +kernel, by decide +kernel⟩
theorem scPts : FnScope ["self"] ["self"] (defScope sPts) := ⟨rfl, rfl, rfl, by decide +kernel, rfl, by decide +kernel, by decide +kernel⟩
abbrev mFl (q r : Addr) : List (Str × V) := putF "_turned" (.ref r) (putF "_points" (.ref q) [])
/-- a map at o: its points gs, of n bits -/
def MapOk (K : PySem.W.Frag) (n : Nat) (H : Hp) (o : Addr) (gs : List Pg) : Prop := ∃ dx q r, H o = some (.ins (CM K) dx (mFl q r)) ∧ PtL K n H q gs ∧ ∃ hs, PtL K n H r hs ∧ ptl hs = M08.sw (ptl gs)
theorem MapOk.same {K : PySem.W.Frag} {n : Nat} {H H' : Hp} {o : Addr} {gs : List Pg} (h : MapOk K n H o gs) (s : Same H H') : MapOk K n H' o gs := let ⟨dx, q, r, a, b, hs, c, d⟩ := h; ⟨dx, q, r, s _ _ a, b.same s, hs, c.same s, d⟩
def spTMI (K : PySem.W.Frag) : Sp := fun vs H Q _ => ∃ o dx a xs gs n, vs = [.ref o, .ref a] ∧ H o = some (.ins (CM K) dx []) ∧ TPOk K n H a xs gs ∧ n ≤ 800 ∧ ∀ H' hs, (∀ b ob, b ≠ o → H b = some ob → H' b = some ob) → MapOk K (2 * n + 2) H' o hs → ptl hs = M08.std (ptl gs) → Q .non H'
def spPts (K : PySem.W.Frag) : Sp := fun vs H Q _ => ∃ o n hs, vs = [.ref o] ∧ MapOk K n H o hs ∧ ∀ l H', Same H H' → PtL K n H' l hs → H l = none → Q (.ref l) H'
def spCal (K : PySem.W.Frag) (g : List M08.Pt → Rat → Rat) (bits : Nat → Nat → Nat) : Sp := fun vs H Q E => ∃ o n hs y, vs = [.ref o, y] ∧ MapOk K n H o hs ∧ 0 < hs.length ∧ n ≤ 800 ∧ ((Bad K H y ∧ Err (CV K) y H E) ∨ ∃ t u m, m ≤ 2000 ∧ Arg K H y t u m ∧ ∀ z H', Same H H' → QA K H' z (g (ptl hs) (vq t u)) (bits n m) → Q z H')
def spMEq (K : PySem.W.Frag) : Sp := fun vs H Q _ => ∃ o n hs y, vs = [.ref o, y] ∧ MapOk K n H o hs ∧ ((∃ o2 n2 hs2, y = .ref o2 ∧ MapOk K n2 H o2 hs2 ∧ ∀ H', Same H H' → Q (.bl (decide (ptl hs = ptl hs2))) H') ∨ (∃ T, TyX K H y (.type T) ∧ PySem.W.kitOne K (.type T) (.ref (CM K)) = some false ∧ ∀ H', Same H H' → Q (.bl false) H'))
theorem PtL.put {K : PySem.W.Frag} {n : Nat} {H : Hp} {q o : Addr} {gs : List Pg} {dx : Addr} {fs fs' : List (Str × V)} (h : PtL K n H q gs) (ho : H o = some (.ins (CM K) dx fs)) (ne : CM K ≠ CA K) : PtL K n (upd H o (.ins (CM K) dx fs')) q gs := by
  have ia : ∀ {x t u}, IsA K H x t u n → IsA K (upd H o (.ins (CM K) dx fs')) x t u n := fun ⟨p, d, e, hp, r⟩ => ⟨p, d, e, by
    rw [upd_ne fun z => by
      rw [z, ho] at hp
      exact ne (HO.ins.inj (Option.some.inj hp)).1]
    exact hp, r⟩
  refine ⟨?_, fun g hg => ?_, h.up, h.n⟩
  · rw [upd_ne fun z => by have hl := h.l; rw [z, ho] at hl; cases hl]
    exact h.l
  · obtain ⟨a, b, c⟩ := h.ok g hg
    refine ⟨?_, ia b, ia c⟩
    rw [upd_ne fun z => by rw [z, ho] at a; cases a]
    exact a
/-- == of two points -/
def DAm (K : PySem.W.Frag) : Fq.EqvB := fun x y b H => ∃ t u n t2 u2 m, IsA K H x t u n ∧ IsA K H y t2 u2 m ∧ b = (decide (t = t2) && decide (u = u2))
theorem monB_am {K : PySem.W.Frag} : Fq.MonB (DAm K) := fun x y b H H' e ⟨t, u, n, t2, u2, m, h1, h2, h3⟩ => ⟨t, u, n, t2, u2, m, h1.same e, h2.same e, h3⟩
theorem am_same {x y : V} {K : PySem.W.Frag} {b : Bool} {H : Hp} (d : DAm K x y b H) : ∃ a c, x = .ref a ∧ y = .ref c ∧ (a = c → b = true) := by
  obtain ⟨t, u, n, t2, u2, m, ⟨p, dx, rfl, hp, _⟩, ⟨p2, dx2, rfl, hp2, _⟩, rfl⟩ := d
  refine ⟨p, p2, rfl, rfl, fun e => ?_⟩
  subst e
  rw [hp] at hp2
  have ef := (HO.ins.inj (Option.some.inj hp2)).2.2
  have e1 : t = t2 := by
    have := fl_top t u
    rw [ef, fl_top] at this
    cases this
    rfl
  have e2 : u = u2 := by
    have := fl_bot t u
    rw [ef, fl_bot] at this
    cases this
    rfl
  rw [e1, e2]
  simp
end K09
set_option Elab.async false
set_option linter.all false
set_option maxRecDepth 100000
set_option maxHeartbeats 1000000
set_option exponentiation.threshold 100000
namespace K09
open PySem PySem.Spec PyProof.Rows L2 Fa Fb
theorem rc_am {X : Cx} {f : Addr} {fd : FuncData} (EQ : EqK X.prog X.w X.K X.mg X.base f fd) : Fq.RcB X 1 (DAm X.K) := by
  intro A pins s σ H x y u v b sb I rx ry d
  obtain ⟨t, u', n, t2, u2, m, h1, h2, rfl⟩ := d
  obtain ⟨a, dx, rfl, ha, r1⟩ := id h1
  obtain ⟨c, dy, rfl, hc, r2⟩ := id h2
  cases rx
  cases ry
  obtain ⟨mA, J, _⟩ := ins_get I.hok ha
  obtain ⟨mB, J', _⟩ := ins_get I.hok hc
  obtain ⟨od, J, _⟩ := J.look
  obtain ⟨od', J', _⟩ := J'.look
  obtain ⟨m', hF⟩ := I.fr
  refine PySem.W.cmp_K (op := .Eq) (tb := .ref (CA X.K)) sb.room.units0 hF I.ok.mod.kin J J'.type (by simp [PySem.W.notFirst]) EQ.at_ EQ.fn ?_
  have hsp : spEq X.K [.ref a, .ref c] H (fun z H' => z = .bl (decide (t = t2) && decide (u' = u2)) ∧ H' = H) E0 := ⟨_, _, t, u', n, rfl, h1, .inl ⟨t2, u2, m, h2, rfl, rfl⟩⟩
  have e0 : Env0 X.prog X.w X.K X.mg X.base A X.stack s H := by
    have e := I.env0
    exact ⟨by rw [sb.fr]; exact e.frames, e.mod, e.bs, e.bsz, e.funs, e.frf, e.hok, e.bare⟩
  have vals : Vals [V.ref a, V.ref c] [Value.ref a, Value.ref c] := .cons rfl (.cons rfl .nil)
  have kin := I.kIn
  refine wpAny_call (codeAny_mono (EQ.ok.run A X.stack s H ⟨[.ref a, .ref c], []⟩ [.ref a, .ref c] [.ref a, .ref c] _ E0 sb.room e0 (by
    have := EQ.b s [.ref a, .ref c] kin rfl
    simpa using this) vals hsp) fun r s' hq => ?_)
  cases r with
  | error e => exact passL pins σ H s e s' I hq
  | ok fl =>
    cases fl with
    | ret w =>
      obtain ⟨z, H', I', rz, ez, ex⟩ := I.after hq
      subst ez
      cases rz
      exact ⟨rfl, H', I', by rw [ex]; exact Ext.rfl'⟩
    | next => exact False.elim hq
    | brk => exact False.elim hq
    | cont => exact False.elim hq
theorem tup_same {K : PySem.W.Frag} {x y : V} {b : Bool} {H : Hp} (d : Fq.DTupB (DAm K) x y b H) : ∃ a c, x = .ref a ∧ y = .ref c ∧ (a = c → b = true) := by
  obtain ⟨a, c, xs, ys, rfl, rfl, h1, h2, hl, p⟩ := d
  refine ⟨a, c, rfl, rfl, fun e => ?_⟩
  subst e
  rw [h1] at h2
  cases h2
  rcases p with ⟨ne, _⟩ | ⟨_, bs, pb, ⟨e, _⟩ | ⟨_, i, hi, eb⟩⟩
  · exact absurd rfl ne
  · exact e
  · have ei : xs[i]? = some xs[i] := List.getElem?_eq_getElem hi
    obtain ⟨p, q, e1, e2, hs⟩ := am_same (pb i _ _ ei ei)
    rw [hs (V.ref.inj (e1.symm.trans e2))] at eb
    cases eb
theorem rc_pts {X : Cx} {f : Addr} {fd : FuncData} (EQ : EqK X.prog X.w X.K X.mg X.base f fd) : Fq.RcB X 3 (Fq.DListB (Fq.DTupB (DAm X.K))) :=
  Fq.rcB_list (Fq.monB_tup monB_am) ((Fq.rcB_tup monB_am ((rc_am EQ).eqB fun _ _ _ _ d => am_same d)).eqB fun _ _ _ _ d => tup_same d)
theorem am_dec {t u t2 u2 : Int} (r : Am.Red t u) (r2 : Am.Red t2 u2) : (decide (t = t2) && decide (u = u2)) = decide (vq t u = vq t2 u2) := by
  by_cases c : vq t u = vq t2 u2
  · obtain ⟨a, b⟩ := vq_inj r r2 c
    rw [decide_eq_true a, decide_eq_true b, decide_eq_true c]
    rfl
  · rw [decide_eq_false c]
    cases h : (decide (t = t2) && decide (u = u2)) with
    | false => rfl
    | true =>
      rw [Bool.and_eq_true, decide_eq_true_eq, decide_eq_true_eq] at h
      exact absurd (by rw [h.1, h.2]) c
theorem pg_eqB {K : PySem.W.Frag} {n m : Nat} {H : Hp} {g h : Pg} (a : PgOk K n H g) (b : PgOk K m H h) : Fq.DTupB (DAm K) (.ref g.q) (.ref h.q) (decide ((bq g, sq g) = (bq h, sq h))) H := by
  obtain ⟨a1, a2, a3⟩ := a
  obtain ⟨b1, b2, b3⟩ := b
  obtain ⟨_, _, _, _, r1, _⟩ := id a2
  obtain ⟨_, _, _, _, r2, _⟩ := id a3
  obtain ⟨_, _, _, _, r3, _⟩ := id b2
  obtain ⟨_, _, _, _, r4, _⟩ := id b3
  refine ⟨g.q, h.q, _, _, rfl, rfl, a1, b1, rfl, .inr ⟨rfl, fun i => if i = 0 then decide (bq g = bq h) else decide (sq g = sq h), fun i x y e1 e2 => ?_, ?_⟩⟩
  · have hi := (List.getElem?_eq_some_iff.mp e1).1
    have c : i = 0 ∨ i = 1 := by
      simp at hi
      omega
    rcases c with rfl | rfl
    · cases e1
      cases e2
      exact ⟨_, _, _, _, _, _, a2, b2, (am_dec r1 r3).symm⟩
    · cases e1
      cases e2
      exact ⟨_, _, _, _, _, _, a3, b3, (am_dec r2 r4).symm⟩
  · by_cases c1 : bq g = bq h
    · by_cases c2 : sq g = sq h
      · refine .inl ⟨decide_eq_true (by rw [c1, c2]), fun i _ => ?_⟩
        show (if i = 0 then decide (bq g = bq h) else decide (sq g = sq h)) = true
        split
        · exact decide_eq_true c1
        · exact decide_eq_true c2
      · refine .inr ⟨decide_eq_false fun e => c2 (congrArg Prod.snd e), 1, by simp, ?_⟩
        exact decide_eq_false c2
    · refine .inr ⟨decide_eq_false fun e => c1 (congrArg Prod.fst e), 0, by simp, ?_⟩
      exact decide_eq_false c1
theorem pts_eqB {K : PySem.W.Frag} {n m : Nat} {H : Hp} {q q2 : Addr} {gs hs : List Pg} (a : PtL K n H q gs) (b : PtL K m H q2 hs) : Fq.DListB (Fq.DTupB (DAm K)) (.ref q) (.ref q2) (decide (ptl gs = ptl hs)) H := by
  refine ⟨q, q2, _, _, rfl, rfl, a.l, b.l, ?_⟩
  have l1 : (ptl gs).length = gs.length := List.length_map ..
  have l2 : (ptl hs).length = hs.length := List.length_map ..
  by_cases cl : gs.length = hs.length
  · refine .inr ⟨by rw [List.length_map, List.length_map]; exact cl, fun i => decide ((ptl gs)[i]? = (ptl hs)[i]?), fun i x y e1 e2 => ?_, ?_⟩
    · rw [List.getElem?_map] at e1 e2
      cases eg : gs[i]? with
      | none => rw [eg] at e1; cases e1
      | some g =>
        cases eh : hs[i]? with
        | none => rw [eh] at e2; cases e2
        | some h =>
          rw [eg] at e1
          rw [eh] at e2
          cases e1
          cases e2
          have := pg_eqB (a.ok g (List.mem_of_getElem? eg)) (b.ok h (List.mem_of_getElem? eh))
          have e : decide ((ptl gs)[i]? = (ptl hs)[i]?) = decide ((bq g, sq g) = (bq h, sq h)) := by
            rw [ptl_at eg, ptl_at eh]
            by_cases c : (bq g, sq g) = (bq h, sq h)
            · rw [decide_eq_true c, decide_eq_true (by rw [c])]
            · rw [decide_eq_false c, decide_eq_false fun z => c (Option.some.inj z)]
          dsimp only
          rw [e]
          exact this
    · by_cases c : ptl gs = ptl hs
      · exact .inl ⟨decide_eq_true c, fun i _ => decide_eq_true (by rw [c])⟩
      · refine .inr ⟨decide_eq_false c, ?_⟩
        apply Classical.byContradiction
        intro no
        refine c (List.ext_getElem? fun i => ?_)
        by_cases hi : i < gs.length
        · apply Classical.byContradiction
          intro ne
          exact no ⟨i, by rw [List.length_map]; exact hi, decide_eq_false ne⟩
        · rw [List.getElem?_eq_none (by omega), List.getElem?_eq_none (by omega)]
  · exact .inl ⟨by rw [List.length_map, List.length_map]; exact cl, decide_eq_false fun e => cl (by rw [← l1, ← l2, e])⟩
section
variable {P : Program} {w : World} {K : PySem.W.Frag} {mg : Str → Option Value} {base : Heap} {f fS fX fT fA fP fR fE : Addr} {fd fdS fdX fdT fdA fdP fdR fdE : FuncData} {t0 : Addr}
theorem ok_tmi (F : FunD K "__init__" "TempoMap.__init__" (defArgs sTMI) (defBody sTMI) (defScope sTMI) [.ref t0] [] f fd) (M : MF K mg) (ne : CM K ≠ CA K) (ST : Fn P w K mg base "_standard" 10 ["points"] (spStd K) fS fdS) (EX : Fn P w K mg base "_exchanged" 1 ["points"] (spExc K) fX fdX) (TP : Fn P w K mg base "_told_points" 9 ["points"] (spTP K) fT fdT) :
    FnOk P w K mg base (L2.CX P w) 11 f fd ["self", "points"] (spTMI K) := by
  refine F.ok scTMI (fun vs H Q E h => ?_) (fun cdv A outer s H vs Q E hr h => ?_)
  · obtain ⟨o, dx, a, xs, gs, n, rfl, _⟩ := h
    rfl
  · obtain ⟨o, dx, a, xs, gs, n, rfl, ho, tk, hn, k⟩ := h
    have hr1 := hr.mono (show 1 ≤ 10 by decide)
    have hr9 := hr.mono (show 9 ≤ 10 by decide)
    refine ⟨_, (pss_cons (ps_fld (pv 0) (pe_call ST.ok hr rfl ST.g ST.k ST.b .nil passL (pa_cons (pe_call TP.ok hr9 rfl TP.g TP.k TP.b .nil passL (pa_cons (pv 1) pa_nil)) pa_nil)) rfl)
      (pss_one (ps_fld (pv 0) (pe_call EX.ok hr1 rfl EX.g EX.k EX.b .nil passL (pa_cons (pe_fld (pv 0) rfl) pa_nil)) rfl))), ?_⟩
    refine ⟨_, rfl, a, xs, gs, n, rfl, tk, by omega, fun H1 p ps s1 hp ep => ⟨p, ps, n, rfl, hp, hn, fun H2 q hs s2 hq eh => ?_⟩⟩
    have s12 := s1.trans s2
    have ho2 := s12 _ _ ho
    have hql := hq.l
    have qo : q ≠ o := fun e => by
      rw [e, ho2] at hql
      cases hql
    refine ⟨_, rfl, o, _, dx, _, rfl, ho2, M.cl, M.n1, ?_⟩
    have hq3 := hq.put (fs' := putF "_points" (V.ref q) []) ho2 ne
    have ho3 : upd H2 o (HO.ins (CM K) dx (putF "_points" (V.ref q) [])) o = some (HO.ins (CM K) dx (putF "_points" (V.ref q) [])) := upd_same
    have kp3 : ∀ b ob, b ≠ o → H b = some ob → upd H2 o (HO.ins (CM K) dx (putF "_points" (V.ref q) [])) b = some ob := fun b ob nb hb => by rw [upd_ne nb]; exact s12 _ _ hb
    generalize upd H2 o (HO.ins (CM K) dx (putF "_points" (V.ref q) [])) = H3 at hq3 ho3 kp3
    refine ⟨by decide, _, rfl, o, _, dx, _, _, rfl, ho3, M.cl, M.n1, by rfl, q, hs, _, rfl, hq3, fun H4 r ts s4 hr4 er4 _ => ?_⟩
    refine ⟨_, rfl, o, _, dx, _, rfl, s4 _ _ ho3, M.cl, M.n2, by show (1 : Nat) < 1000; decide, ?_⟩
    refine k _ hs (fun b ob nb hb => ?_) ⟨dx, q, r, upd_same, (hq3.same s4).put (s4 _ _ ho3) ne, ts, hr4.put (s4 _ _ ho3) ne, er4⟩ (by rw [eh, ep])
    rw [upd_ne nb]
    exact s4 _ _ (kp3 b ob nb hb)
theorem ok_pts (F : FunD K "points" "TempoMap.points" (defArgs sPts) (defBody sPts) (defScope sPts) [] [] f fd) (M : MF K mg) (mLi : mg "list" = none) : FnOk P w K mg base (L2.CX P w) 1 f fd ["self"] (spPts K) := by
  refine F.ok scPts (fun vs H Q E h => ?_) (fun cdv A outer s H vs Q E hr h => ?_)
  · obtain ⟨o, n, hs, rfl, _⟩ := h
    rfl
  · obtain ⟨o, n, hs, rfl, ⟨dx, q, r, ho, hq, ht⟩, k⟩ := h
    refine ⟨_, (pss_one (ps_ret (pe_callTy call_list_of rfl mLi (by decide +kernel : bootBuiltins "list" = some (.type "list")) (pa_cons (pe_fld (pv 0) rfl) pa_nil)))), ?_⟩
    refine ⟨_, rfl, o, _, dx, _, _, rfl, ho, M.cl, M.n1, by rfl, q, _, rfl, .inl (SqL.of hq.l), fun l hl => ?_⟩
    have s1 := Same.upd (o := .lst (hs.map fun g => V.ref g.q)) hl
    exact k l _ s1 ⟨upd_same, fun g hg => (hq.ok g hg).same s1, hq.up, hq.n⟩ hl
theorem ok_cal (F : FunD K "__call__" "TempoMap.__call__" (defArgs sCal) (defBody sCal) (defScope sCal) [] [] f fd) (M : MF K mg) (TK : Fn P w K mg base "_taken" 9 ["points", "beat"] (spTak K) fT fdT) (AS : Fn P w K mg base "as_amount" 6 ["value"] (spAs K) fA fdA) :
    FnOk P w K mg base (L2.CX P w) 10 f fd ["self", "beat"] (spCal K M08.f fun n m => m + 6 * n + 6) := by
  refine F.ok scCal (fun vs H Q E h => ?_) (fun cdv A outer s H vs Q E hr h => ?_)
  · obtain ⟨o, n, hs, y, rfl, _⟩ := h
    rfl
  · obtain ⟨o, n, hs, y, rfl, ⟨dx, q, r, ho, hq, ht⟩, h0, hn, k⟩ := h
    have hr1 := hr.mono (show 1 ≤ 9 by decide)
    have hr2 := hr.mono (show 2 ≤ 9 by decide)
    have hr3 := hr.mono (show 3 ≤ 9 by decide)
    have hr4 := hr.mono (show 4 ≤ 9 by decide)
    have hr5 := hr.mono (show 5 ≤ 9 by decide)
    have hr6 := hr.mono (show 6 ≤ 9 by decide)
    have hr8 := hr.mono (show 8 ≤ 9 by decide)
    have hr9 := hr.mono (show 9 ≤ 9 by decide)

    refine ⟨_, (pss_one (ps_ret (pe_call TK.ok hr9 rfl TK.g TK.k TK.b .nil passL (pa_cons (pe_fld (pv 0) rfl) (pa_cons (pe_callS AS.ok hr6 rfl AS.g AS.k AS.b (fun σ => passAt (W := fun cls d _ H => E cls d H) (takes_of rfl rfl rfl rfl) σ) (pa_cons (pv 1) pa_nil)) pa_nil))))), ?_⟩
    refine ⟨_, rfl, o, _, dx, _, _, rfl, ho, M.cl, M.n1, by rfl, _, rfl, y, rfl, ?_⟩
    rcases k with er | ⟨t, u, m, hm, ar, k⟩
    · exact .inl er
    refine .inr ⟨t, u, m, ar, fun y1 H1 s1 iy => ?_⟩
    exact ⟨q, hs, y1, _, n, m, rfl, hq.same s1, hn, hm, h0, ⟨t, u, iy, rfl⟩, fun z H2 s2 qz => k z H2 (s1.trans s2) qz⟩
theorem ok_bof (F : FunD K "beat_of" "TempoMap.beat_of" (defArgs sBOf) (defBody sBOf) (defScope sBOf) [] [] f fd) (M : MF K mg) (TK : Fn P w K mg base "_taken" 9 ["points", "beat"] (spTak K) fT fdT) (AS : Fn P w K mg base "as_amount" 6 ["value"] (spAs K) fA fdA) :
    FnOk P w K mg base (L2.CX P w) 10 f fd ["self", "second"] (spCal K (fun ps x => M08.f (M08.sw ps) x) fun n m => m + 6 * n + 6) := by
  refine F.ok scBOf (fun vs H Q E h => ?_) (fun cdv A outer s H vs Q E hr h => ?_)
  · obtain ⟨o, n, hs, y, rfl, _⟩ := h
    rfl
  · obtain ⟨o, n, hs, y, rfl, ⟨dx, q, r, ho, hq, ht⟩, h0, hn, k⟩ := h
    have hr1 := hr.mono (show 1 ≤ 9 by decide)
    have hr2 := hr.mono (show 2 ≤ 9 by decide)
    have hr3 := hr.mono (show 3 ≤ 9 by decide)
    have hr4 := hr.mono (show 4 ≤ 9 by decide)
    have hr5 := hr.mono (show 5 ≤ 9 by decide)
    have hr6 := hr.mono (show 6 ≤ 9 by decide)
    have hr8 := hr.mono (show 8 ≤ 9 by decide)
    have hr9 := hr.mono (show 9 ≤ 9 by decide)

    refine ⟨_, (pss_one (ps_ret (pe_call TK.ok hr9 rfl TK.g TK.k TK.b .nil passL (pa_cons (pe_fld (pv 0) rfl) (pa_cons (pe_callS AS.ok hr6 rfl AS.g AS.k AS.b (fun σ => passAt (W := fun cls d _ H => E cls d H) (takes_of rfl rfl rfl rfl) σ) (pa_cons (pv 1) pa_nil)) pa_nil))))), ?_⟩
    refine ⟨_, rfl, o, _, dx, _, _, rfl, ho, M.cl, M.n2, by rfl, _, rfl, y, rfl, ?_⟩
    rcases k with er | ⟨t, u, m, hm, ar, k⟩
    · exact .inl er
    refine .inr ⟨t, u, m, ar, fun y1 H1 s1 iy => ?_⟩
    obtain ⟨ts, hts, ets⟩ := ht
    have tl : ts.length = hs.length := by
      have := congrArg List.length ets
      unfold M08.sw ptl at this
      rwa [List.length_map, List.length_map, List.length_map] at this
    exact ⟨r, ts, y1, _, n, m, rfl, hts.same s1, hn, hm, by omega, ⟨t, u, iy, rfl⟩, fun z H2 s2 qz => k z H2 (s1.trans s2) (by rw [ets] at qz; exact qz)⟩
theorem ok_mpa (F : FunD K "pace" "TempoMap.pace" (defArgs sMPa) (defBody sMPa) (defScope sMPa) [] [] f fd) (M : MF K mg) (PC : Fn P w K mg base "_pace" 8 ["points", "index"] (spPace K) fP fdP) (RC : Fn P w K mg base "_reached" 8 ["points", "beat"] (spRch K) fR fdR) (AS : Fn P w K mg base "as_amount" 6 ["value"] (spAs K) fA fdA) :
    FnOk P w K mg base (L2.CX P w) 9 f fd ["self", "beat"] (spCal K M08.sl fun n _ => 4 * n + 3) := by
  refine F.ok scMPa (fun vs H Q E h => ?_) (fun cdv A outer s H vs Q E hr h => ?_)
  · obtain ⟨o, n, hs, y, rfl, _⟩ := h
    rfl
  · obtain ⟨o, n, hs, y, rfl, ⟨dx, q, r, ho, hq, ht⟩, h0, hn, k⟩ := h
    have hr1 := hr.mono (show 1 ≤ 8 by decide)
    have hr2 := hr.mono (show 2 ≤ 8 by decide)
    have hr3 := hr.mono (show 3 ≤ 8 by decide)
    have hr4 := hr.mono (show 4 ≤ 8 by decide)
    have hr5 := hr.mono (show 5 ≤ 8 by decide)
    have hr6 := hr.mono (show 6 ≤ 8 by decide)
    have hr8 := hr.mono (show 8 ≤ 8 by decide)

    refine ⟨_, (pss_one (ps_ret (pe_call PC.ok hr8 rfl PC.g PC.k PC.b .nil passL (pa_cons (pe_fld (pv 0) rfl) (pa_cons (pe_call RC.ok hr8 rfl RC.g RC.k RC.b .nil passL (pa_cons (pe_fld (pv 0) rfl) (pa_cons (pe_callS AS.ok hr6 rfl AS.g AS.k AS.b (fun σ => passAt (W := fun cls d _ H => E cls d H) (takes_of rfl rfl rfl rfl) σ) (pa_cons (pv 1) pa_nil)) pa_nil))) pa_nil))))), ?_⟩
    refine ⟨_, rfl, o, _, dx, _, _, rfl, ho, M.cl, M.n1, by rfl, _, rfl, o, _, dx, _, _, rfl, ho, M.cl, M.n1, by rfl, _, rfl, y, rfl, ?_⟩
    rcases k with er | ⟨t, u, m, hm, ar, k⟩
    · exact .inl er
    refine .inr ⟨t, u, m, ar, fun y1 H1 s1 iy => ?_⟩
    refine ⟨q, hs, y1, _, n, m, rfl, hq.same s1, ⟨t, u, iy, rfl⟩, by omega, fun i H2 hi hlow hhig s2 => ?_⟩
    refine ⟨q, hs, i, n, rfl, hq.same (s1.trans s2), hn, hi, fun z H3 s3 qz => k z H3 (s1.trans (s2.trans s3)) ?_⟩
    have ll : (ptl hs).length = hs.length := List.length_map ..
    have at_ : ∀ (j : Nat) z, (ptl hs)[j]? = some z → ∃ g, hs[j]? = some g ∧ z = (bq g, sq g) := fun j z e => by
      unfold ptl at e
      rw [List.getElem?_map] at e
      cases ez : hs[j]? with
      | none => rw [ez] at e; cases e
      | some g => rw [ez] at e; cases e; exact ⟨g, rfl, rfl⟩
    have hm1 : i - 1 < hs.length := by omega
    rw [(M08.f_at (ps := ptl hs) (x := vq t u) (n := i) (q := _) (ptl_at (List.getElem?_eq_getElem hm1)) (by omega) (fun j z hj e => by obtain ⟨g, eg, rfl⟩ := at_ j z e; exact hlow j g hj eg) (fun j z hj e => by obtain ⟨g, eg, rfl⟩ := at_ j z e; exact hhig j g hj eg)).2]
    exact qz
theorem ok_meq (F : FunD K "__eq__" "TempoMap.__eq__" (defArgs sMEq) (defBody sMEq) (defScope sMEq) [] [] f fd) (T : AF K mg) (M : MF K mg) (EQ : EqK P w K mg base fE fdE) (kM : PySem.W.kitOne K (.ref (CM K)) (.ref (CM K)) = some true)
    (ca : PySem.W.findIn K (.ref (CM K)) "__class__" = some (some (.builtin "object.__class__"))) (cm : PySem.W.mroIn K (CM K) (.type "object") = some true) :
    FnOk P w K mg base (L2.CX P w) 5 f fd ["self", "other"] (spMEq K) := by
  refine F.ok scMEq (fun vs H Q E h => ?_) (fun cdv A outer s H vs Q E hr h => ?_)
  · obtain ⟨o, n, hs, y, rfl, _⟩ := h
    rfl
  · obtain ⟨o, n, hs, y, rfl, ⟨dx, q, r, ho, hq, ht⟩, h⟩ := h
    have hr3 := hr.mono (show 3 ≤ 4 by decide)
    refine ⟨_, (pss_one (ps_ret (pe_and (pe_isi T.isi (pv 1) (pe_glob (v := .ref (CM K)) rfl M.g rfl)) (pe_one (pe_cmpR (Fq.op_eqB (rc_pts EQ) hr3) (pe_fld (pv 0) rfl) (pe_fld (pv 1) rfl) (nomark _)))))), ?_⟩
    rcases h with ⟨o2, n2, hs2, rfl, ⟨dx2, q2, r2, ho2, hq2, _⟩, k⟩ | ⟨Ty, ty, kt, k⟩
    · refine ⟨_, rfl, _, _, _, _, true, rfl, .own _, .base (.ins ho2 M.cl ca T.cn T.ct cm), kM, true, rfl, iteT ?_⟩
      refine ⟨_, rfl, o, _, dx, _, _, rfl, ho, M.cl, M.n1, by rfl, _, rfl, o2, _, dx2, _, _, rfl, ho2, M.cl, M.n1, by rfl, _, pts_eqB hq hq2, fun H' e => k H' e⟩
    · exact ⟨_, rfl, _, _, _, _, false, rfl, .own _, ty, kt, false, rfl, iteF (k H (Same.refl _))⟩
end
end K09
set_option Elab.async false
set_option linter.all false
set_option maxRecDepth 100000
set_option maxHeartbeats 1000000
set_option exponentiation.threshold 100000
namespace K09
open PySem PySem.Spec PyProof.Rows L2 Fa Fb
abbrev sInv : Stmt := inClass (top 17) 6
theorem scInv : FnScope ["self"] ["self"] (defScope sInv) := ⟨rfl, rfl, rfl, by decide +kernel, rfl, by decide +kernel, by decide +kernel⟩
theorem same_made {H : Hp} {C y dy : Addr} (hy : H y = none) (hd : H dy = none) (hne : dy ≠ y) : Same H (upd (upd H dy (.own y)) y (.ins C dy [])) :=
  (Same.upd hd).trans (Same.upd (by rw [upd_ne hne.symm]; exact hy))
theorem tm_make {K : PySem.W.Frag} {H : Hp} {y dy a : Addr} {xs : List V} {gs : List Pg} {n : Nat} {Q : VK} {E : XK} (tk : TPOk K n H a xs gs) (hn : n ≤ 800) (hy : H y = none) (hd : H dy = none) (hne : dy ≠ y)
    (k : ∀ H' hs, Same H H' → MapOk K (2 * n + 2) H' y hs → ptl hs = M08.std (ptl gs) → Q .non H') :
    spTMI K [.ref y, .ref a] (upd (upd H dy (.own y)) y (.ins (CM K) dy [])) Q E := by
  have s := same_made (C := CM K) hy hd hne
  refine ⟨y, dy, a, xs, gs, n, rfl, upd_same, tk.same s, hn, fun H' hs kp mo e => k H' hs (fun b ob hb => ?_) mo e⟩
  exact kp b ob (ne_of_none hb hy) (s _ _ hb)
/-- a list of points as it is passed on -/
theorem PtL.tp {K : PySem.W.Frag} {n : Nat} {H : Hp} {q : Addr} {gs : List Pg} (h : PtL K n H q gs) : TPOk K n H q (gs.map fun g => V.ref g.q) gs :=
  ⟨.inl h.l, by rw [List.length_map]; exact h.n, by rw [List.length_map], fun i g e => ⟨g.q, by rw [List.getElem?_map, e]; rfl, .ref g.a, .ref g.b, .inr (h.ok g (List.mem_of_getElem? e)).1, .inl (h.ok g (List.mem_of_getElem? e)).2.1, .inl (h.ok g (List.mem_of_getElem? e)).2.2⟩, h.up⟩
def spInv (K : PySem.W.Frag) : Sp := fun vs H Q _ => ∃ o n gs, vs = [.ref o] ∧ MapOk K n H o gs ∧ n ≤ 800 ∧ ∀ H' y hs, Same H H' → MapOk K (2 * n + 2) H' y hs → ptl hs = M08.std (M08.sw (ptl gs)) → H y = none → Q (.ref y) H'
section
variable {P : Program} {w : World} {K : PySem.W.Frag} {mg : Str → Option Value} {base : Heap} {f fM : Addr} {fd fdM : FuncData}
theorem ok_inv (F : FunD K "inverse" "TempoMap.inverse" (defArgs sInv) (defBody sInv) (defScope sInv) [] [] f fd) (M : MF K mg) (MKM : Mk K (CM K) (aM K)) (TM : FnOk P w K mg base (L2.CX P w) 11 (aM K) fdM ["self", "points"] (spTMI K)) (bT : Binds K fdM ["self", "points"] []) : FnOk P w K mg base (L2.CX P w) 13 f fd ["self"] (spInv K) := by
  refine F.ok scInv (fun vs H Q E h => ?_) (fun cdv A outer s H vs Q E hr h => ?_)
  · obtain ⟨o, n, gs, rfl, _⟩ := h
    rfl
  · obtain ⟨o, n, gs, rfl, ⟨dx, q, r, ho, hq, ts, ht, et⟩, hn, k⟩ := h
    have hr12 := hr.mono (show 12 ≤ 12 by decide)
    refine ⟨_, (pss_one (ps_ret (pe_make MKM TM hr12 rfl M.g bT .nil passL (pa_cons (pe_fld (pv 0) rfl) pa_nil)))), ?_⟩
    refine ⟨_, rfl, o, _, dx, _, _, rfl, ho, M.cl, M.n2, by rfl, fun y dy hy hdy hne => tm_make ht.tp hn hy hdy hne fun H' hs s mo e => ⟨rfl, ?_⟩⟩
    exact k H' y hs s mo (by rw [e, et]) hy
end
end K09
set_option linter.all false
namespace M08
theorem E_self (r : List Pt) (p : Pt) (u : Up (p :: r)) : E p r p.1 = p.2 := by
  obtain ⟨e, he, near⟩ := E_near r p u
  rw [near p.1 (by grind) he]
  grind
theorem E_aff : ∀ (r : List Pt) (p : Pt) (b c : Rat), Up (p :: r) → p.1 ≤ b → b < c → (∀ q ∈ r, ¬ (b < q.1 ∧ q.1 < c)) → ∃ m, ∀ x, b ≤ x → x ≤ c → E p r x = E p r b + (x - b) * m
  | [], p, b, c, _, _, _, _ => ⟨1, fun x _ _ => by show p.2 + (x - p.1) = p.2 + (b - p.1) + (x - b) * 1; grind⟩
  | q :: r, p, b, c, u, h1, h2, no => by
    have l := slope_line u.1
    by_cases c1 : c ≤ q.1
    · refine ⟨slope p q, fun x hx hx2 => ?_⟩
      show (if x < q.1 then p.2 + (x - p.1) * slope p q else E q r x) = (if b < q.1 then p.2 + (b - p.1) * slope p q else E q r b) + (x - b) * slope p q
      rw [if_pos (show b < q.1 by grind)]
      by_cases cx : x < q.1
      · rw [if_pos cx]
        grind
      · have e : x = q.1 := by grind
        rw [if_neg cx, e, E_self r q u.2.2, l]
        generalize slope p q = m
        grind
    · have hq : q.1 ≤ b := by
        have := no q List.mem_cons_self
        grind
      obtain ⟨m, hm⟩ := E_aff r q b c u.2.2 hq h2 fun z hz => no z (List.mem_cons_of_mem _ hz)
      refine ⟨m, fun x hx hx2 => ?_⟩
      show (if x < q.1 then p.2 + (x - p.1) * slope p q else E q r x) = (if b < q.1 then p.2 + (b - p.1) * slope p q else E q r b) + (x - b) * m
      rw [if_neg (by grind), if_neg (by grind)]
      exact hm x hx hx2
theorem f_aff (ps : List Pt) (u : Up ps) (b c : Rat) (h : b < c) (no : ∀ q ∈ ps, ¬ (b < q.1 ∧ q.1 < c)) : ∃ m, ∀ x, b ≤ x → x ≤ c → f ps x = f ps b + (x - b) * m := by
  cases ps with
  | nil => exact ⟨1, fun x _ _ => by show x = b + (x - b) * 1; grind⟩
  | cons p r =>
    by_cases c1 : c ≤ p.1
    · refine ⟨1, fun x hx hx2 => ?_⟩
      show (if x < p.1 then p.2 + (x - p.1) else E p r x) = (if b < p.1 then p.2 + (b - p.1) else E p r b) + (x - b) * 1
      rw [if_pos (show b < p.1 by grind)]
      by_cases cx : x < p.1
      · rw [if_pos cx]
        grind
      · have e : x = p.1 := by grind
        rw [if_neg cx, e, E_self r p u]
        grind
    · have hp : p.1 ≤ b := by
        have := no p List.mem_cons_self
        grind
      obtain ⟨m, hm⟩ := E_aff r p b c u hp h fun z hz => no z (List.mem_cons_of_mem _ hz)
      refine ⟨m, fun x hx hx2 => ?_⟩
      show (if x < p.1 then p.2 + (x - p.1) else E p r x) = (if b < p.1 then p.2 + (b - p.1) else E p r b) + (x - b) * m
      rw [if_neg (by grind), if_neg (by grind)]
      exact hm x hx hx2
theorem f_low (ps : List Pt) (u : Up ps) (b : Rat) (h : ∀ q ∈ ps, b ≤ q.1) (x : Rat) (hx : x ≤ b) : f ps x = f ps b + (x - b) := by
  cases ps with
  | nil => show x = b + (x - b); grind
  | cons p r =>
    have hb := h p List.mem_cons_self
    show (if x < p.1 then p.2 + (x - p.1) else E p r x) = (if b < p.1 then p.2 + (b - p.1) else E p r b) + (x - b)
    by_cases c : b < p.1
    · rw [if_pos c, if_pos (by grind)]
      grind
    · have e : b = p.1 := by grind
      rw [if_neg c, e, E_self r p u]
      by_cases c2 : x < p.1
      · rw [if_pos c2]
      · have e2 : x = p.1 := by grind
        rw [if_neg c2, e2, E_self r p u]
        grind
theorem E_high : ∀ (r : List Pt) (p : Pt) (b x : Rat), Up (p :: r) → p.1 ≤ b → (∀ q ∈ r, q.1 ≤ b) → b ≤ x → E p r x = E p r b + (x - b)
  | [], p, b, x, _, _, _, _ => by show p.2 + (x - p.1) = p.2 + (b - p.1) + (x - b); grind
  | q :: r, p, b, x, u, h, no, hx => by
    have hq := no q List.mem_cons_self
    show (if x < q.1 then p.2 + (x - p.1) * slope p q else E q r x) = (if b < q.1 then p.2 + (b - p.1) * slope p q else E q r b) + (x - b)
    rw [if_neg (by grind), if_neg (by grind)]
    exact E_high r q b x u.2.2 hq (fun z hz => no z (List.mem_cons_of_mem _ hz)) hx
theorem f_high (ps : List Pt) (u : Up ps) (b : Rat) (h : ∀ q ∈ ps, q.1 ≤ b) (x : Rat) (hx : b ≤ x) : f ps x = f ps b + (x - b) := by
  cases ps with
  | nil => show x = b + (x - b); grind
  | cons p r =>
    have hp := h p List.mem_cons_self
    show (if x < p.1 then p.2 + (x - p.1) else E p r x) = (if b < p.1 then p.2 + (b - p.1) else E p r b) + (x - b)
    rw [if_neg (by grind), if_neg (by grind)]
    exact E_high r p b x u hp (fun z hz => h z (List.mem_cons_of_mem _ hz)) hx
/-! ### one map behind another -/
def graph (h : Rat → Rat) (bs : List Rat) : List Pt := bs.map fun b => (b, h b)
def Aff (h : Rat → Rat) : Rat → List Rat → Prop
  | b, [] => ∀ x, b ≤ x → h x = h b + (x - b)
  | b, c :: r => b < c ∧ (∃ m, ∀ x, b ≤ x → x ≤ c → h x = h b + (x - b) * m) ∧ Aff h c r
theorem E_graph (h : Rat → Rat) : ∀ (r : List Rat) (b : Rat), Aff h b r → ∀ x, b ≤ x → E (b, h b) (graph h r) x = h x
  | [], b, a, x, hx => by
    show h b + (x - b) = h x
    exact (a x hx).symm
  | c :: r, b, a, x, hx => by
    obtain ⟨lt, ⟨m, hm⟩, a2⟩ := a
    show (if x < c then h b + (x - b) * slope (b, h b) (c, h c) else E (c, h c) (graph h r) x) = h x
    by_cases cx : x < c
    · rw [if_pos cx, hm x hx (by grind), slope_of (p := (b, h b)) (q := (c, h c)) lt (hm c (by grind) (by grind))]
    · rw [if_neg cx]
      exact E_graph h r c a2 x (by grind)
theorem aff_of {ps qs : List Pt} (u : Up ps) (v : Up qs) : ∀ (r : List Rat) (b : Rat), List.Pairwise (fun x y : Rat => x < y) (b :: r) → (∀ p ∈ ps, p.1 ≤ b ∨ p.1 ∈ r) → (∀ q ∈ qs, q.1 ≤ f ps b ∨ ∃ z ∈ r, f ps z = q.1) → Aff (fun x => f qs (f ps x)) b r
  | [], b, _, hp, hq => by
    intro x hx
    have p1 : ∀ p ∈ ps, p.1 ≤ b := fun p m => (hp p m).resolve_right (by simp)
    have q1 : ∀ q ∈ qs, q.1 ≤ f ps b := fun q m => (hq q m).resolve_right (by simp)
    have e1 := f_high ps u b p1 x hx
    have e2 := f_high qs v (f ps b) q1 (f ps x) (by rw [e1]; grind)
    show f qs (f ps x) = f qs (f ps b) + (x - b)
    rw [e2, e1]
    grind
  | c :: r, b, pw, hp, hq => by
    have lt : b < c := by
      cases pw with
      | cons a _ => exact a c List.mem_cons_self
    have pw2 : List.Pairwise (fun x y : Rat => x < y) (c :: r) := by
      cases pw with
      | cons _ a => exact a
    have ge : ∀ z ∈ c :: r, c ≤ z := fun z hz => by
      rcases List.mem_cons.mp hz with e | m
      · rw [e]; grind
      · cases pw2 with
        | cons a _ => have := a z m; grind
    have fl := f_lt ps u lt
    obtain ⟨m1, h1⟩ := f_aff ps u b c lt fun p m h => by
      rcases hp p m with a | a
      · grind
      · have := ge _ a
        grind
    obtain ⟨m2, h2⟩ := f_aff qs v (f ps b) (f ps c) fl fun q m h => by
      rcases hq q m with a | ⟨z, hz, a⟩
      · grind
      · have le := ge z hz
        have : f ps c ≤ f ps z := by
          rcases Rat.le_iff_lt_or_eq.mp le with l | l
          · exact Rat.le_of_lt (f_lt ps u l)
          · rw [l]; exact Rat.le_refl
        grind
    refine ⟨lt, ⟨m1 * m2, fun x hx hx2 => ?_⟩, ?_⟩
    · have e1 := h1 x hx hx2
      have a1 : f ps b ≤ f ps x := by
        rcases Rat.le_iff_lt_or_eq.mp hx with l | l
        · exact Rat.le_of_lt (f_lt ps u l)
        · rw [l]; exact Rat.le_refl
      have a2 : f ps x ≤ f ps c := by
        rcases Rat.le_iff_lt_or_eq.mp hx2 with l | l
        · exact Rat.le_of_lt (f_lt ps u l)
        · rw [l]; exact Rat.le_refl
      have e2 := h2 (f ps x) a1 a2
      show f qs (f ps x) = f qs (f ps b) + (x - b) * (m1 * m2)
      rw [e2, e1]
      grind
    · refine aff_of u v r c pw2 (fun p m => ?_) fun q m => ?_
      · rcases hp p m with a | a
        · exact .inl (by grind)
        · rcases List.mem_cons.mp a with e | a
          · exact .inl (by rw [e]; grind)
          · exact .inr a
      · rcases hq q m with a | ⟨z, hz, a⟩
        · exact .inl (by grind)
        · rcases List.mem_cons.mp hz with e | hz
          · exact .inl (by rw [← a, e]; grind)
          · exact .inr ⟨z, hz, a⟩
theorem up_graph {h : Rat → Rat} (hm : ∀ x y, x < y → h x < h y) : ∀ bs : List Rat, List.Pairwise (fun x y : Rat => x < y) bs → Up (graph h bs)
  | [], _ => True.intro
  | [_], _ => True.intro
  | b :: c :: r, pw => by
    cases pw with
    | cons a p2 => exact ⟨a c List.mem_cons_self, hm _ _ (a c List.mem_cons_self), up_graph hm (c :: r) p2⟩
/-- the points of the map ps, and then qs, told at beats that hold all bends -/
theorem f_then {ps qs : List Pt} (u : Up ps) (v : Up qs) (bs : List Rat) (pw : List.Pairwise (fun x y : Rat => x < y) bs) (hp : ∀ p ∈ ps, p.1 ∈ bs) (hq : ∀ q ∈ qs, ∃ z ∈ bs, f ps z = q.1) (x : Rat) :
    f (graph (fun x => f qs (f ps x)) bs) x = f qs (f ps x) := by
  cases bs with
  | nil =>
    have ep : ps = [] := by
      cases ps with
      | nil => rfl
      | cons p r => exact absurd (hp p List.mem_cons_self) (by simp)
    have eq : qs = [] := by
      cases qs with
      | nil => rfl
      | cons q r =>
        obtain ⟨z, hz, _⟩ := hq q List.mem_cons_self
        exact absurd hz (by simp)
    rw [ep, eq]
    rfl
  | cons b r =>
    have ge : ∀ z ∈ b :: r, b ≤ z := fun z hz => by
      rcases List.mem_cons.mp hz with e | m
      · rw [e]; grind
      · cases pw with
        | cons a _ => have := a z m; grind
    show (if x < b then f qs (f ps b) + (x - b) else E (b, f qs (f ps b)) (graph (fun x => f qs (f ps x)) r) x) = _
    by_cases c : x < b
    · rw [if_pos c]
      have e1 := f_low ps u b (fun p m => ge _ (hp p m)) x (by grind)
      have e2 := f_low qs v (f ps b) (fun q m => by
        obtain ⟨z, hz, a⟩ := hq q m
        have le := ge z hz
        rw [← a]
        rcases Rat.le_iff_lt_or_eq.mp le with l | l
        · exact Rat.le_of_lt (f_lt ps u l)
        · rw [l]; exact Rat.le_refl) (f ps x) (by rw [e1]; grind)
      rw [e2, e1]
      grind
    · rw [if_neg c]
      refine E_graph (fun x => f qs (f ps x)) r b (aff_of u v r b pw (fun p m => ?_) fun q m => ?_) x (by grind)
      · rcases List.mem_cons.mp (hp p m) with e | a
        · exact .inl (by rw [e]; grind)
        · exact .inr a
      · obtain ⟨z, hz, a⟩ := hq q m
        rcases List.mem_cons.mp hz with e | hz
        · exact .inl (by rw [← a, e]; grind)
        · exact .inr ⟨z, hz, a⟩
theorem up_then {ps qs : List Pt} (u : Up ps) (v : Up qs) (bs : List Rat) (pw : List.Pairwise (fun x y : Rat => x < y) bs) : Up (graph (fun x => f qs (f ps x)) bs) :=
  up_graph (fun x y h => f_lt qs v (f_lt ps u h)) bs pw
/-! ### the slope directly behind a beat -/
theorem S_near : ∀ (r : List Pt) (p : Pt) (x : Rat), Up (p :: r) → p.1 ≤ x → ∃ e, x < e ∧ ∀ y, x ≤ y → y < e → E p r y = E p r x + (y - x) * S p r x
  | [], p, x, _, _ => ⟨x + 1, by grind, fun y _ _ => by show p.2 + (y - p.1) = p.2 + (x - p.1) + (y - x) * 1; grind⟩
  | q :: r, p, x, u, h => by
    by_cases c : x < q.1
    · refine ⟨q.1, c, fun y h1 h2 => ?_⟩
      show (if y < q.1 then p.2 + (y - p.1) * slope p q else E q r y) = (if x < q.1 then p.2 + (x - p.1) * slope p q else E q r x) + (y - x) * (if x < q.1 then slope p q else S q r x)
      rw [if_pos h2, if_pos c, if_pos c]
      grind
    · obtain ⟨e, he, n⟩ := S_near r q x u.2.2 (by grind)
      refine ⟨e, he, fun y h1 h2 => ?_⟩
      show (if y < q.1 then p.2 + (y - p.1) * slope p q else E q r y) = (if x < q.1 then p.2 + (x - p.1) * slope p q else E q r x) + (y - x) * (if x < q.1 then slope p q else S q r x)
      rw [if_neg (by grind), if_neg c, if_neg c]
      exact n y h1 h2
theorem sl_near (ps : List Pt) (u : Up ps) (x : Rat) : ∃ e, x < e ∧ ∀ y, x ≤ y → y < e → f ps y = f ps x + (y - x) * sl ps x := by
  cases ps with
  | nil => exact ⟨x + 1, by grind, fun y _ _ => by show y = x + (y - x) * 1; grind⟩
  | cons p r =>
    by_cases c : x < p.1
    · refine ⟨p.1, c, fun y h1 h2 => ?_⟩
      show (if y < p.1 then p.2 + (y - p.1) else E p r y) = (if x < p.1 then p.2 + (x - p.1) else E p r x) + (y - x) * (if x < p.1 then 1 else S p r x)
      rw [if_pos h2, if_pos c, if_pos c]
      grind
    · obtain ⟨e, he, n⟩ := S_near r p x u (by grind)
      refine ⟨e, he, fun y h1 h2 => ?_⟩
      show (if y < p.1 then p.2 + (y - p.1) else E p r y) = (if x < p.1 then p.2 + (x - p.1) else E p r x) + (y - x) * (if x < p.1 then 1 else S p r x)
      rw [if_neg (by grind), if_neg c, if_neg c]
      exact n y h1 h2
/-- the pace of the map back -/
theorem sl_back (ps : List Pt) (u : Up ps) (x : Rat) : sl (sw ps) (f ps x) = 1 / sl ps x := by
  obtain ⟨e, he, n⟩ := sl_near ps u x
  obtain ⟨e', he', n'⟩ := sl_near (sw ps) (up_sw ps u) (f ps x)
  -- a beat right behind x whose second lies right behind f x
  have key : ∃ y, x < y ∧ y < e ∧ f ps y < e' := by
    have z := f_lt (sw ps) (up_sw ps u) he'
    rw [f_inv ps u] at z
    obtain ⟨y, y1, y2⟩ := between x (if e < f (sw ps) e' then e else f (sw ps) e') (by split; exact he; exact z)
    have ye : y < e := by split at y2 <;> grind
    have yz : y < f (sw ps) e' := by split at y2 <;> grind
    refine ⟨y, y1, ye, ?_⟩
    have := f_lt ps u yz
    rwa [f_inv' ps u] at this
  obtain ⟨y, y1, y2, y3⟩ := key
  have lt := f_lt ps u y1
  have e1 := n y (by grind) y2
  have e2 := n' (f ps y) (by grind) y3
  rw [f_inv ps u, f_inv ps u, e1] at e2
  have d : y - x ≠ 0 := by grind
  generalize sl ps x = m at e1 e2
  generalize sl (sw ps) (f ps x) = m' at e2
  have m0 : m ≠ 0 := by
    intro e0
    rw [e0] at e1
    grind
  have : m' * m = 1 := by grind
  grind
end M08
set_option linter.all false
namespace M04
open PySem
abbrev Row := List (Str × Rat)
structure Cue where
  nm : Str
  pa : Str
  un : Str
  q : Rat
def part (row : Row) (u : Str) : Row × Rat := match row.getLast? with
  | some (v, r) => if v = u then (row.dropLast, r) else (row, 0)
  | none => (row, 0)
def ext (row : Row) (u : Str) (q : Rat) : Row := if (part row u).2 + q = 0 then (part row u).1 else (part row u).1 ++ [(u, (part row u).2 + q)]
structure St where
  rows : List Row
  nums : List (Str × Nat)
def num (nums : List (Str × Nat)) (x : Str) : Option Nat := (nums.find? fun z => decide (z.1 = x)).map (·.2)
def idx (rows : List Row) (row : Row) : Nat := rows.findIdx fun z => decide (z = row)
def row (s : St) (c : Cue) : Row := ext (s.rows.getD ((num s.nums c.pa).getD 0) []) c.un c.q
def rows (s : St) (c : Cue) : List Row := if row s c ∈ s.rows then s.rows else s.rows ++ [row s c]
def step (s : St) (c : Cue) : St := ⟨rows s c, s.nums ++ [(c.nm, idx (rows s c) (row s c))]⟩
def init : St := ⟨[[]], [("start", 0)]⟩
def all (cs : List Cue) : St := cs.foldl step init
theorem all_app (cs : List Cue) (c : Cue) : all (cs ++ [c]) = step (all cs) c := by
  unfold all
  rw [List.foldl_append]
  rfl
/-- the numbers are those of rows -/
def NumOk (s : St) : Prop := ∀ x i, num s.nums x = some i → i < s.rows.length
theorem num_app (l : List (Str × Nat)) (a : Str) (i : Nat) (x : Str) : num (l ++ [(a, i)]) x = match num l x with
    | some j => some j
    | none => if a = x then some i else none := by
  unfold num
  rw [List.find?_append]
  cases h : l.find? fun z => decide (z.1 = x) with
  | some z => simp
  | none =>
    by_cases c : a = x
    · simp [c]
    · simp [c]
theorem row_mem (s : St) (c : Cue) : row s c ∈ rows s c := by
  unfold rows
  split
  · assumption
  · simp
theorem idx_lt {l : List Row} {r : Row} (h : r ∈ l) : idx l r < l.length := by
  unfold idx
  exact List.findIdx_lt_length_of_exists ⟨r, h, by simp⟩
theorem idx_at {l : List Row} {r : Row} (h : r ∈ l) : l[idx l r]? = some r := by
  have lt := idx_lt h
  rw [List.getElem?_eq_getElem lt]
  have : decide (l[idx l r] = r) = true := List.findIdx_getElem (xs := l) (p := fun z => decide (z = r)) (w := lt)
  rw [of_decide_eq_true this]
theorem idx_no {l : List Row} {r : Row} {m : Nat} (h : m < idx l r) (z : Row) (e : l[m]? = some z) : z ≠ r := by
  have := List.not_of_lt_findIdx (xs := l) (p := fun z => decide (z = r)) h
  have lm := (List.getElem?_eq_some_iff.mp e).1
  have e2 := (List.getElem?_eq_some_iff.mp e).2
  intro er
  rw [e2, er] at this
  simp at this
theorem step_ok (s : St) (c : Cue) (h : NumOk s) : NumOk (step s c) := by
  have le : s.rows.length ≤ (rows s c).length := by
    unfold rows
    split
    · exact Nat.le_refl _
    · rw [List.length_append]; omega
  intro x i e
  show i < (rows s c).length
  have e : num (s.nums ++ [(c.nm, idx (rows s c) (row s c))]) x = some i := e
  rw [num_app] at e
  cases hx : num s.nums x with
  | some j =>
    rw [hx] at e
    have := h x j hx
    simp at e
    omega
  | none =>
    rw [hx] at e
    dsimp only at e
    split at e
    · cases e
      exact idx_lt (row_mem s c)
    · cases e
theorem all_ok : ∀ (cs : List Cue) (s : St), NumOk s → NumOk (cs.foldl step s)
  | [], s, h => h
  | c :: r, s, h => all_ok r (step s c) (step_ok s c h)
theorem init_ok : NumOk init := by
  intro x i e
  unfold num init at e
  simp only [List.find?_cons, List.find?_nil] at e
  show i < 1
  split at e
  · cases e; decide
  · cases e
theorem len_step (s : St) (c : Cue) : (step s c).rows.length ≤ s.rows.length + 1 := by
  show (rows s c).length ≤ _
  unfold rows
  split
  · omega
  · rw [List.length_append]; exact Nat.le_refl _
theorem part_len (r : Row) (u : Str) : (part r u).1.length ≤ r.length := by
  unfold part
  split
  · split
    · rw [List.length_dropLast]; omega
    · exact Nat.le_refl _
  · exact Nat.le_refl _
theorem ext_len (r : Row) (u : Str) (q : Rat) : (ext r u q).length ≤ r.length + 1 := by
  have := part_len r u
  unfold ext
  split
  · omega
  · rw [List.length_append]; simp; omega
theorem nums_len (cs : List Cue) : (all cs).nums.length = cs.length + 1 := by
  suffices h : ∀ (cs : List Cue) (s : St), (cs.foldl step s).nums.length = s.nums.length + cs.length by
    rw [show all cs = cs.foldl step init from rfl, h, Nat.add_comm]
    rfl
  intro cs
  induction cs with
  | nil => intro s; rfl
  | cons c r ih =>
    intro s
    rw [List.foldl_cons, ih, List.length_cons]
    show (s.nums ++ [_]).length + _ = _
    rw [List.length_append, List.length_singleton]
    omega
theorem rows_len (cs : List Cue) : (all cs).rows.length ≤ cs.length + 1 := by
  suffices h : ∀ (cs : List Cue) (s : St), (cs.foldl step s).rows.length ≤ s.rows.length + cs.length by
    have := h cs init
    rw [show init.rows.length = 1 from rfl] at this
    rw [show all cs = cs.foldl step init from rfl]
    omega
  intro cs
  induction cs with
  | nil => intro s; exact Nat.le_refl _
  | cons c r ih =>
    intro s
    have := ih (step s c)
    have := len_step s c
    rw [List.foldl_cons, List.length_cons]
    omega
end M04
set_option linter.all false
namespace M04
open PySem
def AllOk (s : St) : Prop := ∀ z ∈ s.nums, z.2 < s.rows.length
theorem init_all : AllOk init := fun z hz => by
  have : z = (("start" : Str), 0) := List.mem_singleton.mp hz
  rw [this]
  decide
theorem rows_at (s : St) (c : Cue) {i : Nat} (h : i < s.rows.length) : (rows s c)[i]? = s.rows[i]? := by
  unfold rows
  split
  · rfl
  · rw [List.getElem?_append_left h]
theorem rows_le (s : St) (c : Cue) : s.rows.length ≤ (rows s c).length := by
  unfold rows
  split
  · exact Nat.le_refl _
  · rw [List.length_append]; omega
theorem step_all (s : St) (c : Cue) (h : AllOk s) : AllOk (step s c) := fun z hz => by
  show z.2 < (rows s c).length
  rcases List.mem_append.mp hz with hz | hz
  · exact Nat.lt_of_lt_of_le (h z hz) (rows_le s c)
  · rw [List.mem_singleton] at hz
    subst hz
    exact idx_lt (row_mem s c)
theorem all_all : ∀ (cs : List Cue) (s : St), AllOk s → AllOk (cs.foldl step s)
  | [], s, h => h
  | c :: r, s, h => all_all r (step s c) (step_all s c h)
/-- each name and its row -/
def tab (s : St) : List (Str × Option Row) := s.nums.map fun z => (z.1, s.rows[z.2]?)
theorem tab_step {s : St} (c : Cue) (h : AllOk s) : tab (step s c) = tab s ++ [(c.nm, some (row s c))] := by
  unfold tab
  show (s.nums ++ [(c.nm, idx (rows s c) (row s c))]).map (fun z => (z.1, (rows s c)[z.2]?)) = _
  rw [List.map_append]
  congr 1
  · refine List.map_congr_left fun z hz => ?_
    rw [rows_at s c (h z hz)]
  · show [(c.nm, (rows s c)[idx (rows s c) (row s c)]?)] = _
    rw [idx_at (row_mem s c)]
theorem tab_len (s : St) : (tab s).length = s.nums.length := List.length_map ..
theorem rows_tab : ∀ (cs : List Cue) (s : St), AllOk s → (∀ r ∈ s.rows, ∃ x, (x, some r) ∈ tab s) → ∀ r ∈ (cs.foldl step s).rows, ∃ x, (x, some r) ∈ tab (cs.foldl step s)
  | [], s, _, h => h
  | c :: rest, s, a, h => by
    refine rows_tab rest (step s c) (step_all s c a) fun r hr => ?_
    rw [tab_step c a]
    have hr : r ∈ rows s c := hr
    unfold rows at hr
    split at hr
    · obtain ⟨x, hx⟩ := h r hr
      exact ⟨x, List.mem_append_left _ hx⟩
    · rcases List.mem_append.mp hr with hr | hr
      · obtain ⟨x, hx⟩ := h r hr
        exact ⟨x, List.mem_append_left _ hx⟩
      · rw [List.mem_singleton] at hr
        subst hr
        exact ⟨c.nm, List.mem_append_right _ (List.mem_singleton.mpr rfl)⟩
theorem init_tab : ∀ r ∈ init.rows, ∃ x, (x, some r) ∈ tab init := fun r hr => by
  have : r = [] := List.mem_singleton.mp hr
  subst this
  exact ⟨"start", List.mem_singleton.mpr rfl⟩
/-- no name twice, and each parent is known -/
def Good (cs : List Cue) : Prop := ∀ (i : Nat) c, cs[i]? = some c → num (all (cs.take i)).nums c.nm = none ∧ (num (all (cs.take i)).nums c.pa).isSome = true
theorem all_take {cs : List Cue} {i : Nat} {c : Cue} (h : cs[i]? = some c) : all (cs.take (i + 1)) = step (all (cs.take i)) c := by
  rw [List.take_add_one, h]
  exact all_app _ _
theorem find_nm {α : Type} : ∀ {l : List (Str × α)} {x : Str} {a : α}, (l.map (·.1)).Nodup → (x, a) ∈ l → l.find? (fun z => decide (z.1 = x)) = some (x, a)
  | [], _, _, _, h => by cases h
  | z :: r, x, a, nd, h => by
    rw [List.map_cons, List.nodup_cons] at nd
    rw [List.find?_cons]
    rcases List.mem_cons.mp h with e | m
    · subst e
      simp
    · have : z.1 ≠ x := fun e => nd.1 (List.mem_map.mpr ⟨_, m, e.symm⟩)
      rw [decide_eq_false this]
      exact find_nm nd.2 m
theorem num_none {l : List (Str × Nat)} {x : Str} : num l x = none ↔ x ∉ l.map (·.1) := by
  unfold num
  rw [Option.map_eq_none_iff, List.find?_eq_none]
  constructor
  · intro h m
    obtain ⟨z, hz, e⟩ := List.mem_map.mp m
    exact h z hz (decide_eq_true e)
  · intro h z hz e
    exact h (List.mem_map.mpr ⟨z, hz, of_decide_eq_true e⟩)
theorem names_all (cs : List Cue) : (all cs).nums.map (·.1) = ("start" : Str) :: cs.map (·.nm) := by
  suffices h : ∀ (cs : List Cue) (s : St), (cs.foldl step s).nums.map (·.1) = s.nums.map (·.1) ++ cs.map (·.nm) by
    rw [show all cs = cs.foldl step init from rfl, h]
    rfl
  intro cs
  induction cs with
  | nil => intro s; simp
  | cons c r ih =>
    intro s
    rw [List.foldl_cons, ih]
    show (s.nums ++ [(c.nm, idx (rows s c) (row s c))]).map (fun z => z.1) ++ _ = _
    simp
theorem tab_nm (s : St) : (tab s).map (fun z => z.1) = s.nums.map (fun z => z.1) := by
  unfold tab
  rw [List.map_map]
  rfl
theorem all_take_len {cs : List Cue} {i : Nat} {c : Cue} (h : cs[i]? = some c) : (cs.take (i + 1)).length = i + 1 := by
  have := (List.getElem?_eq_some_iff.mp h).1
  rw [List.length_take]
  omega
/-- by the names alone -/
theorem good_iff (cs : List Cue) : Good cs ↔ ∀ (i : Nat) c, cs[i]? = some c → c.nm ∉ ("start" : Str) :: (cs.take i).map (·.nm) ∧ c.pa ∈ ("start" : Str) :: (cs.take i).map (·.nm) := by
  have h : ∀ (cs : List Cue) x, (num (all cs).nums x).isSome = true ↔ x ∈ ("start" : Str) :: cs.map (·.nm) := fun cs x => by
    rw [← names_all]
    have := num_none (l := (all cs).nums) (x := x)
    cases e : num (all cs).nums x with
    | none => simp [this.mp e]
    | some i =>
      refine ⟨fun _ => ?_, fun _ => rfl⟩
      apply Classical.byContradiction
      intro c
      rw [this.mpr c] at e
      cases e
  constructor
  · intro g i c e
    obtain ⟨a, b⟩ := g i c e
    exact ⟨by rw [← names_all]; exact num_none.mp a, (h _ _).mp b⟩
  · intro g i c e
    obtain ⟨a, b⟩ := g i c e
    exact ⟨num_none.mpr (by rw [names_all]; exact a), (h _ _).mpr b⟩
theorem good_take {cs : List Cue} (g : Good cs) (n : Nat) : Good (cs.take n) := fun i c e => by
  have hi : i < n := by
    have := (List.getElem?_eq_some_iff.mp e).1
    rw [List.length_take] at this
    omega
  rw [List.getElem?_take_of_lt hi] at e
  rw [List.take_take, Nat.min_eq_left (Nat.le_of_lt hi)]
  exact g i c e
theorem names_nodup {cs : List Cue} (g : Good cs) : (("start" : Str) :: cs.map (·.nm)).Nodup := by
  suffices h : ∀ n, (("start" : Str) :: (cs.take n).map (·.nm)).Nodup by
    have := h cs.length
    rwa [List.take_length] at this
  intro n
  induction n with
  | zero => simp
  | succ n ih =>
    rw [List.take_add_one]
    cases e : cs[n]? with
    | none => simpa using ih
    | some c =>
      have := ((good_iff cs).mp g n c e).1
      rw [List.map_append]
      show ((("start" : Str) :: (cs.take n).map (·.nm)) ++ [c.nm]).Nodup
      rw [List.nodup_append]
      refine ⟨ih, by simp, fun a ha b hb => ?_⟩
      have : b = c.nm := List.mem_singleton.mp hb
      subst this
      intro e
      subst e
      exact ((good_iff cs).mp g n c (by assumption)).1 ha
theorem rows_nodup : ∀ (cs : List Cue) (s : St), s.rows.Nodup → (cs.foldl step s).rows.Nodup
  | [], _, h => h
  | c :: r, s, h => by
    refine rows_nodup r (step s c) ?_
    show (rows s c).Nodup
    unfold rows
    split
    · exact h
    · rename_i n
      rw [List.nodup_append]
      refine ⟨h, by simp, fun a ha b hb => ?_⟩
      have : b = row s c := List.mem_singleton.mp hb
      subst this
      intro e
      subst e
      exact n ha
theorem sub_len {α : Type} [DecidableEq α] : ∀ {l m : List α}, l.Nodup → (∀ x ∈ l, x ∈ m) → l.length ≤ m.length
  | [], _, _, _ => Nat.zero_le _
  | a :: l, m, nd, h => by
    rw [List.nodup_cons] at nd
    have hm := h a List.mem_cons_self
    have := sub_len (l := l) (m := m.erase a) nd.2 fun x hx => by
      have ne : x ≠ a := fun e => nd.1 (e ▸ hx)
      exact (List.mem_erase_of_ne ne).mpr (h x (List.mem_cons_of_mem _ hx))
    rw [List.length_erase_of_mem hm] at this
    have : 0 < m.length := List.length_pos_of_mem hm
    rw [List.length_cons]
    omega
theorem good_snoc {cs : List Cue} {c : Cue} (g : Good cs) (h1 : c.nm ∉ ("start" : Str) :: cs.map (·.nm)) (h2 : c.pa ∈ ("start" : Str) :: cs.map (·.nm)) : Good (cs ++ [c]) := by
  rw [good_iff]
  intro i x e
  rcases Nat.lt_or_ge i cs.length with hi | hi
  · rw [List.getElem?_append_left hi] at e
    rw [List.take_append_of_le_length (Nat.le_of_lt hi)]
    exact (good_iff cs).mp g i x e
  · have : i = cs.length := by
      have := (List.getElem?_eq_some_iff.mp e).1
      rw [List.length_append, List.length_singleton] at this
      omega
    subst this
    rw [List.getElem?_append_right (Nat.le_refl _), Nat.sub_self] at e
    cases e
    rw [List.take_append_of_le_length (Nat.le_refl _), List.take_length]
    exact ⟨h1, h2⟩
/-- all rows are among xs: so many at most -/
theorem rows_few {cs : List Cue} (g : Good cs) {xs : List Row} (h0 : [] ∈ xs) (h : ∀ (i : Nat) c, cs[i]? = some c → row (all (cs.take i)) c ∈ xs) : (all cs).rows.length ≤ xs.length := by
  refine sub_len (rows_nodup cs init (by decide)) fun r hr => ?_
  suffices q : ∀ n, ∀ r ∈ (all (cs.take n)).rows, r ∈ xs by
    have := q cs.length r
    rw [List.take_length] at this
    exact this hr
  intro n
  induction n with
  | zero =>
    intro r hr
    have : r = [] := List.mem_singleton.mp hr
    rw [this]
    exact h0
  | succ n ih =>
    intro r hr
    cases e : cs[n]? with
    | none =>
      rw [List.take_of_length_le (by have := List.getElem?_eq_none_iff.mp e; omega)] at hr
      rw [List.take_of_length_le (by have := List.getElem?_eq_none_iff.mp e; omega)] at ih
      exact ih r hr
    | some c =>
      rw [all_take e] at hr
      have hr : r ∈ rows (all (cs.take n)) c := hr
      unfold rows at hr
      split at hr
      · exact ih r hr
      · rcases List.mem_append.mp hr with hr | hr
        · exact ih r hr
        · rw [List.mem_singleton] at hr
          rw [hr]
          exact h n c e
theorem tab_pre (cs : List Cue) (i : Nat) {z : Str × Option Row} (h : z ∈ tab (all (cs.take i))) : z ∈ tab (all cs) := by
  suffices q : ∀ n, z ∈ tab (all (cs.take (i + n))) by
    have := q cs.length
    rwa [List.take_of_length_le (by omega)] at this
  intro n
  induction n with
  | zero => exact h
  | succ n ih =>
    cases e : cs[i + n]? with
    | none =>
      have e0 := List.getElem?_eq_none_iff.mp e
      rw [List.take_of_length_le (by omega)]
      rwa [List.take_of_length_le (by omega)] at ih
    | some c =>
      rw [show i + (n + 1) = (i + n) + 1 from rfl, all_take e, tab_step c (show AllOk (all _) from all_all _ _ init_all)]
      exact List.mem_append_left _ ih
theorem tab_mem {cs : List Cue} {i : Nat} {c : Cue} (g : Good cs) (e : cs[i]? = some c) : (c.nm, some (row (all (cs.take i)) c)) ∈ tab (all cs) := by
  refine tab_pre cs (i + 1) ?_
  rw [all_take e, tab_step c (show AllOk (all _) from all_all _ _ init_all)]
  exact List.mem_append_right _ (List.mem_singleton.mpr rfl)
end M04
set_option linter.all false
/-! Rows as reduced words: leading on by the way from one row to another one. -/
namespace M06
open PySem M04
def Ne (p : Row) (u : Str) : Prop := ∀ v a, p.getLast? = some (v, a) → v ≠ u
inductive W : Row → Prop
  | nil : W []
  | snoc {r : Row} {u : Str} {q : Rat} : W r → q ≠ 0 → Ne r u → W (r ++ [(u, q)])
def glue (p : Row) (u : Str) (c : Rat) : Row := if c = 0 then p else p ++ [(u, c)]
theorem part_snoc (r : Row) (v u : Str) (a : Rat) : part (r ++ [(v, a)]) u = if v = u then (r, a) else (r ++ [(v, a)], 0) := by
  unfold part
  rw [List.getLast?_concat]
  simp
theorem part_ne {p : Row} {u : Str} (h : Ne p u) : part p u = (p, 0) := by
  unfold part
  cases e : p.getLast? with
  | none => rfl
  | some z =>
    obtain ⟨v, a⟩ := z
    simp [h v a e]
theorem part_glue {p : Row} {u : Str} {b : Rat} (h : Ne p u) : part (glue p u b) u = (p, b) := by
  unfold glue
  by_cases c : b = 0
  · rw [if_pos c, part_ne h, c]
  · rw [if_neg c, part_snoc, if_pos rfl]
theorem ext_glue {p : Row} {u : Str} {b q : Rat} (h : Ne p u) : ext (glue p u b) u q = glue p u (b + q) := by
  unfold ext
  rw [part_glue h]
  rfl
theorem W_glue {p : Row} {u : Str} {b : Rat} (w : W p) (h : Ne p u) : W (glue p u b) := by
  unfold glue
  by_cases c : b = 0
  · rw [if_pos c]
    exact w
  · rw [if_neg c]
    exact w.snoc c h
theorem W_dec {r : Row} (w : W r) (u : Str) : ∃ p b, W p ∧ Ne p u ∧ r = glue p u b := by
  cases w with
  | nil => exact ⟨[], 0, .nil, (fun v a e => by cases e), by unfold glue; rw [if_pos rfl]⟩
  | @snoc r v q w c h =>
    by_cases e : v = u
    · exact ⟨r, q, w, e ▸ h, by unfold glue; rw [if_neg c, e]⟩
    · refine ⟨r ++ [(v, q)], 0, w.snoc c h, fun v' a e' => ?_, by unfold glue; rw [if_pos rfl]⟩
      rw [List.getLast?_concat] at e'
      cases e'
      exact e
theorem ext_W {r : Row} (w : W r) (u : Str) (q : Rat) : W (ext r u q) := by
  obtain ⟨p, b, wp, h, rfl⟩ := W_dec w u
  rw [ext_glue h]
  exact W_glue wp h
theorem ext_ext {r : Row} (w : W r) (u : Str) (a b : Rat) : ext (ext r u a) u b = ext r u (a + b) := by
  obtain ⟨p, c, wp, h, rfl⟩ := W_dec w u
  rw [ext_glue h, ext_glue h, ext_glue h, Rat.add_assoc]
theorem ext_zero {r : Row} (w : W r) (u : Str) : ext r u 0 = r := by
  obtain ⟨p, c, wp, h, rfl⟩ := W_dec w u
  rw [ext_glue h, Rat.add_zero]
def act (s r : Row) : Row := s.foldl (fun r z => ext r z.1 z.2) r
theorem act_app (s t r : Row) : act (s ++ t) r = act t (act s r) := List.foldl_append
theorem act_W : ∀ (s : Row) {r : Row}, W r → W (act s r)
  | [], _, w => w
  | z :: s, _, w => act_W s (ext_W w z.1 z.2)
theorem act_glue {p r : Row} {u : Str} {c : Rat} (w : W r) : act (glue p u c) r = ext (act p r) u c := by
  unfold glue
  by_cases e : c = 0
  · rw [if_pos e, e, ext_zero (act_W p w)]
  · rw [if_neg e, act_app]
    rfl
theorem act_ext {w r : Row} (hw : W w) (hr : W r) (u : Str) (a : Rat) : act (ext w u a) r = ext (act w r) u a := by
  obtain ⟨p, b, wp, h, rfl⟩ := W_dec hw u
  rw [ext_glue h, act_glue hr, act_glue hr, ext_ext (act_W p hr)]
theorem act_act : ∀ (s : Row) {w r : Row}, W w → W r → act (act s w) r = act s (act w r)
  | [], _, _, _, _ => rfl
  | z :: s, w, r, hw, hr => by
    show act (act s (ext w z.1 z.2)) r = act s (ext (act w r) z.1 z.2)
    rw [act_act s (ext_W hw _ _) hr, act_ext hw hr]
def neg (r : Row) : Row := (r.map fun z => (z.1, -z.2)).reverse
theorem act_neg {r : Row} (w : W r) : act (neg r) r = [] := by
  induction w with
  | nil => rfl
  | @snoc r u q w c h ih =>
    have e : neg (r ++ [(u, q)]) = (u, -q) :: neg r := by
      unfold neg
      rw [List.map_append, List.reverse_append]
      rfl
    have g : r ++ [(u, q)] = glue r u q := by
      unfold glue
      rw [if_neg c]
    rw [e]
    show act (neg r) (ext (r ++ [(u, q)]) u (-q)) = []
    rw [g, ext_glue h, Rat.add_neg_cancel]
    unfold glue
    rw [if_pos rfl]
    exact ih
theorem act_self {r : Row} (w : W r) : act r [] = r := by
  induction w with
  | nil => rfl
  | @snoc r u q w c h ih =>
    have g : r ++ [(u, q)] = glue r u q := by
      unfold glue
      rw [if_neg c]
    rw [g, act_glue .nil, ih]
    have g0 : glue r u 0 = r := by
      unfold glue
      rw [if_pos rfl]
    have := ext_glue (b := 0) (q := q) h
    rw [g0, Rat.zero_add] at this
    exact this
def way (r1 r2 : Row) : Row := act r2 (act (neg r1) [])
/-- led on by the way to the other row, a row is the other one -/
theorem way_leads {r1 r2 : Row} (w1 : W r1) (w2 : W r2) : act (way r1 r2) r1 = r2 := by
  unfold way
  rw [← act_app, act_act _ .nil w1, act_app]
  show act r2 (act (neg r1) r1) = r2
  rw [act_neg w1, act_self w2]
theorem way_W {r1 r2 : Row} : W (way r1 r2) := act_W _ (act_W _ .nil)
theorem rows_W : ∀ (cs : List Cue) (s : M04.St), (∀ r ∈ s.rows, W r) → ∀ r ∈ (cs.foldl step s).rows, W r
  | [], _, h => h
  | c :: cs, s, h => by
    refine rows_W cs (step s c) fun r hr => ?_
    have hg : W (row s c) := by
      unfold row
      refine ext_W ?_ _ _
      rw [List.getD_eq_getElem?_getD]
      cases e : s.rows[(num s.nums c.pa).getD 0]? with
      | none => exact .nil
      | some z => exact h z (List.mem_of_getElem? e)
    have hr' : r ∈ rows s c := hr
    unfold rows at hr'
    split at hr'
    · exact h r hr'
    · rcases List.mem_append.mp hr' with m | m
      · exact h r m
      · rw [List.mem_singleton.mp m]
        exact hg
theorem all_W (cs : List Cue) : ∀ r ∈ (all cs).rows, W r := rows_W cs init fun r hr => by
  rw [List.mem_singleton.mp hr]
  exact .nil
end M06
set_option linter.all false
/-! Bounds by value: all amounts of a sheet's rows have one common bottom. -/
namespace M06
open PySem M04
/-- q times D is an int of at most X -/
def VB (D X : Nat) (q : Rat) : Prop := ∃ N : Int, q * (D : Rat) = (N : Rat) ∧ N.natAbs ≤ X
theorem VB.zero {D X : Nat} : VB D X 0 := ⟨0, by rw [Rat.zero_mul]; rfl, Nat.zero_le _⟩
theorem VB.mono {D X Y : Nat} {q : Rat} (h : VB D X q) (e : X ≤ Y) : VB D Y q := let ⟨N, a, b⟩ := h; ⟨N, a, Nat.le_trans b e⟩
theorem VB.neg {D X : Nat} {q : Rat} (h : VB D X q) : VB D X (-q) := by
  obtain ⟨N, a, b⟩ := h
  exact ⟨-N, by rw [Rat.neg_mul, a, Rat.intCast_neg], by rw [Int.natAbs_neg]; exact b⟩
theorem VB.add {D X Y : Nat} {q r : Rat} (h : VB D X q) (k : VB D Y r) : VB D (X + Y) (q + r) := by
  obtain ⟨N, a, b⟩ := h
  obtain ⟨M, c, d⟩ := k
  exact ⟨N + M, by rw [Rat.add_mul, a, c, Rat.intCast_add], Nat.le_trans (Int.natAbs_add_le _ _) (Nat.add_le_add b d)⟩
def RVB (D X : Nat) (r : Row) : Prop := ∀ z ∈ r, VB D X z.2
theorem RVB.nil {D X : Nat} : RVB D X [] := fun z hz => by cases hz
theorem RVB.mono {D X Y : Nat} {r : Row} (h : RVB D X r) (e : X ≤ Y) : RVB D Y r := fun z hz => (h z hz).mono e
theorem part_VB {D X : Nat} {r : Row} (h : RVB D X r) (u : Str) : RVB D X (part r u).1 ∧ VB D X (part r u).2 := by
  unfold part
  cases e : r.getLast? with
  | none => exact ⟨h, VB.zero⟩
  | some z =>
    obtain ⟨v, q⟩ := z
    show RVB D X (if v = u then (r.dropLast, q) else (r, 0)).1 ∧ VB D X (if v = u then (r.dropLast, q) else (r, 0)).2
    by_cases c : v = u
    · rw [if_pos c]
      exact ⟨fun z hz => h z (List.dropLast_subset _ hz), h (v, q) (List.mem_of_getLast? e)⟩
    · rw [if_neg c]
      exact ⟨h, VB.zero⟩
theorem ext_VB {D X Y : Nat} {r : Row} {q : Rat} (h : RVB D X r) (u : Str) (k : VB D Y q) : RVB D (X + Y) (ext r u q) := by
  obtain ⟨h1, h2⟩ := part_VB h u
  unfold ext
  split
  · exact h1.mono (Nat.le_add_right _ _)
  · intro z hz
    rcases List.mem_append.mp hz with m | m
    · exact (h1 z m).mono (Nat.le_add_right _ _)
    · rw [List.mem_singleton.mp m]
      exact h2.add k
theorem act_VB {D X Y : Nat} : ∀ (s : Row) {r : Row}, RVB D Y s → RVB D X r → RVB D (X + s.length * Y) (act s r)
  | [], r, _, h => by
    show RVB D _ r
    exact h.mono (Nat.le_add_right _ _)
  | z :: s, r, hs, h => by
    show RVB D _ (act s (ext r z.1 z.2))
    refine (act_VB s (fun y hy => hs y (List.mem_cons_of_mem _ hy)) (ext_VB h z.1 (hs z List.mem_cons_self))).mono ?_
    rw [List.length_cons, Nat.add_mul, Nat.one_mul]
    omega
theorem neg_VB {D X : Nat} {r : Row} (h : RVB D X r) : RVB D X (neg r) := fun z hz => by
  unfold neg at hz
  obtain ⟨y, hy, e⟩ := List.mem_map.mp (List.mem_reverse.mp hz)
  rw [← e]
  exact (h y hy).neg
theorem neg_len (r : Row) : (neg r).length = r.length := by
  unfold neg
  rw [List.length_reverse, List.length_map]
theorem act_len : ∀ (s r : Row), (act s r).length ≤ r.length + s.length
  | [], r => Nat.le_refl _
  | z :: s, r => by
    have h1 := act_len s (ext r z.1 z.2)
    have h2 := ext_len r z.1 z.2
    show (act s (ext r z.1 z.2)).length ≤ _
    rw [List.length_cons]
    omega
theorem way_VB {D X : Nat} {r1 r2 : Row} (h1 : RVB D X r1) (h2 : RVB D X r2) : RVB D ((r1.length + r2.length) * X) (way r1 r2) := by
  unfold way
  refine (act_VB r2 h2 (act_VB (neg r1) (neg_VB h1) RVB.nil (X := 0))).mono ?_
  rw [neg_len, Nat.add_mul]
  omega
theorem way_len (r1 r2 : Row) : (way r1 r2).length ≤ r1.length + r2.length := by
  have h1 := act_len r2 (act (neg r1) [])
  have h2 := act_len (neg r1) []
  rw [neg_len] at h2
  unfold way
  simp only [List.length_nil] at h2
  omega
theorem act_take (s r : Row) (n : Nat) {z : Str × Rat} (h : s[n]? = some z) : act (s.take (n + 1)) r = ext (act (s.take n) r) z.1 z.2 := by
  rw [List.take_add_one, h, act_app]
  rfl
theorem rows_VB {D X : Nat} : ∀ (cs : List Cue) (s : M04.St) (n : Nat), (∀ c ∈ cs, VB D X c.q) → (∀ r ∈ s.rows, RVB D (n * X) r) → ∀ r ∈ (cs.foldl step s).rows, RVB D ((n + cs.length) * X) r
  | [], _, n, _, h => h
  | c :: cs, s, n, hc, h => by
    have hs : ∀ r ∈ (step s c).rows, RVB D ((n + 1) * X) r := fun r hr => by
      have hg : RVB D ((n + 1) * X) (row s c) := by
        unfold row
        rw [Nat.add_mul, Nat.one_mul]
        refine ext_VB ?_ _ (hc c List.mem_cons_self)
        rw [List.getD_eq_getElem?_getD]
        cases e : s.rows[(num s.nums c.pa).getD 0]? with
        | none => exact RVB.nil
        | some z => exact h z (List.mem_of_getElem? e)
      have hr' : r ∈ rows s c := hr
      unfold rows at hr'
      split at hr'
      · exact (h r hr').mono (Nat.mul_le_mul_right _ (Nat.le_succ _))
      · rcases List.mem_append.mp hr' with m | m
        · exact (h r m).mono (Nat.mul_le_mul_right _ (Nat.le_succ _))
        · rw [List.mem_singleton.mp m]
          exact hg
    intro r hr
    have := rows_VB cs (step s c) (n + 1) (fun c' hc' => hc c' (List.mem_cons_of_mem _ hc')) hs r hr
    rw [List.length_cons, show n + (cs.length + 1) = n + 1 + cs.length by omega]
    exact this
theorem all_VB {D X : Nat} {cs : List Cue} (h : ∀ c ∈ cs, VB D X c.q) : ∀ r ∈ (all cs).rows, RVB D (cs.length * X) r := fun r hr => by
  have := rows_VB cs init 0 h (fun r hr => by
    rw [List.mem_singleton.mp hr]
    exact RVB.nil) r hr
  rwa [Nat.zero_add] at this
/-- the product of the bottoms -/
def prodB (us : List Int) : Nat := us.foldr (fun u n => u.natAbs * n) 1
theorem prodB_pos : ∀ {us : List Int}, (∀ u ∈ us, 0 < u) → 0 < prodB us
  | [], _ => Nat.one_pos
  | u :: r, h => Nat.mul_pos (Int.natAbs_pos.mpr (Int.ne_of_gt (h u List.mem_cons_self))) (prodB_pos fun v hv => h v (List.mem_cons_of_mem _ hv))
theorem prodB_dvd : ∀ {us : List Int} {u : Int}, u ∈ us → u.natAbs ∣ prodB us
  | v :: r, u, h => by
    rcases List.mem_cons.mp h with e | m
    · rw [e]
      exact Nat.dvd_mul_right _ _
    · exact Nat.dvd_trans (prodB_dvd m) (Nat.dvd_mul_left _ _)
theorem prodB_lt {n : Nat} : ∀ {us : List Int}, (∀ u ∈ us, u.natAbs < 2 ^ n) → prodB us ≤ 2 ^ (n * us.length)
  | [], _ => Nat.le_refl _
  | u :: r, h => by
    show u.natAbs * prodB r ≤ _
    rw [List.length_cons, Nat.mul_add, Nat.mul_one, Nat.pow_add, Nat.mul_comm]
    exact Nat.mul_le_mul (prodB_lt fun v hv => h v (List.mem_cons_of_mem _ hv)) (Nat.le_of_lt (h u List.mem_cons_self))
end M06
set_option linter.all false
/-! Bounds by value of a map's answers: every pace times P is an int, every point's parts times D too. -/
namespace M09
open PySem M08
open M06 (VB)
theorem VB.mul {D X P M : Nat} {q s : Rat} (h : VB D X q) (k : VB P M s) : VB (D * P) (X * M) (q * s) := by
  obtain ⟨N, a, b⟩ := h
  obtain ⟨L, c, d⟩ := k
  refine ⟨N * L, ?_, ?_⟩
  · rw [Rat.intCast_mul, ← a, ← c, Rat.natCast_mul]
    grind
  · rw [Int.natAbs_mul]
    exact Nat.mul_le_mul b d
theorem VB.up {D X : Nat} (P : Nat) {q : Rat} (h : VB D X q) : VB (D * P) (X * P) q := by
  obtain ⟨N, a, b⟩ := h
  refine ⟨N * (P : Int), ?_, ?_⟩
  · rw [Rat.intCast_mul, ← a, Rat.natCast_mul]
    show q * ((D : Rat) * (P : Rat)) = q * (D : Rat) * (P : Rat)
    grind
  · rw [Int.natAbs_mul, Int.natAbs_natCast]
    exact Nat.mul_le_mul_right _ b
/-- the map's right pace is told by its answers -/
theorem sl_ext {ps qs : List Pt} (u : Up ps) (v : Up qs) (h : ∀ x, f ps x = f qs x) (x : Rat) : sl ps x = sl qs x := by
  obtain ⟨e1, h1, n1⟩ := sl_near ps u x
  obtain ⟨e2, h2, n2⟩ := sl_near qs v x
  obtain ⟨y, y1, y2⟩ := between x (if e1 < e2 then e1 else e2) (by split; exact h1; exact h2)
  have a := n1 y (by grind) (by split at y2 <;> grind)
  have b := n2 y (by grind) (by split at y2 <;> grind)
  rw [h y, b, h x] at a
  have d : y - x ≠ 0 := by grind
  grind
/-- composed maps' pace -/
theorem sl_comp {ps qs ts : List Pt} (u : Up ps) (v : Up qs) (w : Up ts) (h : ∀ x, f ts x = f qs (f ps x)) (x : Rat) : sl ts x = sl qs (f ps x) * sl ps x := by
  obtain ⟨e1, h1, n1⟩ := sl_near ps u x
  obtain ⟨e2, h2, n2⟩ := sl_near qs v (f ps x)
  obtain ⟨e3, h3, n3⟩ := sl_near ts w x
  have z := f_lt (sw ps) (up_sw ps u) h2
  rw [f_inv ps u] at z
  obtain ⟨y, y1, y2⟩ := between x (if e1 < e3 then (if e1 < f (sw ps) e2 then e1 else f (sw ps) e2) else (if e3 < f (sw ps) e2 then e3 else f (sw ps) e2)) (by split <;> split <;> assumption)
  have a1 : y < e1 := by split at y2 <;> split at y2 <;> grind
  have a3 : y < e3 := by split at y2 <;> split at y2 <;> grind
  have a2 : f ps y < e2 := by
    have := f_lt ps u (show y < f (sw ps) e2 by split at y2 <;> split at y2 <;> grind)
    rwa [f_inv' ps u] at this
  have lt := f_lt ps u y1
  have b1 := n1 y (by grind) a1
  have b2 := n2 (f ps y) (by grind) a2
  have b3 := n3 y (by grind) a3
  rw [h y, h x, b2] at b3
  have d : y - x ≠ 0 := by grind
  have b4 : f ps y - f ps x = (y - x) * sl ps x := by grind
  rw [b4] at b3
  have b5 : (y - x) * (sl ps x * sl qs (f ps x)) = (y - x) * sl ts x := by grind
  grind
/-- a map's answer, from one of its points by the pace there -/
theorem E_at : ∀ (r : List Pt) (p : Pt) (x : Rat), ∃ q ∈ p :: r, E p r x = q.2 + (x - q.1) * S p r x
  | [], p, x => ⟨p, .head _, by show p.2 + (x - p.1) = p.2 + (x - p.1) * 1; grind⟩
  | q :: r, p, x => by
    by_cases c : x < q.1
    · refine ⟨p, .head _, ?_⟩
      show (if x < q.1 then p.2 + (x - p.1) * slope p q else E q r x) = p.2 + (x - p.1) * (if x < q.1 then slope p q else S q r x)
      rw [if_pos c, if_pos c]
    · obtain ⟨t, ht, e⟩ := E_at r q x
      refine ⟨t, .tail _ ht, ?_⟩
      show (if x < q.1 then p.2 + (x - p.1) * slope p q else E q r x) = t.2 + (x - t.1) * (if x < q.1 then slope p q else S q r x)
      rw [if_neg c, if_neg c]
      exact e
theorem f_at (p : Pt) (r : List Pt) (x : Rat) : ∃ q ∈ p :: r, f (p :: r) x = q.2 + (x - q.1) * sl (p :: r) x := by
  by_cases c : x < p.1
  · refine ⟨p, .head _, ?_⟩
    show (if x < p.1 then p.2 + (x - p.1) else E p r x) = p.2 + (x - p.1) * (if x < p.1 then 1 else S p r x)
    rw [if_pos c, if_pos c]
    grind
  · obtain ⟨t, ht, e⟩ := E_at r p x
    refine ⟨t, ht, ?_⟩
    show (if x < p.1 then p.2 + (x - p.1) else E p r x) = t.2 + (x - t.1) * (if x < p.1 then 1 else S p r x)
    rw [if_neg c, if_neg c]
    exact e
/-- the paces of a map, bounded by value -/
def SlV (P M : Nat) (ps : List Pt) : Prop := ∀ x, VB P M (sl ps x)
/-- the parts of its points -/
def PtV (D Y : Nat) (ps : List Pt) : Prop := ∀ p ∈ ps, VB D Y p.1 ∧ VB D Y p.2
theorem f_VB {D P M X Y : Nat} {ps : List Pt} (hs : SlV P M ps) (hp : PtV D Y ps) (hPM : P ≤ M) {x : Rat} (hx : VB D X x) : VB (D * P) (Y * P + (X + Y) * M) (f ps x) := by
  cases ps with
  | nil =>
    refine (VB.up P hx).mono ?_
    calc X * P ≤ (X + Y) * M := Nat.mul_le_mul (Nat.le_add_right _ _) hPM
      _ ≤ _ := Nat.le_add_left _ _
  | cons p r =>
    obtain ⟨q, hq, e⟩ := f_at p r x
    obtain ⟨h1, h2⟩ := hp q hq
    rw [e]
    have d : VB D (X + Y) (x - q.1) := by
      rw [Rat.sub_eq_add_neg]
      exact hx.add h1.neg
    exact (VB.up P h2).add (VB.mul d (hs x))
theorem SlV.comp {P M P2 M2 : Nat} {ps qs ts : List Pt} (u : Up ps) (v : Up qs) (w : Up ts) (h : ∀ x, f ts x = f qs (f ps x)) (a : SlV P M ps) (b : SlV P2 M2 qs) : SlV (P2 * P) (M2 * M) ts := fun x => by
  rw [sl_comp u v w h x]
  exact VB.mul (b _) (a x)
/-- the paces back: where each pace's reciprocal is bounded -/
theorem SlV.back {P M : Nat} {ps : List Pt} (u : Up ps) (h : ∀ x, VB P M (1 / sl ps x)) : SlV P M (sw ps) := fun y => by
  have := sl_back ps u (f (sw ps) y)
  rw [f_inv' ps u] at this
  rw [this]
  exact h _
theorem SlV.ext {P M : Nat} {ps qs : List Pt} (u : Up ps) (v : Up qs) (h : ∀ x, f ps x = f qs x) (a : SlV P M ps) : SlV P M qs := fun x => by
  rw [← sl_ext u v h x]
  exact a x
/-- the product of the steps' lengths, in parts of C -/
def dens (C : Nat) : List Pt → Nat
  | [] => 1
  | [_] => 1
  | p :: q :: r => ((q.1 - p.1) * (C : Rat)).num.natAbs * dens C (q :: r)
theorem num_of {q : Rat} {N : Int} (h : q = (N : Rat)) : q.num = N := by
  rw [h]
  rfl
theorem S_VB {C Y : Nat} (hC : 0 < C) : ∀ (r : List Pt) (p : Pt), Up (p :: r) → PtV C Y (p :: r) → 0 < dens C (p :: r) ∧ dens C (p :: r) ≤ (Y + Y) ^ r.length ∧ ∀ x, VB (dens C (p :: r)) ((Y + Y) ^ r.length) (S p r x)
  | [], p, _, _ => ⟨Nat.one_pos, Nat.le_refl _, fun x => ⟨1, by show (1 : Rat) * ((1 : Nat) : Rat) = ((1 : Int) : Rat); rw [Rat.one_mul]; rfl, by show Int.natAbs 1 ≤ (Y + Y) ^ 0; exact Nat.le_refl 1⟩⟩
  | q :: r, p, u, h => by
    obtain ⟨d0, d1, dv⟩ := S_VB hC r q u.2.2 fun z hz => h z (.tail _ hz)
    obtain ⟨hp1, hp2⟩ := h p (.head _)
    obtain ⟨hq1, hq2⟩ := h q (.tail _ (.head _))
    have hc : (0 : Rat) < (C : Rat) := by exact_mod_cast hC
    have b1 : VB C (Y + Y) (q.1 - p.1) := by
      rw [Rat.sub_eq_add_neg]
      exact hq1.add hp1.neg
    have b2 : VB C (Y + Y) (q.2 - p.2) := by
      rw [Rat.sub_eq_add_neg]
      exact hq2.add hp2.neg
    obtain ⟨B, eB, lB⟩ := b1
    obtain ⟨A, eA, lA⟩ := b2
    have pos : (0 : Rat) < (B : Rat) := by
      rw [← eB]
      exact Rat.mul_pos (by have := u.1; grind) hc
    have posB : 0 < B := by exact_mod_cast pos
    have nB : ((q.1 - p.1) * (C : Rat)).num.natAbs = B.natAbs := by rw [num_of eB]
    have e : dens C (p :: q :: r) = B.natAbs * dens C (q :: r) := by
      show ((q.1 - p.1) * (C : Rat)).num.natAbs * dens C (q :: r) = _
      rw [nB]
    have len : (q :: r).length = r.length + 1 := rfl
    rw [e, len, Nat.pow_succ, Nat.mul_comm ((Y + Y) ^ r.length)]
    refine ⟨Nat.mul_pos (by omega) d0, Nat.mul_le_mul lB d1, fun x => ?_⟩
    by_cases c : x < q.1
    · have es : S p (q :: r) x = slope p q := by
        show (if x < q.1 then slope p q else S q r x) = _
        rw [if_pos c]
      rw [es]
      have cb : ((B.natAbs : Nat) : Rat) = (B : Rat) := by
        have : ((B.natAbs : Nat) : Int) = B := by omega
        show (((B.natAbs : Nat) : Int) : Rat) = (B : Rat)
        rw [this]
      have sv : VB B.natAbs (Y + Y) (slope p q) := by
        refine ⟨A, ?_, lA⟩
        rw [cb, ← eB, ← eA]
        unfold slope
        have d : q.1 - p.1 ≠ 0 := by have := u.1; grind
        rw [Rat.div_def]
        have := Rat.inv_mul_cancel _ d
        grind
      exact (VB.up (dens C (q :: r)) sv).mono (Nat.mul_le_mul_left _ d1)
    · have es : S p (q :: r) x = S q r x := by
        show (if x < q.1 then slope p q else S q r x) = _
        rw [if_neg c]
      rw [es, Nat.mul_comm B.natAbs, Nat.mul_comm (Y + Y)]
      exact (VB.up B.natAbs (dv x)).mono (Nat.mul_le_mul_left _ lB)
/-- the paces of a drawn map -/
theorem SlV.base {C Y : Nat} (hC : 0 < C) (hY : 0 < Y) {ps : List Pt} (u : Up ps) (h : PtV C Y ps) : ∃ P, 0 < P ∧ P ≤ (Y + Y) ^ ps.length ∧ SlV P ((Y + Y) ^ ps.length) ps := by
  cases ps with
  | nil => exact ⟨1, Nat.one_pos, Nat.le_refl _, fun x => ⟨1, by show (1 : Rat) * ((1 : Nat) : Rat) = ((1 : Int) : Rat); rw [Rat.one_mul]; rfl, Nat.le_refl 1⟩⟩
  | cons p r =>
    obtain ⟨d0, d1, dv⟩ := S_VB hC r p u h
    have le : (Y + Y) ^ r.length ≤ (Y + Y) ^ (p :: r).length := Nat.pow_le_pow_right (by omega) (Nat.le_succ _)
    refine ⟨_, d0, Nat.le_trans d1 le, fun x => ?_⟩
    by_cases c : x < p.1
    · have e : sl (p :: r) x = 1 := by
        show (if x < p.1 then 1 else S p r x) = 1
        rw [if_pos c]
      rw [e]
      exact ⟨(dens C (p :: r) : Nat), by rw [Rat.one_mul]; rfl, by rw [Int.natAbs_natCast]; exact Nat.le_trans d1 le⟩
    · have e : sl (p :: r) x = S p r x := by
        show (if x < p.1 then 1 else S p r x) = _
        rw [if_neg c]
      rw [e]
      exact (dv x).mono le
end M09
set_option linter.all false
/-! Two rising lists merged. -/
namespace M09
structure Mrg (as bs : List Rat) (i k : Nat) (vs : List Rat) : Prop where
  pw : vs.Pairwise (· < ·)
  mem : ∀ v, v ∈ vs ↔ v ∈ as.take i ∨ v ∈ bs.take k
  la : ∀ v ∈ vs, ∀ (j : Nat) a, i ≤ j → as[j]? = some a → v < a
  lb : ∀ v ∈ vs, ∀ (j : Nat) b, k ≤ j → bs[j]? = some b → v < b
  ia : i ≤ as.length
  kb : k ≤ bs.length
  n : vs.length ≤ i + k
theorem Mrg.nil {as bs : List Rat} : Mrg as bs 0 0 [] := ⟨List.Pairwise.nil, fun v => by simp, fun v h => (by cases h), fun v h => (by cases h), Nat.zero_le _, Nat.zero_le _, Nat.le_refl _⟩
theorem pw_at {as : List Rat} (h : as.Pairwise (· < ·)) {i j : Nat} {a b : Rat} (e1 : as[i]? = some a) (e2 : as[j]? = some b) (c : i < j) : a < b := by
  obtain ⟨h1, h2⟩ := List.getElem?_eq_some_iff.mp e1
  obtain ⟨h3, h4⟩ := List.getElem?_eq_some_iff.mp e2
  rw [← h2, ← h4]
  exact List.pairwise_iff_getElem.mp h i j h1 h3 c
theorem take_mem {as : List Rat} {i : Nat} {a : Rat} (e : as[i]? = some a) (v : Rat) : v ∈ as.take (i + 1) ↔ v ∈ as.take i ∨ v = a := by
  rw [List.take_add_one, e, List.mem_append]
  simp
theorem Mrg.b {as bs vs : List Rat} {i k : Nat} (ha : as.Pairwise (· < ·)) (hb : bs.Pairwise (· < ·)) (h : Mrg as bs i k vs) {b : Rat} (eb : bs[k]? = some b) (lt : ∀ (j : Nat) a, i ≤ j → as[j]? = some a → b < a) : Mrg as bs i (k + 1) (vs ++ [b]) := by
  refine ⟨?_, fun v => ?_, fun v hv j a hj e => ?_, fun v hv j c hj e => ?_, h.ia, (List.getElem?_eq_some_iff.mp eb).1, ?_⟩
  · rw [List.pairwise_append]
    exact ⟨h.pw, List.pairwise_singleton _ _, fun v hv w hw => by rw [List.mem_singleton.mp hw]; exact h.lb v hv k b (Nat.le_refl _) eb⟩
  · rw [List.mem_append, List.mem_singleton, h.mem, take_mem eb]
    constructor
    · rintro ((x | x) | x)
      · exact .inl x
      · exact .inr (.inl x)
      · exact .inr (.inr x)
    · rintro (x | x | x)
      · exact .inl (.inl x)
      · exact .inl (.inr x)
      · exact .inr x
  · rcases List.mem_append.mp hv with x | x
    · exact h.la v x j a hj e
    · rw [List.mem_singleton.mp x]
      exact lt j a hj e
  · rcases List.mem_append.mp hv with x | x
    · exact h.lb v x j c (by omega) e
    · rw [List.mem_singleton.mp x]
      exact pw_at hb eb e (by omega)
  · rw [List.length_append]
    have := h.n
    show vs.length + 1 ≤ i + (k + 1)
    omega
theorem Mrg.a {as bs vs : List Rat} {i k : Nat} (ha : as.Pairwise (· < ·)) (hb : bs.Pairwise (· < ·)) (h : Mrg as bs i k vs) {a : Rat} (ea : as[i]? = some a) (lt : ∀ (j : Nat) b, k ≤ j → bs[j]? = some b → a < b) : Mrg as bs (i + 1) k (vs ++ [a]) := by
  refine ⟨?_, fun v => ?_, fun v hv j c hj e => ?_, fun v hv j b hj e => ?_, (List.getElem?_eq_some_iff.mp ea).1, h.kb, ?_⟩
  · rw [List.pairwise_append]
    exact ⟨h.pw, List.pairwise_singleton _ _, fun v hv w hw => by rw [List.mem_singleton.mp hw]; exact h.la v hv i a (Nat.le_refl _) ea⟩
  · rw [List.mem_append, List.mem_singleton, h.mem, take_mem ea]
    constructor
    · rintro ((x | x) | x)
      · exact .inl (.inl x)
      · exact .inr x
      · exact .inl (.inr x)
    · rintro ((x | x) | x)
      · exact .inl (.inl x)
      · exact .inr x
      · exact .inl (.inr x)
  · rcases List.mem_append.mp hv with x | x
    · exact h.la v x j c (by omega) e
    · rw [List.mem_singleton.mp x]
      exact pw_at ha ea e (by omega)
  · rcases List.mem_append.mp hv with x | x
    · exact h.lb v x j b hj e
    · rw [List.mem_singleton.mp x]
      exact lt j b hj e
  · rw [List.length_append]
    have := h.n
    show vs.length + 1 ≤ i + 1 + k
    omega
/-- both lists have the next one -/
theorem Mrg.ab {as bs vs : List Rat} {i k : Nat} (ha : as.Pairwise (· < ·)) (hb : bs.Pairwise (· < ·)) (h : Mrg as bs i k vs) {a : Rat} (ea : as[i]? = some a) (eb : bs[k]? = some a) : Mrg as bs (i + 1) (k + 1) (vs ++ [a]) := by
  refine ⟨?_, fun v => ?_, fun v hv j c hj e => ?_, fun v hv j b hj e => ?_, (List.getElem?_eq_some_iff.mp ea).1, (List.getElem?_eq_some_iff.mp eb).1, ?_⟩
  · rw [List.pairwise_append]
    exact ⟨h.pw, List.pairwise_singleton _ _, fun v hv w hw => by rw [List.mem_singleton.mp hw]; exact h.la v hv i a (Nat.le_refl _) ea⟩
  · rw [List.mem_append, List.mem_singleton, h.mem, take_mem ea, take_mem eb]
    constructor
    · rintro ((x | x) | x)
      · exact .inl (.inl x)
      · exact .inr (.inl x)
      · exact .inl (.inr x)
    · rintro ((x | x) | (x | x))
      · exact .inl (.inl x)
      · exact .inr x
      · exact .inl (.inr x)
      · exact .inr x
  · rcases List.mem_append.mp hv with x | x
    · exact h.la v x j c (by omega) e
    · rw [List.mem_singleton.mp x]
      exact pw_at ha ea e (by omega)
  · rcases List.mem_append.mp hv with x | x
    · exact h.lb v x j b (by omega) e
    · rw [List.mem_singleton.mp x]
      exact pw_at hb eb e (by omega)
  · rw [List.length_append]
    have := h.n
    show vs.length + 1 ≤ i + 1 + (k + 1)
    omega
theorem Mrg.fin {as bs vs : List Rat} {k : Nat} (hb : bs.Pairwise (· < ·)) (h : Mrg as bs as.length k vs) : (vs ++ bs.drop k).Pairwise (· < ·) ∧ ∀ v, v ∈ vs ++ bs.drop k ↔ v ∈ as ∨ v ∈ bs := by
  refine ⟨?_, fun v => ?_⟩
  · rw [List.pairwise_append]
    refine ⟨h.pw, List.Pairwise.sublist (List.drop_sublist k bs) hb, fun v hv w hw => ?_⟩
    obtain ⟨j, hj⟩ := List.mem_iff_getElem?.mp hw
    rw [List.getElem?_drop] at hj
    exact h.lb v hv (k + j) w (by omega) hj
  · rw [List.mem_append, h.mem, List.take_length]
    have e : v ∈ bs ↔ v ∈ bs.take k ∨ v ∈ bs.drop k := by
      rw [← List.mem_append, List.take_append_drop]
    rw [e]
    constructor
    · rintro ((x | x) | x)
      · exact .inl x
      · exact .inr (.inl x)
      · exact .inr (.inr x)
    · rintro (x | x | x)
      · exact .inl (.inl x)
      · exact .inl (.inr x)
      · exact .inr x
end M09
set_option Elab.async false
set_option linter.all false
set_option maxRecDepth 100000
set_option maxHeartbeats 1000000
set_option exponentiation.threshold 100000
namespace K09
open PySem PySem.Spec PyProof.Rows L2 Fa Fb
abbrev sMrg : Stmt := top 25
theorem scMrg : FnScope ["one", "other", "found", "at", "amount"] ["one", "other"] (defScope sMrg) := ⟨rfl, rfl, rfl, by decide +kernel, rfl, by decide +kernel, by decide +kernel⟩
/-- an amount in a list -/
structure Ag where
  a : Addr
  t : Int
  u : Int
abbrev qv (g : Ag) : Rat := vq g.t g.u
structure AL (K : PySem.W.Frag) (n : Nat) (H : Hp) (p : Addr) (gs : List Ag) : Prop where
  l : H p = some (.lst (gs.map fun g => V.ref g.a))
  ok : ∀ g ∈ gs, IsA K H (.ref g.a) g.t g.u n
theorem AL.same {K : PySem.W.Frag} {n : Nat} {H H' : Hp} {p : Addr} {gs : List Ag} (h : AL K n H p gs) (s : Same H H') : AL K n H' p gs := ⟨s _ _ h.l, fun g hg => (h.ok g hg).same s⟩
theorem IsA.putL {K : PySem.W.Frag} {n : Nat} {H : Hp} {x : V} {t u : Int} {l : Addr} {xs : List V} {o : HO} (h : IsA K H x t u n) (hl : H l = some (.lst xs)) : IsA K (upd H l o) x t u n := by
  obtain ⟨p, dx, e, hp, r⟩ := h
  exact ⟨p, dx, e, by rw [upd_ne fun z => by rw [z, hl] at hp; cases hp]; exact hp, r⟩
structure MgI (K : PySem.W.Frag) (n : Nat) (H : Hp) (as bs : List Ag) (i k : Nat) (F : Addr) (hs : List Ag) (H' : Hp) : Prop where
  s : Same H H'
  f0 : H F = none
  al : AL K n H' F hs
  m : M09.Mrg (as.map qv) (bs.map qv) i k (hs.map qv)
abbrev SM (p p2 F : Addr) (k : Nat) (g : Ag) : L2.St := [some (.ref p), some (.ref p2), some (.ref F), some (.int (k : Int)), some (.ref g.a)]
section
variable (K : PySem.W.Frag) (n : Nat) (H : Hp) (p p2 : Addr) (as bs : List Ag)
def sMrg1 : TS := fun D σ H' => ∃ (F : Addr) (i k : Nat) (g : Ag) (hs : List Ag), σ = SM p p2 F k g ∧ as[i]? = some g ∧ MgI K n H as bs i k F hs H' ∧ ∀ H'' k' hs', MgI K n H as bs (i + 1) k' F hs' H'' → D.nx (SM p p2 F k' g) H''
def sMrg2 : TS := fun D σ H' => ∃ (F : Addr) (i k : Nat) (g : Ag) (hs : List Ag), σ = SM p p2 F k g ∧ as[i]? = some g ∧ MgI K n H as bs i k F hs H' ∧ (∀ b, bs[k]? = some b → ¬ qv b < qv g) ∧ ∀ H'' k' hs', MgI K n H as bs (i + 1) k' F hs' H'' → D.nx (SM p p2 F k' g) H''
def sMrg3 : TS := fun D σ H' => ∃ (F : Addr) (i k : Nat) (g : Ag) (hs : List Ag), σ = SM p p2 F k g ∧ Same H H' ∧ H F = none ∧ AL K n H' F hs ∧ IsA K H' (.ref g.a) g.t g.u n ∧ hs.length ≤ 40 ∧ M09.Mrg (as.map qv) (bs.map qv) (i + 1) k (hs.map qv ++ [qv g]) ∧ ∀ H'' k' hs', MgI K n H as bs (i + 1) k' F hs' H'' → D.nx (SM p p2 F k' g) H''
end
def spMrg (K : PySem.W.Frag) : Sp := fun vs H Q _ => ∃ (p p2 : Addr) (as bs : List Ag) (n : Nat), vs = [.ref p, .ref p2] ∧ AL K n H p as ∧ AL K n H p2 bs ∧ (as.map qv).Pairwise (· < ·) ∧ (bs.map qv).Pairwise (· < ·) ∧ as.length ≤ 20 ∧ bs.length ≤ 20 ∧ n ≤ 3000 ∧
  ∀ H' r (hs : List Ag), Same H H' → AL K n H' r hs → (hs.map qv).Pairwise (· < ·) → (∀ v, v ∈ hs.map qv ↔ v ∈ as.map qv ∨ v ∈ bs.map qv) → hs.length ≤ as.length + bs.length → H r = none → Q (.ref r) H'
theorem cut_from (xs : List V) (i : Nat) (h : i ≤ xs.length) : cutV xs (some (i : Int)) none = xs.drop i := by
  unfold cutV HT.sIx
  have e : ((i : Int) < 0) = False := by simp
  simp only [e, if_false]
  rw [List.take_of_length_le]
  · simp
  · simp only [List.length_drop]
    omega
theorem AL.push {K : PySem.W.Frag} {n : Nat} {H : Hp} {F : Addr} {hs : List Ag} {g : Ag} (h : AL K n H F hs) (hg : IsA K H (.ref g.a) g.t g.u n) : AL K n (upd H F (.lst ((hs.map fun (g : Ag) => V.ref g.a) ++ [.ref g.a]))) F (hs ++ [g]) :=
  ⟨by rw [upd_same, List.map_append]; rfl, fun x hx => by
    rcases List.mem_append.mp hx with m | m
    · exact (h.ok x m).putL h.l
    · rw [List.mem_singleton.mp m]
      exact hg.putL h.l⟩
section
variable {P : Program} {w : World} {K : PySem.W.Frag} {mg : Str → Option Value} {base : Heap} {f fC fE : Addr} {fd fdC fdE : FuncData}
theorem ok_mrg (F : FnP K "_merged" sMrg f fd) (T : AF K mg) (mL : mg "len" = none) (MC : MeK P w K mg base "compare" 7 (spCmp K) fC fdC) (EQ : EqK P w K mg base fE fdE) : FnOk P w K mg base (L2.CX P w) 8 f fd ["one", "other"] (spMrg K) := by
  refine F.ok scMrg (fun vs H Q E h => ?_) (fun cdv A outer s H vs Q E hr h => ?_)
  · obtain ⟨p, p2, as, bs, n, rfl, _⟩ := h
    rfl
  · obtain ⟨p, p2, as, bs, n, rfl, ha, hb, pa, pb, a20, b20, hn, q⟩ := h
    have hr1 := hr.mono (show 1 ≤ 7 by decide)
    have hr7 := hr.mono (show 7 ≤ 7 by decide)
    refine ⟨_, (pss_cons (ps_set (i := 2) scMrg.nd rfl (Or.inl rfl) (pe_lst pa_nil))
      (pss_cons (ps_set (i := 3) scMrg.nd rfl (Or.inl rfl) pe_int)
      (pss_cons (ps_for (passes_of rfl) rfl (pi_list (pv 0)) (pg_name (i := 4) scMrg.nd rfl (Or.inl rfl))
      (pss_imp (S := sMrg1 K n H p p2 as bs) (pss_cons (ps_while (passes_of rfl) (PW.pt (pw_and (pt_cmpR op_lt (pv 3) (pe_callB call_len rfl mL PySem.boot_len (pa_cons (pv 1) pa_nil)) (nomark _)) (pw_and1 (pt_cmpR op_lt (pe_meth (pe_ix ix_list (pv 1) (pv 3) (fun _ _ => rfl)) T.cl MC.me MC.ok hr7 MC.b .nil passL (pa_cons (pv 4) pa_nil)) pe_int (nomark _)))))
      (pss_cons (ps_expr (pe_bm PySem.F.plainAttrs_list PySem.F.slot_list_append PySem.F.type_list_append mt_append (pv 2) (pa_cons (pe_ix ix_list (pv 1) (pv 3) (fun _ _ => rfl)) pa_nil)))
      (pss_one (ps_aug scMrg.nd (i := 3) rfl (Or.inl rfl) pe_int ip_add))))
      (pss_imp (S := sMrg2 K n H p p2 as bs) (pss_cons (ps_if (PW.pt (pw_and (pt_cmpR op_lt (pv 3) (pe_callB call_len rfl mL PySem.boot_len (pa_cons (pv 1) pa_nil)) (nomark _)) (pw_and1 (pt_cmp (pe_eqX EQ.at_ EQ.fn EQ.ok hr1 EQ.b passS (pe_ix ix_list (pv 1) (pv 3) (fun _ _ => rfl)) (pv 4)))))) (pss_one (ps_aug scMrg.nd (i := 3) rfl (Or.inl rfl) pe_int ip_add)) pss_nil)
      (pss_imp (S := sMrg3 K n H p p2 as bs) (pss_one (ps_expr (pe_bm PySem.F.plainAttrs_list PySem.F.slot_list_append PySem.F.type_list_append mt_append (pv 2) (pa_cons (pv 4) pa_nil)))) ?m3)) ?m2)) ?m1))
      (pss_one (ps_ret (pe_op op_cat (pv 2) (pe_slice sl_list (pv 1) (po_some (pv 3)) po_none))))))), ?_⟩
    case m3 =>
      rintro D σ H1 ⟨F, i, k, g, hs, rfl, s1, f0, al, ig, n40, mm, kn⟩
      refine ⟨_, rfl, .inl ⟨rfl, _, SqL.of al.l⟩, _, rfl, F, _, _, rfl, rfl, al.l, ?_, ?_⟩
      · rw [List.length_map]
        exact Nat.lt_of_lt_of_le (show _ < 100 by omega) (by decide)
      · exact kn _ k (hs ++ [g]) ⟨same_put s1 f0, f0, al.push ig, by rw [List.map_append]; exact mm⟩
    case m2 =>
      rintro D σ H1 ⟨F, i, k, g, hs, rfl, eg, I, stop, kn⟩
      have lkb := I.m.kb
      rw [List.length_map] at lkb
      have nn := I.m.n
      have li := (List.getElem?_eq_some_iff.mp eg).1
      rw [List.length_map] at nn
      have ig := (ha.ok g (List.mem_of_getElem? eg)).same I.s
      have egv : (as.map qv)[i]? = some (qv g) := by rw [List.getElem?_map, eg]; rfl
      have hb1 := hb.same I.s
      refine ⟨_, rfl, _, rfl, _, _, rfl, .inl ⟨_, SqL.of hb1.l, rfl⟩, _, _, rfl, rfl, _, rfl, ?_⟩
      rw [List.length_map]
      by_cases c : k < bs.length
      · refine if_true_of (decide_eq_true (by omega)) ?_
        have eb : bs[k]? = some bs[k] := List.getElem?_eq_getElem c
        generalize bs[k] = b at eb
        have ib := hb1.ok b (List.mem_of_getElem? eb)
        have ebv : (bs.map qv)[k]? = some (qv b) := by rw [List.getElem?_map, eb]; rfl
        obtain ⟨pb', db, e1, hpb, rb, _⟩ := id ib
        obtain ⟨pg, dg, e2, hpg, rg, _⟩ := id ig
        cases e1
        cases e2
        refine ⟨_, rfl, _, rfl, p2, _, _, _, rfl, rfl, SqL.of hb1.l, atI_nat (by rw [List.getElem?_map, eb]; rfl), _, rfl, _, _, _, rfl, hpb, .inl ⟨_, _, _, rfl, hpg⟩, _, _, _, _, _, rfl, ib, .inl ⟨_, _, _, ig, _, rfl, ?_⟩⟩
        rw [am_dec rb rg]
        by_cases e : vq b.t b.u = vq g.t g.u
        · rw [decide_eq_true e]
          refine iteT ⟨_, rfl, _, _, rfl, rfl, F, i, k + 1, g, hs, rfl, I.s, I.f0, I.al, ig, by omega, I.m.ab pa pb egv (by rw [ebv]; exact congrArg some e), kn⟩
        · rw [decide_eq_false e]
          refine iteF ⟨F, i, k, g, hs, rfl, I.s, I.f0, I.al, ig, by omega, I.m.a pa pb egv (fun j b' hj e' => ?_), kn⟩
          have lt : qv g < qv b := by
            have := stop b eb
            grind
          by_cases cj : j = k
          · subst cj
            rw [ebv] at e'
            cases e'
            exact lt
          · have := M09.pw_at pb ebv e' (by omega)
            grind
      · refine if_false_of (decide_eq_false (by omega)) (iteF ⟨F, i, k, g, hs, rfl, I.s, I.f0, I.al, ig, by omega, I.m.a pa pb egv (fun j b hj e => ?_), kn⟩)
        have := (List.getElem?_eq_some_iff.mp e).1
        rw [List.length_map] at this
        omega
    case m1 =>
      rintro D σ H1 ⟨F, i, k, g, hs, rfl, eg, I, kn⟩
      have li := (List.getElem?_eq_some_iff.mp eg).1
      refine while_by (fun σ H' => ∃ (k : Nat) (hs : List Ag), σ = SM p p2 F k g ∧ MgI K n H as bs i k F hs H') (fun σ _ => match σ with | [_, _, _, some (.int a), _] => ((bs.length : Int) - a).toNat | _ => 0) ⟨k, hs, rfl, I⟩ ?_ ?_
      · rintro σ H2 ⟨k, hs, rfl, I⟩
        have lkb := I.m.kb
        have nn := I.m.n
        rw [List.length_map] at lkb nn
        have ig := (ha.ok g (List.mem_of_getElem? eg)).same I.s
        have hb1 := hb.same I.s
        refine ⟨_, rfl, _, rfl, _, _, rfl, .inl ⟨_, SqL.of hb1.l, rfl⟩, _, _, rfl, rfl, _, rfl, ?_⟩
        rw [List.length_map]
        by_cases c : k < bs.length
        · refine if_true_of (decide_eq_true (by omega)) ?_
          have eb : bs[k]? = some bs[k] := List.getElem?_eq_getElem c
          generalize bs[k] = b at eb
          have ib := hb1.ok b (List.mem_of_getElem? eb)
          obtain ⟨pb', db, e1, hpb, rb, _⟩ := id ib
          obtain ⟨pg, dg, e2, hpg, rg, _⟩ := id ig
          cases e1
          cases e2
          refine ⟨_, rfl, _, rfl, p2, _, _, _, rfl, rfl, SqL.of hb1.l, atI_nat (by rw [List.getElem?_map, eb]; rfl), _, db, _, rfl, hpb, fl_no _ _ (by decide +kernel) (by decide +kernel), _, rfl, _, _, _, _, _, rfl, ib, .inr ⟨_, _, _, .inl ig, by omega, fun H3 s3 => ?_⟩⟩
          have lt := vq_lt (t := b.t) (t2 := g.t) rb.1 rg.1
          have sg : ((if b.t * g.u - g.t * b.u = 0 then (0 : Int) else if 0 < b.t * g.u - g.t * b.u then 1 else -1) < 0) ↔ vq b.t b.u < vq g.t g.u := by
            rw [← lt]
            split
            · omega
            · split <;> omega
          refine ⟨_, _, rfl, rfl, _, rfl, ?_⟩
          have al3 := I.al.same s3
          have hb3 := hb1.same s3
          by_cases cl : vq b.t b.u < vq g.t g.u
          · refine if_true_of (decide_eq_true (sg.mpr cl)) ?_
            refine ⟨_, rfl, .inl ⟨rfl, _, SqL.of al3.l⟩, _, rfl, _, rfl, p2, _, _, _, rfl, rfl, SqL.of hb3.l, atI_nat (by rw [List.getElem?_map, eb]; rfl), F, _, _, rfl, rfl, al3.l, ?_, ?_⟩
            · rw [List.length_map]
              exact Nat.lt_of_lt_of_le (show _ < 100 by omega) (by decide)
            · refine ⟨_, rfl, _, _, rfl, rfl, ⟨k + 1, hs ++ [b], rfl, same_put (I.s.trans s3) I.f0, I.f0, al3.push (ib.same s3), ?_⟩, ?_⟩
              · rw [List.map_append]
                refine I.m.b pa pb (by rw [List.getElem?_map, eb]; rfl) fun j a hj e => ?_
                have egv : (as.map qv)[i]? = some (qv g) := by rw [List.getElem?_map, eg]; rfl
                by_cases cj : j = i
                · subst cj
                  rw [egv] at e
                  cases e
                  exact cl
                · have := M09.pw_at pa egv e (by omega)
                  have cl : qv b < qv g := cl
                  grind
              · show ((bs.length : Int) - ((k : Int) + 1)).toNat < ((bs.length : Int) - (k : Int)).toNat
                omega
          · refine if_false_of (decide_eq_false fun z => cl (sg.mp z)) ?_
            refine ⟨F, i, k, g, hs, rfl, eg, ⟨I.s.trans s3, I.f0, al3, I.m⟩, fun b' e => ?_, kn⟩
            rw [eb] at e
            cases e
            exact cl
        · refine if_false_of (decide_eq_false (by omega)) ?_
          refine ⟨F, i, k, g, hs, rfl, eg, I, fun b' e => ?_, kn⟩
          have := (List.getElem?_eq_some_iff.mp e).1
          omega
      · intro σ H' Q1 Q2 kk h
        obtain ⟨v, h1, w, h2, x, nx, h3, lv, i2, j2, h4, h5, b2, h6, h7⟩ := h
        refine ⟨v, h1, w, h2, x, nx, h3, lv, i2, j2, h4, h5, b2, h6, ?_⟩
        by_cases c : b2 = true
        · rw [if_pos c] at h7 ⊢
          obtain ⟨z1, z2, z3, z4, p1, xs, ii, vv, q1, q2, q3, q4, a1, d1, fs1, g1, g2, g3, w1, w2, x1, y1, t1, u1, n1, e1, e2, e3⟩ := h7
          refine ⟨z1, z2, z3, z4, p1, xs, ii, vv, q1, q2, q3, q4, a1, d1, fs1, g1, g2, g3, w1, w2, x1, y1, t1, u1, n1, e1, e2, ?_⟩
          rcases e3 with er | ⟨t2, u2, m2, f1, f2, f3⟩
          · exact .inl er
          · exact .inr ⟨t2, u2, m2, f1, f2, fun H2 s2 => let ⟨i, j, k1, k2, b, k3, k4⟩ := f3 H2 s2; ⟨i, j, k1, k2, b, k3, kk _ _ k4⟩⟩
        · rw [if_neg c] at h7 ⊢
          exact kk _ _ h7
    refine ⟨by show 0 ≤ sizeLine; decide, fun F hF => ?_⟩
    have s1 := Same.upd (o := .lst []) hF
    have l1 : upd H F (.lst []) F = some (.lst []) := upd_same
    generalize upd H F (.lst []) = H1 at s1 l1 ⊢
    refine ⟨_, rfl, p, rfl, ⟨_, SqL.of (s1 _ _ ha.l)⟩, for_list (K := K) (a := p) (xs := as.map fun g => V.ref g.a) (fun i σ H' => ∃ (k : Nat) (hs : List Ag) (v4 : Option V), σ = [some (.ref p), some (.ref p2), some (.ref F), some (.int (k : Int)), v4] ∧ MgI K n H as bs i k F hs H') ⟨0, [], _, rfl, s1, hF, ⟨l1, fun g hg => by cases hg⟩, M09.Mrg.nil⟩ (fun i σ H' _ ⟨_, _, _, _, I⟩ => SqL.of (I.s _ _ ha.l)) ?_ ?_⟩
    · rintro i x σ H2 hx ⟨k, hs, v4, rfl, I⟩
      rw [List.getElem?_map] at hx
      obtain ⟨g, eg, rfl⟩ := Option.map_eq_some_iff.mp hx
      exact ⟨F, i, k, g, hs, rfl, eg, I, fun H'' k' hs' I' => ⟨k', hs', _, rfl, I'⟩⟩
    · rintro σ H2 ⟨k, hs, v4, rfl, I⟩
      have nn := I.m.n
      have lkb := I.m.kb
      rw [List.length_map] at lkb nn
      rw [List.length_map] at nn
      have m2 := I.m
      rw [List.length_map, ← List.length_map (f := qv)] at m2
      obtain ⟨f1, f2⟩ := M09.Mrg.fin pb m2
      have hb2 := hb.same I.s
      refine ⟨_, rfl, _, rfl, _, rfl, _, rfl, p2, _, rfl, SqL.of hb2.l, fun l hl => ?_⟩
      have ec : cutV (bs.map fun g => V.ref g.a) (some (k : Int)) none = (bs.drop k).map fun (g : Ag) => V.ref g.a := by
        rw [cut_from _ _ (by rw [List.length_map]; exact lkb), List.map_drop]
      rw [ec]
      have s3 := Same.upd (o := .lst ((bs.drop k).map fun (g : Ag) => V.ref g.a)) hl
      have e3 : upd H2 l (.lst ((bs.drop k).map fun (g : Ag) => V.ref g.a)) l = some (.lst ((bs.drop k).map fun (g : Ag) => V.ref g.a)) := upd_same
      generalize upd H2 l (.lst ((bs.drop k).map fun (g : Ag) => V.ref g.a)) = H3 at s3 e3 ⊢
      refine ⟨F, l, _, _, rfl, rfl, s3 _ _ I.al.l, e3, ?_, fun r hr => ?_⟩
      · rw [List.length_map, List.length_map, List.length_drop]
        exact Nat.le_trans (show _ ≤ 100 by omega) (by decide)
      · have s4 := Same.upd (o := .lst ((hs.map fun (g : Ag) => V.ref g.a) ++ ((bs.drop k).map fun (g : Ag) => V.ref g.a))) hr
        have sA := I.s.trans (s3.trans s4)
        refine q _ r (hs ++ bs.drop k) sA ⟨by rw [upd_same, List.map_append], fun g hg => ?_⟩ (by rw [List.map_append, List.map_drop]; exact f1) (fun v => by rw [List.map_append, List.map_drop]; exact f2 v) ?_ (none_of (I.s.trans s3) hr)
        · rcases List.mem_append.mp hg with m | m
          · exact (I.al.ok g m).same (s3.trans s4)
          · exact (hb2.ok g (List.mem_of_mem_drop m)).same (s3.trans s4)
        · rw [List.length_append, List.length_drop]
          omega
end
end K09
set_option Elab.async false
set_option linter.all false
set_option maxRecDepth 100000
set_option maxHeartbeats 1000000
set_option exponentiation.threshold 100000
namespace K09
open PySem PySem.Spec PyProof.Rows L2 Fa Fb
abbrev sChm : Stmt := top 26
abbrev sThn : Stmt := inClass (top 17) 7
theorem scChm : FnScope ["tempo"] ["tempo"] (defScope sChm) := ⟨rfl, rfl, rfl, by decide +kernel, rfl, by decide +kernel, by decide +kernel⟩
theorem scThn : FnScope ["self", "other", "own", "led", "beats", "beat", "_"] ["self", "other"] (defScope sThn) := ⟨rfl, rfl, rfl, by decide +kernel, rfl, by decide +kernel, by decide +kernel⟩
abbrev CIM (K : PySem.W.Frag) : Addr := He.ga K "InvalidMap"
/-- the bits of a fraction by its value -/
theorem vb_bits {t u : Int} {D X m : Nat} (r : Am.Red t u) (h : M06.VB D X (vq t u)) (hD : 0 < D) (dm : D < 2 ^ m) (xm : X < 2 ^ m) : t.natAbs < 2 ^ m ∧ u.natAbs < 2 ^ m := by
  obtain ⟨N, e, hN⟩ := h
  have hu := cast_ne (Int.ne_of_gt r.1)
  have e1 : (t : Rat) * (D : Rat) = (N : Rat) * (u : Rat) := by
    rw [← e]
    unfold vq
    grind
  have e2 : t * (D : Int) = N * u := by
    apply Rat.intCast_inj.mp
    rw [Rat.intCast_mul, Rat.intCast_mul]
    exact e1
  have e3 : t.natAbs * D = N.natAbs * u.natAbs := by
    have := congrArg Int.natAbs e2
    rwa [Int.natAbs_mul, Int.natAbs_mul, Int.natAbs_natCast] at this
  have up : 0 < u.natAbs := Int.natAbs_pos.mpr (Int.ne_of_gt r.1)
  have d1 : u.natAbs ∣ D := by
    have z : u.natAbs ∣ t.natAbs * D := by
      rw [e3]
      exact Nat.dvd_mul_left _ _
    exact Nat.Coprime.dvd_of_dvd_mul_left (show Nat.Coprime u.natAbs t.natAbs by rw [Nat.coprime_comm]; exact r.2) z
  obtain ⟨k, hk⟩ := d1
  have kp : 0 < k := Nat.pos_of_ne_zero fun z => by
    rw [z, Nat.mul_zero] at hk
    omega
  have e4 : t.natAbs * k = N.natAbs := by
    apply Nat.eq_of_mul_eq_mul_right up
    rw [← e3, hk, Nat.mul_assoc, Nat.mul_comm k]
  have l1 : t.natAbs ≤ N.natAbs := by
    rw [← e4]
    exact Nat.le_mul_of_pos_right _ kp
  have l2 : u.natAbs ≤ D := by
    rw [hk]
    exact Nat.le_mul_of_pos_right _ kp
  exact ⟨by omega, by omega⟩
theorem IsA.vb {K : PySem.W.Frag} {H : Hp} {x : V} {t u : Int} {n D X m : Nat} (h : IsA K H x t u n) (b : M06.VB D X (vq t u)) (hD : 0 < D) (dm : D < 2 ^ m) (xm : X < 2 ^ m) : IsA K H x t u m := by
  obtain ⟨p, dx, e, hp, r, _, _⟩ := h
  obtain ⟨b1, b2⟩ := vb_bits r b hD dm xm
  exact ⟨p, dx, e, hp, r, b1, b2⟩
/-- of B bits at most, by value -/
def VBits (B : Nat) (q : Rat) : Prop := ∃ D X, 0 < D ∧ M06.VB D X q ∧ D < 2 ^ B ∧ X < 2 ^ B
theorem IsA.vbits {K : PySem.W.Frag} {H : Hp} {x : V} {t u : Int} {n B : Nat} (h : IsA K H x t u n) (b : VBits B (vq t u)) : IsA K H x t u B := let ⟨_, _, d0, v, d1, x1⟩ := b; h.vb v d0 d1 x1
theorem tp_zs {K : PySem.W.Frag} {m : Nat} {H : Hp} {D : Addr} {zs : List Pg} (h : H D = some (.lst (zs.map fun g => V.ref g.q))) (ok : ∀ g ∈ zs, PgOk K m H g) (up : M08.Up (ptl zs)) (sz : zs.length ≤ 20) : TPOk K m H D (zs.map fun g => V.ref g.q) zs := by
  refine ⟨.inl h, by rw [List.length_map]; exact sz, by rw [List.length_map], fun i g e => ⟨g.q, by rw [List.getElem?_map, e]; rfl, .ref g.a, .ref g.b, .inr (ok g (List.mem_of_getElem? e)).1, .inl (ok g (List.mem_of_getElem? e)).2.1, .inl (ok g (List.mem_of_getElem? e)).2.2⟩, fun i g h e1 e2 => ?_⟩
  refine up_back (fun g hg => ?_) up i g h e1 e2
  obtain ⟨_, ⟨_, _, _, _, r1, _⟩, ⟨_, _, _, _, r2, _⟩⟩ := ok g hg
  exact ⟨r1.1, r2.1⟩
/-- no map -/
def NoMap (K : PySem.W.Frag) (H : Hp) (y : V) : Prop := ∃ T, TyX K H y T ∧ PySem.W.kitOne K T (.ref (CM K)) = some false
def spChm (K : PySem.W.Frag) : Sp := fun vs H Q E => ∃ y, vs = [y] ∧ ((NoMap K H y ∧ Err (CIM K) y H E) ∨ ∃ o n gs, y = .ref o ∧ MapOk K n H o gs ∧ Q .non H)
def spThn (K : PySem.W.Frag) : Sp := fun vs H Q E => ∃ o n gs y, vs = [.ref o, y] ∧ MapOk K n H o gs ∧ ((NoMap K H y ∧ Err (CIM K) y H E) ∨ ∃ o2 gs2 B, y = .ref o2 ∧ MapOk K n H o2 gs2 ∧ 0 < gs.length ∧ 0 < gs2.length ∧ gs.length + gs2.length ≤ 20 ∧ n ≤ 800 ∧ B ≤ 800 ∧
  (∀ h ∈ gs, VBits B (bq h)) ∧ (∀ h ∈ gs2, VBits B (M08.f (M08.sw (ptl gs)) (bq h))) ∧ (∀ x, ((∃ h ∈ gs, x = bq h) ∨ ∃ h ∈ gs2, x = M08.f (M08.sw (ptl gs)) (bq h)) → VBits B (M08.f (ptl gs) x) ∧ VBits B (M08.f (ptl gs2) (M08.f (ptl gs) x))) ∧
  ∀ H' z hs, Same H H' → MapOk K (2 * B + 2) H' z hs → (∃ bs : List Rat, bs.Pairwise (· < ·) ∧ (∀ x, x ∈ bs ↔ (∃ h ∈ gs, x = bq h) ∨ ∃ h ∈ gs2, x = M08.f (M08.sw (ptl gs)) (bq h)) ∧ ptl hs = M08.std (M08.graph (fun x => M08.f (ptl gs2) (M08.f (ptl gs) x)) bs)) → H z = none → Q (.ref z) H')
section
variable {P : Program} {w : World} {K : PySem.W.Frag} {mg : Str → Option Value} {base : Heap} {f fT fG fC fM : Addr} {fd fdT fdG fdC fdM : FuncData} {qv tv : Str} {fV : Addr}
theorem ok_chm (F : FnP K "check_map" sChm f fd) (T : AF K mg) (M : MF K mg) (gM : mg "InvalidMap" = some (.ref (CIM K))) (XM : Xb.Txt P.main.file K qv "value" tv (CIM K) fV) (htop : (P.main.scope.names.lookup ("super" : Str)).isSome = false) (kM : PySem.W.kitOne K (.ref (CM K)) (.ref (CM K)) = some true)
    (ca : PySem.W.findIn K (.ref (CM K)) "__class__" = some (some (.builtin "object.__class__"))) (cm : PySem.W.mroIn K (CM K) (.type "object") = some true) : FnOk P w K mg base (L2.CX P w) 2 f fd ["tempo"] (spChm K) := by
  refine F.ok scChm (fun vs H Q E h => ?_) (fun cdv A outer s H vs Q E hr h => ?_)
  · obtain ⟨y, rfl, _⟩ := h
    rfl
  · obtain ⟨y, rfl, q⟩ := h
    refine ⟨_, pss_one (ps_if (pt_not (pt_val (pe_isi T.isi (pv 0) (pe_glob (v := .ref (CM K)) rfl M.g rfl)))) (pss_one (Xb.ps_raiseX (W := fun cls d _ H => E cls d H) rfl XM gM htop hr (takes_of rfl rfl rfl rfl) (pa_cons (pv 0) pa_nil))) pss_nil), ?_⟩
    rcases q with ⟨⟨Ty, ty, kt⟩, er⟩ | ⟨o, n, gs, rfl, ⟨dx, q, r, ho, hq, ht⟩, k⟩
    · exact ⟨_, rfl, _, _, _, _, false, rfl, .own _, ty, kt, _, rfl, iteT ⟨_, rfl, _, rfl, er⟩⟩
    · exact ⟨_, rfl, _, _, _, _, true, rfl, .own _, .base (.ins ho M.cl ca T.cn T.ct cm), kM, _, rfl, iteF k⟩
theorem ok_thn (F : FunD K "then" "TempoMap.then" (defArgs sThn) (defBody sThn) (defScope sThn) [] [] f fd) (M : MF K mg) (MKM : Mk K (CM K) (aM K)) (CHM : Fn P w K mg base "check_map" 2 ["tempo"] (spChm K) fC fdC) (TK : Fn P w K mg base "_taken" 9 ["points", "beat"] (spTak K) fT fdT) (MG : Fn P w K mg base "_merged" 8 ["one", "other"] (spMrg K) fG fdG) (TM : FnOk P w K mg base (L2.CX P w) 11 (aM K) fdM ["self", "points"] (spTMI K)) (bT : Binds K fdM ["self", "points"] []) :
    FnOk P w K mg base (L2.CX P w) 13 f fd ["self", "other"] (spThn K) := by
  refine F.ok scThn (fun vs H Q E h => ?_) (fun cdv A outer s H vs Q E hr h => ?_)
  · obtain ⟨o, n, gs, y, rfl, _⟩ := h
    rfl
  · obtain ⟨o, n, gs, y, rfl, mo, k⟩ := h
    have hr2 := hr.mono (show 2 ≤ 12 by decide)
    have hr8 := hr.mono (show 8 ≤ 12 by decide)
    have hr9 := hr.mono (show 9 ≤ 12 by decide)
    have hr12 := hr.mono (show 12 ≤ 12 by decide)
    refine ⟨_, (pss_cons (ps_expr (pe_callS CHM.ok hr2 rfl CHM.g CHM.k CHM.b (fun σ => passAt (W := fun cls d _ H => E cls d H) (takes_of rfl rfl rfl rfl) σ) (pa_cons (pv 1) pa_nil)))
      (pss_cons (ps_setLc (i := 2) (own := [("beat", 5), ("_", 6)]) (g := gTup K 2 (gCons (gName 5) (gCons (gName 6) gNil)))  (by rfl) scThn.nd rfl rfl (sw_true rfl rfl rfl (by decide +kernel)) (pi_list (pe_fld (pv 0) rfl)) (blkOk_by (own := [("beat", 5), ("_", 6)]) (N := ["self", "other", "own", "led", "beats", "beat", "_"]) (sc := defScope sThn) (by decide +kernel)) (fun _ _ _ _ _ => (pg_tup (by rfl) (pgs_cons (pg_name (i := 5) scThn.nd rfl (Or.inl rfl)) (pgs_cons (pg_name (i := 6) scThn.nd rfl (Or.inl rfl)) pgs_nil)))) (fun _ _ _ _ _ => pts_nil) (fun _ _ _ _ _ => (pv 5)))
      (pss_cons (ps_setLc (i := 3) (own := [("beat", 5), ("_", 6)]) (g := gTup K 2 (gCons (gName 5) (gCons (gName 6) gNil))) (te := tCall (spTak K) [] E0 (tCons (tFld K (tVar 0) "_turned") (tCons (tVar 5) tNil))) (by rfl) scThn.nd rfl rfl (sw_true rfl rfl rfl (by decide +kernel)) (pi_list (pe_fld (pv 1) rfl)) (blkOk_by (own := [("beat", 5), ("_", 6)]) (N := ["self", "other", "own", "led", "beats", "beat", "_"]) (sc := defScope sThn) (by decide +kernel)) (fun _ _ _ _ _ => (pg_tup (by rfl) (pgs_cons (pg_name (i := 5) scThn.nd rfl (Or.inl rfl)) (pgs_cons (pg_name (i := 6) scThn.nd rfl (Or.inl rfl)) pgs_nil)))) (fun _ _ _ _ _ => pts_nil) (fun _ _ _ _ _ => (pe_call TK.ok hr9 rfl TK.g TK.k TK.b .nil passL (pa_cons (pe_fld (pv 0) rfl) (pa_cons (pv 5) pa_nil)))))
      (pss_cons (ps_set (i := 4) scThn.nd rfl (Or.inl rfl) (pe_call MG.ok hr8 rfl MG.g MG.k MG.b .nil passL (pa_cons (pv 2) (pa_cons (pv 3) pa_nil))))
      (pss_one (ps_ret (pe_make MKM TM hr12 rfl M.g bT .nil passL (pa_cons (pe_lc (own := [("beat", 5)]) (g := gName 5) (te := tTup (tCons (tVar 5) (tCons (tCall (spTak K) [] E0 (tCons (tFld K (tVar 1) "_points") (tCons (tCall (spTak K) [] E0 (tCons (tFld K (tVar 0) "_points") (tCons (tVar 5) tNil))) tNil))) tNil))) (by rfl) scThn.nd (pi_list (pv 4)) (blkOk_by (own := [("beat", 5)]) (N := ["self", "other", "own", "led", "beats", "beat", "_"]) (sc := defScope sThn) (by decide +kernel)) (fun _ _ _ _ _ => (pg_name (i := 5) scThn.nd rfl (Or.inl rfl))) (fun _ _ _ _ _ => pts_nil) (fun _ _ _ _ _ => (pe_tup (pa_cons (pv 5) (pa_cons (pe_call TK.ok hr9 rfl TK.g TK.k TK.b .nil passL (pa_cons (pe_fld (pv 1) rfl) (pa_cons (pe_call TK.ok hr9 rfl TK.g TK.k TK.b .nil passL (pa_cons (pe_fld (pv 0) rfl) (pa_cons (pv 5) pa_nil))) pa_nil))) pa_nil))))) pa_nil)))))))), ?_⟩
    refine ⟨_, rfl, y, rfl, ?_⟩
    rcases k with er | ⟨o2, gs2, B, rfl, mo2, g0, g20, g20', n8, B8, vb1, vb2, vb3, k⟩
    · exact .inl er
    refine .inr ⟨o2, n, gs2, rfl, mo2, ?_⟩
    obtain ⟨dx, q, r, ho, hq, ts, ht, et⟩ := id mo
    obtain ⟨dx2, q2, r2, ho2, hq2, _⟩ := id mo2
    have tl : ts.length = gs.length := by
      have := congrArg List.length et
      unfold M08.sw ptl at this
      rwa [List.length_map, List.length_map, List.length_map] at this
    have U1 := hq.rise
    have U2 := hq2.rise
    obtain ⟨Fn, hFn⟩ : ∃ Fn : Rat → Rat, Fn = fun x => M08.f (ptl gs2) (M08.f (ptl gs) x) := ⟨_, rfl⟩
    -- the own beats
    refine ⟨_, rfl, o, _, dx, _, _, rfl, ho, M.cl, M.n1, by rfl, q, rfl, ⟨_, SqL.of hq.l⟩, fun D1 hD1 => ?_⟩
    refine lc_list (K := K) (a := q) (xs := gs.map fun g => V.ref g.q) (fun i H' => Same H H' ∧ H' D1 = some (.lst ((gs.take i).map fun g => V.ref g.a))) ⟨Same.upd hD1, upd_same⟩ (fun i H' _ ⟨s, _⟩ => SqL.of (s _ _ hq.l)) ?_ ?_
    · rintro i x H1 hx ⟨s1, ha⟩
      rw [List.getElem?_map] at hx
      obtain ⟨g, eg, rfl⟩ := Option.map_eq_some_iff.mp hx
      have hi := (List.getElem?_eq_some_iff.mp eg).1
      obtain ⟨c1, c2, c3⟩ := (hq.ok g (List.mem_of_getElem? eg)).same s1
      refine ⟨g.q, _, rfl, SqT.of c1, rfl, _, _, rfl, _, _, rfl, rfl, ?_⟩
      refine ⟨rfl, _, rfl, _, ha, ?_, same_put s1 hD1, ?_⟩
      · rw [List.length_map]
        have := List.length_take_le i gs
        exact Nat.lt_of_lt_of_le (show _ < 100 by omega) (by decide)
      · rw [upd_same, List.take_add_one, eg, List.map_append]
        rfl
    rintro H1 ⟨s1, ha1⟩
    rw [List.length_map, List.take_length] at ha1
    -- the beats that lead to the other's
    refine ⟨_, rfl, o2, _, dx2, _, _, rfl, s1 _ _ ho2, M.cl, M.n1, by rfl, q2, rfl, ⟨_, SqL.of (s1 _ _ hq2.l)⟩, fun D2 hD2 => ?_⟩
    refine lc_list (K := K) (a := q2) (xs := gs2.map fun g => V.ref g.q) (fun i H' => Same H1 H' ∧ ∃ ls : List Ag, ls.length = i ∧ H' D2 = some (.lst (ls.map fun (g : Ag) => V.ref g.a)) ∧ (∀ l ∈ ls, IsA K H' (.ref l.a) l.t l.u B) ∧ ls.map qv = (gs2.take i).map fun h => M08.f (M08.sw (ptl gs)) (bq h)) ⟨Same.upd hD2, [], rfl, upd_same, (fun l h => by cases h), rfl⟩ (fun i H' _ ⟨s, _⟩ => SqL.of (s _ _ (s1 _ _ hq2.l))) ?_ ?_
    · rintro i x H2 hx ⟨s2, ls, ln, ha, ok, ev⟩
      rw [List.getElem?_map] at hx
      obtain ⟨g, eg, rfl⟩ := Option.map_eq_some_iff.mp hx
      have hi := (List.getElem?_eq_some_iff.mp eg).1
      have s12 := s1.trans s2
      have gm := List.mem_of_getElem? eg
      obtain ⟨c1, c2, c3⟩ := (hq2.ok g gm).same s12
      refine ⟨g.q, _, rfl, SqT.of c1, rfl, _, _, rfl, _, _, rfl, rfl, ?_⟩
      refine ⟨rfl, _, rfl, o, _, dx, _, _, rfl, s12 _ _ ho, M.cl, M.n2, by rfl, _, rfl, r, ts, .ref g.a, bq g, n, n, rfl, ht.same s12, n8, by omega, by omega, ⟨g.t, g.u, c2, rfl⟩, fun z H3 s3 qz => ?_⟩
      obtain ⟨t, u, iz, ez⟩ := qz
      rw [et] at ez
      have iz := iz.vbits (B := B) (by rw [ez]; exact vb2 g gm)
      obtain ⟨pz, dz, rfl, _⟩ := id iz
      have ha3 := s3 _ _ ha
      refine ⟨_, ha3, ?_, same_put (s2.trans s3) hD2, ls ++ [⟨pz, t, u⟩], by rw [List.length_append, ln]; rfl, by rw [upd_same, List.map_append]; rfl, fun l hl => ?_, ?_⟩
      · rw [List.length_map, ln]
        exact Nat.lt_of_lt_of_le (show i < 100 by omega) (by decide)
      · rcases List.mem_append.mp hl with m | m
        · exact ((ok l m).same s3).putL ha3
        · rw [List.mem_singleton.mp m]
          exact iz.putL ha3
      · rw [List.map_append, ev, List.take_add_one, eg, List.map_append]
        congr 1
        show [vq t u] = [M08.f (M08.sw (ptl gs)) (bq g)]
        rw [ez]
    rintro H2 ⟨s2, ls, ln, ha2, ok2, ev2⟩
    rw [List.length_map] at ln
    rw [List.length_map, List.take_length] at ev2
    have s12 := s1.trans s2
    have ea : ((gs.map fun g => (⟨g.a, g.t, g.u⟩ : Ag)).map qv) = gs.map bq := by
      rw [List.map_map]
      rfl
    have pw1 : (gs.map bq).Pairwise (· < ·) := by
      have := M08.up_pw _ U1
      unfold ptl at this
      rw [List.pairwise_map] at this ⊢
      exact List.Pairwise.imp (fun h => h.1) this
    have pw2 : (gs2.map fun h => M08.f (M08.sw (ptl gs)) (bq h)).Pairwise (· < ·) := by
      have := M08.up_pw _ U2
      unfold ptl at this
      rw [List.pairwise_map] at this ⊢
      exact List.Pairwise.imp (fun h => M08.f_lt _ (M08.up_sw _ U1) h.1) this
    refine ⟨_, rfl, _, rfl, D1, D2, gs.map fun g => (⟨g.a, g.t, g.u⟩ : Ag), ls, B, rfl, ⟨by rw [s2 _ _ ha1, List.map_map]; rfl, fun x hx => ?_⟩, ⟨ha2, ok2⟩, by rw [ea]; exact pw1, by rw [ev2]; exact pw2, by rw [List.length_map]; omega, by omega, by omega, fun H3 r3 hs s3 al pw mem hl _ => ?_⟩
    · obtain ⟨g, hg, rfl⟩ := List.mem_map.mp hx
      exact ((hq.ok g hg).same s12).2.1.vbits (vb1 g hg)
    rw [List.length_map] at hl
    have s13 := s12.trans s3
    have mem2 : ∀ x, x ∈ hs.map qv ↔ (∃ h ∈ gs, x = bq h) ∨ ∃ h ∈ gs2, x = M08.f (M08.sw (ptl gs)) (bq h) := fun x => by
      rw [mem, ea, ev2, List.mem_map, List.mem_map]
      constructor
      · rintro (⟨h, a, b⟩ | ⟨h, a, b⟩)
        · exact .inl ⟨h, a, b.symm⟩
        · exact .inr ⟨h, a, b.symm⟩
      · rintro (⟨h, a, b⟩ | ⟨h, a, b⟩)
        · exact .inl ⟨h, a, b.symm⟩
        · exact .inr ⟨h, a, b.symm⟩
    have hsF : ∀ h ∈ hs, VBits B (M08.f (ptl gs) (qv h)) ∧ VBits B (Fn (qv h)) := fun h hh => by
      rw [hFn]
      exact vb3 _ ((mem2 _).mp (List.mem_map.mpr ⟨h, hh, rfl⟩))
    refine ⟨_, rfl, r3, rfl, ⟨_, SqL.of al.l⟩, fun D3 hD3 => ?_⟩
    refine lc_list (K := K) (a := r3) (xs := hs.map fun g => V.ref g.a) (fun i H' => Same H3 H' ∧ ∃ zs : List Pg, zs.length = i ∧ H' D3 = some (.lst (zs.map fun (g : Pg) => V.ref g.q)) ∧ (∀ g ∈ zs, PgOk K B H' g) ∧ ptl zs = M08.graph Fn ((hs.take i).map qv)) ⟨Same.upd hD3, [], rfl, upd_same, (fun l h => by cases h), rfl⟩ (fun i H' _ ⟨s, _⟩ => SqL.of (s _ _ al.l)) ?_ ?_
    · rintro i x H4 hx ⟨s4, zs, zn, ha4, ok4, ev4⟩
      rw [List.getElem?_map] at hx
      obtain ⟨g, eg, rfl⟩ := Option.map_eq_some_iff.mp hx
      have hi := (List.getElem?_eq_some_iff.mp eg).1
      have gm := List.mem_of_getElem? eg
      have ig := (al.ok g gm).same s4
      have s14 := s13.trans s4
      obtain ⟨v1, v2⟩ := hsF g gm
      refine ⟨rfl, _, rfl, _, rfl, o2, _, dx2, _, _, rfl, s14 _ _ ho2, M.cl, M.n1, by rfl, _, rfl, o, _, dx, _, _, rfl, s14 _ _ ho, M.cl, M.n1, by rfl, _, rfl, q, gs, .ref g.a, qv g, n, B, rfl, hq.same s14, n8, by omega, g0, ⟨g.t, g.u, ig, rfl⟩, fun z1 H5 s5 qz1 => ?_⟩
      obtain ⟨t1, u1, iz1, ez1⟩ := qz1
      have iz1 := iz1.vbits (B := B) (by rw [ez1]; exact v1)
      refine ⟨q2, gs2, z1, M08.f (ptl gs) (qv g), n, B, rfl, hq2.same (s14.trans s5), n8, by omega, g20, ⟨t1, u1, iz1, ez1⟩, fun z2 H6 s6 qz2 => ?_⟩
      obtain ⟨t2, u2, iz2, ez2⟩ := qz2
      have iz2 := iz2.vbits (B := B) (by rw [ez2]; rw [hFn] at v2; exact v2)
      obtain ⟨pz, dz, rfl, _⟩ := id iz2
      refine ⟨by show 2 ≤ sizeLine; decide, fun t0 ht0 => ?_⟩
      have s7 := Same.upd (o := .tup [.ref g.a, .ref pz]) ht0
      have e7 : upd H6 t0 (.tup [.ref g.a, .ref pz]) t0 = some (.tup [.ref g.a, .ref pz]) := upd_same
      generalize upd H6 t0 (.tup [.ref g.a, .ref pz]) = H7 at s7 e7 ⊢
      have s47 := s5.trans (s6.trans s7)
      have ha7 := s47 _ _ ha4
      refine ⟨_, ha7, ?_, same_put (s4.trans s47) hD3, zs ++ [⟨t0, g.a, pz, g.t, g.u, t2, u2⟩], by rw [List.length_append, zn]; rfl, by rw [upd_same, List.map_append]; rfl, fun l hl => ?_, ?_⟩
      · rw [List.length_map, zn]
        exact Nat.lt_of_lt_of_le (show i < 100 by omega) (by decide)
      · rcases List.mem_append.mp hl with m | m
        · exact ((ok4 l m).same s47).putD ha7
        · rw [List.mem_singleton.mp m]
          exact PgOk.putD ha7 ⟨e7, ig.same s47, iz2.same s7⟩
      · have e1 : ptl (zs ++ [⟨t0, g.a, pz, g.t, g.u, t2, u2⟩]) = ptl zs ++ [(qv g, vq t2 u2)] := by
          unfold ptl
          rw [List.map_append]
          rfl
        rw [e1, ev4, List.take_add_one, eg]
        unfold M08.graph
        rw [List.map_append, List.map_append]
        congr 1
        show [(qv g, vq t2 u2)] = [(qv g, Fn (qv g))]
        rw [ez2, hFn]
    rintro H4 ⟨s4, zs, zn, ha4, ok4, ev4⟩
    rw [List.length_map] at zn
    rw [List.length_map, List.take_length] at ev4
    have up : M08.Up (ptl zs) := by
      rw [ev4, hFn]
      exact M08.up_then U1 U2 _ pw
    have s14 := s13.trans s4
    refine fun y dy hy hdy hne => tm_make (tp_zs ha4 ok4 up (by omega)) B8 hy hdy hne fun H5 hs5 s5 mo5 e5 => ⟨rfl, ?_⟩
    exact k H5 y hs5 (s14.trans s5) mo5 ⟨hs.map qv, pw, mem2, by rw [e5, ev4, hFn]⟩ (none_of s14 hy)
end
end K09
set_option Elab.async false
set_option linter.all false
set_option maxRecDepth 100000
set_option maxHeartbeats 4000000
/-! A law's end where its def shows lists: no repr is under way when it is called. -/
namespace Fg
open PySem PySem.Spec PyProof.Rows L2
section
variable {P : Program} {w : World} {K : PySem.W.Frag} {mg mb : Str → Option Value} {CX : CXT} {k : Nat} {fa a : Addr} {fd : FuncData} {x : Str} {sp : Sp} {s₁ : Shared} {vs : List Value} {ns : List Int}
/-- from a heap H that tracks the script at the most -/
theorem call_from (KX : K.In s₁.heap) (hns : s₁.heap.Ns mainGlobals mg) (hb : s₁.heap.Ns builtinsNs mb) (hbb : ∀ x : Str, x ≠ "__name__" → mb x = bootBuiltins x) (hlim : s₁.heap.NoLimit) (hg : s₁.gens = #[])
    (obj : s₁.heap.get? a = some { cls := .type "list", data := .seq vs.toArray }) (hr : Room k callerA) (F : ∀ base : Heap, K.In base → base.Ns mainGlobals mg → FnG P w K mg base CX k fa fd [x] sp)
    (bind : ∀ (s : Shared) (u : Value), BindsTo s fd ⟨[u], []⟩ [(x, u)]) (noX : ∀ H e s', CX [] H s₁ (fun _ _ _ => False) e s' → False) {H : Hp} (only : Only H) (hsp : sp [.ref a] H (fun v _ => v = .bl true) fun _ _ _ => False)
    (hok : HOk P w H s₁.heap) (at_ : ∀ b, H b ≠ none → b = a) (own : H a ≠ none → K.lookup a = none) :
    codeAny (model P w) callerA (.call (.ref fa) ⟨[.ref a], []⟩) (fun r s' => r = .ok (.ret (.bool true)) ∧ OldK s₁.heap s'.heap ∧ s'.os = s₁.os ∧ AllBare s'.gens) s₁ := by
  have free : ∀ {b : Addr} {o : Obj}, s₁.heap.get? b = some o → (b = a → o ≠ { cls := .type "list", data := .seq vs.toArray }) → H b = none := by
    intro b o e ne
    cases q : H b with
    | none => rfl
    | some u =>
      have eb := at_ b (by rw [q]; exact fun z => nomatch z)
      rw [eb, obj] at e
      exact absurd (Option.some.inj e).symm (ne eb)
  have hid : ∀ {b : Addr} {o : Obj}, s₁.heap.get? b = some o → H b = none → (hidT s₁.heap H).get? b = some o := fun e n => hidT_get e n
  have nsp : ∀ {b : Addr} {m : Str → Option Value}, s₁.heap.Ns b m → (hidT s₁.heap H).Ns b m := by
    rintro b m ⟨o, es, ep, e, d, r⟩
    refine ⟨o, es, ep, hid e (free e fun _ z => ?_), d, r⟩
    rw [z] at d
    cases d
  have inB : K.In (hidT s₁.heap H) := fun b o e => hid (KX b o e) (by
    cases q : H b with
    | none => rfl
    | some u =>
      have eb := at_ b (by rw [q]; exact fun z => nomatch z)
      rw [eb] at q e
      rw [own (by rw [q]; exact fun z => nomatch z)] at e
      cases e)
  have M : Mod K mg (hidT s₁.heap H) := ⟨inB, nsp hns, ⟨mb, nsp hb, hbb⟩, hlim.imp fun _ h => ⟨nsp h.1, h.2⟩⟩
  have e0 : Env0 P w K mg (hidT s₁.heap H) callerA [] s₁ H := by
    refine ⟨rfl, M, fun b o e => of_hidT e, Nat.le_of_eq (hidT_size _ _), trivial, fun b hb => ?_, hok, .of_eq hg⟩
    exact (List.not_mem_nil hb).elim
  refine codeAny_mono ((F _ inB (nsp hns)).run callerA [] s₁ H ⟨[.ref a], []⟩ [.ref a] [.ref a] _ _ rfl hr e0 (bind s₁ (.ref a)) (.cons rfl .nil) hsp) fun res s2 out => ?_
  match res, out with
  | .error er, out => exact (noX H er s2 out).elim
  | .ok .next, out => exact out.elim
  | .ok .brk, out => exact out.elim
  | .ok .cont, out => exact out.elim
  | .ok (.ret u), out =>
    obtain ⟨v, H2, os, bare, un, hok2, ru, qv⟩ := out
    cases (show v = V.bl true from qv)
    cases ru
    refine ⟨rfl, OldK.of_keep fun b o e => ?_, os, bare⟩
    rcases only b with n | ⟨ob, xs, z⟩
    · exact un.keep b o e n (fun m => (List.not_mem_nil m).elim) (by simp)
    · obtain ⟨g1, _⟩ := hok b _ z
      obtain ⟨g2, _⟩ := hok2 b _ (un.frzs b ob _ z)
      rw [g1] at e
      rw [g2]
      exact e
theorem law_callG (KX : K.In s₁.heap) (hns : s₁.heap.Ns mainGlobals mg) (hb : s₁.heap.Ns builtinsNs mb) (hbb : ∀ x : Str, x ≠ "__name__" → mb x = bootBuiltins x) (hlim : s₁.heap.NoLimit) (hg : s₁.gens = #[])
    (obj : s₁.heap.get? a = some { cls := .type "list", data := .seq vs.toArray }) (hi : IntsAre vs ns) (hl : ns.length ≤ sizeLine) (hr : Room k callerA) (F : ∀ base : Heap, K.In base → base.Ns mainGlobals mg → FnG P w K mg base CX k fa fd [x] sp)
    (bind : ∀ (s : Shared) (u : Value), BindsTo s fd ⟨[u], []⟩ [(x, u)]) (hsp : ∀ H : Hp, Only H → SqL K H a (ns.map V.int) → sp [.ref a] H (fun v _ => v = .bl true) fun _ _ _ => False)
    (noX : ∀ H e s', CX [] H s₁ (fun _ _ _ => False) e s' → False) :
    codeAny (model P w) callerA (.call (.ref fa) ⟨[.ref a], []⟩) (fun r s' => r = .ok (.ret (.bool true)) ∧ OldK s₁.heap s'.heap ∧ s'.os = s₁.os ∧ AllBare s'.gens) s₁ := by
  have rv := vals_ints hi
  cases hk : K.lookup a with
  | some o =>
    -- the script is an object of the written part
    have e : o = { cls := .type "list", data := .seq vs.toArray } := by
      have z := KX a o hk
      rw [obj] at z
      exact (Option.some.inj z).symm
    subst e
    have sq : SqL K (fun _ => none) a (ns.map V.int) := .inr ⟨_, vs.toArray, _, hk, rfl, rfl, rfl, by rw [List.size_toArray, hi.length]; exact hl, by simpa using rv⟩
    exact call_from KX hns hb hbb hlim hg obj hr F bind noX (H := fun _ => none) (fun _ => .inl rfl) (hsp _ (fun _ => .inl rfl) sq) (fun b u z => nomatch z) (fun b z => absurd rfl z) (fun z => absurd rfl z)
  | none =>
    let H : Hp := fun b => if b = a then some (.frz { cls := .type "list", data := .seq vs.toArray } (.lst (ns.map V.int))) else none
    have ha : H a = some (.frz { cls := .type "list", data := .seq vs.toArray } (.lst (ns.map V.int))) := if_pos rfl
    have hn : ∀ {b}, b ≠ a → H b = none := fun z => if_neg z
    have only : Only H := fun b => by
      by_cases z : b = a
      · subst z
        exact .inr ⟨_, _, ha⟩
      · exact .inl (hn z)
    refine call_from KX hns hb hbb hlim hg obj hr F bind noX (H := H) only (hsp H only (.inl (.inr ⟨_, ha⟩))) (fun b u z => ?_) (fun b z => ?_) (fun _ => hk)
    · by_cases eb : b = a
      · subst eb
        cases ha.symm.trans z
        exact ⟨obj, by rw [List.length_map]; exact hl, vs, _, rv, obj⟩
      · cases (hn eb).symm.trans z
    · by_cases eb : b = a
      · exact eb
      · exact absurd (hn eb) z
end
theorem walk_ofG {l : PySem.W.OpenLaw} {n k : Nat} {q : Program} {loose : List Str} {XP : (Str → Option Value) → Heap → Prop} {YP : World → Heap → Prop} {d : DefRec} {CX : World → CXT} {x : Str}
    (hn : l.most = some n) (small : n ≤ sizeLine) (hdf : d.params.defaults = []) (hr : Room k callerA)
    (F : ∀ (w : World) (mg : Str → Option Value) (fa : Addr) (h : Heap), YP w h → h.Ns mainGlobals mg → mg d.name = some (.ref fa) → ∃ (K : PySem.W.Frag) (fd : FuncData) (sp : Sp), K.In h ∧ (∀ (s : Shared) (u : Value), BindsTo s fd ⟨[u], []⟩ [(x, u)]) ∧
        (∀ (H : Hp) (a : Addr) (ns : List Int), ns.length ≤ n → Only H → SqL K H a (ns.map V.int) → sp [.ref a] H (fun v _ => v = .bl true) fun _ _ _ => False) ∧ ∀ base : Heap, K.In base → base.Ns mainGlobals mg → FnG l.prog w K mg base (CX w) k fa fd [x] sp)
    (noX : ∀ (w : World) (H : Hp) (s : Shared) (e : Value) (s' : Shared), CX w [] H s (fun _ _ _ => False) e s' → False) : PySem.W.WalkO q loose XP YP l.row.toRowW d [] (fun f vs => PySem.call f vs) := by
  refine Att.attach_call hn hdf ?_
  intro w s₀ s₁ mg mb fa o pm cd doc a vs ns G Y ho hd hcd hmg obj hints len hg
  obtain ⟨K, fd, sp, KX, bi, hsp, hF⟩ := F w mg fa _ Y G.T.g hmg
  refine law_callG KX G.T.g G.T.b G.T.builtins G.T.nolimit hg obj hints (Nat.le_trans len small) hr hF bi ?_ (fun H e s' => noX w H s₁ e s')
  exact fun H hO hS => hsp H a ns len hO hS
end Fg
set_option Elab.async false
set_option linter.all false
set_option maxRecDepth 100000
set_option maxHeartbeats 0
set_option exponentiation.threshold 100000
namespace K09
open PySem PySem.Spec PyProof.Rows L2 Fa Fb
/-! ### where the defs stand, and what is asked of the written part -/
def pa (K : PySem.W.Frag) (f : Str) : Addr := He.ma K (CA K) f
def ga2 (K : PySem.W.Frag) (f : Str) : Addr := match PySem.W.recIn K (pa K f) "property" with
  | some (.ref g :: _) => g
  | _ => 0
open Hd in
def dG (x : Str) (i : Nat) : Def := { ad := fun K => He.ga K x, name := x, qual := x, st := top i }
open Hd in
def dM (m q : Str) (j : Nat) (dfl : List He.Dv := []) : Def := { ad := fun K => He.ma K (CA K) m, name := m, qual := q, st := inClass (top 13) j, dfl := dfl }
open Hd in
def dP (m q : Str) (j : Nat) : Def := { ad := fun K => ga2 K m, name := m, qual := q, st := inClass (top 13) j }
open Hd in
def dC (C : PySem.W.Frag → Addr) (m q : Str) (i j : Nat) (dfl : List He.Dv := []) : Def := { ad := fun K => He.ma K (C K) m, name := m, qual := q, st := inClass (top i) j, dfl := dfl }
open Hd in
def ds0 : List Hd.Def := [dC CA "__init__" "Amount.__init__" 13 0 [.int 1], dP "top" "Amount.top" 1, dP "bottom" "Amount.bottom" 2, dC CA "__eq__" "Amount.__eq__" 13 3 [], dC CA "__add__" "Amount.__add__" 13 4 [], dC CA "__sub__" "Amount.__sub__" 13 5 [], dC CA "__mul__" "Amount.__mul__" 13 6 [], dC CA "divided" "Amount.divided" 13 9 [], dC CA "compare" "Amount.compare" 13 10 [], dC CM "__init__" "TempoMap.__init__" 17 0 [.adr (He.dflAt ("TempoMap", some "__init__") 0)], dC CM "__call__" "TempoMap.__call__" 17 1 [], dC CM "__eq__" "TempoMap.__eq__" 17 2 [], dC CM "beat_of" "TempoMap.beat_of" 17 3 [], dC CM "pace" "TempoMap.pace" 17 4 [], dC CM "points" "TempoMap.points" 17 5 [], dC CM "inverse" "TempoMap.inverse" 17 6 [], dC CM "then" "TempoMap.then" 17 7 [], dG "_law_cell" 28, dG "_law_bag" 29, dG "_law_take" 30]
open Hd in
def ds1 : List Hd.Def := [dG "is_whole" 10, dG "is_amount" 14, dG "as_amount" 15, dG "is_listing" 11, dG "_rises" 19, dG "_pace" 21, dG "_reached" 22, dG "_taken" 23, dG "_exchanged" 24, dG "_standard" 20, dG "_told_points" 18, dG "_merged" 25, dG "check_map" 26, dG "_law_frac" 31, dG "_law_sum" 32, dG "_law_rest" 34, dG "_law_fraction" 37, dG "_law_step" 38, dG "_law_points" 40, dG "_law_less" 33]
open Hd in
def ds2 : List Hd.Def := [dG "_law_product" 35, dG "_law_quotient" 36, dG "_law_given" 39, dG "_law_led" 41, dG "_law_paces" 42, dG "_law_pace" 49, dG "_law_bends" 43, dG "_law_pair" 44, dG "_law_pairs" 45, dG "_law_made" 47, dG "_law_chained" 50, dG "_law_caught" 46, dG "_law_odd_right" 48, dG "_law_points_right" 51, dG "law" 52, Hd.excD "InvalidInteger" "InvalidInteger.__init__" (inClass (top 3) 0), Hd.excD "InvalidAmount" "InvalidAmount.__init__" (inClass (top 4) 0), Hd.excD "InvalidMap" "InvalidMap.__init__" (inClass (top 6) 0)]
def ds : List Hd.Def := ds0 ++ ds1 ++ ds2
def gloB (K : PySem.W.Frag) (x : Str) : Bool := He.eqO (PySem.W.nsIn K mainGlobals x) (some (some (.ref (He.ga K x))))
def freeB (K : PySem.W.Frag) (x : Str) : Bool := He.eqO (PySem.W.nsIn K mainGlobals x) (some none)
def clsB (K : PySem.W.Frag) (C : Addr) : Bool := Hd.allB [PySem.W.plainGet K C Str.empty, PySem.W.hasDictIn K C, PySem.W.plainOver K C, He.eqO (PySem.W.findIn K (.ref C) "__setattr__") (some (some (.builtin "object.__setattr__"))), He.eqO (PySem.W.findIn K (.ref C) "_top") (some none), He.eqO (PySem.W.findIn K (.ref C) "_bottom") (some none),
  PySem.W.makesIn K C, He.eqO (PySem.W.findIn K (.ref C) "__init__") (some (some (.ref (He.ma K C "__init__")))), PySem.W.isFn K (.ref (He.ma K C "__init__")), PySem.W.keepIn K (.ref C), He.eqO (PySem.W.nsIn K mainGlobals "gcd") (some (some (.builtin "math.gcd"))),
  decide (PySem.W.kitOne K (.ref C) (.type "int") = some false), decide (PySem.W.kitOne K (.ref C) (.type "bool") = some false), decide (PySem.W.kitOne K (.ref C) (.ref C) = some true), tys.all fun T => decide (PySem.W.kitOne K (.type T) (.ref C) = some false),
  He.eqO (PySem.W.findIn K (.ref C) "__class__") (some (some (.builtin "object.__class__"))), He.eqO (PySem.W.specialIn K (.builtin "object.__class__") "__get__") (some (some (.builtin "getset_descriptor.__get__"))), decide (PySem.W.takesIn K (.builtin "object.__class__") = some true),
  decide (PySem.W.mroIn K C (.type "object") = some true), tys.all fun T => decide (PySem.W.subIn K (.type T) (.ref C) = some false), PySem.W.selfFirst K C]
def tyopB (K : PySem.W.Frag) (nm T : String) : Bool := (PySem.W.findIn K (.type T) (PySem.dunder nm)).isSome && (PySem.W.findIn K (.type T) (dunderR nm)).isSome
def opB (K : PySem.W.Frag) (nm : String) (m : Str) : Bool := He.eqO (PySem.W.findIn K (.ref (CA K)) (PySem.dunder nm)) (some (some (.ref (He.ma K (CA K) m)))) && (PySem.W.isFn K (.ref (He.ma K (CA K) m)) && (He.eqO (PySem.W.findIn K (.ref (CA K)) (dunderR nm)) (some none) && tys.all fun T => tyopB K nm T))
def meB (K : PySem.W.Frag) (m : Str) : Bool := He.eqO (PySem.W.findIn K (.ref (CA K)) m) (some (some (.ref (He.ma K (CA K) m)))) && (PySem.W.isFn K (.ref (He.ma K (CA K) m)) && PySem.W.keepIn K (.ref (He.ma K (CA K) m)))
def prB (K : PySem.W.Frag) (f : Str) : Bool := He.eqO (PySem.W.findIn K (.ref (CA K)) f) (some (some (.ref (pa K f)))) && (He.eqO (PySem.W.specialIn K (.ref (pa K f)) "__get__") (some (some (.builtin "property.__get__"))) && (decide (PySem.W.takesIn K (.ref (pa K f)) = some true) &&
  match PySem.W.recIn K (pa K f) "property" with
  | some (.ref g :: _) => decide (g = ga2 K f)
  | _ => false))
def sysB (K : PySem.W.Frag) : Bool := match K.lookup sysModules with
  | some ⟨_, _, .dict _ _, _⟩ => true
  | _ => false
def strsB : List Value → List Str → Bool
  | [], [] => true
  | .str x _ :: l, z :: r => decide (x = z) && strsB l r
  | _, _ => false
theorem strsB_ok : ∀ (us : List Value) (zs : List Str), strsB us zs = true → Vals (zs.map V.str) us
  | [], [], _ => .nil
  | .str x t :: l, z :: r, h => by
    obtain ⟨a, b⟩ := He.ba h
    have e := of_decide_eq_true a
    subst e
    exact .cons ⟨t, rfl⟩ (strsB_ok l r b)
def tupB (K : PySem.W.Frag) (a : Addr) (zs : List Str) : Bool := match K.lookup a with
  | some ⟨.type t, _, .seq its _, _⟩ => decide (t = "tuple") && (decide (its.size ≤ sizeLine) && strsB its.toList zs)
  | _ => false
theorem tupB_of {K : PySem.W.Frag} {a : Addr} {zs : List Str} (h : tupB K a zs = true) (H : Hp) : SqT K H a (zs.map V.str) := by
  unfold tupB at h
  split at h
  · rename_i t d its n sl e
    obtain ⟨h1, h⟩ := He.ba h
    obtain ⟨h2, h3⟩ := He.ba h
    have e1 := of_decide_eq_true h1
    subst e1
    exact .inr ⟨_, its, n, e, rfl, rfl, of_decide_eq_true h2, strsB_ok _ _ h3⟩
  · cases h
theorem prB_of {K : PySem.W.Frag} {f : Str} (h : prB K f = true) : PropOf K (CA K) f (pa K f) (ga2 K f) := by
  obtain ⟨h1, h⟩ := He.ba h
  obtain ⟨h2, h⟩ := He.ba h
  obtain ⟨h3, h4⟩ := He.ba h
  refine ⟨He.eqO_ok h1, He.eqO_ok h2, of_decide_eq_true h3, ?_⟩
  have h5 : (match PySem.W.recIn K (pa K f) "property" with
  | some (.ref g :: _) => decide (g = ga2 K f)
  | _ => false) = true := h4
  split at h5
  · rename_i g r e
    exact ⟨r, by rw [e, of_decide_eq_true h5]⟩
  · cases h5
theorem sysB_of {K : PySem.W.Frag} (h : sysB K = true) : Fg.SysD K := by
  unfold sysB at h
  split at h
  · rename_i c dd es ep sl e
    exact ⟨c, dd, es, ep, sl, e⟩
  · cases h
theorem meB_of {K : PySem.W.Frag} {m : Str} (h : meB K m = true) : Meth K (CA K) m (He.ma K (CA K) m) := by
  obtain ⟨h1, h⟩ := He.ba h
  obtain ⟨h2, h3⟩ := He.ba h
  exact ⟨He.eqO_ok h1, h2, h3⟩
def mmB (K : PySem.W.Frag) (m : Str) : Bool := He.eqO (PySem.W.findIn K (.ref (CM K)) m) (some (some (.ref (He.ma K (CM K) m)))) && (PySem.W.isFn K (.ref (He.ma K (CM K) m)) && PySem.W.keepIn K (.ref (He.ma K (CM K) m)))
theorem mmB_of {K : PySem.W.Frag} {m : Str} (h : mmB K m = true) : Meth K (CM K) m (He.ma K (CM K) m) := by
  obtain ⟨h1, h⟩ := He.ba h
  obtain ⟨h2, h3⟩ := He.ba h
  exact ⟨He.eqO_ok h1, h2, h3⟩
def mapB (K : PySem.W.Frag) (C : Addr) : Bool := Hd.allB [PySem.W.plainGet K C Str.empty, PySem.W.hasDictIn K C, PySem.W.plainOver K C, He.eqO (PySem.W.findIn K (.ref C) "__setattr__") (some (some (.builtin "object.__setattr__"))), He.eqO (PySem.W.findIn K (.ref C) "_points") (some none), He.eqO (PySem.W.findIn K (.ref C) "_turned") (some none),
  PySem.W.makesIn K C, He.eqO (PySem.W.findIn K (.ref C) "__init__") (some (some (.ref (He.ma K C "__init__")))), PySem.W.isFn K (.ref (He.ma K C "__init__")), PySem.W.keepIn K (.ref C)]
theorem opF_of {K : PySem.W.Frag} {nm : String} {m : Str} (h : opB K nm m = true) (sf : PySem.W.selfFirst K (CA K) = true) (sub : ∀ T ∈ tys, PySem.W.subIn K (.type T) (.ref (CA K)) = some false) : OpF K nm (He.ma K (CA K) m) := by
  obtain ⟨h1, h⟩ := He.ba h
  obtain ⟨h2, h⟩ := He.ba h
  obtain ⟨h3, h4⟩ := He.ba h
  refine ⟨⟨sf, He.eqO_ok h1, h2, He.eqO_ok h3⟩, fun T hT => ?_⟩
  obtain ⟨a, b⟩ := He.ba (List.all_eq_true.mp h4 T hT)
  obtain ⟨fo, hfo⟩ := Option.isSome_iff_exists.mp a
  obtain ⟨ro, hro⟩ := Option.isSome_iff_exists.mp b
  exact ⟨fo, ro, hfo, hro, sub T hT⟩
def glos0 : List Str := ["law", "Amount", "TempoMap", "InvalidInteger", "InvalidAmount", "InvalidMap", "_law_cell", "_law_bag", "_law_take", "is_whole", "is_amount", "as_amount", "is_listing", "_rises", "_pace", "_reached", "_taken", "_exchanged", "_standard", "_told_points"]
def glos1 : List Str := ["_merged", "check_map", "_law_frac", "_law_sum", "_law_rest", "_law_fraction", "_law_step", "_law_points", "_law_less", "_law_product", "_law_quotient", "_law_given", "_law_led", "_law_paces", "_law_pace", "_law_bends", "_law_pair", "_law_pairs", "_law_made", "_law_chained"]
def glos2 : List Str := ["_law_caught", "_law_odd_right", "_law_points_right"]
def glos : List Str := glos0 ++ glos1 ++ glos2
def frees : List Str := ["abs", "bool", "enumerate", "int", "isinstance", "len", "list", "max", "min", "range", "repr", "tuple", "zip"]
def file : Str := PySem.Challenge.pw_anytempo_k09_maps_there_and_back.main.file
def chk (K : PySem.W.Frag) : Bool := Hd.allB [glos.all (gloB K), frees.all (freeB K), clsB K (CA K), mapB K (CM K), meB K "__eq__", He.eqO (PySem.W.findIn K (.ref (CA K)) "__ne__") (some (some (.builtin "object.__ne__"))), decide (PySem.W.subIn K (.ref (CA K)) (.type "object") = some true), opB K "add" "__add__", opB K "sub" "__sub__", opB K "mul" "__mul__", meB K "divided", meB K "compare", prB K "top", prB K "bottom", mmB K "points", mmB K "pace", mmB K "__call__", mmB K "__eq__", mmB K "beat_of", mmB K "inverse", mmB K "then", PySem.W.fnIn K (He.ma K (CM K) "__call__"), He.eqO (PySem.W.findIn K (.ref (CM K)) "__ne__") (some (some (.builtin "object.__ne__"))), decide (PySem.W.subIn K (.ref (CM K)) (.type "object") = some true), decide (CM K ≠ CA K), decide (PySem.W.kitOne K (.ref (CM K)) (.ref (CM K)) = some true), decide (PySem.W.kitOne K (.ref (CM K)) (.ref (CA K)) = some false), decide (PySem.W.kitOne K (.ref (CM K)) (.type "int") = some false), decide (PySem.W.kitOne K (.ref (CM K)) (.type "bool") = some false), decide (PySem.W.kitOne K (.ref (CA K)) (.ref (CM K)) = some false), tys.all fun T => decide (PySem.W.kitOne K (.type T) (.ref (CM K)) = some false), He.eqO (PySem.W.findIn K (.ref (CM K)) "__class__") (some (some (.builtin "object.__class__"))), decide (PySem.W.mroIn K (CM K) (.type "object") = some true), decide (PySem.W.exmOne K (.ref (CIM K)) (.ref (CV K)) = some false), sysB K, tupB K (He.dflAt ("TempoMap", some "__init__") 0 K) [], Hd.excB file K "InvalidInteger" "value", Hd.excB file K "InvalidAmount" "value", Hd.excB file K "InvalidMap" "value"]
end K09
set_option Elab.async false
set_option linter.all false
set_option maxRecDepth 100000
set_option maxHeartbeats 4000000
/-! As HK2's hook, the dict of sys.modules beside. -/
namespace Hd
open PySem PySem.Spec PyProof.Rows L2
def adS (g : Addr → Option Obj) (n : Nat) : List Addr := sysModules :: grow g n
def hookS (n : Nat) (ds : List Def) (chk : PySem.W.Frag → Bool) : PySem.W.Hook where
  α := Al
  obs := fun s => obsK ds chk (He.frG s.heap.get? (adS s.heap.get? n))
  val := fun _ => valK ds
  says := fun _ h => ∃ K : PySem.W.Frag, K.In h ∧ obsK ds chk K = valK ds
  of := fun _ _ e => ⟨_, He.frG_in, e⟩
  keeps := fun _ _ _ ⟨K, hK, c⟩ k => ⟨K, PySem.W.Frag.In.keeps hK k, c⟩
def obS (n : Nat) (ds : List Def) (chk : PySem.W.Frag → Bool) (s : PySem.W.SharedT) : Al := obsK ds chk (He.frG (HandSHeadRun.getT s) (adS (HandSHeadRun.getT s) n))
theorem obS_eq (n : Nat) (ds : List Def) (chk : PySem.W.Frag → Bool) (s : PySem.W.SharedT) : obS n ds chk s = (hookS n ds chk).obs s.abs := by
  have e : HandSHeadRun.getT s = s.abs.heap.get? := funext fun a => HandSHeadRun.getT_eq s a
  unfold obS
  rw [e]
  rfl
end Hd
set_option Elab.async false
set_option linter.all false
set_option maxRecDepth 100000
set_option maxHeartbeats 4000000
/-! As HK3's hook, over a list of places that is told. -/
namespace Hd
open PySem PySem.Spec PyProof.Rows L2
def hookL (as : List Addr) (ds : List Def) (chk : PySem.W.Frag → Bool) : PySem.W.Hook where
  α := Al
  obs := fun s => obsK ds chk (He.frG s.heap.get? as)
  val := fun _ => valK ds
  says := fun _ h => ∃ K : PySem.W.Frag, K.In h ∧ obsK ds chk K = valK ds
  of := fun _ _ e => ⟨_, He.frG_in, e⟩
  keeps := fun _ _ _ ⟨K, hK, c⟩ k => ⟨K, PySem.W.Frag.In.keeps hK k, c⟩
def obL (as : List Addr) (ds : List Def) (chk : PySem.W.Frag → Bool) (s : PySem.W.SharedT) : Al := obsK ds chk (He.frG (HandSHeadRun.getT s) as)
theorem obL_eq (as : List Addr) (ds : List Def) (chk : PySem.W.Frag → Bool) (s : PySem.W.SharedT) : obL as ds chk s = (hookL as ds chk).obs s.abs := by
  have e : HandSHeadRun.getT s = s.abs.heap.get? := funext fun a => HandSHeadRun.getT_eq s a
  unfold obL
  rw [e]
  rfl
end Hd
set_option Elab.async false
set_option linter.all false
set_option maxRecDepth 100000
set_option maxHeartbeats 0
namespace K09
open PySem PySem.Spec PyProof.Rows L2
def nm0 : List PySem.Str := ["CueError", "InvalidInteger", "InvalidAmount", "InvalidPart", "InvalidMap", "InvalidPoint", "Falling", "is_whole", "is_listing", "Amount", "is_amount", "as_amount", "TempoMap", "_told_points", "_rises", "_standard", "_pace", "_reached", "_taken", "_exchanged", "_merged", "check_map", "_law_cell", "_law_bag", "_law_take"]
def nm1 : List PySem.Str := ["_law_frac", "_law_sum", "_law_less", "_law_rest", "_law_product", "_law_quotient", "_law_fraction", "_law_step", "_law_given", "_law_points", "_law_led", "_law_paces", "_law_bends", "_law_pair", "_law_pairs", "_law_caught", "_law_made", "_law_odd_right", "_law_pace", "_law_chained", "_law_points_right"]
def nms : List PySem.Str := nm0 ++ nm1
def as0 : List Addr := [1, 3, 2, 6, 4, 52, 74, 95, 116, 137, 158, 179, 188, 195, 285, 296, 303, 369, 380, 387, 392, 399, 406, 413, 418, 425, 432, 439, 446, 453]
def as1 : List Addr := [460, 467, 474, 481, 488, 495, 502, 509, 516, 523, 530, 537, 542, 549, 554, 561, 566, 573, 578, 583, 588, 593, 16, 20, 22, 27, 33, 38, 0, 51]
def as2 : List Addr := [73, 94, 115, 136, 157, 178, 187, 194, 284, 295, 302, 368, 379, 386, 391, 398, 405, 412, 417, 424, 431, 438, 445, 452, 459, 466, 473, 480, 487, 494]
def as3 : List Addr := [501, 508, 515, 522, 529, 536, 541, 548, 553, 560, 565, 572, 577, 582, 587, 592, 15, 21, 26, 32, 50, 53, 71, 72, 92, 93, 113, 114, 134, 135]
def as4 : List Addr := [155, 156, 176, 177, 182, 183, 184, 185, 186, 189, 190, 191, 192, 193, 210, 218, 226, 233, 240, 247, 254, 261, 268, 275, 282, 283, 286, 287, 290, 291]
def as5 : List Addr := [292, 293, 294, 297, 298, 299, 300, 301, 319, 326, 333, 340, 347, 354, 361, 366, 367, 370, 371, 374, 375, 376, 377, 378, 381, 382, 383, 384, 385, 388]
def as6 : List Addr := [389, 390, 393, 394, 395, 396, 397, 400, 401, 402, 403, 404, 407, 408, 409, 410, 411, 414, 415, 416, 419, 420, 421, 422, 423, 426, 427, 428, 429, 430]
def as7 : List Addr := [433, 434, 435, 436, 437, 440, 441, 442, 443, 444, 447, 448, 449, 450, 451, 454, 455, 456, 457, 458, 461, 462, 463, 464, 465, 468, 469, 470, 471, 472]
def as8 : List Addr := [475, 476, 477, 478, 479, 482, 483, 484, 485, 486, 489, 490, 491, 492, 493, 496, 497, 498, 499, 500, 503, 504, 505, 506, 507, 510, 511, 512, 513, 514]
def as9 : List Addr := [517, 518, 519, 520, 521, 524, 525, 526, 527, 528, 531, 532, 533, 534, 535, 538, 539, 540, 543, 544, 545, 546, 547, 550, 551, 552, 555, 556, 557, 558]
def as10 : List Addr := [559, 562, 563, 564, 567, 568, 569, 570, 571, 574, 575, 576, 579, 580, 581, 584, 585, 586, 589, 590, 591, 17, 18, 19, 23, 24, 25, 28, 34, 35]
def as11 : List Addr := [36, 70, 59, 91, 80, 112, 101, 133, 122, 154, 143, 175, 164, 209, 203, 217, 225, 232, 239, 246, 253, 260, 267, 274, 281, 318, 312, 325, 332, 339]
def as12 : List Addr := [346, 353, 360, 365, 65, 66, 67, 68, 69, 86, 87, 88, 89, 90, 107, 108, 109, 110, 111, 128, 129, 130, 131, 132, 149, 150, 151, 152, 153, 170]
def as13 : List Addr := [171, 172, 173, 174, 204, 205, 206, 207, 208, 216, 224, 227, 228, 229, 230, 231, 234, 235, 236, 237, 238, 241, 242, 243, 244, 245, 248, 249, 250, 251]
def as14 : List Addr := [252, 255, 256, 257, 258, 259, 262, 263, 264, 265, 266, 269, 270, 271, 272, 273, 276, 277, 278, 279, 280, 313, 314, 315, 316, 317, 311, 320, 321, 322]
def as15 : List Addr := [323, 324, 327, 328, 329, 330, 331, 334, 335, 336, 337, 338, 341, 342, 343, 344, 345, 348, 349, 350, 351, 352, 355, 356, 357, 358, 359, 362, 363, 364]
def asL : List Addr := as0 ++ as1 ++ as2 ++ as3 ++ as4 ++ as5 ++ as6 ++ as7 ++ as8 ++ as9 ++ as10 ++ as11 ++ as12 ++ as13 ++ as14 ++ as15
abbrev lawAt : Nat := 52
abbrev RR : PySem.W.OpenRow := PySem.W.OpenLaw.row PySem.Challenge.rw_anytempo_k09_maps_there_and_back
abbrev hk : PySem.W.Hook := Hd.hookL asL ds chk
theorem run (w : World) : HandSHeadRun.RunEqI RR (PySem.W.view RR.prog [0, lawAt]) hk (Hd.obL asL ds chk) 20000 nms w := by
  unfold HandSHeadRun.RunEqI
  kernel_rfl
end K09
set_option Elab.async false
set_option linter.all false
set_option maxRecDepth 100000
set_option maxHeartbeats 1000000
set_option exponentiation.threshold 100000
namespace K09
open PySem PySem.Spec PyProof.Rows L2 Fa Fb
abbrev sFrac : Stmt := top 31
abbrev sSum : Stmt := top 32
abbrev sRest : Stmt := top 34
theorem scFrac : FnScope ["_law_top", "_law_bottom", "_law_one", "_law_other", "_law_sign"] ["_law_top", "_law_bottom"] (defScope sFrac) := ⟨rfl, rfl, rfl, by decide +kernel, rfl, by decide +kernel, by decide +kernel⟩
theorem scSum : FnScope ["_law_one", "_law_other"] ["_law_one", "_law_other"] (defScope sSum) := ⟨rfl, rfl, rfl, by decide +kernel, rfl, by decide +kernel, by decide +kernel⟩
theorem scRest : FnScope ["_law_one", "_law_other"] ["_law_one", "_law_other"] (defScope sRest) := ⟨rfl, rfl, rfl, by decide +kernel, rfl, by decide +kernel, by decide +kernel⟩
def spFrac : Sp := fun vs H Q _ => ∃ a b : Int, vs = [.int a, .int b] ∧ b ≠ 0 ∧ b.natAbs < 2 ^ 8000 ∧ ∀ p t u H', Same H H' → Am.Red t u → t * b = a * u → t.natAbs ≤ a.natAbs → u.natAbs ≤ b.natAbs → H' p = some (.tup [.int t, .int u]) → Q (.ref p) H'
/-- a fraction of the law: the pair at p -/
def Fr (H : Hp) (p : Addr) (t u : Int) : Prop := H p = some (.tup [.int t, .int u])
def spSum : Sp := fun vs H Q _ => ∃ (p q : Addr) (t u t2 u2 : Int) (n : Nat), vs = [.ref p, .ref q] ∧ Fr H p t u ∧ Fr H q t2 u2 ∧ 0 < u ∧ 0 < u2 ∧ t.natAbs < 2 ^ n ∧ u.natAbs < 2 ^ n ∧ t2.natAbs < 2 ^ n ∧ u2.natAbs < 2 ^ n ∧ n ≤ 3900 ∧
  ∀ r a b H', Same H H' → Am.Red a b → a * (u * u2) = (t * u2 + t2 * u) * b → b.natAbs ≤ (u * u2).natAbs → Fr H' r a b → Q (.ref r) H'
def spRest : Sp := fun vs H Q _ => ∃ (p q : Addr) (t u t2 u2 : Int) (n : Nat), vs = [.ref p, .ref q] ∧ Fr H p t u ∧ Fr H q t2 u2 ∧ 0 < u ∧ 0 < u2 ∧ t.natAbs < 2 ^ n ∧ u.natAbs < 2 ^ n ∧ t2.natAbs < 2 ^ n ∧ u2.natAbs < 2 ^ n ∧ n ≤ 3900 ∧
  ∀ r a b H', Same H H' → Am.Red a b → a * (u * u2) = (t * u2 - t2 * u) * b → b.natAbs ≤ (u * u2).natAbs → Fr H' r a b → Q (.ref r) H'
section
variable {P : Program} {w : World} {K : PySem.W.Frag} {mg : Str → Option Value} {base : Heap} {f fF : Addr} {fd fdF : FuncData}
theorem ok_frac (F : FnP K "_law_frac" sFrac f fd) (mA : mg "abs" = none) : FnOk P w K mg base (L2.CX P w) 1 f fd ["_law_top", "_law_bottom"] spFrac := by
  refine F.ok scFrac (fun vs H Q E h => ?_) (fun cdv A outer s H vs Q E hr h => ?_)
  · obtain ⟨a, b, rfl, _⟩ := h
    rfl
  · obtain ⟨a, b, rfl, hb, hB, q⟩ := h
    refine ⟨_, (pss_cons (ps_par (by rfl) scFrac.nd (i := 2) (j := 3) rfl rfl (by decide) rfl rfl (pa_cons (pe_callB (id := "abs") call_abs rfl mA (by decide +kernel) (pa_cons (pv 0) pa_nil)) (pa_cons (pe_callB (id := "abs") call_abs rfl mA (by decide +kernel) (pa_cons (pv 1) pa_nil)) pa_nil)) (by rfl))
      (pss_cons (ps_while (passes_of rfl) (pt_cmpR op_gt (pv 3) pe_int (nomark _))
      (pss_one (ps_par (by rfl) scFrac.nd (i := 2) (j := 3) rfl rfl (by decide) rfl rfl (pa_cons (pv 3) (pa_cons (pe_op op_mod (pv 2) (pv 3)) pa_nil)) (by rfl))))
      (pss_cons (ps_set (i := 4) scFrac.nd rfl (Or.inl rfl) (pe_ifExp (pt_cmpR op_lt (pv 1) pe_int (nomark _)) (pe_un un_neg pe_int) pe_int))
      (pss_one (ps_ret (pe_tup (pa_cons (pe_op op_fdivX (pe_op op_mul (pv 4) (pv 0)) (pv 2)) (pa_cons (pe_op op_fdivX (pe_op op_mul (pv 4) (pv 1)) (pv 2)) pa_nil)))))))), ?_⟩
    refine ⟨_, rfl, _, rfl, _, rfl, _, rfl, _, _, rfl, ?_⟩
    refine while_by (fun σ H' => H' = H ∧ ∃ x y : Int, σ = [some (.int a), some (.int b), some (.int x), some (.int y), none] ∧ 0 ≤ x ∧ 0 ≤ y ∧ Nat.gcd x.natAbs y.natAbs = Nat.gcd a.natAbs b.natAbs)
      (fun σ _ => match σ with | [_, _, _, some (.int y), _] => y.toNat | _ => 0) ⟨rfl, _, _, rfl, ?_, ?_, ?_⟩ ?_ ?_
    · split <;> omega
    · split <;> omega
    · have absI : ∀ x : Int, (if x < 0 then -x else x) = (x.natAbs : Int) := fun x => by split <;> omega
      rw [absI, absI, Int.natAbs_natCast, Int.natAbs_natCast]
    · rintro σ H' ⟨rfl, x, y, rfl, hx, hy, hg⟩
      refine ⟨_, rfl, _, _, rfl, rfl, _, rfl, ?_⟩
      by_cases c : 0 < y
      · refine if_true_of (decide_eq_true c) ?_
        refine ⟨_, rfl, _, rfl, _, rfl, _, _, rfl, rfl, c, _, _, rfl, ?_⟩
        have m0 : 0 ≤ x % y := Int.emod_nonneg _ (by omega)
        have m1 : x % y < y := Int.emod_lt_of_pos _ c
        refine ⟨⟨rfl, y, x % y, rfl, hy, m0, ?_⟩, ?_⟩
        · rw [← hg, ← Am.gcd_step (show 0 < y.natAbs by omega)]
          congr 1
          rw [Int.natAbs_emod_of_nonneg hx]
        · show (x % y).toNat < y.toNat
          omega
      · refine if_false_of (decide_eq_false c) ?_
        have y0 : y = 0 := by omega
        subst y0
        have ex : x = ((Nat.gcd a.natAbs b.natAbs : Nat) : Int) := by
          have : x.natAbs = Nat.gcd a.natAbs b.natAbs := by simpa using hg
          omega
        obtain ⟨k1, k2, k3, k4, k5, k6⟩ := Am.mk a b hb _ rfl
        rw [← ex] at k1 k2 k3 k4 k5 k6
        have x0 : x ≠ 0 := fun e => by
          rw [e] at k1
          split at k1 <;> exact k1 rfl
        have lg : x.natAbs.log2 < 9000 := Nat.lt_trans ((Nat.log2_lt (by omega)).mpr (Nat.lt_of_le_of_lt (by split at k2 <;> omega) hB)) (by decide)
        refine ⟨_, rfl, _, _, rfl, rfl, _, rfl, ?_⟩
        by_cases c2 : b < 0
        · rw [if_pos c2] at k1 k3 k4 k5 k6
          have ea : (-1 * a).fdiv x = a.fdiv (-x) := by
            rw [Int.neg_one_mul, ← Int.neg_fdiv_neg, Int.neg_neg]
          have eb : (-1 * b).fdiv x = b.fdiv (-x) := by
            rw [Int.neg_one_mul, ← Int.neg_fdiv_neg, Int.neg_neg]
          refine if_true_of (decide_eq_true c2) ⟨_, rfl, ?_⟩
          refine ⟨_, rfl, _, rfl, _, _, rfl, rfl, .inl ⟨by decide, by decide⟩, _, rfl, _, _, rfl, rfl, ⟨x0, lg⟩, _, rfl, _, rfl, _, _, rfl, rfl, .inl ⟨by decide, by decide⟩, _, rfl, _, _, rfl, rfl, ⟨x0, lg⟩, by show 2 ≤ sizeLine; decide, fun p hp => ?_⟩
          refine q p _ _ _ (Same.upd hp) k3 k4 k5 k6 ?_
          rw [← ea, ← eb]
          exact upd_same
        · rw [if_neg c2] at k1 k3 k4 k5 k6
          have ea : (1 * a).fdiv x = a.fdiv x := by rw [Int.one_mul]
          have eb : (1 * b).fdiv x = b.fdiv x := by rw [Int.one_mul]
          refine if_false_of (decide_eq_false c2) ?_
          refine ⟨_, rfl, _, rfl, _, _, rfl, rfl, .inl ⟨by decide, by decide⟩, _, rfl, _, _, rfl, rfl, ⟨x0, lg⟩, _, rfl, _, rfl, _, _, rfl, rfl, .inl ⟨by decide, by decide⟩, _, rfl, _, _, rfl, rfl, ⟨x0, lg⟩, by show 2 ≤ sizeLine; decide, fun p hp => ?_⟩
          refine q p _ _ _ (Same.upd hp) k3 k4 k5 k6 ?_
          rw [← ea, ← eb]
          exact upd_same
    · intro σ H' Q1 Q2 k h
      obtain ⟨v, h1, i, j, h2, h3, b', h4, h5⟩ := h
      exact ⟨v, h1, i, j, h2, h3, b', h4, k _ _ h5⟩
theorem ok_sum (F : FnP K "_law_sum" sSum f fd) (FR : Fn P w K mg base "_law_frac" 1 ["_law_top", "_law_bottom"] spFrac fF fdF) : FnOk P w K mg base (L2.CX P w) 2 f fd ["_law_one", "_law_other"] spSum := by
  refine F.ok scSum (fun vs H Q E h => ?_) (fun cdv A outer s H vs Q E hr1 h => ?_)
  · obtain ⟨p, q, t, u, t2, u2, n, rfl, _⟩ := h
    rfl
  · obtain ⟨p, q, t, u, t2, u2, n, rfl, hp, hq, u0, u20, b1, b2, b3, b4, hn, k⟩ := h
    refine ⟨_, (pss_one (ps_ret (pe_call FR.ok hr1 rfl FR.g FR.k FR.b .nil passL (pa_cons (pe_op op_add (pe_op op_mulW (pe_ix ix_tup (pv 0) pe_int (fun _ _ => rfl)) (pe_ix ix_tup (pv 1) pe_int (fun _ _ => rfl))) (pe_op op_mulW (pe_ix ix_tup (pv 1) pe_int (fun _ _ => rfl)) (pe_ix ix_tup (pv 0) pe_int (fun _ _ => rfl)))) (pa_cons (pe_op op_mulW (pe_ix ix_tup (pv 0) pe_int (fun _ _ => rfl)) (pe_ix ix_tup (pv 1) pe_int (fun _ _ => rfl))) pa_nil))))), ?_⟩
    have i0 : ∀ x y : V, atI [x, y] 0 = some x := fun _ _ => rfl
    have i1 : ∀ x y : V, atI [x, y] 1 = some y := fun _ _ => rfl
    have P0 : ∀ Q' : VK, Q' (.int t) H → tOp (rIxT K) (tVar 0) (tC (.int 0)) [some (.ref p), some (.ref q)] H Q' := fun Q' h => ⟨_, rfl, p, _, _, _, rfl, rfl, SqT.of hp, i0 _ _, h⟩
    have P1 : ∀ Q' : VK, Q' (.int u) H → tOp (rIxT K) (tVar 0) (tC (.int 1)) [some (.ref p), some (.ref q)] H Q' := fun Q' h => ⟨_, rfl, p, _, _, _, rfl, rfl, SqT.of hp, i1 _ _, h⟩
    have Q0 : ∀ Q' : VK, Q' (.int t2) H → tOp (rIxT K) (tVar 1) (tC (.int 0)) [some (.ref p), some (.ref q)] H Q' := fun Q' h => ⟨_, rfl, q, _, _, _, rfl, rfl, SqT.of hq, i0 _ _, h⟩
    have Q1 : ∀ Q' : VK, Q' (.int u2) H → tOp (rIxT K) (tVar 1) (tC (.int 1)) [some (.ref p), some (.ref q)] H Q' := fun Q' h => ⟨_, rfl, q, _, _, _, rfl, rfl, SqT.of hq, i1 _ _, h⟩
    refine P0 _ (Q1 _ ⟨_, _, rfl, rfl, mulW_of b1 b4 (by omega), Q0 _ (P1 _ ⟨_, _, rfl, rfl, mulW_of b3 b2 (by omega), _, _, rfl, rfl, P1 _ (Q1 _ ⟨_, _, rfl, rfl, mulW_of b2 b4 (by omega), ?_⟩)⟩)⟩)
    refine ⟨_, _, rfl, Int.mul_ne_zero (by omega) (by omega), pow_step (abs_mul_lt b2 b4) (by omega), fun r a b H' s rd e _ hl hr => k r a b H' s rd e hl hr⟩
theorem ok_rest (F : FnP K "_law_rest" sRest f fd) (FR : Fn P w K mg base "_law_frac" 1 ["_law_top", "_law_bottom"] spFrac fF fdF) : FnOk P w K mg base (L2.CX P w) 2 f fd ["_law_one", "_law_other"] spRest := by
  refine F.ok scRest (fun vs H Q E h => ?_) (fun cdv A outer s H vs Q E hr1 h => ?_)
  · obtain ⟨p, q, t, u, t2, u2, n, rfl, _⟩ := h
    rfl
  · obtain ⟨p, q, t, u, t2, u2, n, rfl, hp, hq, u0, u20, b1, b2, b3, b4, hn, k⟩ := h
    refine ⟨_, (pss_one (ps_ret (pe_call FR.ok hr1 rfl FR.g FR.k FR.b .nil passL (pa_cons (pe_op op_sub (pe_op op_mulW (pe_ix ix_tup (pv 0) pe_int (fun _ _ => rfl)) (pe_ix ix_tup (pv 1) pe_int (fun _ _ => rfl))) (pe_op op_mulW (pe_ix ix_tup (pv 1) pe_int (fun _ _ => rfl)) (pe_ix ix_tup (pv 0) pe_int (fun _ _ => rfl)))) (pa_cons (pe_op op_mulW (pe_ix ix_tup (pv 0) pe_int (fun _ _ => rfl)) (pe_ix ix_tup (pv 1) pe_int (fun _ _ => rfl))) pa_nil))))), ?_⟩
    have i0 : ∀ x y : V, atI [x, y] 0 = some x := fun _ _ => rfl
    have i1 : ∀ x y : V, atI [x, y] 1 = some y := fun _ _ => rfl
    have P0 : ∀ Q' : VK, Q' (.int t) H → tOp (rIxT K) (tVar 0) (tC (.int 0)) [some (.ref p), some (.ref q)] H Q' := fun Q' h => ⟨_, rfl, p, _, _, _, rfl, rfl, SqT.of hp, i0 _ _, h⟩
    have P1 : ∀ Q' : VK, Q' (.int u) H → tOp (rIxT K) (tVar 0) (tC (.int 1)) [some (.ref p), some (.ref q)] H Q' := fun Q' h => ⟨_, rfl, p, _, _, _, rfl, rfl, SqT.of hp, i1 _ _, h⟩
    have Q0 : ∀ Q' : VK, Q' (.int t2) H → tOp (rIxT K) (tVar 1) (tC (.int 0)) [some (.ref p), some (.ref q)] H Q' := fun Q' h => ⟨_, rfl, q, _, _, _, rfl, rfl, SqT.of hq, i0 _ _, h⟩
    have Q1 : ∀ Q' : VK, Q' (.int u2) H → tOp (rIxT K) (tVar 1) (tC (.int 1)) [some (.ref p), some (.ref q)] H Q' := fun Q' h => ⟨_, rfl, q, _, _, _, rfl, rfl, SqT.of hq, i1 _ _, h⟩
    refine P0 _ (Q1 _ ⟨_, _, rfl, rfl, mulW_of b1 b4 (by omega), Q0 _ (P1 _ ⟨_, _, rfl, rfl, mulW_of b3 b2 (by omega), _, _, rfl, rfl, P1 _ (Q1 _ ⟨_, _, rfl, rfl, mulW_of b2 b4 (by omega), ?_⟩)⟩)⟩)
    refine ⟨_, _, rfl, Int.mul_ne_zero (by omega) (by omega), pow_step (abs_mul_lt b2 b4) (by omega), fun r a b H' s rd e _ hl hr => k r a b H' s rd e hl hr⟩
end
end K09

set_option Elab.async false
set_option linter.all false
set_option maxRecDepth 100000
set_option maxHeartbeats 1000000
set_option exponentiation.threshold 100000
namespace K09
open PySem PySem.Spec PyProof.Rows L2 Fa Fb
-- ['_law_bag_here', '_law_cap', '_law_found', '_law_beat', '_law_second', '_law_index', '_law_way']
def Kp (p : Addr) (H H' : Hp) : Prop := ∀ q o, q ≠ p → H q = some o → H' q = some o
theorem Kp.refl (p : Addr) (H : Hp) : Kp p H H := fun _ _ _ h => h
theorem Kp.trans {p : Addr} {H H1 H2 : Hp} (a : Kp p H H1) (b : Kp p H1 H2) : Kp p H H2 := fun q o n h => b q o n (a q o n h)
theorem Kp.but {p : Addr} {H H' : Hp} (h : But p H H') : Kp p H H' := fun q o n z => by rw [h q n]; exact z
theorem Kp.same {p : Addr} {H H' : Hp} (h : Same H H') : Kp p H H' := fun q o _ z => h q o z
theorem Kp.no {p D : Addr} {H H1 : Hp} (k : Kp p H H1) (ne : D ≠ p) (h : H1 D = none) : H D = none := by
  cases e : H D with
  | none => rfl
  | some o =>
    rw [k _ _ ne e] at h
    cases h
theorem Kp.put {p D : Addr} {H H' : Hp} {o : HO} (k : Kp p H H') (h : H D = none) : Kp p H (upd H' D o) := fun q u n z => by
  rw [upd_ne (ne_of_none z h)]
  exact k q u n z
theorem _root_.Fa.Box.ne {H : Hp} {p l : Addr} {n : Nat} (b : Box H p n) (hl : H l = none) : p ≠ l := by
  obtain ⟨_, _, _, h, _⟩ := b
  exact ne_of_none h hl
theorem _root_.Fa.Box.put {H : Hp} {p D : Addr} {n : Nat} {o : HO} (b : Box H p n) (ne : D ≠ p) : Box (upd H D o) p n := by
  obtain ⟨x, y, z, h, r⟩ := b
  exact ⟨x, y, z, by rw [upd_ne ne.symm]; exact h, r⟩
theorem _root_.Fa.Box.upd {H : Hp} {p l : Addr} {n : Nat} {o : HO} (b : Box H p n) (hl : H l = none) : Box (upd H l o) p n := b.put (b.ne hl).symm
theorem _root_.Fa.Box.sm {H H' : Hp} {p : Addr} {n : Nat} (b : Box H p n) (s : Same H H') : Box H' p n := by
  obtain ⟨x, y, z, h, r⟩ := b
  exact ⟨x, y, z, s _ _ h, r⟩
theorem atI_in {α : Type} {xs : List α} {z : Int} (h0 : 0 ≤ z) (h1 : z < (xs.length : Int)) : ∃ v, atI xs z = some v ∧ v ∈ xs := by
  obtain ⟨j, rfl⟩ := Int.eq_ofNat_of_zero_le h0
  have hj : j < xs.length := by omega
  exact ⟨xs[j], atI_nat (List.getElem?_eq_getElem hj), List.getElem_mem hj⟩
theorem Fr.kp {p r : Addr} {H H' : Hp} {n : Nat} {t u : Int} (h : Fr H r t u) (b : Box H p n) (k : Kp p H H') : Fr H' r t u := k _ _ (fun e => by
  obtain ⟨_, _, _, z, _⟩ := b
  unfold Fr at h
  rw [e, z] at h
  cases h) h
structure Fn0 (P : Program) (w : World) (K : PySem.W.Frag) (mg : Str → Option Value) (base : Heap) (x : Str) (lev : Nat) (ps : List Str) (sp : Sp) (f : Addr) (fd : FuncData) : Prop where
  ok : FnOk P w K mg base CX0 lev f fd ps sp
  g : mg x = some (.ref f)
  k : PySem.W.keepIn K (.ref f) = true
  b : Binds K fd ps []
abbrev sFn : Stmt := top 37
abbrev sSp : Stmt := top 38
abbrev sPoi : Stmt := top 40
theorem scFn : FnScope ["_law_bag_here", "_law_way"] ["_law_bag_here"] (defScope sFn) := ⟨rfl, rfl, rfl, by decide +kernel, rfl, by decide +kernel, by decide +kernel⟩
theorem scSp : FnScope ["_law_bag_here", "_law_found"] ["_law_bag_here"] (defScope sSp) := ⟨rfl, rfl, rfl, by decide +kernel, rfl, by decide +kernel, by decide +kernel⟩
theorem scPoi : FnScope ["_law_bag_here", "_law_cap", "_law_found", "_law_beat", "_law_second", "_law_index", "_law_way"] ["_law_bag_here", "_law_cap"] (defScope sPoi) := ⟨rfl, rfl, rfl, by decide +kernel, rfl, by decide +kernel, by decide +kernel⟩
def spFn : Sp := fun vs H Q _ => ∃ (p : Addr) (n : Nat), vs = [.ref p] ∧ Box H p n ∧ n + 3 ≤ 1000000 ∧ ∀ r t u H', Kp p H H' → Box H' p (n + 3) → Am.Red t u → t.natAbs ≤ 900 → u.natAbs ≤ 7 → Fr H' r t u → Q (.ref r) H'
def spSp : Sp := fun vs H Q _ => ∃ (p : Addr) (n : Nat), vs = [.ref p] ∧ Box H p n ∧ n + 3 ≤ 1000000 ∧ ∀ r t u H', Kp p H H' → Box H' p (n + 3) → Am.Red t u → 0 < t → t ≤ 901 → u ≤ 7 → Fr H' r t u → Q (.ref r) H'
section
variable {P : Program} {w : World} {K : PySem.W.Frag} {mg : Str → Option Value} {base : Heap} {f fT fF fN fS fU fR : Addr} {fd fdT fdF fdN fdS fdU fdR : FuncData}
theorem ok_fn (F : FnP K "_law_fraction" sFn f fd) (GT : Fn0 P w K mg base "_law_take" 1 ["_law_bag_here", "_law_many"] spTake fT fdT) (FR : Fn P w K mg base "_law_frac" 1 ["_law_top", "_law_bottom"] spFrac fF fdF) : FnOk P w K mg base (L2.CX P w) 2 f fd ["_law_bag_here"] spFn := by
  refine F.ok scFn (fun vs H Q E h => ?_) (fun cdv A outer s H vs Q E hr1 h => ?_)
  · obtain ⟨p, n, rfl, _⟩ := h
    rfl
  · obtain ⟨p, n, rfl, hb, hn, q⟩ := h
    refine ⟨_, (pss_cons (ps_set (i := 1) scFn.nd rfl (Or.inl rfl) (pe_call GT.ok hr1 rfl GT.g GT.k GT.b .nil pass0 (pa_cons (pv 0) (pa_cons pe_int pa_nil))))
      (pss_cons (ps_if (pt_cmpR op_eq (pv 1) pe_int (nomark _)) (pss_one (ps_ret (pe_call FR.ok hr1 rfl FR.g FR.k FR.b .nil passL (pa_cons (pe_op op_sub (pe_call GT.ok hr1 rfl GT.g GT.k GT.b .nil pass0 (pa_cons (pv 0) (pa_cons pe_int pa_nil))) pe_int) (pa_cons (pe_ix ix_list (pe_lst (pa_cons pe_int (pa_cons pe_int (pa_cons pe_int (pa_cons pe_int pa_nil))))) (pe_call GT.ok hr1 rfl GT.g GT.k GT.b .nil pass0 (pa_cons (pv 0) (pa_cons pe_int pa_nil))) (fun _ _ => rfl)) pa_nil))))) pss_nil)
      (pss_one (ps_ret (pe_call FR.ok hr1 rfl FR.g FR.k FR.b .nil passL (pa_cons (pe_op op_sub (pe_call GT.ok hr1 rfl GT.g GT.k GT.b .nil pass0 (pa_cons (pv 0) (pa_cons pe_int pa_nil))) pe_int) (pa_cons (pe_ix ix_list (pe_lst (pa_cons pe_int (pa_cons pe_int (pa_cons pe_int (pa_cons pe_int (pa_cons pe_int (pa_cons pe_int pa_nil))))))) (pe_call GT.ok hr1 rfl GT.g GT.k GT.b .nil pass0 (pa_cons (pv 0) (pa_cons pe_int pa_nil))) (fun _ _ => rfl)) pa_nil))))))), ?_⟩
    refine ⟨_, rfl, p, _, n, rfl, hb, by omega, by decide, by decide, fun z1 H1 z10 z11 b1 k1 => ?_⟩
    refine ⟨_, rfl, rfl, _, rfl, ?_⟩
    have fin : ∀ (xs : List Int) (lo m : Int), (∀ d ∈ xs, 0 < d ∧ d ≤ 7) → ∀ (z : Int) (H2 : Hp), 0 ≤ z → z < m → lo ≤ 900 → m ≤ 901 + lo → 0 ≤ lo → Box H2 p (n + 2) → But p H1 H2 → ∀ z3 H4 (l : Addr), 0 ≤ z3 → z3 < (xs.length : Int) → H2 l = none → Box H4 p (n + 3) → But p (upd H2 l (.lst (xs.map V.int))) H4 →
        ∀ Q' : VK, (∀ r H', Q (.ref r) H' → Q' (.ref r) H') → ∃ d : Int, atI (xs.map V.int) z3 = some (.int d) ∧ H4 l = some (.lst (xs.map V.int)) ∧ spFrac [.int (z - lo), .int d] H4 Q' E0 := by
      intro xs lo m hx z H2 z0 z1 hlo hm hlo0 b2 k2 z3 H4 l z30 z31 hl b4 k4 Q' hQ
      obtain ⟨v, ev, hv⟩ := atI_in (xs := xs.map V.int) z30 (by rw [List.length_map]; exact z31)
      obtain ⟨d, hd, rfl⟩ := List.mem_map.mp hv
      obtain ⟨d0, d7⟩ := hx d hd
      have nl : l ≠ p := (b2.ne hl).symm
      refine ⟨d, ev, by rw [k4 l nl]; exact upd_same, z - lo, d, rfl, by omega, Nat.lt_of_le_of_lt (show d.natAbs ≤ 7 by omega) (Nat.lt_of_lt_of_le (show 7 < 2 ^ 3 by decide) (Nat.pow_le_pow_right (by decide) (by decide))), fun r t u H' s rd _ ht hu hr => hQ r H' ?_⟩
      exact q r t u H' ((Kp.but k1).trans ((Kp.but k2).trans ((Kp.same (Same.upd hl)).trans ((Kp.but k4).trans (Kp.same s))))) (b4.sm s) rd (by omega) (by omega) hr
    by_cases c : z1 = 0
    · refine if_true_of (decide_eq_true (by rw [c])) ?_
      refine ⟨_, rfl, p, _, _, rfl, b1, by omega, by decide, by decide, fun z2 H2 z20 z21 b2 k2 => ?_⟩
      refine ⟨_, _, rfl, rfl, by show 4 ≤ sizeLine; decide, fun l hl => ?_⟩
      refine ⟨_, rfl, p, _, _, rfl, b2.upd hl, by omega, by decide, by decide, fun z3 H4 z30 z31 b4 k4 => ?_⟩
      obtain ⟨d, e1, e2, e3⟩ := fin [1, 2, 3, 4] 900 1801 (by decide) z2 H2 z20 z21 (by decide) (by decide) (by decide) b2 k2 z3 H4 l z30 z31 hl b4 k4 _ (fun r H' h => h)
      exact ⟨l, _, _, _, rfl, rfl, SqL.of e2, e1, e3⟩
    · refine if_false_of (decide_eq_false fun e => c (V.int.inj e)) ?_
      refine ⟨_, rfl, p, _, _, rfl, b1, by omega, by decide, by decide, fun z2 H2 z20 z21 b2 k2 => ?_⟩
      refine ⟨_, _, rfl, rfl, by show 6 ≤ sizeLine; decide, fun l hl => ?_⟩
      refine ⟨_, rfl, p, _, _, rfl, b2.upd hl, by omega, by decide, by decide, fun z3 H4 z30 z31 b4 k4 => ?_⟩
      obtain ⟨d, e1, e2, e3⟩ := fin [1, 1, 2, 3, 4, 7] 6 13 (by decide) z2 H2 z20 z21 (by decide) (by decide) (by decide) b2 k2 z3 H4 l z30 z31 hl b4 k4 _ (fun r H' h => h)
      exact ⟨l, _, _, _, rfl, rfl, SqL.of e2, e1, e3⟩
theorem ok_sp (F : FnP K "_law_step" sSp f fd) (FN : Fn P w K mg base "_law_fraction" 2 ["_law_bag_here"] spFn fN fdN) (FR : Fn P w K mg base "_law_frac" 1 ["_law_top", "_law_bottom"] spFrac fF fdF) : FnOk P w K mg base (L2.CX P w) 3 f fd ["_law_bag_here"] spSp := by
  refine F.ok scSp (fun vs H Q E h => ?_) (fun cdv A outer s H vs Q E hr h => ?_)
  · obtain ⟨p, n, rfl, _⟩ := h
    rfl
  · obtain ⟨p, n, rfl, hb, hn, q⟩ := h
    have hr1 := hr.mono (show 1 ≤ 2 by decide)
    refine ⟨_, (pss_cons (ps_set (i := 1) scSp.nd rfl (Or.inl rfl) (pe_call FN.ok hr rfl FN.g FN.k FN.b .nil passL (pa_cons (pv 0) pa_nil)))
      (pss_one (ps_ret (pe_ifExp (pt_cmpR op_gt (pe_ix ix_tup (pv 1) pe_int (fun _ _ => rfl)) pe_int (nomark _)) (pv 1) (pe_call FR.ok hr1 rfl FR.g FR.k FR.b .nil passL (pa_cons (pe_op op_sub pe_int (pe_ix ix_tup (pv 1) pe_int (fun _ _ => rfl))) (pa_cons (pe_ix ix_tup (pv 1) pe_int (fun _ _ => rfl)) pa_nil))))))), ?_⟩
    refine ⟨_, rfl, p, n, rfl, hb, hn, fun r t u H1 k1 b1 rd ht hu hr => ?_⟩
    have i0 : ∀ x y : V, atI [x, y] 0 = some x := fun _ _ => rfl
    have i1 : ∀ x y : V, atI [x, y] 1 = some y := fun _ _ => rfl
    have u0 := rd.1
    refine ⟨_, rfl, r, _, _, _, rfl, rfl, SqT.of hr, i0 _ _, _, _, rfl, rfl, _, rfl, ?_⟩
    by_cases c : 0 < t
    · exact if_true_of (decide_eq_true c) ⟨_, rfl, q r t u H1 k1 b1 rd c (by omega) (by omega) hr⟩
    · refine if_false_of (decide_eq_false c) ?_
      refine ⟨_, rfl, r, _, _, _, rfl, rfl, SqT.of hr, i0 _ _, _, _, rfl, rfl, _, rfl, r, _, _, _, rfl, rfl, SqT.of hr, i1 _ _, ?_⟩
      refine ⟨1 - t, u, rfl, by omega, Nat.lt_of_le_of_lt hu (Nat.lt_of_lt_of_le (show 7 < 2 ^ 3 by decide) (Nat.pow_le_pow_right (by decide) (by decide))), fun r2 t2 u2 H2 s2 rd2 e2 ht2 hu2 hr2 => ?_⟩
      have u20 := rd2.1
      have t20 : 0 < t2 := by
        have h1 : 0 < (1 - t) * u2 := Int.mul_pos (by omega) u20
        rw [← e2] at h1
        exact Int.pos_of_mul_pos_left h1 u0
      exact q r2 t2 u2 H2 (k1.trans (Kp.same s2)) (b1.sm s2) rd2 t20 (by omega) (by omega) hr2
end
end K09

set_option Elab.async false
set_option linter.all false
set_option maxRecDepth 100000
set_option maxHeartbeats 1000000
set_option exponentiation.threshold 100000
namespace K09
open PySem PySem.Spec PyProof.Rows L2 Fa Fb
structure RatOk (t u : Int) (i : Nat) : Prop where
  red : Am.Red t u
  ub : u ≤ 8 ^ (i + 1)
  lo : -(900 * u) ≤ t
  hi : t ≤ (900 + 901 * (i : Int)) * u
  dv : u ∣ 420
theorem dv7 {u : Int} (h : 0 < u) (h7 : u ≤ 7) : u ∣ 420 := by
  have c : u = 1 ∨ u = 2 ∨ u = 3 ∨ u = 4 ∨ u = 5 ∨ u = 6 ∨ u = 7 := by omega
  rcases c with rfl | rfl | rfl | rfl | rfl | rfl | rfl <;> decide
theorem dv_sum {t u st su a b : Int} (u0 : 0 < u) (su0 : 0 < su) (hu : u ∣ 420) (hs : su ∣ 420) (rd : Am.Red a b) (e : a * (u * su) = (t * su + st * u) * b) : b ∣ 420 := by
  obtain ⟨k, hk⟩ := hu
  obtain ⟨l, hl⟩ := hs
  have h : a * 420 = b * (t * k + st * l) := by
    have us : u * su ≠ 0 := Int.mul_ne_zero (by omega) (by omega)
    refine Int.eq_of_mul_eq_mul_right us ?_
    have e1 : a * 420 * (u * su) = 420 * (a * (u * su)) := by grind
    have e2 : b * (t * k + st * l) * (u * su) = b * (t * su * (u * k) + st * u * (su * l)) := by grind
    rw [e1, e, e2, ← hk, ← hl]
    grind
  have d : b ∣ a * 420 := ⟨_, h⟩
  have cp : Nat.Coprime b.natAbs a.natAbs := by
    have := rd.2
    rw [Nat.gcd_comm] at this
    exact this
  have dn : b.natAbs ∣ a.natAbs * 420 := by
    have := Int.natAbs_dvd_natAbs.mpr d
    rw [Int.natAbs_mul] at this
    exact this
  exact Int.natAbs_dvd_natAbs.mp (cp.dvd_of_dvd_mul_left dn)
theorem rat_step {t u st su a b : Int} {i : Nat} (h : RatOk t u i) (rs : Am.Red st su) (s0 : 0 < st) (s1 : st ≤ 901) (s7 : su ≤ 7) (rd : Am.Red a b) (e : a * (u * su) = (t * su + st * u) * b) (hb : b.natAbs ≤ (u * su).natAbs) :
    RatOk a b (i + 1) ∧ t * b < a * u := by
  have u0 := h.red.1
  have su0 := rs.1
  have b0 := rd.1
  have us : 0 < u * su := Int.mul_pos u0 su0
  have ub' : 0 < u * b := Int.mul_pos u0 b0
  have sb : 0 < su * b := Int.mul_pos su0 b0
  have e1 : (t * su + st * u) * b = t * (su * b) + st * (u * b) := by grind
  refine ⟨⟨rd, ?_, ?_, ?_, dv_sum u0 su0 h.dv (dv7 su0 s7) rd e⟩, ?_⟩
  · have h1 : u * su ≤ 8 ^ (i + 1) * 7 := Int.mul_le_mul h.ub s7 (by omega) (Int.pow_nonneg (by decide))
    have h2 : (8 : Int) ^ (i + 1 + 1) = 8 ^ (i + 1) * 8 := Int.pow_succ ..
    have h3 : (0 : Int) ≤ 8 ^ (i + 1) := Int.pow_nonneg (by decide)
    rw [h2]
    omega
  · refine Int.le_of_mul_le_mul_right (a := u * su) ?_ us
    have e2 : -(900 * b) * (u * su) = -(900 * u) * (su * b) := by grind
    have h1 : -(900 * u) * (su * b) ≤ t * (su * b) := Int.mul_le_mul_of_nonneg_right h.lo (by omega)
    have h2 : 0 < st * (u * b) := Int.mul_pos s0 ub'
    rw [e, e1, e2]
    omega
  · refine Int.le_of_mul_le_mul_right (a := u * su) ?_ us
    have e2 : (900 + 901 * ((i + 1 : Nat) : Int)) * b * (u * su) = (900 + 901 * (i : Int)) * u * (su * b) + 901 * (su * (u * b)) := by
      have : ((i + 1 : Nat) : Int) = (i : Int) + 1 := by omega
      rw [this]
      grind
    have h1 : t * (su * b) ≤ (900 + 901 * (i : Int)) * u * (su * b) := Int.mul_le_mul_of_nonneg_right h.hi (by omega)
    have h2 : st * (u * b) ≤ 901 * (su * (u * b)) := by
      have h3 : st * (u * b) ≤ 901 * (u * b) := Int.mul_le_mul_of_nonneg_right s1 (by omega)
      have h4 : 1 * (u * b) ≤ su * (u * b) := Int.mul_le_mul_of_nonneg_right (by omega) (by omega)
      omega
    rw [e, e1, e2]
    omega
  · refine Int.lt_of_mul_lt_mul_right (a := su) ?_ (by omega)
    have e3 : a * u * su = t * b * su + st * (u * b) := by
      have : a * u * su = a * (u * su) := by grind
      rw [this, e, e1]
      grind
    have h2 : 0 < st * (u * b) := Int.mul_pos s0 ub'
    omega
/-- the rest of two neighbors is the step -/
theorem rest_is {t u st su a b r rb : Int} (u0 : 0 < u) (rs : Am.Red st su) (ra : Am.Red a b) (rr : Am.Red r rb) (e : a * (u * su) = (t * su + st * u) * b) (e2 : r * (b * u) = (a * u - t * b) * rb) : r = st ∧ rb = su := by
  have b0 := ra.1
  have su0 := rs.1
  refine Am.uniq rr rs ?_
  have bu : b * u ≠ 0 := Int.mul_ne_zero (by omega) (by omega)
  refine Int.eq_of_mul_eq_mul_right bu ?_
  have e3 : r * su * (b * u) = (a * u - t * b) * rb * su := by
    rw [← e2]
    grind
  rw [e3]
  grind
theorem RatOk.bits {t u : Int} {i : Nat} (h : RatOk t u i) (hi : i ≤ 8) : t.natAbs < 2 ^ 50 ∧ u.natAbs < 2 ^ 50 := by
  have u0 := h.red.1
  have h1 := h.ub
  have h2 := h.lo
  have h3 := h.hi
  have c : i = 0 ∨ i = 1 ∨ i = 2 ∨ i = 3 ∨ i = 4 ∨ i = 5 ∨ i = 6 ∨ i = 7 ∨ i = 8 := by omega
  rcases c with rfl | rfl | rfl | rfl | rfl | rfl | rfl | rfl | rfl <;> constructor <;> omega
def KT (H H' : Hp) : Prop := ∀ q o, H q = some o → (∀ l, o ≠ .lst l) → H' q = some o
theorem KT.of {H H' : Hp} (s : Same H H') : KT H H' := fun q o h _ => s q o h
theorem KT.kp {H H' : Hp} {p : Addr} {n : Nat} (b : Box H p n) (k : Kp p H H') : KT H H' := fun q o h nl => by
  refine k q o (fun e => ?_) h
  obtain ⟨_, _, _, z, _⟩ := b
  rw [e, z] at h
  exact nl _ (Option.some.inj h).symm
theorem KT.put {H : Hp} {D : Addr} {xs : List V} {o : HO} (h : H D = some (.lst xs)) : KT H (upd H D o) := fun q o' z nl => by
  rw [upd_ne fun e => by
    rw [e, h] at z
    exact nl _ (Option.some.inj z).symm]
  exact z
theorem KT.trans {H H1 H2 : Hp} (a : KT H H1) (b : KT H1 H2) : KT H H2 := fun q o h nl => b q o (a q o h nl) nl
theorem Fr.kt {H H' : Hp} {r : Addr} {t u : Int} (h : Fr H r t u) (k : KT H H') : Fr H' r t u := k _ _ h fun l z => by cases z
structure LpOk (H : Hp) (g : Pg) (i : Nat) : Prop where
  q : H g.q = some (.tup [.ref g.a, .ref g.b])
  a : Fr H g.a g.t g.u
  b : Fr H g.b g.t2 g.u2
  ra : RatOk g.t g.u i
  rb : RatOk g.t2 g.u2 i
theorem LpOk.kt {H H' : Hp} {g : Pg} {i : Nat} (h : LpOk H g i) (k : KT H H') : LpOk H' g i := ⟨k _ _ h.q (fun l z => by cases z), h.a.kt k, h.b.kt k, h.ra, h.rb⟩
structure LpL (H : Hp) (L : Addr) (lps : List Pg) : Prop where
  l : H L = some (.lst (lps.map fun g => V.ref g.q))
  ok : ∀ (i : Nat) g, lps[i]? = some g → LpOk H g i
  up : ∀ (i : Nat) g h, lps[i]? = some g → lps[i + 1]? = some h → Rises g h
theorem LpL.kt {H H' : Hp} {L : Addr} {lps : List Pg} (h : LpL H L lps) (k : KT H H') (hl : H' L = some (.lst (lps.map fun g => V.ref g.q))) : LpL H' L lps := ⟨hl, fun i g e => (h.ok i g e).kt k, h.up⟩
structure PoiI (H0 : Hp) (p : Addr) (n : Nat) (L : Addr) (i : Nat) (pb ps : Addr) (H' : Hp) : Prop where
  kp : Kp p H0 H'
  box : Box H' p (n + 7 + 7 * i)
  new : H0 L = none
  nl : L ≠ p
  ex : ∃ lps t u t2 u2, LpL H' L lps ∧ lps.length = i ∧ Fr H' pb t u ∧ Fr H' ps t2 u2 ∧ RatOk t u i ∧ RatOk t2 u2 i ∧ ∀ last, lps[i - 1]? = some last → 0 < i → Rises last ⟨0, 0, 0, t, u, t2, u2⟩
def sPoiB (H0 : Hp) (p : Addr) (n : Nat) : TS := fun D σ H' => ∃ (L : Addr) (i : Nat) (pb ps : Addr) (v6 : Option V), i < 6 ∧ σ = [some (.ref p), some (.int 5), some (.ref L), some (.ref pb), some (.ref ps), some (.int (i : Int)), v6] ∧ PoiI H0 p n L i pb ps H' ∧
  ∀ pb' ps' v6' H'', PoiI H0 p n L (i + 1) pb' ps' H'' → D.nx [some (.ref p), some (.int 5), some (.ref L), some (.ref pb'), some (.ref ps'), some (.int (i : Int)), v6'] H''
def spPoi : Sp := fun vs H Q _ => ∃ (p : Addr) (n : Nat), vs = [.ref p, .int 5] ∧ Box H p n ∧ n + 80 ≤ 1000000 ∧ ∀ L lps H', Kp p H H' → Box H' p (n + 80) → H L = none → LpL H' L lps → lps.length ≤ 5 → Q (.ref L) H'
section
variable {P : Program} {w : World} {K : PySem.W.Frag} {mg : Str → Option Value} {base : Heap} {f fT fF fN fS fU fR : Addr} {fd fdT fdF fdN fdS fdU fdR : FuncData}
theorem ok_poi (F : FnP K "_law_points" sPoi f fd) (mG : mg "range" = none) (GT : Fn0 P w K mg base "_law_take" 1 ["_law_bag_here", "_law_many"] spTake fT fdT) (FN : Fn P w K mg base "_law_fraction" 2 ["_law_bag_here"] spFn fN fdN) (SP : Fn P w K mg base "_law_step" 3 ["_law_bag_here"] spSp fS fdS)
    (SU : Fn P w K mg base "_law_sum" 2 ["_law_one", "_law_other"] spSum fU fdU) (RE : Fn P w K mg base "_law_rest" 2 ["_law_one", "_law_other"] spRest fR fdR) : FnOk P w K mg base (L2.CX P w) 4 f fd ["_law_bag_here", "_law_cap"] spPoi := by
  refine F.ok scPoi (fun vs H Q E h => ?_) (fun cdv A outer s H vs Q E hr h => ?_)
  · obtain ⟨p, n, rfl, _⟩ := h
    rfl
  · obtain ⟨p, n, rfl, hb, hn, q⟩ := h
    have hr1 := hr.mono (show 1 ≤ 3 by decide)
    have hr2 := hr.mono (show 2 ≤ 3 by decide)
    have hr3 := hr

    refine ⟨_, (pss_cons (ps_par3 (by rfl) scPoi.nd (i := 2) (j := 3) (l := 4) rfl rfl rfl (by decide) (by decide) (by decide) rfl rfl rfl (pa_cons (pe_lst pa_nil) (pa_cons (pe_call FN.ok hr2 rfl FN.g FN.k FN.b .nil passL (pa_cons (pv 0) pa_nil)) (pa_cons (pe_call FN.ok hr2 rfl FN.g FN.k FN.b .nil passL (pa_cons (pv 0) pa_nil)) pa_nil))) (by rfl))
      (pss_cons (ps_for (passes_of rfl) rfl (pi_range1 rfl mG (pa_cons (pe_call GT.ok hr1 rfl GT.g GT.k GT.b .nil pass0 (pa_cons (pv 0) (pa_cons (pe_op op_add (pv 1) pe_int) pa_nil))) pa_nil)) (pg_name (i := 5) scPoi.nd rfl (Or.inl rfl))
      (pss_imp (S := sPoiB H p n) (pss_cons (ps_expr (pe_bm PySem.F.plainAttrs_list PySem.F.slot_list_append PySem.F.type_list_append mt_append (pv 2) (pa_cons (pe_tup (pa_cons (pv 3) (pa_cons (pv 4) pa_nil))) pa_nil)))
      (pss_cons (ps_set (i := 3) scPoi.nd rfl (Or.inl rfl) (pe_call SU.ok hr2 rfl SU.g SU.k SU.b .nil passL (pa_cons (pv 3) (pa_cons (pe_call SP.ok hr3 rfl SP.g SP.k SP.b .nil passL (pa_cons (pv 0) pa_nil)) pa_nil))))
      (pss_cons (ps_set (i := 6) scPoi.nd rfl (Or.inl rfl) (pe_call GT.ok hr1 rfl GT.g GT.k GT.b .nil pass0 (pa_cons (pv 0) (pa_cons pe_int pa_nil))))
      (pss_one (ps_set (i := 4) scPoi.nd rfl (Or.inl rfl) (pe_ifExp (pt_cmpR op_gt (pv 6) pe_int (nomark _)) (pe_call SU.ok hr2 rfl SU.g SU.k SU.b .nil passL (pa_cons (pv 4) (pa_cons (pe_call SP.ok hr3 rfl SP.g SP.k SP.b .nil passL (pa_cons (pv 0) pa_nil)) pa_nil))) (pe_call SU.ok hr2 rfl SU.g SU.k SU.b .nil passL (pa_cons (pv 4) (pa_cons (pe_call RE.ok hr2 rfl RE.g RE.k RE.b .nil passL (pa_cons (pv 3) (pa_cons (pe_ix ix_tup (pe_ix ix_list (pv 2) (pe_un un_neg pe_int) (fun _ _ => rfl)) pe_int (fun _ _ => rfl)) pa_nil))) pa_nil))))))))) ?body))
      (pss_one (ps_ret (pv 2))))), ?_⟩
    have r2 : 2 ≤ sizeLine := by decide
    case body =>
      rintro D σ H1 ⟨L, i, pb, ps, v6, hi, rfl, ⟨kp, box, new, nl, lps, t, u, t2, u2, lp, ln, fb, fs, rb, rs, up⟩, k⟩
      have li := lp.l
      refine ⟨_, rfl, .inl ⟨rfl, _, SqL.of li⟩, _, rfl, _, rfl, r2, fun q0 hq0 => ?_⟩
      have nq : q0 ≠ L := fun e => by
        rw [e, li] at hq0
        cases hq0
      refine ⟨L, _, _, rfl, rfl, by rw [upd_ne nq.symm]; exact li, ?_, ?_⟩
      · rw [List.length_map, ln]
        exact Nat.lt_of_lt_of_le (show i < 100 by omega) (by decide)
      have kt1 : KT H1 (upd (upd H1 q0 (.tup [.ref pb, .ref ps])) L (.lst ((lps.map fun g => V.ref g.q) ++ [.ref q0]))) := (KT.of (Same.upd hq0)).trans (KT.put (by rw [upd_ne nq.symm]; exact li))
      have g0 : Pg := ⟨q0, pb, ps, t, u, t2, u2⟩
      have lp2 : LpL (upd (upd H1 q0 (.tup [.ref pb, .ref ps])) L (.lst ((lps.map fun g => V.ref g.q) ++ [.ref q0]))) L (lps ++ [⟨q0, pb, ps, t, u, t2, u2⟩]) := by
        refine ⟨by rw [upd_same, List.map_append]; rfl, fun j g e => ?_, fun j g h e1 e2 => ?_⟩
        · rcases Nat.lt_or_ge j lps.length with c | c
          · rw [List.getElem?_append_left c] at e
            exact (lp.ok j g e).kt kt1
          · have ej : j = i := by
              have := (List.getElem?_eq_some_iff.mp e).1
              rw [List.length_append, List.length_singleton] at this
              omega
            rw [List.getElem?_append_right c, ej, ln, Nat.sub_self] at e
            cases e
            rw [ej]
            exact ⟨by rw [upd_ne nq]; exact upd_same, fb.kt kt1, fs.kt kt1, rb, rs⟩
        · have lj : j + 1 < (lps ++ [(⟨q0, pb, ps, t, u, t2, u2⟩ : Pg)]).length := (List.getElem?_eq_some_iff.mp e2).1
          rw [List.length_append, List.length_singleton] at lj
          rw [List.getElem?_append_left (by omega)] at e1
          by_cases c : j + 1 < lps.length
          · rw [List.getElem?_append_left c] at e2
            exact lp.up j g h e1 e2
          · have ej : j + 1 = lps.length := by omega
            rw [List.getElem?_append_right (by omega), ej, Nat.sub_self] at e2
            cases e2
            exact up g (by rw [← ln, ← ej]; exact e1) (by omega)
      have kp2 : Kp p H (upd (upd H1 q0 (.tup [.ref pb, .ref ps])) L (.lst ((lps.map fun g => V.ref g.q) ++ [.ref q0]))) := (kp.trans (Kp.same (Same.upd hq0))).put new
      have box2 : Box (upd (upd H1 q0 (.tup [.ref pb, .ref ps])) L (.lst ((lps.map fun g => V.ref g.q) ++ [.ref q0]))) p (n + 7 + 7 * i) := (box.upd hq0).put nl
      generalize upd (upd H1 q0 (.tup [.ref pb, .ref ps])) L (.lst ((lps.map fun g => V.ref g.q) ++ [.ref q0])) = H2 at kt1 lp2 kp2 box2
      have fb2 := fb.kt kt1
      have fs2 := fs.kt kt1
      have lp2l := lp2.l
      obtain ⟨tb, ub⟩ := rb.bits (by omega)
      obtain ⟨t2b, u2b⟩ := rs.bits (by omega)
      have u0 := rb.red.1
      have u20 := rs.red.1
      have smb : ∀ st su : Int, 0 < st → st ≤ 901 → 0 < su → su ≤ 7 → st.natAbs < 2 ^ 50 ∧ su.natAbs < 2 ^ 50 := fun st su a b c d => ⟨Nat.lt_of_le_of_lt (show st.natAbs ≤ 901 by omega) (by decide), Nat.lt_of_le_of_lt (show su.natAbs ≤ 7 by omega) (by decide)⟩
      refine ⟨_, rfl, _, rfl, p, _, rfl, box2, by omega, fun r st su H3 k3 b3 rds st0 st9 su7 hr3' => ?_⟩
      have kt3 : KT H2 H3 := KT.kp box2 k3
      have l3 := k3 _ _ nl lp2l
      obtain ⟨stb, sub⟩ := smb st su st0 st9 rds.1 su7
      refine ⟨pb, r, t, u, st, su, 50, rfl, fb2.kt kt3, hr3', u0, rds.1, tb, ub, stb, sub, by decide, fun pb' a b H4 s4 rdab e hle hpb' => ?_⟩
      obtain ⟨rab, ltb⟩ := rat_step rb rds st0 st9 su7 rdab e hle
      have kt4 := kt3.trans (KT.of s4)
      have l4 := s4 _ _ l3
      refine ⟨_, rfl, p, _, _, rfl, b3.sm s4, by omega, by decide, by decide, fun wy H5 w0 w1 b5 k5 => ?_⟩
      have kt5 := kt4.trans (KT.kp (b3.sm s4) (Kp.but k5))
      have l5 := Kp.but k5 _ _ nl l4
      have hpb5 : Fr H5 pb' a b := hpb'.kp (b3.sm s4) (Kp.but k5)
      have kp5 : Kp p H H5 := kp2.trans (k3.trans ((Kp.same s4).trans (Kp.but k5)))
      have fin : ∀ (ps' : Addr) (c d : Int) (H6 : Hp), Kp p H5 H6 → Box H6 p (n + 7 + 7 * (i + 1)) → RatOk c d (i + 1) → t2 * d < c * u2 → Fr H6 ps' c d → PoiI H p n L (i + 1) pb' ps' H6 := by
        intro ps' c d H6 k6 b6 rcd ltc f6
        have kt6 := kt5.trans (KT.kp b5 k6)
        refine ⟨kp5.trans k6, b6, new, nl, _, a, b, c, d, lp2.kt kt6 (k6 _ _ nl l5), by rw [List.length_append, ln]; rfl, hpb5.kp b5 k6, f6, rab, rcd, fun last el _ => ?_⟩
        rw [Nat.add_sub_cancel, List.getElem?_append_right (by omega), ln, Nat.sub_self] at el
        cases el
        exact ⟨ltb, ltc⟩
      refine ⟨_, rfl, _, _, rfl, rfl, _, rfl, ?_⟩
      refine ite2 (fun _ => ?_) (fun _ => ?_)
      · refine ⟨_, rfl, _, rfl, p, _, rfl, b5, by omega, fun r2 st2 su2 H6 k6 b6 rds2 st20 st29 su27 hr6 => ?_⟩
        obtain ⟨stb2, sub2⟩ := smb st2 su2 st20 st29 rds2.1 su27
        refine ⟨ps, r2, t2, u2, st2, su2, 50, rfl, (fs2.kt kt5).kp b5 k6, hr6, u20, rds2.1, t2b, u2b, stb2, sub2, by decide, fun ps' c d H7 s7 rdcd e7 hle7 hps' => ?_⟩
        obtain ⟨rcd, ltc⟩ := rat_step rs rds2 st20 st29 su27 rdcd e7 hle7
        exact k _ _ _ _ (fin ps' c d H7 (k6.trans (Kp.same s7)) ((b6.sm s7).mono (by omega)) rcd ltc hps')
      · refine ⟨_, rfl, _, rfl, _, rfl, _, rfl, L, _, _, _, rfl, rfl, SqL.of l5, atI_last (by rw [List.map_append, List.length_append, List.length_map, List.map_singleton, List.length_singleton, Nat.add_sub_cancel, List.getElem?_append_right (by rw [List.length_map]; omega), List.length_map, Nat.sub_self]; rfl), ?_⟩
        refine ⟨q0, _, _, _, rfl, rfl, SqT.of ((lp2.kt kt5 l5).ok i _ (by rw [List.getElem?_append_right (by omega), ln, Nat.sub_self]; rfl)).q, rfl, pb', pb, a, b, t, u, 50, rfl, hpb5, fb2.kt kt5, rab.red.1, u0, (rab.bits (by omega)).1, (rab.bits (by omega)).2, tb, ub, by decide, fun r5 c5 d5 H6 s6 rd6 e6 _ f6 => ?_⟩
        obtain ⟨rfl, rfl⟩ := rest_is u0 rds rab.red rd6 e e6
        have kt6 := kt5.trans (KT.of s6)
        refine ⟨ps, r5, t2, u2, c5, d5, 50, rfl, fs2.kt kt6, f6, u20, rds.1, t2b, u2b, stb, sub, by decide, fun ps' c d H7 s7 rdcd e7 hle7 hps' => ?_⟩
        obtain ⟨rcd, ltc⟩ := rat_step rs rds st0 st9 su7 rdcd e7 hle7
        exact k _ _ _ _ (fin ps' c d H7 ((Kp.same s6).trans (Kp.same s7)) (((b5.sm s6).sm s7).mono (by omega)) rcd ltc hps')
    refine ⟨by decide, fun L hL => ?_⟩
    have nl : L ≠ p := (hb.ne hL).symm
    have b0 : Box (upd H L (.lst [])) p n := hb.upd hL
    refine ⟨_, rfl, p, n, rfl, b0, by omega, fun r1 t u H1 k1 b1 rd1 ht1 hu1 hr1' => ?_⟩
    refine ⟨_, rfl, p, _, rfl, b1, by omega, fun r2 t2 u2 H2 k2 b2 rd2 ht2 hu2 hr2' => ?_⟩
    have l2 : H2 L = some (.lst []) := k2 _ _ nl (k1 _ _ nl upd_same)
    refine ⟨_, _, _, rfl, ?_⟩
    refine ⟨_, rfl, _, rfl, _, _, rfl, rfl, p, _, _, rfl, b2, by omega, by decide, by decide, fun wy H3 w0 w1 b3 k3 => ?_⟩
    have rok : ∀ t u : Int, Am.Red t u → t.natAbs ≤ 900 → u.natAbs ≤ 7 → RatOk t u 0 := fun t u rd ht hu => by
      have u0 := rd.1
      refine ⟨rd, ?_, ?_, ?_, dv7 u0 (by omega)⟩
      · show u ≤ 8 ^ 1
        omega
      · omega
      · have : (900 + 901 * ((0 : Nat) : Int)) * u = 900 * u := rfl
        rw [this]
        omega
    have wl : wy.toNat ≤ 5 := by omega
    refine ⟨wy, rfl, Int.le_trans (by decide) w0, Int.lt_trans w1 (by decide), ?_⟩
    refine for_range (lo := 0) (n := wy.toNat) (fun i σ H' => ∃ (pb ps : Addr) (v5 v6 : Option V), σ = [some (.ref p), some (.int 5), some (.ref L), some (.ref pb), some (.ref ps), v5, v6] ∧ PoiI H p n L i pb ps H') ⟨_, _, _, _, rfl, ?_⟩ ?_ ?_
    · refine ⟨(Kp.same (Same.upd hL)).trans (k1.trans (k2.trans (Kp.but k3))), b3.mono (by omega), hL, nl, [], t, u, t2, u2, ⟨(Kp.but k3) _ _ nl l2, fun i g e => (by cases e), fun i g h e => (by cases e)⟩, rfl, (hr1'.kp b1 k2).kp b2 (Kp.but k3), hr2'.kp b2 (Kp.but k3), rok _ _ rd1 ht1 hu1, rok _ _ rd2 ht2 hu2, fun _ e => (by cases e)⟩
    · rintro i σ Hc hi ⟨pb, ps, v5, v6, rfl, ip⟩
      rw [Int.zero_add]
      exact ⟨L, i, pb, ps, v6, by omega, rfl, ip, fun pb' ps' v6' H'' ip' => ⟨_, _, _, _, rfl, ip'⟩⟩
    · rintro σ Hc ⟨pb, ps, v5, v6, rfl, ip⟩
      obtain ⟨kp, box, new, _, lps, _, _, _, _, lp, ln, _⟩ := ip
      exact ⟨_, rfl, q L lps Hc kp (box.mono (by omega)) new lp (by omega)⟩
end
end K09
set_option Elab.async false
set_option linter.all false
set_option maxRecDepth 100000
set_option maxHeartbeats 1000000
set_option exponentiation.threshold 100000
namespace K09
open PySem PySem.Spec PyProof.Rows L2 Fa Fb
abbrev sLes : Stmt := top 33
theorem scLes : FnScope ["_law_one", "_law_other"] ["_law_one", "_law_other"] (defScope sLes) := ⟨rfl, rfl, rfl, by decide +kernel, rfl, by decide +kernel, by decide +kernel⟩
abbrev sPro : Stmt := top 35
theorem scPro : FnScope ["_law_one", "_law_other"] ["_law_one", "_law_other"] (defScope sPro) := ⟨rfl, rfl, rfl, by decide +kernel, rfl, by decide +kernel, by decide +kernel⟩
abbrev sQuo : Stmt := top 36
theorem scQuo : FnScope ["_law_one", "_law_other"] ["_law_one", "_law_other"] (defScope sQuo) := ⟨rfl, rfl, rfl, by decide +kernel, rfl, by decide +kernel, by decide +kernel⟩
abbrev sGiv : Stmt := top 39
theorem scGiv : FnScope ["_law_bag_here", "_law_value"] ["_law_bag_here", "_law_value"] (defScope sGiv) := ⟨rfl, rfl, rfl, by decide +kernel, rfl, by decide +kernel, by decide +kernel⟩
/-- a fraction of the law, by its value -/
def FrP (n : Nat) (H : Hp) (p : Addr) (q : Rat) : Prop := ∃ t u, Fr H p t u ∧ Am.Red t u ∧ t.natAbs < 2 ^ n ∧ u.natAbs < 2 ^ n ∧ vq t u = q
theorem FrP.same {n : Nat} {H H' : Hp} {p : Addr} {q : Rat} (h : FrP n H p q) (s : Same H H') : FrP n H' p q := let ⟨t, u, a, r⟩ := h; ⟨t, u, s _ _ a, r⟩
theorem FrP.mono {n m : Nat} {H : Hp} {p : Addr} {q : Rat} (h : FrP n H p q) (e : n ≤ m) : FrP m H p q := let ⟨t, u, a, r, b1, b2, v⟩ := h; ⟨t, u, a, r, pow_step b1 e, pow_step b2 e, v⟩
theorem FrP.kt {n : Nat} {H H' : Hp} {p : Addr} {q : Rat} (h : FrP n H p q) (k : KT H H') : FrP n H' p q := let ⟨t, u, a, r⟩ := h; ⟨t, u, a.kt k, r⟩
def spB (n : Nat → Nat) (g : Rat → Rat → Rat) : Sp := fun vs H Q _ => ∃ (p q : Addr) (x y : Rat) (m : Nat), vs = [.ref p, .ref q] ∧ FrP m H p x ∧ FrP m H q y ∧ m ≤ 3900 ∧ ∀ r H', Same H H' → FrP (n m) H' r (g x y) → Q (.ref r) H'
def spBq (n : Nat → Nat) (g : Rat → Rat → Rat) : Sp := fun vs H Q _ => ∃ (p q : Addr) (x y : Rat) (m : Nat), vs = [.ref p, .ref q] ∧ FrP m H p x ∧ FrP m H q y ∧ y ≠ 0 ∧ m ≤ 3900 ∧ ∀ r H', Same H H' → FrP (n m) H' r (g x y) → Q (.ref r) H'
abbrev b21 (m : Nat) : Nat := 2 * m + 1
def spLes : Sp := fun vs H Q _ => ∃ (p q : Addr) (x y : Rat) (m : Nat), vs = [.ref p, .ref q] ∧ FrP m H p x ∧ FrP m H q y ∧ m ≤ 3900 ∧ Q (.bl (decide (x < y))) H
def spGiv (K : PySem.W.Frag) : Sp := fun vs H Q _ => ∃ (p v : Addr) (t u : Int) (n m : Nat), vs = [.ref p, .ref v] ∧ Box H p n ∧ n + 1 ≤ 1000000 ∧ Fr H v t u ∧ Am.Red t u ∧ t.natAbs < 2 ^ m ∧ u.natAbs < 2 ^ m ∧ 1 ≤ m ∧ m ≤ 2000 ∧ ∀ y H', Kp p H H' → Box H' p (n + 1) → Arg K H' y t u m → Q y H'
section
variable {P : Program} {w : World} {K : PySem.W.Frag} {mg : Str → Option Value} {base : Heap} {f fF fT : Addr} {fd fdF fdT fdI : FuncData}
theorem sum_q (F : FnOk P w K mg base (L2.CX P w) 2 f fd ["_law_one", "_law_other"] spSum) : FnOk P w K mg base (L2.CX P w) 2 f fd ["_law_one", "_law_other"] (spB b21 fun x y => x + y) := F.imp fun vs H Q E h => by
  obtain ⟨p, q, x, y, m, rfl, ⟨t, u, a, r, b1, b2, v⟩, ⟨t2, u2, a2, r2, b3, b4, v2⟩, hm, k⟩ := h
  refine ⟨p, q, t, u, t2, u2, m, rfl, a, a2, r.1, r2.1, b1, b2, b3, b4, by omega, fun z c d H' s rd e hl hz => k z H' s ⟨c, d, hz, rd, ?_, ?_, ?_⟩⟩
  · exact pow_step (Nat.lt_of_le_of_lt (red_le rd (Int.mul_ne_zero (Int.ne_of_gt r.1) (Int.ne_of_gt r2.1)) e).1 (abs_add_lt (abs_mul_lt b1 b4) (abs_mul_lt b3 b2))) (by show m + m + 1 ≤ 2 * m + 1; omega)
  · exact pow_step (Nat.lt_of_le_of_lt hl (abs_mul_lt b2 b4)) (by show m + m ≤ 2 * m + 1; omega)
  · rw [vq_add (Int.ne_of_gt r.1) (Int.ne_of_gt r2.1) (Int.ne_of_gt rd.1) e, v, v2]
theorem rest_q (F : FnOk P w K mg base (L2.CX P w) 2 f fd ["_law_one", "_law_other"] spRest) : FnOk P w K mg base (L2.CX P w) 2 f fd ["_law_one", "_law_other"] (spB b21 fun x y => x - y) := F.imp fun vs H Q E h => by
  obtain ⟨p, q, x, y, m, rfl, ⟨t, u, a, r, b1, b2, v⟩, ⟨t2, u2, a2, r2, b3, b4, v2⟩, hm, k⟩ := h
  refine ⟨p, q, t, u, t2, u2, m, rfl, a, a2, r.1, r2.1, b1, b2, b3, b4, by omega, fun z c d H' s rd e hl hz => k z H' s ⟨c, d, hz, rd, ?_, ?_, ?_⟩⟩
  · exact pow_step (Nat.lt_of_le_of_lt (red_le rd (Int.mul_ne_zero (Int.ne_of_gt r.1) (Int.ne_of_gt r2.1)) e).1 (abs_sub_lt (abs_mul_lt b1 b4) (abs_mul_lt b3 b2))) (by show m + m + 1 ≤ 2 * m + 1; omega)
  · exact pow_step (Nat.lt_of_le_of_lt hl (abs_mul_lt b2 b4)) (by show m + m ≤ 2 * m + 1; omega)
  · rw [vq_sub (Int.ne_of_gt r.1) (Int.ne_of_gt r2.1) (Int.ne_of_gt rd.1) e, v, v2]
theorem ok_les (F : FnP K "_law_less" sLes f fd) : FnOk P w K mg base (L2.CX P w) 1 f fd ["_law_one", "_law_other"] spLes := by
  refine F.ok scLes (fun vs H Q E h => ?_) (fun cdv A outer s H vs Q E hr h => ?_)
  · obtain ⟨p, q, x, y, m, rfl, _⟩ := h
    rfl
  · obtain ⟨p, q, x, y, m, rfl, ⟨t, u, a, r, b1, b2, v⟩, ⟨t2, u2, a2, r2, b3, b4, v2⟩, hm, k⟩ := h
    refine ⟨_, (pss_one (ps_ret (pe_cmpR op_lt (pe_op op_mulW (pe_ix ix_tup (pv 0) pe_int (fun _ _ => rfl)) (pe_ix ix_tup (pv 1) pe_int (fun _ _ => rfl))) (pe_op op_mulW (pe_ix ix_tup (pv 1) pe_int (fun _ _ => rfl)) (pe_ix ix_tup (pv 0) pe_int (fun _ _ => rfl))) (nomark _)))), ?_⟩
    have i0 : ∀ x y : V, atI [x, y] 0 = some x := fun _ _ => rfl
    have i1 : ∀ x y : V, atI [x, y] 1 = some y := fun _ _ => rfl
    refine ⟨_, rfl, p, _, _, _, rfl, rfl, SqT.of a, i0 _ _, _, rfl, q, _, _, _, rfl, rfl, SqT.of a2, i1 _ _, _, _, rfl, rfl, mulW_of b1 b4 (by omega), _, rfl, q, _, _, _, rfl, rfl, SqT.of a2, i0 _ _, _, rfl, p, _, _, _, rfl, rfl, SqT.of a, i1 _ _, _, _, rfl, rfl, mulW_of b3 b2 (by omega), _, _, rfl, rfl, ?_⟩
    have e : decide (t * u2 < t2 * u) = decide (x < y) := by
      rw [← v, ← v2]
      by_cases c : t * u2 < t2 * u
      · rw [decide_eq_true c, decide_eq_true ((vq_lt r.1 r2.1).mp c)]
      · rw [decide_eq_false c, decide_eq_false fun z => c ((vq_lt r.1 r2.1).mpr z)]
    show Q (V.bl (decide (t * u2 < t2 * u))) H
    rw [e]
    exact k
theorem ok_pro (F : FnP K "_law_product" sPro f fd) (FR : Fn P w K mg base "_law_frac" 1 ["_law_top", "_law_bottom"] spFrac fF fdF) : FnOk P w K mg base (L2.CX P w) 2 f fd ["_law_one", "_law_other"] (spB b21 fun x y => x * y) := by
  refine F.ok scPro (fun vs H Q E h => ?_) (fun cdv A outer s H vs Q E hr1 h => ?_)
  · obtain ⟨p, q, x, y, m, rfl, _⟩ := h
    rfl
  · obtain ⟨p, q, x, y, m, rfl, ⟨t, u, a, r, b1, b2, v⟩, ⟨t2, u2, a2, r2, b3, b4, v2⟩, hm, k⟩ := h
    refine ⟨_, (pss_one (ps_ret (pe_call FR.ok hr1 rfl FR.g FR.k FR.b .nil passL (pa_cons (pe_op op_mulW (pe_ix ix_tup (pv 0) pe_int (fun _ _ => rfl)) (pe_ix ix_tup (pv 1) pe_int (fun _ _ => rfl))) (pa_cons (pe_op op_mulW (pe_ix ix_tup (pv 0) pe_int (fun _ _ => rfl)) (pe_ix ix_tup (pv 1) pe_int (fun _ _ => rfl))) pa_nil))))), ?_⟩
    have i0 : ∀ x y : V, atI [x, y] 0 = some x := fun _ _ => rfl
    have i1 : ∀ x y : V, atI [x, y] 1 = some y := fun _ _ => rfl
    have un := Int.mul_ne_zero (Int.ne_of_gt r.1) (Int.ne_of_gt r2.1)
    refine ⟨_, rfl, p, _, _, _, rfl, rfl, SqT.of a, i0 _ _, _, rfl, q, _, _, _, rfl, rfl, SqT.of a2, i0 _ _, _, _, rfl, rfl, mulW_of b1 b3 (by omega), _, rfl, p, _, _, _, rfl, rfl, SqT.of a, i1 _ _, _, rfl, q, _, _, _, rfl, rfl, SqT.of a2, i1 _ _, _, _, rfl, rfl, mulW_of b2 b4 (by omega), ?_⟩
    refine ⟨_, _, rfl, un, pow_step (abs_mul_lt b2 b4) (by omega), fun z c d H' s rd e h1 h2 hz => k z H' s ⟨c, d, hz, rd, pow_step (Nat.lt_of_le_of_lt h1 (abs_mul_lt b1 b3)) (by show m + m ≤ 2 * m + 1; omega), pow_step (Nat.lt_of_le_of_lt h2 (abs_mul_lt b2 b4)) (by show m + m ≤ 2 * m + 1; omega), ?_⟩⟩
    rw [vq_mul (Int.ne_of_gt r.1) (Int.ne_of_gt r2.1) (Int.ne_of_gt rd.1) e, v, v2]
theorem ok_quo (F : FnP K "_law_quotient" sQuo f fd) (FR : Fn P w K mg base "_law_frac" 1 ["_law_top", "_law_bottom"] spFrac fF fdF) : FnOk P w K mg base (L2.CX P w) 2 f fd ["_law_one", "_law_other"] (spBq b21 fun x y => x / y) := by
  refine F.ok scQuo (fun vs H Q E h => ?_) (fun cdv A outer s H vs Q E hr1 h => ?_)
  · obtain ⟨p, q, x, y, m, rfl, _⟩ := h
    rfl
  · obtain ⟨p, q, x, y, m, rfl, ⟨t, u, a, r, b1, b2, v⟩, ⟨t2, u2, a2, r2, b3, b4, v2⟩, hy, hm, k⟩ := h
    refine ⟨_, (pss_one (ps_ret (pe_call FR.ok hr1 rfl FR.g FR.k FR.b .nil passL (pa_cons (pe_op op_mulW (pe_ix ix_tup (pv 0) pe_int (fun _ _ => rfl)) (pe_ix ix_tup (pv 1) pe_int (fun _ _ => rfl))) (pa_cons (pe_op op_mulW (pe_ix ix_tup (pv 0) pe_int (fun _ _ => rfl)) (pe_ix ix_tup (pv 1) pe_int (fun _ _ => rfl))) pa_nil))))), ?_⟩
    have i0 : ∀ x y : V, atI [x, y] 0 = some x := fun _ _ => rfl
    have i1 : ∀ x y : V, atI [x, y] 1 = some y := fun _ _ => rfl
    have t0 : t2 ≠ 0 := fun e => hy (by
      rw [← v2, e]
      unfold vq
      rw [Rat.intCast_zero]
      grind)
    have un := Int.mul_ne_zero (Int.ne_of_gt r.1) t0
    refine ⟨_, rfl, p, _, _, _, rfl, rfl, SqT.of a, i0 _ _, _, rfl, q, _, _, _, rfl, rfl, SqT.of a2, i1 _ _, _, _, rfl, rfl, mulW_of b1 b4 (by omega), _, rfl, p, _, _, _, rfl, rfl, SqT.of a, i1 _ _, _, rfl, q, _, _, _, rfl, rfl, SqT.of a2, i0 _ _, _, _, rfl, rfl, mulW_of b2 b3 (by omega), ?_⟩
    refine ⟨_, _, rfl, un, pow_step (abs_mul_lt b2 b3) (by omega), fun z c d H' s rd e h1 h2 hz => k z H' s ⟨c, d, hz, rd, pow_step (Nat.lt_of_le_of_lt h1 (abs_mul_lt b1 b4)) (by show m + m ≤ 2 * m + 1; omega), pow_step (Nat.lt_of_le_of_lt h2 (abs_mul_lt b2 b3)) (by show m + m ≤ 2 * m + 1; omega), ?_⟩⟩
    rw [vq_div (Int.ne_of_gt r.1) (Int.ne_of_gt r2.1) t0 (Int.ne_of_gt rd.1) e, v, v2]
theorem ok_giv (F : FnP K "_law_given" sGiv f fd) (T : AF K mg) (GT : Fn0 P w K mg base "_law_take" 1 ["_law_bag_here", "_law_many"] spTake fT fdT) (GI : FnOk P w K mg base (L2.CX P w) 4 (aI K) fdI ["self", "top", "bottom"] (spInit K)) (b2 : Binds K fdI ["self", "top", "bottom"] []) :
    FnOk P w K mg base (L2.CX P w) 6 f fd ["_law_bag_here", "_law_value"] (spGiv K) := by
  refine F.ok scGiv (fun vs H Q E h => ?_) (fun cdv A outer s H vs Q E hr h => ?_)
  · obtain ⟨p, v, t, u, n, m, rfl, _⟩ := h
    rfl
  · obtain ⟨p, v, t, u, n, m, rfl, hb, hn, hv, rd, b3, b4, hm1, hm, k⟩ := h
    have hr1 := hr.mono (show 1 ≤ 5 by decide)
    have hr5 := hr
    refine ⟨_, (pss_one (ps_ret (pe_ifExp (PW.pt (pw_and (pt_cmpR op_eq (pe_ix ix_tup (pv 1) pe_int (fun _ _ => rfl)) pe_int (nomark _)) (pw_and1 (pt_cmpR op_eq (pe_call GT.ok hr1 rfl GT.g GT.k GT.b .nil pass0 (pa_cons (pv 0) (pa_cons pe_int pa_nil))) pe_int (nomark _))))) (pe_ix ix_tup (pv 1) pe_int (fun _ _ => rfl)) (pe_make T.mkA GI hr5 rfl T.g b2 .nil passL (pa_cons (pe_ix ix_tup (pv 1) pe_int (fun _ _ => rfl)) (pa_cons (pe_ix ix_tup (pv 1) pe_int (fun _ _ => rfl)) pa_nil)))))), ?_⟩
    have i0 : ∀ x y : V, atI [x, y] 0 = some x := fun _ _ => rfl
    have i1 : ∀ x y : V, atI [x, y] 1 = some y := fun _ _ => rfl
    have mk : ∀ (J : Hp) (Q' : VK), H v = J v → (∀ y H', Same J H' → IsA K H' y t u m → Q' y H') → tMake (CA K) (spInit K) [] E0 (tCons (tOp (rIxT K) (tVar 1) (tC (.int 0))) (tCons (tOp (rIxT K) (tVar 1) (tC (.int 1))) tNil)) [some (.ref p), some (.ref v)] J Q' := fun J Q' ej k => by
      have hv' : Fr J v t u := by show J v = _; rw [← ej]; exact hv
      refine ⟨_, rfl, v, _, _, _, rfl, rfl, SqT.of hv', i0 _ _, _, rfl, v, _, _, _, rfl, rfl, SqT.of hv', i1 _ _, fun y dy hy hd hne => spInit_imp (make_fact T (n := m) (a := t) (b := u) (Int.ne_of_gt rd.1) (by omega) b3 b4 hy hd hne) fun w1 H2 ⟨hw, t1, u1, s1, ia, e1⟩ => ⟨hw, ?_⟩⟩
      obtain ⟨_, _, _, _, rd1, _⟩ := id ia
      obtain ⟨rfl, rfl⟩ := Am.uniq rd1 rd e1
      exact k _ _ s1 ia
    have vp : v ≠ p := fun e => by
      obtain ⟨_, _, _, z, _⟩ := hb
      rw [← e] at z
      have := hv.symm.trans z
      cases this
    refine ⟨_, rfl, v, _, _, _, rfl, rfl, SqT.of hv, i1 _ _, rfl, _, rfl, ?_⟩
    by_cases c : u = 1
    · refine if_true_of (by rw [c]; rfl) ?_
      refine ⟨_, rfl, p, _, n, rfl, hb, by omega, by decide, by decide, fun z H1 z0 z1 b1 k1 => ⟨rfl, _, rfl, ?_⟩⟩
      have hv1 : H1 v = H v := k1 v vp
      refine ite2 (fun _ => ?_) (fun _ => ?_)
      · refine ⟨_, rfl, v, _, _, _, rfl, rfl, SqT.of (hv1.trans hv), i0 _ _, ?_⟩
        exact k _ H1 (Kp.but k1) b1 (.inr ⟨rfl, c, b3, hm1⟩)
      · exact mk H1 _ hv1.symm fun y H' s ia => k y H' ((Kp.but k1).trans (Kp.same s)) (b1.sm s) (.inl ia)
    · refine if_false_of (decide_eq_false fun e => c (V.int.inj e)) ?_
      exact mk H _ rfl fun y H' s ia => k y H' (Kp.same s) ((hb.sm s).mono (by omega)) (.inl ia)
end
end K09
set_option Elab.async false
set_option linter.all false
set_option maxRecDepth 100000
set_option maxHeartbeats 1000000
set_option exponentiation.threshold 100000
namespace K09
open PySem PySem.Spec PyProof.Rows L2 Fa Fb
abbrev sLed : Stmt := top 41
theorem scLed : FnScope ["_law_points_here", "_law_value", "_law_here", "_law_there", "_law_one", "_law_other", "_law_part"] ["_law_points_here", "_law_value", "_law_here", "_law_there"] (defScope sLed) := ⟨rfl, rfl, rfl, by decide +kernel, rfl, by decide +kernel, by decide +kernel⟩
abbrev sPcs : Stmt := top 42
theorem scPcs : FnScope ["_law_points_here", "_law_found", "_law_one", "_law_other"] ["_law_points_here"] (defScope sPcs) := ⟨rfl, rfl, rfl, by decide +kernel, rfl, by decide +kernel, by decide +kernel⟩
/-- a point of the law -/
structure LpP (n : Nat) (H : Hp) (g : Pg) : Prop where
  q : H g.q = some (.tup [.ref g.a, .ref g.b])
  a : FrP n H g.a (bq g)
  b : FrP n H g.b (sq g)
theorem LpP.same {n : Nat} {H H' : Hp} {g : Pg} (h : LpP n H g) (s : Same H H') : LpP n H' g := ⟨s _ _ h.q, h.a.same s, h.b.same s⟩
structure LsP (n : Nat) (H : Hp) (L : Addr) (ps : List Pg) : Prop where
  l : H L = some (.lst (ps.map fun g => V.ref g.q))
  ok : ∀ g ∈ ps, LpP n H g
  up : M08.Up (ptl ps)
  sz : ps.length ≤ 30
theorem LsP.same {n : Nat} {H H' : Hp} {L : Addr} {ps : List Pg} (h : LsP n H L ps) (s : Same H H') : LsP n H' L ps := ⟨s _ _ h.l, fun g hg => (h.ok g hg).same s, h.up, h.sz⟩
theorem cut1 (x : V) (r : List V) : cutV (x :: r) (some 1) none = r := by
  unfold cutV HT.sIx
  simp
def spLed : Sp := fun vs H Q _ => ∃ (L v : Addr) (ps : List Pg) (x : Rat) (n : Nat), vs = [.ref L, .ref v, .int 0, .int 1] ∧ LsP n H L ps ∧ FrP n H v x ∧ n ≤ 400 ∧ ∀ r H', Same H H' → FrP (16 * n + 15) H' r (M08.f (ptl ps) x) → Q (.ref r) H'
/-- the fractions at the items -/
def FrL (n : Nat) (H : Hp) (L : Addr) (xs : List V) (qs : List Rat) : Prop := H L = some (.lst xs) ∧ xs.length = qs.length ∧ ∀ (i : Nat) q, qs[i]? = some q → ∃ p, xs[i]? = some (V.ref p) ∧ FrP n H p q
def spPcs : Sp := fun vs H Q _ => ∃ (L : Addr) (ps : List Pg) (n : Nat), vs = [.ref L] ∧ LsP n H L ps ∧ n ≤ 400 ∧ ∀ r xs qs H', Same H H' → FrL (4 * n + 3) H' r xs qs → (∀ i, i ≤ ps.length → qs[i]? = some (M08.pc (ptl ps) i)) → Q (.ref r) H'
theorem FrL.push {n : Nat} {H : Hp} {L p : Addr} {xs : List V} {qs : List Rat} {q : Rat} (h : FrL n H L xs qs) (hp : FrP n H p q) : FrL n (upd H L (.lst (xs ++ [.ref p]))) L (xs ++ [.ref p]) (qs ++ [q]) := by
  have kt : KT H (upd H L (.lst (xs ++ [.ref p]))) := KT.put h.1
  refine ⟨upd_same, by rw [List.length_append, List.length_append, h.2.1]; rfl, fun i q' e => ?_⟩
  rcases Nat.lt_or_ge i qs.length with c | c
  · rw [List.getElem?_append_left c] at e
    obtain ⟨p', e1, e2⟩ := h.2.2 i q' e
    exact ⟨p', by rw [List.getElem?_append_left (by rw [h.2.1]; exact c)]; exact e1, e2.kt kt⟩
  · have li := (List.getElem?_eq_some_iff.mp e).1
    rw [List.length_append, List.length_singleton] at li
    have ei : i = qs.length := by omega
    rw [List.getElem?_append_right c, ei, Nat.sub_self] at e
    cases e
    exact ⟨p, by rw [List.getElem?_append_right (by rw [h.2.1]; omega), ei, h.2.1, Nat.sub_self]; rfl, hp.kt kt⟩
theorem FrL.same {n : Nat} {H H' : Hp} {L : Addr} {xs : List V} {qs : List Rat} (h : FrL n H L xs qs) (s : Same H H') : FrL n H' L xs qs := ⟨s _ _ h.1, h.2.1, fun i q e => let ⟨p, a, b⟩ := h.2.2 i q e; ⟨p, a, b.same s⟩⟩
theorem one_fr {n : Nat} {H : Hp} {p : Addr} (h : H p = some (.tup [.int 1, .int 1])) (hn : 1 ≤ n) : FrP n H p 1 := ⟨1, 1, h, ⟨by decide, by decide +kernel⟩, one_pow hn, one_pow hn, vq_one⟩
theorem cutT (xs : List V) : cutV xs (some 1) none = xs.drop 1 := by
  unfold cutV HT.sIx
  cases xs with
  | nil => simp
  | cons x r => simp
section
variable {P : Program} {w : World} {K : PySem.W.Frag} {mg : Str → Option Value} {base : Heap} {f fS fR fP fQ fL : Addr} {fd fdS fdR fdP fdQ fdL : FuncData}
theorem ok_led (F : FnP K "_law_led" sLed f fd) (mZ : mg "zip" = none) (SU : Fn P w K mg base "_law_sum" 2 ["_law_one", "_law_other"] (spB b21 fun x y => x + y) fS fdS) (RE : Fn P w K mg base "_law_rest" 2 ["_law_one", "_law_other"] (spB b21 fun x y => x - y) fR fdR)
    (PR : Fn P w K mg base "_law_product" 2 ["_law_one", "_law_other"] (spB b21 fun x y => x * y) fP fdP) (QU : Fn P w K mg base "_law_quotient" 2 ["_law_one", "_law_other"] (spBq b21 fun x y => x / y) fQ fdQ) (LE : Fn P w K mg base "_law_less" 1 ["_law_one", "_law_other"] spLes fL fdL) :
    FnOk P w K mg base (L2.CX P w) 3 f fd ["_law_points_here", "_law_value", "_law_here", "_law_there"] spLed := by
  refine F.ok scLed (fun vs H Q E h => ?_) (fun cdv A outer s H vs Q E hr h => ?_)
  · obtain ⟨L, v, ps, x, n, rfl, _⟩ := h
    rfl
  · obtain ⟨L, v, ps, x, n, rfl, hl, hv, hn, k⟩ := h
    have hu : (A.deeper (envOfC "_law_led" (defScope sLed) s.heap.objs.size f cdv)).units + 64 < cLine := by
      have := hr.un
      omega
    have hr1 := hr.mono (show 1 ≤ 2 by decide)
    have hr2 := hr.mono (show 2 ≤ 2 by decide)

    refine ⟨_, (pss_cons (ps_if (pt_cmpR (Fk.op_eqNil hu) (pv 0) (pe_lst pa_nil) (nomark _)) (pss_one (ps_ret (pv 1))) pss_nil)
      (pss_cons (ps_if (pt_val (pe_call LE.ok hr1 rfl LE.g LE.k LE.b .nil passL (pa_cons (pv 1) (pa_cons (pe_ix ix_tup (pe_ix ix_list (pv 0) pe_int (fun _ _ => rfl)) (pv 2) (fun _ _ => rfl)) pa_nil)))) (pss_one (ps_ret (pe_call SU.ok hr2 rfl SU.g SU.k SU.b .nil passL (pa_cons (pe_ix ix_tup (pe_ix ix_list (pv 0) pe_int (fun _ _ => rfl)) (pv 3) (fun _ _ => rfl)) (pa_cons (pe_call RE.ok hr2 rfl RE.g RE.k RE.b .nil passL (pa_cons (pv 1) (pa_cons (pe_ix ix_tup (pe_ix ix_list (pv 0) pe_int (fun _ _ => rfl)) (pv 2) (fun _ _ => rfl)) pa_nil))) pa_nil))))) pss_nil)
      (pss_cons (ps_for (passes_of rfl) rfl (pi_zip (by rfl) mZ (pa_cons (pv 0) (pa_cons (pe_slice sl_list (pv 0) (po_some pe_int) po_none) pa_nil))) (pg_tup (by rfl) (pgs_cons (pg_name (i := 4) scLed.nd rfl (Or.inl rfl)) (pgs_cons (pg_name (i := 5) scLed.nd rfl (Or.inl rfl)) pgs_nil)))
      (pss_one (ps_if (PW.pt (pw_and (pt_not (pt_val (pe_call LE.ok hr1 rfl LE.g LE.k LE.b .nil passL (pa_cons (pv 1) (pa_cons (pe_ix ix_tup (pv 4) (pv 2) (fun _ _ => rfl)) pa_nil))))) (pw_and1 (pt_val (pe_call LE.ok hr1 rfl LE.g LE.k LE.b .nil passL (pa_cons (pv 1) (pa_cons (pe_ix ix_tup (pv 5) (pv 2) (fun _ _ => rfl)) pa_nil))))))) (pss_cons (ps_set (i := 6) scLed.nd rfl (Or.inl rfl) (pe_call QU.ok hr2 rfl QU.g QU.k QU.b .nil passL (pa_cons (pe_call RE.ok hr2 rfl RE.g RE.k RE.b .nil passL (pa_cons (pv 1) (pa_cons (pe_ix ix_tup (pv 4) (pv 2) (fun _ _ => rfl)) pa_nil))) (pa_cons (pe_call RE.ok hr2 rfl RE.g RE.k RE.b .nil passL (pa_cons (pe_ix ix_tup (pv 5) (pv 2) (fun _ _ => rfl)) (pa_cons (pe_ix ix_tup (pv 4) (pv 2) (fun _ _ => rfl)) pa_nil))) pa_nil))))
      (pss_one (ps_ret (pe_call SU.ok hr2 rfl SU.g SU.k SU.b .nil passL (pa_cons (pe_ix ix_tup (pv 4) (pv 3) (fun _ _ => rfl)) (pa_cons (pe_call PR.ok hr2 rfl PR.g PR.k PR.b .nil passL (pa_cons (pv 6) (pa_cons (pe_call RE.ok hr2 rfl RE.g RE.k RE.b .nil passL (pa_cons (pe_ix ix_tup (pv 5) (pv 3) (fun _ _ => rfl)) (pa_cons (pe_ix ix_tup (pv 4) (pv 3) (fun _ _ => rfl)) pa_nil))) pa_nil))) pa_nil)))))) pss_nil)))
      (pss_one (ps_ret (pe_call SU.ok hr2 rfl SU.g SU.k SU.b .nil passL (pa_cons (pe_ix ix_tup (pe_ix ix_list (pv 0) (pe_un un_neg pe_int) (fun _ _ => rfl)) (pv 3) (fun _ _ => rfl)) (pa_cons (pe_call RE.ok hr2 rfl RE.g RE.k RE.b .nil passL (pa_cons (pv 1) (pa_cons (pe_ix ix_tup (pe_ix ix_list (pv 0) (pe_un un_neg pe_int) (fun _ _ => rfl)) (pv 2) (fun _ _ => rfl)) pa_nil))) pa_nil)))))))), ?_⟩
    have hd : ∀ J, Same H J → FrP n J v x := fun J s => hv.same s
    cases ps with
    | nil =>
      refine ⟨_, rfl, by decide, fun e0 he => ⟨L, e0, _, rfl, rfl, SqL.of (Same.upd he _ _ hl.l), SqL.of upd_same, _, rfl, if_true_of (by rfl) ⟨_, rfl, k v _ (Same.upd he) ((hd _ (Same.upd he)).mono (by omega))⟩⟩⟩
    | cons g0 gr =>
      refine ⟨_, rfl, by decide, fun e0 he => ⟨L, e0, _, rfl, rfl, SqL.of (Same.upd he _ _ hl.l), SqL.of upd_same, _, rfl, if_false_of (by rfl) ?_⟩⟩
      have s1 := Same.upd (o := .lst []) he
      generalize upd H e0 (.lst []) = H1 at s1 ⊢
      have o0 := hl.ok g0 List.mem_cons_self
      have ix : ∀ (J : Hp) (i : Nat) (g : Pg), Same H J → (g0 :: gr)[i]? = some g → atI ((g0 :: gr).map fun g => V.ref g.q) (i : Int) = some (V.ref g.q) := fun J i g s e => atI_nat (by rw [List.getElem?_map, e]; rfl)
      have z0 : atI ((g0 :: gr).map fun g => V.ref g.q) 0 = some (V.ref g0.q) := ix H1 0 g0 s1 rfl
      have i0 : ∀ x y : V, atI [x, y] 0 = some x := fun _ _ => rfl
      have i1 : ∀ x y : V, atI [x, y] 1 = some y := fun _ _ => rfl
      refine ⟨_, rfl, _, rfl, L, _, _, _, rfl, rfl, SqL.of (hl.same s1).l, z0, _, rfl, g0.q, _, _, _, rfl, rfl, SqT.of (o0.same s1).q, i0 _ _, v, g0.a, x, bq g0, n, rfl, hd _ s1, (o0.same s1).a, by omega, _, rfl, ?_⟩
      by_cases c : x < bq g0
      · refine if_true_of (decide_eq_true c) ?_
        refine ⟨_, rfl, L, _, _, _, rfl, rfl, SqL.of (hl.same s1).l, z0, _, rfl, g0.q, _, _, _, rfl, rfl, SqT.of (o0.same s1).q, i1 _ _, _, rfl, _, rfl, L, _, _, _, rfl, rfl, SqL.of (hl.same s1).l, z0, _, rfl, g0.q, _, _, _, rfl, rfl, SqT.of (o0.same s1).q, i0 _ _, v, g0.a, x, bq g0, n, rfl, hd _ s1, (o0.same s1).a, by omega, fun r1 H2 s2 f1 => ?_⟩
        refine ⟨g0.b, r1, sq g0, x - bq g0, 2 * n + 1, rfl, ((o0.same s1).same s2).b.mono (by omega), f1, by omega, fun r2 H3 s3 f2 => k r2 H3 (s1.trans (s2.trans s3)) ?_⟩
        have e : M08.f (ptl (g0 :: gr)) x = sq g0 + (x - bq g0) := by
          show (if x < bq g0 then sq g0 + (x - bq g0) else _) = _
          rw [if_pos c]
        rw [e]
        exact f2.mono (by show 2 * (2 * n + 1) + 1 ≤ 16 * n + 15; omega)
      · refine if_false_of (decide_eq_false c) ?_
        have s2h : ∀ i, i + 1 < (g0 :: gr).length → ∃ g g', (g0 :: gr)[i]? = some g ∧ (g0 :: gr)[i + 1]? = some g' := fun i h => ⟨_, _, List.getElem?_eq_getElem (by omega), List.getElem?_eq_getElem h⟩
        refine ⟨_, rfl, _, rfl, _, rfl, L, _, rfl, SqL.of (hl.same s1).l, fun L1 hL1 => ?_⟩
        have ecut : cutV ((g0 :: gr).map fun g => V.ref g.q) (some 1) none = gr.map fun g => V.ref g.q := cut1 _ _
        rw [ecut] 
        have s2 := Same.upd (o := .lst (gr.map fun g => V.ref g.q)) hL1
        have eL1 : (upd H1 L1 (.lst (gr.map fun g => V.ref g.q))) L1 = some (.lst (gr.map fun g => V.ref g.q)) := upd_same
        have s12 := s1.trans s2
        generalize upd H1 L1 (.lst (gr.map fun g => V.ref g.q)) = H2 at s2 eL1 s12 ⊢
        refine ⟨L, L1, _, _, rfl, SqL.of (hl.same s12).l, SqL.of eL1, ?_⟩
        have pw := M08.up_pw _ hl.up
        have lp : (ptl (g0 :: gr)).length = (g0 :: gr).length := List.length_map ..
        have asc : ∀ (i j : Nat) (g h : Pg), i ≤ j → (g0 :: gr)[i]? = some g → (g0 :: gr)[j]? = some h → bq g ≤ bq h ∧ (i < j → bq g < bq h) := fun i j g h hij e1 e2 => by
          have lj := (List.getElem?_eq_some_iff.mp e2).1
          rcases Nat.lt_or_ge i j with c | c
          · have := List.pairwise_iff_getElem.mp pw i j (by omega) (by omega) c
            have e1 := ptl_at e1
            have e2 := ptl_at e2
            rw [List.getElem?_eq_getElem (by omega)] at e1 e2
            rw [Option.some.inj e1, Option.some.inj e2] at this
            exact ⟨Rat.le_of_lt this.1, fun _ => this.1⟩
          · have : i = j := by omega
            subst this
            rw [e1] at e2
            cases e2
            exact ⟨Rat.le_refl, fun h => absurd h (by omega)⟩
        have at_ : ∀ (j : Nat) z, (ptl (g0 :: gr))[j]? = some z → ∃ g, (g0 :: gr)[j]? = some g ∧ z = (bq g, sq g) := fun j z e => by
          unfold ptl at e
          rw [List.getElem?_map] at e
          cases ez : (g0 :: gr)[j]? with
          | none => rw [ez] at e; cases e
          | some g => rw [ez] at e; cases e; exact ⟨g, rfl, rfl⟩
        refine for_it (walk_zip (K := K) (a := L) (b := L1) (xs := (g0 :: gr).map fun g => V.ref g.q) (ys := gr.map fun g => V.ref g.q) (n := gr.length) (by simp)) (fun i σ H' => (∃ v4 v5 v6 : Option V, σ = [some (.ref L), some (.ref v), some (.int 0), some (.int 1), v4, v5, v6]) ∧ Same H2 H' ∧ ∀ (j : Nat) g, j ≤ i → (g0 :: gr)[j]? = some g → bq g ≤ x) ⟨⟨_, _, _, rfl⟩, Same.refl _, fun j g hj e => ?_⟩ (fun i σ H' _ ⟨_, s, _⟩ => ⟨SqL.of (s _ _ (hl.same s12).l), SqL.of (s _ _ eL1)⟩) ?_ ?_
        · have : j = 0 := by omega
          subst this
          cases e
          exact Rat.not_lt.mp c
        · rintro i xx σ H3 H4 hi ⟨⟨v4, v5, v6, rfl⟩, s3, low⟩ ⟨T1, x1, y1, rfl, hT, rfl, e1, e2⟩
          dsimp only at e1 e2
          rw [List.getElem?_map] at e1 e2
          obtain ⟨g, g', eg, eg'⟩ : ∃ g g', (g0 :: gr)[i]? = some g ∧ (g0 :: gr)[i + 1]? = some g' := ⟨_, _, List.getElem?_eq_getElem (by simp; omega), List.getElem?_eq_getElem (by simp; omega)⟩
          rw [eg] at e1
          have eg2 : gr[i]? = some g' := eg'
          rw [eg2] at e2
          obtain rfl := Option.some.inj e1
          obtain rfl := Option.some.inj e2
          have s34 := Same.upd (o := .tup [V.ref g.q, V.ref g'.q]) hT
          have sA := s12.trans (s3.trans s34)
          refine ⟨T1, _, rfl, SqT.of upd_same, rfl, _, _, rfl, _, _, rfl, rfl, ?_⟩
          have og := (hl.ok g (List.mem_of_getElem? eg)).same sA
          have og' := (hl.ok g' (List.mem_of_getElem? eg')).same sA
          have le := low i g (Nat.le_refl _) eg
          have lt := (asc i (i + 1) g g' (by omega) eg eg').2 (by omega)
          refine ⟨_, rfl, _, rfl, _, rfl, g.q, _, _, _, rfl, rfl, SqT.of og.q, i0 _ _, v, g.a, x, bq g, n, rfl, hd _ sA, og.a, by omega, ?_⟩
          rw [decide_eq_false (Rat.not_lt.mpr le)]
          refine ⟨_, rfl, if_true_of (by rfl) ?_⟩
          refine ⟨_, rfl, _, rfl, _, rfl, g'.q, _, _, _, rfl, rfl, SqT.of og'.q, i0 _ _, v, g'.a, x, bq g', n, rfl, hd _ sA, og'.a, by omega, _, rfl, ?_⟩
          by_cases c2 : x < bq g'
          · refine if_true_of (decide_eq_true c2) ?_
            refine ⟨_, rfl, _, rfl, _, rfl, g.q, _, _, _, rfl, rfl, SqT.of og.q, i0 _ _, v, g.a, x, bq g, n, rfl, hd _ sA, og.a, by omega, fun r1 H5 s5 f5 => ?_⟩
            have og5 := og.same s5
            have og5' := og'.same s5
            refine ⟨_, rfl, _, rfl, g'.q, _, _, _, rfl, rfl, SqT.of og5'.q, i0 _ _, _, rfl, _, rfl, g.q, _, _, _, rfl, rfl, SqT.of og5.q, i0 _ _, g'.a, g.a, bq g', bq g, n, rfl, og5'.a, og5.a, by omega, fun r2 H6 s6 f6 => ?_⟩
            refine ⟨r1, r2, x - bq g, bq g' - bq g, 2 * n + 1, rfl, f5.same s6, f6, by grind, by omega, fun r3 H7 s7 f7 => ?_⟩
            have og7 := (og5.same s6).same s7
            have og7' := (og5'.same s6).same s7
            refine ⟨_, rfl, _, rfl, g.q, _, _, _, rfl, rfl, SqT.of og7.q, i1 _ _, _, rfl, _, rfl, _, rfl, g'.q, _, _, _, rfl, rfl, SqT.of og7'.q, i1 _ _, _, rfl, _, rfl, g.q, _, _, _, rfl, rfl, SqT.of og7.q, i1 _ _, g'.b, g.b, sq g', sq g, n, rfl, og7'.b, og7.b, by omega, fun r4 H8 s8 f8 => ?_⟩
            refine ⟨r3, r4, (x - bq g) / (bq g' - bq g), sq g' - sq g, 2 * (2 * n + 1) + 1, rfl, f7.same s8, f8.mono (by show 2 * n + 1 ≤ 2 * (2 * n + 1) + 1; omega), by omega, fun r5 H9 s9 f9 => ?_⟩
            refine ⟨g.b, r5, sq g, _, 2 * (2 * (2 * n + 1) + 1) + 1, rfl, ((og7.same s8).same s9).b.mono (by omega), f9, by omega, fun r6 H10 s10 f10 => k r6 H10 (sA.trans (s5.trans (s6.trans (s7.trans (s8.trans (s9.trans s10)))))) ?_⟩
            have e := (M08.f_at (ps := ptl (g0 :: gr)) (x := x) (n := i + 1) (ptl_at eg) (by rw [lp]; have := (List.getElem?_eq_some_iff.mp eg').1; omega) (fun j z hj e => by
              obtain ⟨h, eh, rfl⟩ := at_ j z e
              exact low j h (by omega) eh) (fun j z hj e => by
              obtain ⟨h, eh, rfl⟩ := at_ j z e
              exact Std.lt_of_lt_of_le c2 (asc (i + 1) j g' h hj eg' eh).1)).1
            rw [e, M08.pc_at (ptl_at eg) (ptl_at eg')]
            have e3 : sq g + (x - bq g) / (bq g' - bq g) * (sq g' - sq g) = sq g + (x - bq g) * M08.slope (bq g, sq g) (bq g', sq g') := by
              show _ = sq g + (x - bq g) * ((sq g' - sq g) / (bq g' - bq g))
              have : bq g' - bq g ≠ 0 := by grind
              grind
            rw [← e3]
            exact f10.mono (by show 2 * (2 * (2 * (2 * n + 1) + 1) + 1) + 1 ≤ 16 * n + 15; omega)
          · refine if_false_of (decide_eq_false c2) ?_
            refine ⟨⟨_, _, _, rfl⟩, s3.trans s34, fun j h hj e => ?_⟩
            exact Rat.le_trans (asc j (i + 1) h g' hj e eg').1 (Rat.not_lt.mp c2)
        · rintro σ H3 ⟨⟨v4, v5, v6, rfl⟩, s3, low⟩
          have sA := s12.trans s3
          obtain ⟨g, eg⟩ : ∃ g, (g0 :: gr)[gr.length]? = some g := ⟨_, List.getElem?_eq_getElem (by simp)⟩
          have og := (hl.ok g (List.mem_of_getElem? eg)).same sA
          have el : atI ((g0 :: gr).map fun g => V.ref g.q) (-1) = some (V.ref g.q) := atI_last (by rw [List.length_map, List.getElem?_map, List.length_cons, Nat.add_sub_cancel, eg]; rfl)
          refine ⟨_, rfl, _, rfl, L, _, _, _, rfl, rfl, SqL.of (hl.same sA).l, el, _, rfl, g.q, _, _, _, rfl, rfl, SqT.of og.q, i1 _ _, _, rfl, _, rfl, _, rfl, L, _, _, _, rfl, rfl, SqL.of (hl.same sA).l, el, _, rfl, g.q, _, _, _, rfl, rfl, SqT.of og.q, i0 _ _, v, g.a, x, bq g, n, rfl, hd _ sA, og.a, by omega, fun r1 H4 s4 f4 => ?_⟩
          refine ⟨g.b, r1, sq g, x - bq g, 2 * n + 1, rfl, (og.same s4).b.mono (by omega), f4, by omega, fun r2 H5 s5 f5 => k r2 H5 (sA.trans (s4.trans s5)) ?_⟩
          have e := (M08.f_at (ps := ptl (g0 :: gr)) (x := x) (n := gr.length + 1) (ptl_at eg) (by rw [lp]; simp) (fun j z hj e => by
            obtain ⟨h, eh, rfl⟩ := at_ j z e
            exact low j h (by omega) eh) (fun j z hj e => by
            have := (List.getElem?_eq_some_iff.mp e).1
            rw [lp, List.length_cons] at this
            omega)).1
          have pe : M08.pc (ptl (g0 :: gr)) (gr.length + 1) = 1 := by
            have : gr.length + 1 = (ptl (g0 :: gr)).length := by rw [lp]; rfl
            rw [this]
            exact M08.pc_end
          rw [e, pe]
          have e3 : sq g + (x - bq g) = sq g + (x - bq g) * 1 := by grind
          rw [← e3]
          exact f5.mono (by show 2 * (2 * n + 1) + 1 ≤ 16 * n + 15; omega)
theorem ok_pcs (F : FnP K "_law_paces" sPcs f fd) (mZ : mg "zip" = none) (RE : Fn P w K mg base "_law_rest" 2 ["_law_one", "_law_other"] (spB b21 fun x y => x - y) fR fdR) (QU : Fn P w K mg base "_law_quotient" 2 ["_law_one", "_law_other"] (spBq b21 fun x y => x / y) fQ fdQ) :
    FnOk P w K mg base (L2.CX P w) 3 f fd ["_law_points_here"] spPcs := by
  refine F.ok scPcs (fun vs H Q E h => ?_) (fun cdv A outer s H vs Q E hr h => ?_)
  · obtain ⟨L, ps, n, rfl, _⟩ := h
    rfl
  · obtain ⟨L, ps, n, rfl, hl, hn, k⟩ := h
    have hr2 := hr
    refine ⟨_, (pss_cons (ps_set (i := 1) scPcs.nd rfl (Or.inl rfl) (pe_lst (pa_cons (pe_tup (pa_cons pe_int (pa_cons pe_int pa_nil))) pa_nil)))
      (pss_cons (ps_for (passes_of rfl) rfl (pi_zip (by rfl) mZ (pa_cons (pv 0) (pa_cons (pe_slice sl_list (pv 0) (po_some pe_int) po_none) pa_nil))) (pg_tup (by rfl) (pgs_cons (pg_name (i := 2) scPcs.nd rfl (Or.inl rfl)) (pgs_cons (pg_name (i := 3) scPcs.nd rfl (Or.inl rfl)) pgs_nil)))
      (pss_one (ps_expr (pe_bm PySem.F.plainAttrs_list PySem.F.slot_list_append PySem.F.type_list_append mt_append (pv 1) (pa_cons (pe_call QU.ok hr2 rfl QU.g QU.k QU.b .nil passL (pa_cons (pe_call RE.ok hr2 rfl RE.g RE.k RE.b .nil passL (pa_cons (pe_ix ix_tup (pv 3) pe_int (fun _ _ => rfl)) (pa_cons (pe_ix ix_tup (pv 2) pe_int (fun _ _ => rfl)) pa_nil))) (pa_cons (pe_call RE.ok hr2 rfl RE.g RE.k RE.b .nil passL (pa_cons (pe_ix ix_tup (pv 3) pe_int (fun _ _ => rfl)) (pa_cons (pe_ix ix_tup (pv 2) pe_int (fun _ _ => rfl)) pa_nil))) pa_nil))) pa_nil)))))
      (pss_one (ps_ret (pe_op op_cat (pv 1) (pe_lst (pa_cons (pe_tup (pa_cons pe_int (pa_cons pe_int pa_nil))) pa_nil))))))), ?_⟩
    refine ⟨by show 2 ≤ sizeLine; decide, fun o1 h1 => ⟨by show 1 ≤ sizeLine; decide, fun D hD => ?_⟩⟩
    have s1 := Same.upd (o := .tup [.int 1, .int 1]) h1
    have s2 := Same.upd (o := .lst [.ref o1]) hD
    have eo := s2 _ _ (upd_same (H := H) (a := o1) (o := .tup [.int 1, .int 1]))
    have eD : (upd (upd H o1 (.tup [.int 1, .int 1])) D (.lst [.ref o1])) D = some (.lst [.ref o1]) := upd_same
    have hDn : H D = none := none_of s1 hD
    have s12 := s1.trans s2
    generalize upd (upd H o1 (.tup [.int 1, .int 1])) D (.lst [.ref o1]) = H2 at eo eD s12 ⊢
    have lsz := hl.sz
    refine ⟨_, rfl, _, rfl, _, rfl, L, _, rfl, SqL.of (hl.same s12).l, fun L1 hL1 => ?_⟩
    rw [cutT]
    have s3 := Same.upd (o := .lst ((ps.map fun g => V.ref g.q).drop 1)) hL1
    have eL1 : (upd H2 L1 (.lst ((ps.map fun g => V.ref g.q).drop 1))) L1 = some (.lst ((ps.map fun g => V.ref g.q).drop 1)) := upd_same
    have sA := s12.trans s3
    have eo3 := s3 _ _ eo
    have eD3 := s3 _ _ eD
    have nL1D : L1 ≠ D := (ne_of_none eD hL1).symm
    have hL1n := none_of s12 hL1
    generalize upd H2 L1 (.lst ((ps.map fun g => V.ref g.q).drop 1)) = H3 at eL1 sA eo3 eD3 ⊢
    refine ⟨L, L1, _, _, rfl, SqL.of (hl.same sA).l, SqL.of eL1, ?_⟩
    have nLD : L ≠ D := fun e => by
      have := hl.l
      rw [e, hDn] at this
      cases this
    refine for_it (walk_zip (K := K) (a := L) (b := L1) (xs := ps.map fun g => V.ref g.q) (ys := (ps.map fun g => V.ref g.q).drop 1) (n := ps.length - 1) (by rw [List.length_drop, List.length_map]; omega)) (fun i σ H' => (∃ v2 v3 : Option V, σ = [some (.ref L), some (.ref D), v2, v3]) ∧ Same H H' ∧ H' L1 = some (.lst ((ps.map fun g => V.ref g.q).drop 1)) ∧ ∃ xs, FrL (4 * n + 3) H' D xs ((List.range (i + 1)).map fun i => M08.pc (ptl ps) i)) ⟨⟨_, _, rfl⟩, sA, eL1, [.ref o1], eD3, rfl, fun i q e => ?_⟩ (fun i σ H' _ ⟨_, s, e, _⟩ => ⟨SqL.of (hl.same s).l, SqL.of e⟩) ?_ ?_
    · have li := (List.getElem?_eq_some_iff.mp e).1
      simp at li
      subst li
      cases e
      exact ⟨o1, rfl, one_fr eo3 (by omega)⟩
    · rintro i xx σ H4 H5 hi ⟨⟨v2, v3, rfl⟩, s4, eL4, xs, hx⟩ ⟨T1, x1, y1, rfl, hT, rfl, e1, e2⟩
      dsimp only at e1 e2
      obtain ⟨g, g', eg, eg'⟩ : ∃ g g', ps[i]? = some g ∧ ps[i + 1]? = some g' := ⟨_, _, List.getElem?_eq_getElem (by omega), List.getElem?_eq_getElem (by omega)⟩
      rw [List.getElem?_map, eg] at e1
      rw [List.getElem?_drop, Nat.add_comm, List.getElem?_map, eg'] at e2
      obtain rfl := Option.some.inj e1
      obtain rfl := Option.some.inj e2
      have s45 := Same.upd (o := .tup [V.ref g.q, V.ref g'.q]) hT
      have s5 := s4.trans s45
      refine ⟨T1, _, rfl, SqT.of upd_same, rfl, _, _, rfl, _, _, rfl, rfl, ?_⟩
      have og := (hl.ok g (List.mem_of_getElem? eg)).same s5
      have og' := (hl.ok g' (List.mem_of_getElem? eg')).same s5
      have hx5 := hx.same s45
      have eL5 := s45 _ _ eL4
      have i0 : ∀ x y : V, atI [x, y] 0 = some x := fun _ _ => rfl
      have i1 : ∀ x y : V, atI [x, y] 1 = some y := fun _ _ => rfl
      have lt : bq g < bq g' := by
        have pw := M08.up_pw _ hl.up
        have lp : (ptl ps).length = ps.length := List.length_map ..
        have := List.pairwise_iff_getElem.mp pw i (i + 1) (by omega) (by omega) (by omega)
        have a1 := ptl_at eg
        have a2 := ptl_at eg'
        rw [List.getElem?_eq_getElem (by omega)] at a1 a2
        rw [Option.some.inj a1, Option.some.inj a2] at this
        exact this.1
      refine ⟨_, rfl, .inl ⟨rfl, _, SqL.of hx5.1⟩, ?_⟩
      refine ⟨_, rfl, g'.q, _, _, _, rfl, rfl, SqT.of og'.q, i1 _ _, _, rfl, g.q, _, _, _, rfl, rfl, SqT.of og.q, i1 _ _, g'.b, g.b, sq g', sq g, n, rfl, og'.b, og.b, by omega, fun r1 H6 s6 f6 => ?_⟩
      have og6 := og.same s6
      have og6' := og'.same s6
      refine ⟨_, rfl, g'.q, _, _, _, rfl, rfl, SqT.of og6'.q, i0 _ _, _, rfl, g.q, _, _, _, rfl, rfl, SqT.of og6.q, i0 _ _, g'.a, g.a, bq g', bq g, n, rfl, og6'.a, og6.a, by omega, fun r2 H7 s7 f7 => ?_⟩
      refine ⟨r1, r2, sq g' - sq g, bq g' - bq g, 2 * n + 1, rfl, f6.same s7, f7, by grind, by omega, fun r3 H8 s8 f8 => ?_⟩
      have s58 := s6.trans (s7.trans s8)
      have hx8 := hx5.same s58
      refine ⟨D, _, _, rfl, rfl, hx8.1, ?_, ?_⟩
      · rw [hx8.2.1, List.length_map, List.length_range]
        exact Nat.lt_of_lt_of_le (show i + 1 < 100 by omega) (by decide)
      · refine ⟨⟨_, _, rfl⟩, ?_, ?_, xs ++ [.ref r3], ?_⟩
        · exact same_put (s5.trans s58) hDn
        · rw [upd_ne nL1D]
          exact s58 _ _ eL5
        · have := hx8.push (f8.mono (show b21 (2 * n + 1) ≤ 4 * n + 3 by show 2 * (2 * n + 1) + 1 ≤ _; omega))
          rw [List.range_succ, List.map_append]
          have e : M08.pc (ptl ps) (i + 1) = (sq g' - sq g) / (bq g' - bq g) := M08.pc_at (ptl_at eg) (ptl_at eg')
          show FrL _ _ _ _ (_ ++ [M08.pc (ptl ps) (i + 1)])
          rw [e]
          exact this
    · rintro σ H4 ⟨⟨v2, v3, rfl⟩, s4, eL4, xs, hx⟩
      refine ⟨_, rfl, by show 2 ≤ sizeLine; decide, fun o2 h2 => ⟨by show 1 ≤ sizeLine; decide, fun l2 hl2 => ?_⟩⟩
      have t1 := Same.upd (o := .tup [.int 1, .int 1]) h2
      have t2 := Same.upd (o := .lst [.ref o2]) hl2
      have hx2 := (hx.same t1).same t2
      refine ⟨D, l2, _, _, rfl, rfl, hx2.1, upd_same, ?_, fun r hr => ?_⟩
      · rw [hx2.2.1, List.length_map, List.length_range]
        exact Nat.le_trans (show ps.length - 1 + 1 + 1 ≤ 100 by omega) (by decide)
      have t3 := Same.upd (o := .lst (xs ++ [.ref o2])) hr
      have fo : FrP (4 * n + 3) _ o2 1 := (one_fr (n := 4 * n + 3) (t2 _ _ (upd_same (H := H4) (a := o2) (o := .tup [.int 1, .int 1]))) (by omega)).same t3
      refine k r _ (((List.range (ps.length - 1 + 1)).map fun i => M08.pc (ptl ps) i) ++ [1]) _ (s4.trans (t1.trans (t2.trans t3))) ⟨upd_same, ?_, fun i q e => ?_⟩ fun i hi => ?_
      · rw [List.length_append, List.length_append, hx2.2.1]
        rfl
      · rcases Nat.lt_or_ge i (ps.length - 1 + 1) with c | c
        · rw [List.getElem?_append_left (by rw [List.length_map, List.length_range]; exact c)] at e
          obtain ⟨p', e1, e2⟩ := hx2.2.2 i q e
          exact ⟨p', by rw [List.getElem?_append_left (by rw [hx2.2.1, List.length_map, List.length_range]; exact c)]; exact e1, e2.same t3⟩
        · have li := (List.getElem?_eq_some_iff.mp e).1
          rw [List.length_append, List.length_singleton, List.length_map, List.length_range] at li
          have ei : i = ps.length - 1 + 1 := by omega
          rw [List.getElem?_append_right (by rw [List.length_map, List.length_range]; omega), List.length_map, List.length_range, ei, Nat.sub_self] at e
          cases e
          exact ⟨o2, by rw [List.getElem?_append_right (by rw [hx2.2.1, List.length_map, List.length_range]; omega), hx2.2.1, List.length_map, List.length_range, ei, Nat.sub_self]; rfl, fo⟩
      · have lp : (ptl ps).length = ps.length := List.length_map ..
        rcases Nat.lt_or_ge i (ps.length - 1 + 1) with c | c
        · rw [List.getElem?_append_left (by rw [List.length_map, List.length_range]; exact c), List.getElem?_map, List.getElem?_range c]
          rfl
        · have ei : i = ps.length - 1 + 1 := by omega
          have en : i = (ptl ps).length := by omega
          rw [List.getElem?_append_right (by rw [List.length_map, List.length_range]; omega), List.length_map, List.length_range, ei, Nat.sub_self]
          have := M08.pc_end (ps := ptl ps)
          rw [← en, ei] at this
          rw [this]
          rfl
end
end K09
set_option Elab.async false
set_option linter.all false
set_option maxRecDepth 100000
set_option maxHeartbeats 1000000
set_option exponentiation.threshold 100000
namespace K09
open PySem PySem.Spec PyProof.Rows L2 Fa Fb
def pts (gs : List Pg) : List M08.Pt := gs.map fun g => (sq g, bq g)
theorem pts_sw (gs : List Pg) : pts gs = M08.sw (ptl gs) := by
  unfold pts M08.sw ptl
  rw [List.map_map]
  rfl
theorem up_pts {gs : List Pg} (h : M08.Up (ptl gs)) : M08.Up (pts gs) := by
  rw [pts_sw]
  exact M08.up_sw _ h
theorem pts_at {gs : List Pg} {i : Nat} {g : Pg} (e : gs[i]? = some g) : (pts gs)[i]? = some (sq g, bq g) := by
  unfold pts
  rw [List.getElem?_map, e]
  rfl
def spLedB : Sp := fun vs H Q _ => ∃ (L v : Addr) (ps : List Pg) (x : Rat) (n : Nat), vs = [.ref L, .ref v, .int 1, .int 0] ∧ LsP n H L ps ∧ FrP n H v x ∧ n ≤ 400 ∧ ∀ r H', Same H H' → FrP (16 * n + 15) H' r (M08.f (pts ps) x) → Q (.ref r) H'
section
variable {P : Program} {w : World} {K : PySem.W.Frag} {mg : Str → Option Value} {base : Heap} {f fS fR fP fQ fL : Addr} {fd fdS fdR fdP fdQ fdL : FuncData}
theorem ok_ledB (F : FnP K "_law_led" sLed f fd) (mZ : mg "zip" = none) (SU : Fn P w K mg base "_law_sum" 2 ["_law_one", "_law_other"] (spB b21 fun x y => x + y) fS fdS) (RE : Fn P w K mg base "_law_rest" 2 ["_law_one", "_law_other"] (spB b21 fun x y => x - y) fR fdR)
    (PR : Fn P w K mg base "_law_product" 2 ["_law_one", "_law_other"] (spB b21 fun x y => x * y) fP fdP) (QU : Fn P w K mg base "_law_quotient" 2 ["_law_one", "_law_other"] (spBq b21 fun x y => x / y) fQ fdQ) (LE : Fn P w K mg base "_law_less" 1 ["_law_one", "_law_other"] spLes fL fdL) :
    FnOk P w K mg base (L2.CX P w) 3 f fd ["_law_points_here", "_law_value", "_law_here", "_law_there"] spLedB := by
  refine F.ok scLed (fun vs H Q E h => ?_) (fun cdv A outer s H vs Q E hr h => ?_)
  · obtain ⟨L, v, ps, x, n, rfl, _⟩ := h
    rfl
  · obtain ⟨L, v, ps, x, n, rfl, hl, hv, hn, k⟩ := h
    have hu : (A.deeper (envOfC "_law_led" (defScope sLed) s.heap.objs.size f cdv)).units + 64 < cLine := by
      have := hr.un
      omega
    have hr1 := hr.mono (show 1 ≤ 2 by decide)
    have hr2 := hr.mono (show 2 ≤ 2 by decide)

    refine ⟨_, (pss_cons (ps_if (pt_cmpR (Fk.op_eqNil hu) (pv 0) (pe_lst pa_nil) (nomark _)) (pss_one (ps_ret (pv 1))) pss_nil)
      (pss_cons (ps_if (pt_val (pe_call LE.ok hr1 rfl LE.g LE.k LE.b .nil passL (pa_cons (pv 1) (pa_cons (pe_ix ix_tup (pe_ix ix_list (pv 0) pe_int (fun _ _ => rfl)) (pv 2) (fun _ _ => rfl)) pa_nil)))) (pss_one (ps_ret (pe_call SU.ok hr2 rfl SU.g SU.k SU.b .nil passL (pa_cons (pe_ix ix_tup (pe_ix ix_list (pv 0) pe_int (fun _ _ => rfl)) (pv 3) (fun _ _ => rfl)) (pa_cons (pe_call RE.ok hr2 rfl RE.g RE.k RE.b .nil passL (pa_cons (pv 1) (pa_cons (pe_ix ix_tup (pe_ix ix_list (pv 0) pe_int (fun _ _ => rfl)) (pv 2) (fun _ _ => rfl)) pa_nil))) pa_nil))))) pss_nil)
      (pss_cons (ps_for (passes_of rfl) rfl (pi_zip (by rfl) mZ (pa_cons (pv 0) (pa_cons (pe_slice sl_list (pv 0) (po_some pe_int) po_none) pa_nil))) (pg_tup (by rfl) (pgs_cons (pg_name (i := 4) scLed.nd rfl (Or.inl rfl)) (pgs_cons (pg_name (i := 5) scLed.nd rfl (Or.inl rfl)) pgs_nil)))
      (pss_one (ps_if (PW.pt (pw_and (pt_not (pt_val (pe_call LE.ok hr1 rfl LE.g LE.k LE.b .nil passL (pa_cons (pv 1) (pa_cons (pe_ix ix_tup (pv 4) (pv 2) (fun _ _ => rfl)) pa_nil))))) (pw_and1 (pt_val (pe_call LE.ok hr1 rfl LE.g LE.k LE.b .nil passL (pa_cons (pv 1) (pa_cons (pe_ix ix_tup (pv 5) (pv 2) (fun _ _ => rfl)) pa_nil))))))) (pss_cons (ps_set (i := 6) scLed.nd rfl (Or.inl rfl) (pe_call QU.ok hr2 rfl QU.g QU.k QU.b .nil passL (pa_cons (pe_call RE.ok hr2 rfl RE.g RE.k RE.b .nil passL (pa_cons (pv 1) (pa_cons (pe_ix ix_tup (pv 4) (pv 2) (fun _ _ => rfl)) pa_nil))) (pa_cons (pe_call RE.ok hr2 rfl RE.g RE.k RE.b .nil passL (pa_cons (pe_ix ix_tup (pv 5) (pv 2) (fun _ _ => rfl)) (pa_cons (pe_ix ix_tup (pv 4) (pv 2) (fun _ _ => rfl)) pa_nil))) pa_nil))))
      (pss_one (ps_ret (pe_call SU.ok hr2 rfl SU.g SU.k SU.b .nil passL (pa_cons (pe_ix ix_tup (pv 4) (pv 3) (fun _ _ => rfl)) (pa_cons (pe_call PR.ok hr2 rfl PR.g PR.k PR.b .nil passL (pa_cons (pv 6) (pa_cons (pe_call RE.ok hr2 rfl RE.g RE.k RE.b .nil passL (pa_cons (pe_ix ix_tup (pv 5) (pv 3) (fun _ _ => rfl)) (pa_cons (pe_ix ix_tup (pv 4) (pv 3) (fun _ _ => rfl)) pa_nil))) pa_nil))) pa_nil)))))) pss_nil)))
      (pss_one (ps_ret (pe_call SU.ok hr2 rfl SU.g SU.k SU.b .nil passL (pa_cons (pe_ix ix_tup (pe_ix ix_list (pv 0) (pe_un un_neg pe_int) (fun _ _ => rfl)) (pv 3) (fun _ _ => rfl)) (pa_cons (pe_call RE.ok hr2 rfl RE.g RE.k RE.b .nil passL (pa_cons (pv 1) (pa_cons (pe_ix ix_tup (pe_ix ix_list (pv 0) (pe_un un_neg pe_int) (fun _ _ => rfl)) (pv 2) (fun _ _ => rfl)) pa_nil))) pa_nil)))))))), ?_⟩
    have hd : ∀ J, Same H J → FrP n J v x := fun J s => hv.same s
    cases ps with
    | nil =>
      refine ⟨_, rfl, by decide, fun e0 he => ⟨L, e0, _, rfl, rfl, SqL.of (Same.upd he _ _ hl.l), SqL.of upd_same, _, rfl, if_true_of (by rfl) ⟨_, rfl, k v _ (Same.upd he) ((hd _ (Same.upd he)).mono (by omega))⟩⟩⟩
    | cons g0 gr =>
      refine ⟨_, rfl, by decide, fun e0 he => ⟨L, e0, _, rfl, rfl, SqL.of (Same.upd he _ _ hl.l), SqL.of upd_same, _, rfl, if_false_of (by rfl) ?_⟩⟩
      have s1 := Same.upd (o := .lst []) he
      generalize upd H e0 (.lst []) = H1 at s1 ⊢
      have o0 := hl.ok g0 List.mem_cons_self
      have ix : ∀ (J : Hp) (i : Nat) (g : Pg), Same H J → (g0 :: gr)[i]? = some g → atI ((g0 :: gr).map fun g => V.ref g.q) (i : Int) = some (V.ref g.q) := fun J i g s e => atI_nat (by rw [List.getElem?_map, e]; rfl)
      have z0 : atI ((g0 :: gr).map fun g => V.ref g.q) 0 = some (V.ref g0.q) := ix H1 0 g0 s1 rfl
      have i0 : ∀ x y : V, atI [x, y] 0 = some x := fun _ _ => rfl
      have i1 : ∀ x y : V, atI [x, y] 1 = some y := fun _ _ => rfl
      refine ⟨_, rfl, _, rfl, L, _, _, _, rfl, rfl, SqL.of (hl.same s1).l, z0, _, rfl, g0.q, _, _, _, rfl, rfl, SqT.of (o0.same s1).q, i1 _ _, v, g0.b, x, sq g0, n, rfl, hd _ s1, (o0.same s1).b, by omega, _, rfl, ?_⟩
      by_cases c : x < sq g0
      · refine if_true_of (decide_eq_true c) ?_
        refine ⟨_, rfl, L, _, _, _, rfl, rfl, SqL.of (hl.same s1).l, z0, _, rfl, g0.q, _, _, _, rfl, rfl, SqT.of (o0.same s1).q, i0 _ _, _, rfl, _, rfl, L, _, _, _, rfl, rfl, SqL.of (hl.same s1).l, z0, _, rfl, g0.q, _, _, _, rfl, rfl, SqT.of (o0.same s1).q, i1 _ _, v, g0.b, x, sq g0, n, rfl, hd _ s1, (o0.same s1).b, by omega, fun r1 H2 s2 f1 => ?_⟩
        refine ⟨g0.a, r1, bq g0, x - sq g0, 2 * n + 1, rfl, ((o0.same s1).same s2).a.mono (by omega), f1, by omega, fun r2 H3 s3 f2 => k r2 H3 (s1.trans (s2.trans s3)) ?_⟩
        have e : M08.f (pts (g0 :: gr)) x = bq g0 + (x - sq g0) := by
          show (if x < sq g0 then bq g0 + (x - sq g0) else _) = _
          rw [if_pos c]
        rw [e]
        exact f2.mono (by show 2 * (2 * n + 1) + 1 ≤ 16 * n + 15; omega)
      · refine if_false_of (decide_eq_false c) ?_
        have s2h : ∀ i, i + 1 < (g0 :: gr).length → ∃ g g', (g0 :: gr)[i]? = some g ∧ (g0 :: gr)[i + 1]? = some g' := fun i h => ⟨_, _, List.getElem?_eq_getElem (by omega), List.getElem?_eq_getElem h⟩
        refine ⟨_, rfl, _, rfl, _, rfl, L, _, rfl, SqL.of (hl.same s1).l, fun L1 hL1 => ?_⟩
        have ecut : cutV ((g0 :: gr).map fun g => V.ref g.q) (some 1) none = gr.map fun g => V.ref g.q := cut1 _ _
        rw [ecut] 
        have s2 := Same.upd (o := .lst (gr.map fun g => V.ref g.q)) hL1
        have eL1 : (upd H1 L1 (.lst (gr.map fun g => V.ref g.q))) L1 = some (.lst (gr.map fun g => V.ref g.q)) := upd_same
        have s12 := s1.trans s2
        generalize upd H1 L1 (.lst (gr.map fun g => V.ref g.q)) = H2 at s2 eL1 s12 ⊢
        refine ⟨L, L1, _, _, rfl, SqL.of (hl.same s12).l, SqL.of eL1, ?_⟩
        have pw := M08.up_pw _ (up_pts hl.up)
        have lp : (pts (g0 :: gr)).length = (g0 :: gr).length := List.length_map ..
        have asc : ∀ (i j : Nat) (g h : Pg), i ≤ j → (g0 :: gr)[i]? = some g → (g0 :: gr)[j]? = some h → sq g ≤ sq h ∧ (i < j → sq g < sq h) := fun i j g h hij e1 e2 => by
          have lj := (List.getElem?_eq_some_iff.mp e2).1
          rcases Nat.lt_or_ge i j with c | c
          · have := List.pairwise_iff_getElem.mp pw i j (by omega) (by omega) c
            have e1 := pts_at e1
            have e2 := pts_at e2
            rw [List.getElem?_eq_getElem (by omega)] at e1 e2
            rw [Option.some.inj e1, Option.some.inj e2] at this
            exact ⟨Rat.le_of_lt this.1, fun _ => this.1⟩
          · have : i = j := by omega
            subst this
            rw [e1] at e2
            cases e2
            exact ⟨Rat.le_refl, fun h => absurd h (by omega)⟩
        have at_ : ∀ (j : Nat) z, (pts (g0 :: gr))[j]? = some z → ∃ g, (g0 :: gr)[j]? = some g ∧ z = (sq g, bq g) := fun j z e => by
          unfold pts at e
          rw [List.getElem?_map] at e
          cases ez : (g0 :: gr)[j]? with
          | none => rw [ez] at e; cases e
          | some g => rw [ez] at e; cases e; exact ⟨g, rfl, rfl⟩
        refine for_it (walk_zip (K := K) (a := L) (b := L1) (xs := (g0 :: gr).map fun g => V.ref g.q) (ys := gr.map fun g => V.ref g.q) (n := gr.length) (by simp)) (fun i σ H' => (∃ v4 v5 v6 : Option V, σ = [some (.ref L), some (.ref v), some (.int 1), some (.int 0), v4, v5, v6]) ∧ Same H2 H' ∧ ∀ (j : Nat) g, j ≤ i → (g0 :: gr)[j]? = some g → sq g ≤ x) ⟨⟨_, _, _, rfl⟩, Same.refl _, fun j g hj e => ?_⟩ (fun i σ H' _ ⟨_, s, _⟩ => ⟨SqL.of (s _ _ (hl.same s12).l), SqL.of (s _ _ eL1)⟩) ?_ ?_
        · have : j = 0 := by omega
          subst this
          cases e
          exact Rat.not_lt.mp c
        · rintro i xx σ H3 H4 hi ⟨⟨v4, v5, v6, rfl⟩, s3, low⟩ ⟨T1, x1, y1, rfl, hT, rfl, e1, e2⟩
          dsimp only at e1 e2
          rw [List.getElem?_map] at e1 e2
          obtain ⟨g, g', eg, eg'⟩ : ∃ g g', (g0 :: gr)[i]? = some g ∧ (g0 :: gr)[i + 1]? = some g' := ⟨_, _, List.getElem?_eq_getElem (by simp; omega), List.getElem?_eq_getElem (by simp; omega)⟩
          rw [eg] at e1
          have eg2 : gr[i]? = some g' := eg'
          rw [eg2] at e2
          obtain rfl := Option.some.inj e1
          obtain rfl := Option.some.inj e2
          have s34 := Same.upd (o := .tup [V.ref g.q, V.ref g'.q]) hT
          have sA := s12.trans (s3.trans s34)
          refine ⟨T1, _, rfl, SqT.of upd_same, rfl, _, _, rfl, _, _, rfl, rfl, ?_⟩
          have og := (hl.ok g (List.mem_of_getElem? eg)).same sA
          have og' := (hl.ok g' (List.mem_of_getElem? eg')).same sA
          have le := low i g (Nat.le_refl _) eg
          have lt := (asc i (i + 1) g g' (by omega) eg eg').2 (by omega)
          refine ⟨_, rfl, _, rfl, _, rfl, g.q, _, _, _, rfl, rfl, SqT.of og.q, i1 _ _, v, g.b, x, sq g, n, rfl, hd _ sA, og.b, by omega, ?_⟩
          rw [decide_eq_false (Rat.not_lt.mpr le)]
          refine ⟨_, rfl, if_true_of (by rfl) ?_⟩
          refine ⟨_, rfl, _, rfl, _, rfl, g'.q, _, _, _, rfl, rfl, SqT.of og'.q, i1 _ _, v, g'.b, x, sq g', n, rfl, hd _ sA, og'.b, by omega, _, rfl, ?_⟩
          by_cases c2 : x < sq g'
          · refine if_true_of (decide_eq_true c2) ?_
            refine ⟨_, rfl, _, rfl, _, rfl, g.q, _, _, _, rfl, rfl, SqT.of og.q, i1 _ _, v, g.b, x, sq g, n, rfl, hd _ sA, og.b, by omega, fun r1 H5 s5 f5 => ?_⟩
            have og5 := og.same s5
            have og5' := og'.same s5
            refine ⟨_, rfl, _, rfl, g'.q, _, _, _, rfl, rfl, SqT.of og5'.q, i1 _ _, _, rfl, _, rfl, g.q, _, _, _, rfl, rfl, SqT.of og5.q, i1 _ _, g'.b, g.b, sq g', sq g, n, rfl, og5'.b, og5.b, by omega, fun r2 H6 s6 f6 => ?_⟩
            refine ⟨r1, r2, x - sq g, sq g' - sq g, 2 * n + 1, rfl, f5.same s6, f6, by grind, by omega, fun r3 H7 s7 f7 => ?_⟩
            have og7 := (og5.same s6).same s7
            have og7' := (og5'.same s6).same s7
            refine ⟨_, rfl, _, rfl, g.q, _, _, _, rfl, rfl, SqT.of og7.q, i0 _ _, _, rfl, _, rfl, _, rfl, g'.q, _, _, _, rfl, rfl, SqT.of og7'.q, i0 _ _, _, rfl, _, rfl, g.q, _, _, _, rfl, rfl, SqT.of og7.q, i0 _ _, g'.a, g.a, bq g', bq g, n, rfl, og7'.a, og7.a, by omega, fun r4 H8 s8 f8 => ?_⟩
            refine ⟨r3, r4, (x - sq g) / (sq g' - sq g), bq g' - bq g, 2 * (2 * n + 1) + 1, rfl, f7.same s8, f8.mono (by show 2 * n + 1 ≤ 2 * (2 * n + 1) + 1; omega), by omega, fun r5 H9 s9 f9 => ?_⟩
            refine ⟨g.a, r5, bq g, _, 2 * (2 * (2 * n + 1) + 1) + 1, rfl, ((og7.same s8).same s9).a.mono (by omega), f9, by omega, fun r6 H10 s10 f10 => k r6 H10 (sA.trans (s5.trans (s6.trans (s7.trans (s8.trans (s9.trans s10)))))) ?_⟩
            have e := (M08.f_at (ps := pts (g0 :: gr)) (x := x) (n := i + 1) (pts_at eg) (by rw [lp]; have := (List.getElem?_eq_some_iff.mp eg').1; omega) (fun j z hj e => by
              obtain ⟨h, eh, rfl⟩ := at_ j z e
              exact low j h (by omega) eh) (fun j z hj e => by
              obtain ⟨h, eh, rfl⟩ := at_ j z e
              exact Std.lt_of_lt_of_le c2 (asc (i + 1) j g' h hj eg' eh).1)).1
            rw [e, M08.pc_at (pts_at eg) (pts_at eg')]
            have e3 : bq g + (x - sq g) / (sq g' - sq g) * (bq g' - bq g) = bq g + (x - sq g) * M08.slope (sq g, bq g) (sq g', bq g') := by
              show _ = bq g + (x - sq g) * ((bq g' - bq g) / (sq g' - sq g))
              have : sq g' - sq g ≠ 0 := by grind
              grind
            rw [← e3]
            exact f10.mono (by show 2 * (2 * (2 * (2 * n + 1) + 1) + 1) + 1 ≤ 16 * n + 15; omega)
          · refine if_false_of (decide_eq_false c2) ?_
            refine ⟨⟨_, _, _, rfl⟩, s3.trans s34, fun j h hj e => ?_⟩
            exact Rat.le_trans (asc j (i + 1) h g' hj e eg').1 (Rat.not_lt.mp c2)
        · rintro σ H3 ⟨⟨v4, v5, v6, rfl⟩, s3, low⟩
          have sA := s12.trans s3
          obtain ⟨g, eg⟩ : ∃ g, (g0 :: gr)[gr.length]? = some g := ⟨_, List.getElem?_eq_getElem (by simp)⟩
          have og := (hl.ok g (List.mem_of_getElem? eg)).same sA
          have el : atI ((g0 :: gr).map fun g => V.ref g.q) (-1) = some (V.ref g.q) := atI_last (by rw [List.length_map, List.getElem?_map, List.length_cons, Nat.add_sub_cancel, eg]; rfl)
          refine ⟨_, rfl, _, rfl, L, _, _, _, rfl, rfl, SqL.of (hl.same sA).l, el, _, rfl, g.q, _, _, _, rfl, rfl, SqT.of og.q, i0 _ _, _, rfl, _, rfl, _, rfl, L, _, _, _, rfl, rfl, SqL.of (hl.same sA).l, el, _, rfl, g.q, _, _, _, rfl, rfl, SqT.of og.q, i1 _ _, v, g.b, x, sq g, n, rfl, hd _ sA, og.b, by omega, fun r1 H4 s4 f4 => ?_⟩
          refine ⟨g.a, r1, bq g, x - sq g, 2 * n + 1, rfl, (og.same s4).a.mono (by omega), f4, by omega, fun r2 H5 s5 f5 => k r2 H5 (sA.trans (s4.trans s5)) ?_⟩
          have e := (M08.f_at (ps := pts (g0 :: gr)) (x := x) (n := gr.length + 1) (pts_at eg) (by rw [lp]; simp) (fun j z hj e => by
            obtain ⟨h, eh, rfl⟩ := at_ j z e
            exact low j h (by omega) eh) (fun j z hj e => by
            have := (List.getElem?_eq_some_iff.mp e).1
            rw [lp, List.length_cons] at this
            omega)).1
          have pe : M08.pc (pts (g0 :: gr)) (gr.length + 1) = 1 := by
            have : gr.length + 1 = (pts (g0 :: gr)).length := by rw [lp]; rfl
            rw [this]
            exact M08.pc_end
          rw [e, pe]
          have e3 : bq g + (x - sq g) = bq g + (x - sq g) * 1 := by grind
          rw [← e3]
          exact f5.mono (by show 2 * (2 * n + 1) + 1 ≤ 16 * n + 15; omega)
end
end K09
set_option Elab.async false
set_option linter.all false
set_option maxRecDepth 100000
set_option maxHeartbeats 1000000
set_option exponentiation.threshold 100000
namespace K09
open PySem PySem.Spec PyProof.Rows L2 Fa Fb
abbrev sLpc : Stmt := top 49
theorem scLpc : FnScope ["_law_points_here", "_law_beat", "_law_many", "_law_point"] ["_law_points_here", "_law_beat"] (defScope sLpc) := ⟨rfl, rfl, rfl, by decide +kernel, rfl, by decide +kernel, by decide +kernel⟩
theorem cnt_of (x : Rat) : ∀ {bs : List Rat}, bs.Pairwise (· < ·) → (∀ (j : Nat) b, j < (bs.filter fun b => decide (¬ x < b)).length → bs[j]? = some b → b ≤ x) ∧ ∀ (j : Nat) b, (bs.filter fun b => decide (¬ x < b)).length ≤ j → bs[j]? = some b → x < b
  | [], _ => ⟨fun j b _ e => (by cases e), fun j b _ e => (by cases e)⟩
  | b :: bs, h => by
    rw [List.pairwise_cons] at h
    by_cases c : x < b
    · have none : (b :: bs).filter (fun b => decide (¬ x < b)) = [] := List.filter_eq_nil_iff.mpr fun y hy => by
        rcases List.mem_cons.mp hy with e | e
        · rw [e]
          simpa using c
        · have := h.1 y e
          have : x < y := by grind
          simpa using this
      rw [none]
      refine ⟨fun j b' hj e => absurd hj (Nat.not_lt_zero _), fun j b' _ e => ?_⟩
      have hy := List.mem_of_getElem? e
      rcases List.mem_cons.mp hy with e | e
      · rw [e]
        exact c
      · have := h.1 b' e
        grind
    · rw [List.filter_cons_of_pos (by simpa using c), List.length_cons]
      obtain ⟨i1, i2⟩ := cnt_of x h.2
      refine ⟨fun j b' hj e => ?_, fun j b' hj e => ?_⟩
      · cases j with
        | zero =>
          cases e
          exact Rat.not_lt.mp c
        | succ j => exact i1 j b' (by omega) e
      · cases j with
        | zero => omega
        | succ j => exact i2 j b' (by omega) e
def spLpc : Sp := fun vs H Q _ => ∃ (L v : Addr) (ps : List Pg) (x : Rat) (n : Nat), vs = [.ref L, .ref v] ∧ LsP n H L ps ∧ FrP n H v x ∧ n ≤ 400 ∧ ∀ r H', Same H H' → FrP (4 * n + 3) H' r (M08.sl (ptl ps) x) → Q (.ref r) H'
section
variable {P : Program} {w : World} {K : PySem.W.Frag} {mg : Str → Option Value} {base : Heap} {f fL fP : Addr} {fd fdL fdP : FuncData}
theorem ok_lpc (F : FnP K "_law_pace" sLpc f fd) (mL : mg "len" = none) (LE : Fn P w K mg base "_law_less" 1 ["_law_one", "_law_other"] spLes fL fdL) (PCS : Fn P w K mg base "_law_paces" 3 ["_law_points_here"] spPcs fP fdP) : FnOk P w K mg base (L2.CX P w) 4 f fd ["_law_points_here", "_law_beat"] spLpc := by
  refine F.ok scLpc (fun vs H Q E h => ?_) (fun cdv A outer s H vs Q E hr h => ?_)
  · obtain ⟨L, v, ps, x, n, rfl, _⟩ := h
    rfl
  · obtain ⟨L, v, ps, x, n, rfl, hl, hv, hn, k⟩ := h
    have hr1 := hr.mono (show 1 ≤ 3 by decide)
    have hr3 := hr.mono (show 3 ≤ 3 by decide)
    refine ⟨_, (pss_cons (ps_set (i := 2) scLpc.nd rfl (Or.inl rfl) (pe_callB call_len rfl mL PySem.boot_len (pa_cons (pe_lc (own := [("_law_point", 3)]) (g := gName 3) (tt := tNot (tTest (tCall spLes [] E0 (tCons (tVar 1) (tCons (tOp (rIxT K) (tVar 3) (tC (.int 0))) tNil))))) (te := tVar 3) (by rfl) scLpc.nd (pi_list (pv 0)) (blkOk_by (own := [("_law_point", 3)]) (N := ["_law_points_here", "_law_beat", "_law_many", "_law_point"]) (sc := defScope sLpc) (by decide +kernel)) (fun _ _ _ _ _ => (pg_name (i := 3) scLpc.nd rfl (Or.inl rfl))) (fun _ _ _ _ _ => pts_one (pt_not (pt_val (pe_call LE.ok hr1 rfl LE.g LE.k LE.b .nil passL (pa_cons (pv 1) (pa_cons (pe_ix ix_tup (pv 3) pe_int (fun _ _ => rfl)) pa_nil)))))) (fun _ _ _ _ _ => (pv 3))) pa_nil)))
      (pss_one (ps_ret (pe_ix ix_list (pe_call PCS.ok hr3 rfl PCS.g PCS.k PCS.b .nil passL (pa_cons (pv 0) pa_nil)) (pv 2) (fun _ _ => rfl))))), ?_⟩
    have sz := hl.sz
    refine ⟨_, rfl, L, rfl, ⟨_, SqL.of hl.l⟩, fun D hD => ?_⟩
    refine lc_list (K := K) (a := L) (xs := ps.map fun g => V.ref g.q) (fun i H' => Same H H' ∧ ∃ as : List V, as.length = (((ps.take i).map bq).filter fun b => decide (¬ x < b)).length ∧ H' D = some (.lst as)) ⟨Same.upd hD, [], rfl, upd_same⟩ (fun i H' _ ⟨s, _⟩ => SqL.of (s _ _ hl.l)) ?_ ?_
    · rintro i y H1 hx ⟨s1, as, an, ha⟩
      rw [List.getElem?_map] at hx
      obtain ⟨g, eg, rfl⟩ := Option.map_eq_some_iff.mp hx
      have hi := (List.getElem?_eq_some_iff.mp eg).1
      have og := (hl.ok g (List.mem_of_getElem? eg)).same s1
      have et : ((ps.take (i + 1)).map bq).filter (fun b => decide (¬ x < b)) = ((ps.take i).map bq).filter (fun b => decide (¬ x < b)) ++ (if x < bq g then [] else [bq g]) := by
        rw [List.take_add_one, eg, List.map_append, List.filter_append]
        congr 1
        by_cases c : x < bq g
        · rw [if_pos c]
          exact List.filter_cons_of_neg (by simpa using c)
        · rw [if_neg c]
          exact List.filter_cons_of_pos (by simpa using c)
      refine ⟨rfl, _, rfl, _, rfl, g.q, _, 0, _, rfl, rfl, SqT.of og.q, rfl, v, g.a, x, bq g, n, rfl, hv.same s1, og.a, by omega, ?_⟩
      have le := List.length_filter_le (fun b => decide (¬ x < b)) ((ps.take i).map bq)
      rw [List.length_map] at le
      have le2 := List.length_take_le i ps
      by_cases c : x < bq g
      · rw [decide_eq_true c]
        exact ⟨_, rfl, iteF ⟨s1, as, by rw [et, if_pos c, List.append_nil]; exact an, ha⟩⟩
      · rw [decide_eq_false c]
        refine ⟨_, rfl, iteT ⟨_, rfl, _, ha, ?_, same_put s1 hD, as ++ [.ref g.q], by rw [et, if_neg c, List.length_append, List.length_append, an]; rfl, upd_same⟩⟩
        exact Nat.lt_of_lt_of_le (show as.length < 100 by omega) (by decide)
    · rintro H1 ⟨s1, as, an, ha⟩
      rw [List.length_map, List.take_length] at an
      have pw : (ps.map bq).Pairwise (· < ·) := by
        have := M08.up_pw _ hl.up
        unfold ptl at this
        rw [List.pairwise_map] at this ⊢
        exact List.Pairwise.imp (fun h => h.1) this
      obtain ⟨c1, c2⟩ := cnt_of x pw
      rw [← an] at c1 c2
      have le := List.length_filter_le (fun b => decide (¬ x < b)) (ps.map bq)
      rw [List.length_map, ← an] at le
      refine ⟨_, _, rfl, .inl ⟨_, SqL.of ha, rfl⟩, ?_⟩
      refine ⟨_, rfl, L, ps, n, rfl, hl.same s1, hn, fun r xs qs H2 s2 fr pc => ?_⟩
      obtain ⟨p, e1, e2⟩ := fr.2.2 as.length _ (pc as.length le)
      refine ⟨_, rfl, r, xs, (as.length : Int), _, rfl, rfl, SqL.of fr.1, atI_nat e1, ?_⟩
      refine k p H2 (s1.trans s2) ?_
      have e3 : M08.sl (ptl ps) x = M08.pc (ptl ps) as.length := by
        have at_ : ∀ (j : Nat) z, (ptl ps)[j]? = some z → (ps.map bq)[j]? = some z.1 := fun j z e => by
          unfold ptl at e
          rw [List.getElem?_map] at e ⊢
          cases ez : ps[j]? with
          | none => rw [ez] at e; cases e
          | some g => rw [ez] at e; cases e; rfl
        have lp : (ptl ps).length = ps.length := List.length_map ..
        cases hps : ps with
        | nil =>
          have : as.length = 0 := by
            rw [hps] at le
            exact Nat.le_zero.mp le
          rw [this]
          rfl
        | cons g0 gr =>
          rw [← hps]
          have ln : 0 < ps.length := by rw [hps]; exact Nat.succ_pos _
          exact (M08.f_at (ps := ptl ps) (x := x) (n := as.length) (List.getElem?_eq_getElem (show as.length - 1 < (ptl ps).length by omega)) (by omega) (fun j z hj e => c1 j z.1 hj (at_ j z e)) (fun j z hj e => c2 j z.1 hj (at_ j z e))).2
      rw [e3]
      exact e2
end
end K09
set_option Elab.async false
set_option linter.all false
set_option maxRecDepth 100000
set_option maxHeartbeats 1000000
set_option exponentiation.threshold 100000
namespace K09
open PySem PySem.Spec PyProof.Rows L2 Fa Fb
abbrev sMad : Stmt := top 47
theorem scMad : FnScope ["_law_points_here", "_law_one", "_law_two"] ["_law_points_here"] (defScope sMad) := ⟨rfl, rfl, rfl, by decide +kernel, rfl, by decide +kernel, by decide +kernel⟩
def spMad (K : PySem.W.Frag) : Sp := fun vs H Q _ => ∃ (L : Addr) (ps : List Pg) (n : Nat), vs = [.ref L] ∧ LsP n H L ps ∧ ps.length ≤ 20 ∧ n ≤ 800 ∧ ∀ H' y hs, Same H H' → MapOk K (2 * n + 2) H' y hs → ptl hs = M08.std (ptl ps) → H y = none → Q (.ref y) H'
section
variable {P : Program} {w : World} {K : PySem.W.Frag} {mg : Str → Option Value} {base : Heap} {f fI fM : Addr} {fd fdI fdM : FuncData}
theorem ok_mad (F : FnP K "_law_made" sMad f fd) (T : AF K mg) (M : MF K mg) (MKM : Mk K (CM K) (aM K)) (GI : FnOk P w K mg base (L2.CX P w) 4 (aI K) fdI ["self", "top", "bottom"] (spInit K)) (b2 : Binds K fdI ["self", "top", "bottom"] []) (TM : FnOk P w K mg base (L2.CX P w) 11 (aM K) fdM ["self", "points"] (spTMI K)) (bT : Binds K fdM ["self", "points"] []) : FnOk P w K mg base (L2.CX P w) 13 f fd ["_law_points_here"] (spMad K) := by
  refine F.ok scMad (fun vs H Q E h => ?_) (fun cdv A outer s H vs Q E hr h => ?_)
  · obtain ⟨L, ps, n, rfl, _⟩ := h
    rfl
  · obtain ⟨L, ps, n, rfl, hl, l20, hn, k⟩ := h
    have hr5 := hr.mono (show 5 ≤ 12 by decide)
    have hr12 := hr.mono (show 12 ≤ 12 by decide)
    have i0 : ∀ x y : V, atI [x, y] 0 = some x := fun _ _ => rfl
    have i1 : ∀ x y : V, atI [x, y] 1 = some y := fun _ _ => rfl
    refine ⟨_, (pss_one (ps_ret (pe_make MKM TM hr12 rfl M.g bT .nil passL (pa_cons (pe_lc (own := [("_law_one", 1), ("_law_two", 2)]) (g := gTup K 2 (gCons (gName 1) (gCons (gName 2) gNil))) (te := tTup (tCons (tMake (CA K) (spInit K) [] E0 (tCons (tOp (rIxT K) (tVar 1) (tC (.int 0))) (tCons (tOp (rIxT K) (tVar 1) (tC (.int 1))) tNil))) (tCons (tMake (CA K) (spInit K) [] E0 (tCons (tOp (rIxT K) (tVar 2) (tC (.int 0))) (tCons (tOp (rIxT K) (tVar 2) (tC (.int 1))) tNil))) tNil))) (by rfl) scMad.nd (pi_list (pv 0)) (blkOk_by (own := [("_law_one", 1), ("_law_two", 2)]) (N := ["_law_points_here", "_law_one", "_law_two"]) (sc := defScope sMad) (by decide +kernel)) (fun _ _ _ _ _ => (pg_tup (by rfl) (pgs_cons (pg_name (i := 1) scMad.nd rfl (Or.inl rfl)) (pgs_cons (pg_name (i := 2) scMad.nd rfl (Or.inl rfl)) pgs_nil)))) (fun _ _ _ _ _ => pts_nil) (fun _ _ _ _ _ => (pe_tup (pa_cons (pe_make T.mkA GI hr5 rfl T.g b2 .nil passL (pa_cons (pe_ix ix_tup (pv 1) pe_int (fun _ _ => rfl)) (pa_cons (pe_ix ix_tup (pv 1) pe_int (fun _ _ => rfl)) pa_nil))) (pa_cons (pe_make T.mkA GI hr5 rfl T.g b2 .nil passL (pa_cons (pe_ix ix_tup (pv 2) pe_int (fun _ _ => rfl)) (pa_cons (pe_ix ix_tup (pv 2) pe_int (fun _ _ => rfl)) pa_nil))) pa_nil))))) pa_nil)))), ?_⟩
    refine ⟨_, rfl, L, rfl, ⟨_, SqL.of hl.l⟩, fun D hD => ?_⟩
    refine lc_list (K := K) (a := L) (xs := ps.map fun g => V.ref g.q) (fun i H' => Same H H' ∧ ∃ zs : List Pg, zs.length = i ∧ H' D = some (.lst (zs.map fun (g : Pg) => V.ref g.q)) ∧ (∀ g ∈ zs, PgOk K n H' g) ∧ ptl zs = (ptl ps).take i) ⟨Same.upd hD, [], rfl, upd_same, (fun l h => by cases h), rfl⟩ (fun i H' _ ⟨s, _⟩ => SqL.of (s _ _ hl.l)) ?_ ?_
    · rintro i x H1 hx ⟨s1, zs, zn, ha, ok, ev⟩
      rw [List.getElem?_map] at hx
      obtain ⟨g, eg, rfl⟩ := Option.map_eq_some_iff.mp hx
      have hi := (List.getElem?_eq_some_iff.mp eg).1
      obtain ⟨c1, ⟨t, u, a1, r1, b1, b1', v1⟩, ⟨t2, u2, a2, r2, b2', c2, v2⟩⟩ := (hl.ok g (List.mem_of_getElem? eg)).same s1
      refine ⟨g.q, _, rfl, SqT.of c1, rfl, _, _, rfl, _, _, rfl, rfl, ?_⟩
      refine ⟨rfl, _, rfl, g.a, _, _, _, rfl, rfl, SqT.of a1, i0 _ _, _, rfl, g.a, _, _, _, rfl, rfl, SqT.of a1, i1 _ _, fun y1 dy1 h1 hd1 n1 => spInit_imp (make_fact T (n := n) (a := t) (b := u) (Int.ne_of_gt r1.1) (by omega) b1 b1' h1 hd1 n1) fun w1 H4 ⟨hw1, t', u', s4, ia1, f1⟩ => ⟨hw1, ?_⟩⟩
      have a24 := s4 _ _ a2
      refine ⟨_, rfl, g.b, _, _, _, rfl, rfl, SqT.of a24, i0 _ _, _, rfl, g.b, _, _, _, rfl, rfl, SqT.of a24, i1 _ _, fun y2 dy2 h2 hd2 n2 => spInit_imp (make_fact T (n := n) (a := t2) (b := u2) (Int.ne_of_gt r2.1) (by omega) b2' c2 h2 hd2 n2) fun w2 H5 ⟨hw2, t2', u2', s5, ia2, f2⟩ => ⟨hw2, ?_⟩⟩
      refine ⟨by show 2 ≤ sizeLine; decide, fun t0 ht0 => ?_⟩
      obtain ⟨pa, da, ea, _, ⟨p1, _⟩, _⟩ := id ia1
      obtain ⟨pb, db, eb, _, ⟨p2, _⟩, _⟩ := id ia2
      cases ea
      cases eb
      have s7 := Same.upd (o := .tup [.ref y1, .ref y2]) ht0
      have e7 : upd H5 t0 (.tup [.ref y1, .ref y2]) t0 = some (.tup [.ref y1, .ref y2]) := upd_same
      generalize upd H5 t0 (.tup [.ref y1, .ref y2]) = H7 at s7 e7 ⊢
      have s47 := s4.trans (s5.trans s7)
      have ha7 := s47 _ _ ha
      refine ⟨_, ha7, ?_, same_put (s1.trans s47) hD, zs ++ [⟨t0, y1, y2, t', u', t2', u2'⟩], by rw [List.length_append, zn]; rfl, by rw [upd_same, List.map_append]; rfl, fun l hl' => ?_, ?_⟩
      · rw [List.length_map, zn]
        exact Nat.lt_of_lt_of_le (show i < 100 by omega) (by decide)
      · rcases List.mem_append.mp hl' with m | m
        · exact ((ok l m).same s47).putD ha7
        · rw [List.mem_singleton.mp m]
          exact PgOk.putD ha7 ⟨e7, ia1.same (s5.trans s7), ia2.same s7⟩
      · have e1 : ptl (zs ++ [⟨t0, y1, y2, t', u', t2', u2'⟩]) = ptl zs ++ [(vq t' u', vq t2' u2')] := by
          unfold ptl
          rw [List.map_append]
          rfl
        rw [e1, ev, List.take_add_one, ptl_at eg]
        congr 1
        show [(vq t' u', vq t2' u2')] = [(bq g, sq g)]
        rw [(vq_eq (Int.ne_of_gt p1) (Int.ne_of_gt r1.1)).mpr f1, (vq_eq (Int.ne_of_gt p2) (Int.ne_of_gt r2.1)).mpr f2, v1, v2]
    rintro H4 ⟨s4, zs, zn, ha4, ok4, ev4⟩
    rw [List.length_map] at zn
    have ev4 : ptl zs = ptl ps := by
      rw [ev4, List.length_map]
      exact List.take_of_length_le (by rw [show (ptl ps).length = ps.length from List.length_map ..]; exact Nat.le_refl _)
    refine fun y dy hy hdy hne => tm_make (tp_zs ha4 ok4 (by rw [ev4]; exact hl.up) (by omega)) hn hy hdy hne fun H5 hs5 s5 mo5 e5 => ⟨rfl, ?_⟩
    exact k H5 y hs5 (s4.trans s5) mo5 (by rw [e5, ev4]) (none_of s4 hy)
end
end K09
set_option Elab.async false
set_option linter.all false
set_option maxRecDepth 100000
set_option maxHeartbeats 1000000
set_option exponentiation.threshold 100000
namespace K09
open PySem PySem.Spec PyProof.Rows L2 Fa Fb
abbrev sBen : Stmt := top 43
theorem scBen : FnScope ["_law_points_here", "_law_steeps", "_law_found", "_law_at", "_law_point"] ["_law_points_here"] (defScope sBen) := ⟨rfl, rfl, rfl, by decide +kernel, rfl, by decide +kernel, by decide +kernel⟩
def spBen : Sp := fun vs H Q _ => ∃ (L : Addr) (ps : List Pg) (n : Nat), vs = [.ref L] ∧ LsP n H L ps ∧ 1 ≤ n ∧ n ≤ 400 ∧ ∀ r hs H', Same H H' → LsP (16 * n + 15) H' r hs → ptl hs = M08.std (ptl ps) → Q (.ref r) H'
theorem eqv2 (a b c d : Int) : PyData.eqv (.tuple [.int a, .int b]) (.tuple [.int c, .int d]) = (decide (a = c) && decide (b = d)) := by
  simp [PyData.eqv, PyData.eqvAll]
  try rfl
theorem FrP.two {K : PySem.W.Frag} {n m : Nat} {H : Hp} {p p2 : Addr} {q q2 : Rat} (h : FrP n H p q) (h2 : FrP m H p2 q2) : ∃ d e, Dp K H (.ref p) d ∧ Dp K H (.ref p2) e ∧ SeqAt.shaped d = true ∧ SeqAt.shaped e = true ∧ PyData.eqv d e = decide (q = q2) := by
  obtain ⟨t, u, a, r, _, _, rfl⟩ := h
  obtain ⟨t2, u2, a2, r2, _, _, rfl⟩ := h2
  exact ⟨.tuple [.int t, .int u], .tuple [.int t2, .int u2], .tup (SqT.of a) (.cons (.int _) (.cons (.int _) .nil)), .tup (SqT.of a2) (.cons (.int _) (.cons (.int _) .nil)), by rfl, by rfl, by rw [eqv2, am_dec r r2]⟩
section
variable {P : Program} {w : World} {K : PySem.W.Frag} {mg : Str → Option Value} {base : Heap} {f fP fL : Addr} {fd fdP fdL : FuncData}
theorem ok_ben (F : FnP K "_law_bends" sBen f fd) (mE : mg "enumerate" = none) (PA : Fn P w K mg base "_law_paces" 3 ["_law_points_here"] spPcs fP fdP) (LD : Fn P w K mg base "_law_led" 3 ["_law_points_here", "_law_value", "_law_here", "_law_there"] spLed fL fdL) :
    FnOk P w K mg base (L2.CX P w) 4 f fd ["_law_points_here"] spBen := by
  refine F.ok scBen (fun vs H Q E h => ?_) (fun cdv A outer s H vs Q E hr h => ?_)
  · obtain ⟨L, ps, n, rfl, _⟩ := h
    rfl
  · obtain ⟨L, ps, n, rfl, hl, hn1, hn, k⟩ := h
    have hu : (A.deeper (envOfC "_law_bends" (defScope sBen) s.heap.objs.size f cdv)).units + 64 < cLine := by
      have := hr.un
      omega
    have hr3 := hr
    refine ⟨_, (pss_cons (ps_set (i := 1) scBen.nd rfl (Or.inr rfl) (pe_call PA.ok hr3 rfl PA.g PA.k PA.b .nil passL (pa_cons (pv 0) pa_nil)))
      (pss_cons (ps_setLc (i := 2) (own := [("_law_at", 3), ("_law_point", 4)]) (g := gTup K 2 (gCons (gName 3) (gCons (gName 4) gNil))) (tt := tTest (tOp (rNeD K) (tOp (rIxL K) (tVar 1) (tVar 3)) (tOp (rIxL K) (tVar 1) (tOp (rI0 fun i j => V.int (i + j)) (tVar 3) (tC (.int 1)))))) (te := tVar 4) (by rfl) scBen.nd rfl rfl (sw_true rfl rfl rfl (by decide +kernel)) (pi_enum rfl mE (pa_cons (pv 0) pa_nil)) (blkOk_by (own := [("_law_at", 3), ("_law_point", 4)]) (N := ["_law_points_here", "_law_steeps", "_law_found", "_law_at", "_law_point"]) (sc := defScope sBen) (by decide +kernel)) (fun _ _ _ _ _ => (pg_tup (by rfl) (pgs_cons (pg_name (i := 3) scBen.nd rfl (Or.inl rfl)) (pgs_cons (pg_name (i := 4) scBen.nd rfl (Or.inl rfl)) pgs_nil)))) (fun _ _ _ _ _ => pts_one (pt_cmpR (op_neD hu) (pe_ix ix_list (pv 1) (pv 3) (fun _ _ => rfl)) (pe_ix ix_list (pv 1) (pe_op op_add (pv 3) pe_int) (fun _ _ => rfl)) (nomark _))) (fun _ _ _ _ _ => (pv 4)))
      (pss_one (ps_ret (pe_ifExp (pt_cmpR (Fk.op_neNil hu) (pv 2) (pe_lst pa_nil) (nomark _)) (pv 2) (pe_lst (pa_cons (pe_tup (pa_cons (pe_tup (pa_cons pe_int (pa_cons pe_int pa_nil))) (pa_cons (pe_call LD.ok hr3 rfl LD.g LD.k LD.b .nil passL (pa_cons (pv 0) (pa_cons (pe_tup (pa_cons pe_int (pa_cons pe_int pa_nil))) (pa_cons pe_int (pa_cons pe_int pa_nil))))) pa_nil))) pa_nil))))))), ?_⟩
    refine ⟨_, rfl, L, ps, n, rfl, hl, hn, fun ss xs qs H1 s1 hs hq => ?_⟩
    refine ⟨_, rfl, L, _, rfl, SqL.of (hl.same s1).l, fun D hD => ?_⟩
    have hDn := none_of s1 hD
    have lp : (ptl ps).length = ps.length := List.length_map ..
    have lsz := hl.sz
    refine lc_it (walk_enum (K := K) (a := L) (xs := ps.map fun g => V.ref g.q)) (fun i H' => Same H1 H' ∧ ∃ hs : List Pg, H' D = some (.lst (hs.map fun g => V.ref g.q)) ∧ hs.length ≤ i ∧ (∀ g ∈ hs, g ∈ ps) ∧ ptl hs ++ M08.fil (M08.pc (ptl ps) i) ((ptl ps).drop i) = M08.fil 1 (ptl ps)) ⟨Same.upd hD, [], upd_same, Nat.le_refl _, (fun g hg => by cases hg), rfl⟩ (fun i H' _ ⟨s, _⟩ => SqL.of ((hl.same s1).same s).l) ?_ ?_
    · rintro i xx H2 H3 hi ⟨s2, gs, hg1, hg2, hg3, hg4⟩ ⟨T1, x1, y1, rfl, hT, rfl, e1, e2⟩
      rw [List.length_map] at hi
      dsimp only at e1 e2
      have eg : ps[i]? = some ps[i] := List.getElem?_eq_getElem hi
      rw [List.getElem?_map, eg] at e2
      obtain rfl := Option.some.inj e1
      obtain rfl := Option.some.inj e2
      have s23 := Same.upd (o := .tup [V.int (i : Int), V.ref (ps[i]).q]) hT
      have s3 := s2.trans s23
      have hg1' := s23 _ _ hg1
      refine ⟨T1, _, rfl, SqT.of upd_same, rfl, _, _, rfl, _, _, rfl, rfl, rfl, ?_⟩
      obtain ⟨p1, a1, f1⟩ := (hs.same s3).2.2 i _ (hq i (by omega))
      obtain ⟨p2, a2, f2⟩ := (hs.same s3).2.2 (i + 1) _ (hq (i + 1) (by omega))
      obtain ⟨d, e, d1, d2, d3, d4, d5⟩ := f1.two (K := K) f2
      refine ⟨_, rfl, _, rfl, ss, _, _, _, rfl, rfl, SqL.of (hs.same s3).1, atI_nat a1, _, rfl, _, rfl, _, _, rfl, rfl, ss, _, _, _, rfl, rfl, SqL.of (hs.same s3).1, atI_nat a2, d, e, d1, d2, d3, d4, _, rfl, ?_⟩
      rw [d5]
      have fs := M08.fil_step (ptl_at eg)
      refine ite2 (fun c => ?_) (fun c => ?_)
      · have cne : ¬ M08.pc (ptl ps) i = M08.pc (ptl ps) (i + 1) := fun e => by
          rw [decide_eq_true e] at c
          cases c
        rw [if_neg cne] at fs
        refine ⟨_, rfl, _, hg1', ?_, same_put s3 hD, gs ++ [ps[i]], by rw [upd_same, List.map_append]; rfl, by rw [List.length_append]; exact Nat.add_le_add_right hg2 1, ?_, ?_⟩
        · rw [List.length_map]
          exact Nat.lt_of_lt_of_le (show gs.length < 100 by omega) (by decide)
        · intro r hr
          rcases List.mem_append.mp hr with m | m
          · exact hg3 r m
          · rw [List.mem_singleton] at m
            rw [m]
            exact List.getElem_mem hi
        · rw [← hg4, fs]
          unfold ptl
          rw [List.map_append, List.append_assoc]
          rfl
      · have ceq : M08.pc (ptl ps) i = M08.pc (ptl ps) (i + 1) := Classical.byContradiction fun e => c (by rw [decide_eq_false e]; rfl)
        rw [if_pos ceq] at fs
        exact ⟨s3, gs, hg1', by omega, hg3, by rw [← hg4, fs]⟩
    · rintro H2 ⟨s2, gs, hg1, hg2, hg3, hg4⟩
      rw [List.length_map] at hg2 hg4
      rw [← lp, List.drop_length] at hg4
      have hfil : ptl gs = M08.fil 1 (ptl ps) := by rw [← hg4]; exact (List.append_nil _).symm
      have s12 := s1.trans s2
      refine ⟨_, rfl, by decide, fun e0 he0 => ⟨D, e0, _, rfl, rfl, SqL.of (Same.upd he0 _ _ hg1), SqL.of upd_same, _, rfl, ?_⟩⟩
      have s3 := Same.upd (o := .lst []) he0
      have hg1' := s3 _ _ hg1
      generalize upd H2 e0 (.lst []) = H3 at s3 hg1' ⊢
      have s13 := s12.trans s3
      cases gs with
      | nil =>
        have nil : M08.fil 1 (ptl ps) = [] := by rw [← hfil]; rfl
        have est : M08.std (ptl ps) = [(0, M08.f (ptl ps) 0)] := if_pos nil
        refine if_false_of (by rfl) ?_
        refine ⟨by show 2 ≤ sizeLine; decide, fun z1 hz1 => ?_⟩
        have t1 := Same.upd (o := .tup [.int 0, .int 1]) hz1
        have c1 : (upd H3 z1 (.tup [.int 0, .int 1])) z1 = some (.tup [.int 0, .int 1]) := upd_same
        refine ⟨_, rfl, by show 2 ≤ sizeLine; decide, fun z2 hz2 => ?_⟩
        have t2 := Same.upd (o := .tup [.int 0, .int 1]) hz2
        have zf : ∀ (J : Hp) (z : Addr), J z = some (.tup [.int 0, .int 1]) → FrP n J z 0 := fun J z h => ⟨0, 1, h, ⟨by decide, by decide⟩, Nat.lt_of_lt_of_le (by decide : (0 : Int).natAbs < 1) Nat.one_le_two_pow, one_pow hn1, vq_zero⟩
        refine ⟨L, z2, ps, 0, n, rfl, hl.same (s13.trans (t1.trans t2)), zf _ _ upd_same, hn, fun r4 H4 s4 f4 => ?_⟩
        refine ⟨by show 2 ≤ sizeLine; decide, fun pt hpt => ⟨by show 1 ≤ sizeLine; decide, fun l hl2 => ?_⟩⟩
        have t3 := Same.upd (o := .tup [.ref z1, .ref r4]) hpt
        have t4 := Same.upd (o := .lst [.ref pt]) hl2
        obtain ⟨t, u, a, r, b1, b2, v⟩ := f4
        have f4' : FrP (16 * n + 15) (upd (upd H4 pt (.tup [.ref z1, .ref r4])) l (.lst [.ref pt])) r4 (M08.f (ptl ps) 0) := (show FrP (16 * n + 15) H4 r4 _ from ⟨t, u, a, r, b1, b2, v⟩).same (t3.trans t4)
        refine k l [⟨pt, z1, r4, 0, 1, t, u⟩] _ (s13.trans (t1.trans (t2.trans (s4.trans (t3.trans t4))))) ⟨upd_same, fun g hg => ?_, True.intro, by simp⟩ ?_
        · rw [List.mem_singleton] at hg
          rw [hg]
          refine ⟨t4 _ _ upd_same, ?_, ?_⟩
          · have := (zf _ z1 ((t2.trans (s4.trans (t3.trans t4))) _ _ c1)).mono (show n ≤ 16 * n + 15 by omega)
            show FrP _ _ z1 (vq 0 1)
            rw [vq_zero]
            exact this
          · show FrP _ _ r4 (vq t u)
            rw [v]
            exact f4'
        · rw [est]
          show [(vq 0 1, vq t u)] = _
          rw [vq_zero, v]
      | cons g1 gr =>
        have ne : M08.fil 1 (ptl ps) ≠ [] := fun e => by
          rw [e] at hfil
          cases hfil
        have est : M08.std (ptl ps) = M08.fil 1 (ptl ps) := if_neg ne
        refine if_true_of (by rfl) ⟨_, rfl, k D (g1 :: gr) H3 s13 ⟨hg1', fun g hg => ?_, ?_, by omega⟩ (by rw [hfil, est])⟩
        · obtain ⟨a, b, c⟩ := (hl.ok g (hg3 g hg)).same s13
          exact ⟨a, b.mono (by omega), c.mono (by omega)⟩
        · rw [hfil, ← est]
          exact M08.up_std hl.up
end
end K09
set_option linter.all false
/-! The lowest taken off, again and again. -/
namespace M09
structure Sel (all xs fs : List Rat) : Prop where
  pw : fs.Pairwise (· < ·)
  mem : ∀ v, v ∈ all ↔ v ∈ fs ∨ v ∈ xs
  lt : ∀ f ∈ fs, ∀ x ∈ xs, f < x
theorem Sel.start (all : List Rat) : Sel all all [] := ⟨List.Pairwise.nil, fun v => by simp, fun f h => (by cases h)⟩
theorem Sel.next {all xs fs : List Rat} (h : Sel all xs fs) {m : Rat} (hm : m ∈ xs) (lo : ∀ x ∈ xs, m ≤ x) : Sel all (xs.filter fun x => decide (¬ x = m)) (fs ++ [m]) := by
  refine ⟨?_, fun v => ?_, fun f hf x hx => ?_⟩
  · rw [List.pairwise_append]
    exact ⟨h.pw, List.pairwise_singleton _ _, fun f hf y hy => by rw [List.mem_singleton.mp hy]; exact h.lt f hf m hm⟩
  · rw [h.mem, List.mem_append, List.mem_singleton, List.mem_filter]
    constructor
    · rintro (a | a)
      · exact .inl (.inl a)
      · by_cases c : v = m
        · exact .inl (.inr c)
        · exact .inr ⟨a, by simpa using c⟩
    · rintro ((a | a) | a)
      · exact .inl a
      · exact .inr (a ▸ hm)
      · exact .inr a.1
  · obtain ⟨a, b⟩ := List.mem_filter.mp hx
    have ne : ¬ x = m := by simpa using b
    rcases List.mem_append.mp hf with c | c
    · exact h.lt f c x a
    · rw [List.mem_singleton.mp c]
      have := lo x a
      grind
theorem Sel.done {all fs : List Rat} (h : Sel all [] fs) : fs.Pairwise (· < ·) ∧ ∀ v, v ∈ fs ↔ v ∈ all := ⟨h.pw, fun v => by rw [h.mem]; simp⟩
theorem filter_less {xs : List Rat} {m : Rat} (hm : m ∈ xs) : (xs.filter fun x => decide (¬ x = m)).length < xs.length := by
  have h1 := List.length_filter_lt_length_iff_exists (p := fun x : Rat => decide (¬ x = m)) (l := xs)
  exact h1.mpr ⟨m, hm, by simp⟩
end M09
set_option Elab.async false
set_option linter.all false
set_option maxRecDepth 100000
set_option maxHeartbeats 1000000
set_option exponentiation.threshold 100000
namespace K09
open PySem PySem.Spec PyProof.Rows L2 Fa Fb
abbrev sChn : Stmt := top 50
theorem scChn : FnScope ["_law_one", "_law_other", "_law_beats", "_law_found", "_law_lowest", "_law_beat", "_law_second"] ["_law_one", "_law_other"] (defScope sChn) := ⟨rfl, rfl, rfl, by decide +kernel, rfl, by decide +kernel, by decide +kernel⟩
theorem FrP.vbits {n B : Nat} {H : Hp} {p : Addr} {q : Rat} (h : FrP n H p q) (b : VBits B q) : FrP B H p q := by
  obtain ⟨t, u, a, r, _, _, e⟩ := h
  obtain ⟨D, X, d0, v, d1, x1⟩ := b
  rw [← e] at v
  obtain ⟨b1, b2⟩ := vb_bits r v d0 d1 x1
  exact ⟨t, u, a, r, b1, b2, e⟩
/-- fractions in a list -/
structure BL (B : Nat) (H : Hp) (p : Addr) (bs : List (Addr × Rat)) : Prop where
  l : H p = some (.lst (bs.map fun b => V.ref b.1))
  ok : ∀ b ∈ bs, FrP B H b.1 b.2
theorem BL.same {B : Nat} {H H' : Hp} {p : Addr} {bs : List (Addr × Rat)} (h : BL B H p bs) (s : Same H H') : BL B H' p bs := ⟨s _ _ h.l, fun b hb => (h.ok b hb).same s⟩
structure CnI (B : Nat) (H : Hp) (Fn : Rat → Rat) (all : List Rat) (p F : Addr) (bs : List (Addr × Rat)) (H' : Hp) (xs : List Rat) (n : Nat) : Prop where
  s : Same H H'
  f0 : H F = none
  bl : BL B H' p bs
  pF : p ≠ F
  fo : ∃ gs : List Pg, H' F = some (.lst (gs.map fun (g : Pg) => V.ref g.q)) ∧ (∀ g ∈ gs, LpP B H' g) ∧ ∃ fs, ptl gs = M08.graph Fn fs ∧ M09.Sel all xs fs ∧ fs.length + n ≤ 30
theorem CnI.same {B : Nat} {H : Hp} {Fn : Rat → Rat} {all : List Rat} {p F : Addr} {bs : List (Addr × Rat)} {H' H'' : Hp} {xs : List Rat} {n : Nat} (h : CnI B H Fn all p F bs H' xs n) (s : Same H' H'') : CnI B H Fn all p F bs H'' xs n :=
  let ⟨gs, a, b, c⟩ := h.fo; ⟨h.s.trans s, h.f0, h.bl.same s, h.pF, gs, s _ _ a, fun g hg => (b g hg).same s, c⟩
abbrev SC (L Lb p F : Addr) (v4 v5 : Option V) : L2.St := [some (.ref L), some (.ref Lb), some (.ref p), some (.ref F), v4, v5, none]
section
variable (B : Nat) (H : Hp) (L Lb : Addr) (Fn : Rat → Rat) (all : List Rat)
def sChn1 : TS := fun D σ H' => ∃ (p F : Addr) (bs : List (Addr × Rat)) (v4 v5 : Option V), σ = SC L Lb p F v4 v5 ∧ bs ≠ [] ∧ CnI B H Fn all p F bs H' (bs.map fun b => b.2) bs.length ∧ ∀ H'' p' bs' v4 v5, bs'.length < bs.length → CnI B H Fn all p' F bs' H'' (bs'.map fun b => b.2) bs'.length → D.nx (SC L Lb p' F v4 v5) H''
def sChn2 : TS := fun D σ H' => ∃ (p F : Addr) (bs : List (Addr × Rat)) (m : Addr × Rat) (v5 : Option V), σ = SC L Lb p F (some (.ref m.1)) v5 ∧ m ∈ bs ∧ (∀ b ∈ bs, m.2 ≤ b.2) ∧ CnI B H Fn all p F bs H' (bs.map fun b => b.2) bs.length ∧ ∀ H'' p' bs' v4 v5, bs'.length < bs.length → CnI B H Fn all p' F bs' H'' (bs'.map fun b => b.2) bs'.length → D.nx (SC L Lb p' F v4 v5) H''
def sChn3 : TS := fun D σ H' => ∃ (p F : Addr) (bs : List (Addr × Rat)) (xs : List Rat) (m : Addr × Rat) (v5 : Option V), σ = SC L Lb p F (some (.ref m.1)) v5 ∧ FrP B H' m.1 m.2 ∧ m.2 ∈ xs ∧ (∀ x ∈ xs, m.2 ≤ x) ∧ m.2 ∈ all ∧ bs.map (fun b => b.2) = (xs.filter fun x => decide (¬ x = m.2)) ∧ CnI B H Fn all p F bs H' xs (bs.length + 1) ∧ ∀ H'' v5, CnI B H Fn all p F bs H'' (bs.map fun b => b.2) bs.length → D.nx (SC L Lb p F (some (.ref m.1)) v5) H''
end
def spChn : Sp := fun vs H Q _ => ∃ (L Lb : Addr) (as bs : List Pg) (n B : Nat), vs = [.ref L, .ref Lb] ∧ LsP n H L as ∧ LsP n H Lb bs ∧ as.length + bs.length ≤ 30 ∧ n ≤ B ∧ B ≤ 400 ∧
  (∀ h ∈ bs, VBits B (M08.f (pts as) (bq h))) ∧ (∀ x, ((∃ h ∈ as, x = bq h) ∨ ∃ h ∈ bs, x = M08.f (pts as) (bq h)) → VBits B (M08.f (ptl as) x) ∧ VBits B (M08.f (ptl bs) (M08.f (ptl as) x))) ∧
  ∀ H' r (gs : List Pg) (fs : List Rat), Same H H' → LsP B H' r gs → ptl gs = M08.graph (fun x => M08.f (ptl bs) (M08.f (ptl as) x)) fs → fs.Pairwise (· < ·) → (∀ x, x ∈ fs ↔ (∃ h ∈ as, x = bq h) ∨ ∃ h ∈ bs, x = M08.f (pts as) (bq h)) → H r = none → Q (.ref r) H'
section
variable {P : Program} {w : World} {K : PySem.W.Frag} {mg : Str → Option Value} {base : Heap} {f fL fD : Addr} {fd fdL fdD : FuncData}
theorem ok_chn (F : FnP K "_law_chained" sChn f fd) (LE : Fn P w K mg base "_law_less" 1 ["_law_one", "_law_other"] spLes fL fdL) (LD : Fn P w K mg base "_law_led" 3 ["_law_points_here", "_law_value", "_law_here", "_law_there"] spLed fD fdD) (LB : Fn P w K mg base "_law_led" 3 ["_law_points_here", "_law_value", "_law_here", "_law_there"] spLedB fD fdD) : FnOk P w K mg base (L2.CX P w) 4 f fd ["_law_one", "_law_other"] spChn := by
  refine F.ok scChn (fun vs H Q E h => ?_) (fun cdv A outer s H vs Q E hr h => ?_)
  · obtain ⟨L, Lb, as, bs, n, B, rfl, _⟩ := h
    rfl
  · obtain ⟨L, Lb, as, bs, n, B, rfl, ha, hb, l30, nB, B4, vb2, vb3, k⟩ := h
    have hu : (A.deeper (envOfC "_law_chained" (defScope sChn) s.heap.objs.size f cdv)).units + 64 < cLine := by
      have := hr.un
      omega
    have hr1 := hr.mono (show 1 ≤ 3 by decide)
    have hr3 := hr.mono (show 3 ≤ 3 by decide)
    obtain ⟨Fn, hFn⟩ : ∃ Fn : Rat → Rat, Fn = fun x => M08.f (ptl bs) (M08.f (ptl as) x) := ⟨_, rfl⟩
    obtain ⟨all, hall⟩ : ∃ all : List Rat, all = as.map bq ++ bs.map fun h => M08.f (pts as) (bq h) := ⟨_, rfl⟩
    have mall : ∀ x, x ∈ all ↔ (∃ h ∈ as, x = bq h) ∨ ∃ h ∈ bs, x = M08.f (pts as) (bq h) := fun x => by
      rw [hall, List.mem_append, List.mem_map, List.mem_map]
      constructor
      · rintro (⟨h, a, b⟩ | ⟨h, a, b⟩)
        · exact .inl ⟨h, a, b.symm⟩
        · exact .inr ⟨h, a, b.symm⟩
      · rintro (⟨h, a, b⟩ | ⟨h, a, b⟩)
        · exact .inl ⟨h, a, b.symm⟩
        · exact .inr ⟨h, a, b.symm⟩
    refine ⟨_, (pss_cons (ps_set (i := 2) scChn.nd rfl (Or.inl rfl) (pe_op op_cat (pe_lc (own := [("_law_beat", 5), ("_law_second", 6)]) (g := gTup K 2 (gCons (gName 5) (gCons (gName 6) gNil))) (te := tVar 5) (by rfl) scChn.nd (pi_list (pv 0)) (blkOk_by (own := [("_law_beat", 5), ("_law_second", 6)]) (N := ["_law_one", "_law_other", "_law_beats", "_law_found", "_law_lowest", "_law_beat", "_law_second"]) (sc := defScope sChn) (by decide +kernel)) (fun _ _ _ _ _ => (pg_tup (by rfl) (pgs_cons (pg_name (i := 5) scChn.nd rfl (Or.inl rfl)) (pgs_cons (pg_name (i := 6) scChn.nd rfl (Or.inl rfl)) pgs_nil)))) (fun _ _ _ _ _ => pts_nil) (fun _ _ _ _ _ => (pv 5))) (pe_lc (own := [("_law_beat", 5), ("_law_second", 6)]) (g := gTup K 2 (gCons (gName 5) (gCons (gName 6) gNil))) (te := tCall spLedB [] E0 (tCons (tVar 0) (tCons (tVar 5) (tCons (tC (.int 1)) (tCons (tC (.int 0)) tNil))))) (by rfl) scChn.nd (pi_list (pv 1)) (blkOk_by (own := [("_law_beat", 5), ("_law_second", 6)]) (N := ["_law_one", "_law_other", "_law_beats", "_law_found", "_law_lowest", "_law_beat", "_law_second"]) (sc := defScope sChn) (by decide +kernel)) (fun _ _ _ _ _ => (pg_tup (by rfl) (pgs_cons (pg_name (i := 5) scChn.nd rfl (Or.inl rfl)) (pgs_cons (pg_name (i := 6) scChn.nd rfl (Or.inl rfl)) pgs_nil)))) (fun _ _ _ _ _ => pts_nil) (fun _ _ _ _ _ => (pe_call LB.ok hr3 rfl LB.g LB.k LB.b .nil passL (pa_cons (pv 0) (pa_cons (pv 5) (pa_cons pe_int (pa_cons pe_int pa_nil)))))))))
      (pss_cons (ps_set (i := 3) scChn.nd rfl (Or.inl rfl) (pe_lst pa_nil))
      (pss_cons (ps_while (passes_of rfl) (pt_cmpR (Fk.op_neNil hu) (pv 2) (pe_lst pa_nil) (nomark _))
      (pss_imp (S := sChn1 B H L Lb Fn all) (pss_cons (ps_set (i := 4) scChn.nd rfl (Or.inr rfl) (pe_ix ix_list (pv 2) pe_int (fun _ _ => rfl)))
      (pss_cons (ps_for (passes_of rfl) rfl (pi_list (pv 2)) (pg_name (i := 5) scChn.nd rfl (Or.inl rfl))
      (pss_one (ps_set (i := 4) scChn.nd rfl (Or.inr rfl) (pe_ifExp (pt_val (pe_call LE.ok hr1 rfl LE.g LE.k LE.b .nil passL (pa_cons (pv 5) (pa_cons (pv 4) pa_nil)))) (pv 5) (pv 4)))))
      (pss_imp (S := sChn2 B H L Lb Fn all) (pss_cons (ps_setLc (i := 2) (own := [("_law_beat", 5)]) (g := gName 5) (tt := tTest (tOp (rNeD K) (tVar 5) (tVar 4))) (te := tVar 5) (by rfl) scChn.nd rfl rfl (sw_true rfl rfl rfl (by decide +kernel)) (pi_list (pv 2)) (blkOk_by (own := [("_law_beat", 5)]) (N := ["_law_one", "_law_other", "_law_beats", "_law_found", "_law_lowest", "_law_beat", "_law_second"]) (sc := defScope sChn) (by decide +kernel)) (fun _ _ _ _ _ => (pg_name (i := 5) scChn.nd rfl (Or.inl rfl))) (fun _ _ _ _ _ => pts_one (pt_cmpR (op_neD hu) (pv 5) (pv 4) (nomark _))) (fun _ _ _ _ _ => (pv 5)))
      (pss_imp (S := sChn3 B H L Lb Fn all) (pss_one (ps_expr (pe_bm PySem.F.plainAttrs_list PySem.F.slot_list_append PySem.F.type_list_append mt_append (pv 3) (pa_cons (pe_tup (pa_cons (pv 4) (pa_cons (pe_call LD.ok hr3 rfl LD.g LD.k LD.b .nil passL (pa_cons (pv 1) (pa_cons (pe_call LD.ok hr3 rfl LD.g LD.k LD.b .nil passL (pa_cons (pv 0) (pa_cons (pv 4) (pa_cons pe_int (pa_cons pe_int pa_nil))))) (pa_cons pe_int (pa_cons pe_int pa_nil))))) pa_nil))) pa_nil)))) ?c3)) ?c2))) ?c1))
      (pss_one (ps_ret (pv 3)))))), ?_⟩
    case c3 =>
      rintro D σ H1 ⟨p, F, cs, xs, m, v5, rfl, fm, mx, lo, mal, ecs, I, kn⟩
      obtain ⟨gs, g1, g2, fs, g3, g4, g5⟩ := I.fo
      obtain ⟨v1, v2⟩ := vb3 _ ((mall _).mp mal)
      have glen : gs.length = fs.length := by
        have := congrArg List.length g3
        unfold ptl M08.graph at this
        rwa [List.length_map, List.length_map] at this
      have ha1 := ha.same I.s
      have hb1 := hb.same I.s
      refine ⟨_, rfl, .inl ⟨rfl, _, SqL.of g1⟩, _, rfl, _, rfl, _, rfl, _, rfl, L, m.1, as, m.2, B, rfl, ⟨ha1.l, fun g hg => ⟨(ha1.ok g hg).q, (ha1.ok g hg).a.mono nB, (ha1.ok g hg).b.mono nB⟩, ha1.up, ha1.sz⟩, fm, B4, fun r1 H2 s2 f2 => ?_⟩
      have f2 := f2.vbits v1
      have hb2 := hb1.same s2
      refine ⟨Lb, r1, bs, M08.f (ptl as) m.2, B, rfl, ⟨hb2.l, fun g hg => ⟨(hb2.ok g hg).q, (hb2.ok g hg).a.mono nB, (hb2.ok g hg).b.mono nB⟩, hb2.up, hb2.sz⟩, f2, B4, fun r2 H3 s3 f3 => ?_⟩
      have f3 := f3.vbits v2
      refine ⟨by show 2 ≤ sizeLine; decide, fun q0 hq0 => ?_⟩
      have s4 := Same.upd (o := .tup [.ref m.1, .ref r2]) hq0
      have e4 : upd H3 q0 (.tup [.ref m.1, .ref r2]) q0 = some (.tup [.ref m.1, .ref r2]) := upd_same
      generalize upd H3 q0 (.tup [.ref m.1, .ref r2]) = H4 at s4 e4 ⊢
      have s14 := s2.trans (s3.trans s4)
      have g14 := s14 _ _ g1
      refine ⟨F, _, _, rfl, rfl, g14, ?_, ?_⟩
      · rw [List.length_map]
        exact Nat.lt_of_lt_of_le (show gs.length < 100 by omega) (by decide)
      · have kt : KT H4 (upd H4 F (.lst ((gs.map fun (g : Pg) => V.ref g.q) ++ [.ref q0]))) := KT.put g14
        obtain ⟨t, u, a1, a2, a3, a4, a5⟩ := fm.same s14
        obtain ⟨t2, u2, c1, c2, c3, c4, c5⟩ := f3.same s4
        have lp : LpP B H4 ⟨q0, m.1, r2, t, u, t2, u2⟩ := ⟨e4, ⟨t, u, a1, a2, a3, a4, rfl⟩, ⟨t2, u2, c1, c2, c3, c4, rfl⟩⟩
        have lkt : ∀ {g}, LpP B H4 g → LpP B (upd H4 F (.lst ((gs.map fun (g : Pg) => V.ref g.q) ++ [.ref q0]))) g := fun h => ⟨kt _ _ h.q (fun _ e => by cases e), h.a.kt kt, h.b.kt kt⟩
        refine kn _ _ ⟨same_put (I.s.trans s14) I.f0, I.f0, ⟨by rw [upd_ne I.pF]; exact s14 _ _ I.bl.l, fun b hb => ((I.bl.ok b hb).same s14).kt kt⟩, I.pF, gs ++ [⟨q0, m.1, r2, t, u, t2, u2⟩], by rw [upd_same, List.map_append]; rfl, fun g hg => ?_, fs ++ [m.2], ?_, by rw [ecs]; exact g4.next mx lo, by rw [List.length_append]; show fs.length + 1 + cs.length ≤ 30; omega⟩
        · rcases List.mem_append.mp hg with x | x
          · exact lkt ((g2 g x).same s14)
          · rw [List.mem_singleton.mp x]
            exact lkt lp
        · have e1 : ptl (gs ++ [⟨q0, m.1, r2, t, u, t2, u2⟩]) = ptl gs ++ [(vq t u, vq t2 u2)] := by
            unfold ptl
            rw [List.map_append]
            rfl
          rw [e1, g3, a5, c5]
          unfold M08.graph
          rw [List.map_append]
          congr 1
          show [(m.2, M08.f (ptl bs) (M08.f (ptl as) m.2))] = [(m.2, Fn m.2)]
          rw [hFn]
    case c2 =>
      rintro D σ H1 ⟨p, F, cs, m, v5, rfl, mc, lo, I, kn⟩
      refine ⟨_, rfl, p, rfl, ⟨_, SqL.of I.bl.l⟩, fun D2 hD2 => ?_⟩
      refine lc_list (K := K) (a := p) (xs := cs.map fun b => V.ref b.1) (fun i H' => Same H1 H' ∧ H' D2 = some (.lst (((cs.take i).filter fun b => decide (¬ b.2 = m.2)).map fun b => V.ref b.1))) ⟨Same.upd hD2, upd_same⟩ (fun i H' _ ⟨s, _⟩ => SqL.of (s _ _ I.bl.l)) ?_ ?_
      · rintro i x H2 hx ⟨s2, hh⟩
        rw [List.getElem?_map] at hx
        obtain ⟨b, eb, rfl⟩ := Option.map_eq_some_iff.mp hx
        have hi := (List.getElem?_eq_some_iff.mp eb).1
        obtain ⟨d, e, d1, d2, d3, d4, d5⟩ := FrP.two (K := K) ((I.bl.ok b (List.mem_of_getElem? eb)).same s2) ((I.bl.ok m mc).same s2)
        refine ⟨rfl, _, rfl, _, rfl, d, e, d1, d2, d3, d4, ?_⟩
        rw [d5]
        have et : (cs.take (i + 1)).filter (fun b => decide (¬ b.2 = m.2)) = (cs.take i).filter (fun b => decide (¬ b.2 = m.2)) ++ (if b.2 = m.2 then [] else [b]) := by
          rw [List.take_add_one, eb, List.filter_append]
          congr 1
          by_cases c : b.2 = m.2
          · rw [if_pos c]
            exact List.filter_cons_of_neg (by simpa using c)
          · rw [if_neg c]
            exact List.filter_cons_of_pos (by simpa using c)
        have le := List.length_filter_le (fun b : Addr × Rat => decide (¬ b.2 = m.2)) (cs.take i)
        have le2 := List.length_take_le i cs
        obtain ⟨gs, g1, g2, fs, g3, g4, g5⟩ := I.fo
        by_cases c : b.2 = m.2
        · rw [decide_eq_true c]
          exact ⟨_, rfl, iteF ⟨s2, by rw [et, if_pos c, List.append_nil]; exact hh⟩⟩
        · rw [decide_eq_false c]
          refine ⟨_, rfl, iteT ⟨_, rfl, _, hh, ?_, same_put s2 hD2, by rw [upd_same, et, if_neg c, List.map_append]; rfl⟩⟩
          rw [List.length_map]
          exact Nat.lt_of_lt_of_le (show _ < 100 by omega) (by decide)
      · rintro H2 ⟨s2, hh⟩
        rw [List.length_map, List.take_length] at hh
        obtain ⟨gs, g1, g2, fs, g3, g4, g5⟩ := I.fo
        have mx : m.2 ∈ cs.map fun b => b.2 := List.mem_map.mpr ⟨m, mc, rfl⟩
        have lt : (cs.filter fun b => decide (¬ b.2 = m.2)).length < cs.length := (List.length_filter_lt_length_iff_exists (p := fun b : Addr × Rat => decide (¬ b.2 = m.2)) (l := cs)).mpr ⟨m, mc, by simp⟩
        refine ⟨D2, F, cs.filter fun b => decide (¬ b.2 = m.2), cs.map fun b => b.2, m, v5, rfl, (I.bl.ok m mc).same s2, mx, fun x hx => ?_, (g4.mem _).mpr (.inr mx), ?_, ⟨I.s.trans s2, I.f0, ⟨hh, fun b hb => (I.bl.ok b (List.mem_filter.mp hb).1).same s2⟩, fun e => ?_, gs, s2 _ _ g1, fun g hg => (g2 g hg).same s2, fs, g3, g4, by omega⟩, fun H'' v5 I' => kn _ _ _ _ _ lt I'⟩
        · obtain ⟨b, hb, rfl⟩ := List.mem_map.mp hx
          exact lo b hb
        · rw [List.filter_map]
          rfl
        · rw [e, g1] at hD2
          cases hD2
    case c1 =>
      rintro D σ H1 ⟨p, F, cs, v4, v5, rfl, ne, I, kn⟩
      obtain ⟨c0, cr, rfl⟩ : ∃ c0 cr, cs = c0 :: cr := by
        cases cs with
        | nil => exact absurd rfl ne
        | cons a b => exact ⟨a, b, rfl⟩
      have z0 : atI ((c0 :: cr).map fun b => V.ref b.1) ((0 : Nat) : Int) = some (V.ref c0.1) := atI_nat rfl
      refine ⟨_, rfl, p, _, 0, _, rfl, rfl, SqL.of I.bl.l, z0, ?_⟩
      refine ⟨_, rfl, p, rfl, ⟨_, SqL.of I.bl.l⟩, for_list (K := K) (a := p) (xs := (c0 :: cr).map fun b => V.ref b.1) (fun i σ H' => ∃ (m : Addr × Rat) (v5 : Option V), σ = SC L Lb p F (some (.ref m.1)) v5 ∧ H' = H1 ∧ m ∈ c0 :: cr ∧ ∀ (j : Nat) (b : Addr × Rat), j < i → (c0 :: cr)[j]? = some b → m.2 ≤ b.2) ⟨c0, _, rfl, rfl, List.mem_cons_self, fun j b hj => absurd hj (Nat.not_lt_zero _)⟩ (fun i σ H' _ ⟨_, _, _, e, _⟩ => by rw [e]; exact SqL.of I.bl.l) ?_ ?_⟩
      · rintro i x σ H2 hx ⟨m, v5, rfl, rfl, mc, lo⟩
        rw [List.getElem?_map] at hx
        obtain ⟨b, eb, rfl⟩ := Option.map_eq_some_iff.mp hx
        have mb := List.mem_of_getElem? eb
        refine ⟨_, rfl, _, rfl, b.1, m.1, b.2, m.2, B, rfl, I.bl.ok b mb, I.bl.ok m mc, by omega, _, rfl, ?_⟩
        by_cases c : b.2 < m.2
        · rw [decide_eq_true c]
          refine iteT ⟨_, rfl, b, _, rfl, rfl, mb, fun j b' hj e => ?_⟩
          by_cases cj : j = i
          · subst cj
            rw [eb] at e
            cases e
            exact Rat.le_refl
          · have := lo j b' (by omega) e
            grind
        · rw [decide_eq_false c]
          refine iteF ⟨_, rfl, m, _, rfl, rfl, mc, fun j b' hj e => ?_⟩
          by_cases cj : j = i
          · subst cj
            rw [eb] at e
            cases e
            exact Rat.not_lt.mp c
          · exact lo j b' (by omega) e
      · rintro σ H2 ⟨m, v5, rfl, rfl, mc, lo⟩
        refine ⟨p, F, c0 :: cr, m, v5, rfl, mc, fun b hb => ?_, I, kn⟩
        obtain ⟨j, hj⟩ := List.mem_iff_getElem?.mp hb
        have lj := (List.getElem?_eq_some_iff.mp hj).1
        exact lo j b (by rw [List.length_map]; exact lj) hj
    have as30 := ha.sz
    have bs30 := hb.sz
    refine ⟨_, rfl, L, rfl, ⟨_, SqL.of ha.l⟩, fun D1 hD1 => ?_⟩
    refine lc_list (K := K) (a := L) (xs := as.map fun g => V.ref g.q) (fun i H' => Same H H' ∧ H' D1 = some (.lst ((as.take i).map fun g => V.ref g.a))) ⟨Same.upd hD1, upd_same⟩ (fun i H' _ ⟨s, _⟩ => SqL.of (s _ _ ha.l)) ?_ ?_
    · rintro i x H1 hx ⟨s1, hh⟩
      rw [List.getElem?_map] at hx
      obtain ⟨g, eg, rfl⟩ := Option.map_eq_some_iff.mp hx
      have hi := (List.getElem?_eq_some_iff.mp eg).1
      have og := (ha.ok g (List.mem_of_getElem? eg)).same s1
      refine ⟨g.q, _, rfl, SqT.of og.q, rfl, _, _, rfl, _, _, rfl, rfl, ?_⟩
      refine ⟨rfl, _, rfl, _, hh, ?_, same_put s1 hD1, ?_⟩
      · rw [List.length_map]
        have := List.length_take_le i as
        exact Nat.lt_of_lt_of_le (show _ < 100 by omega) (by decide)
      · rw [upd_same, List.take_add_one, eg, List.map_append]
        rfl
    rintro H1 ⟨s1, h1⟩
    rw [List.length_map, List.take_length] at h1
    refine ⟨_, rfl, Lb, rfl, ⟨_, SqL.of (s1 _ _ hb.l)⟩, fun D2 hD2 => ?_⟩
    refine lc_list (K := K) (a := Lb) (xs := bs.map fun g => V.ref g.q) (fun i H' => Same H1 H' ∧ ∃ ls : List (Addr × Rat), ls.length = i ∧ H' D2 = some (.lst (ls.map fun l => V.ref l.1)) ∧ (∀ l ∈ ls, FrP B H' l.1 l.2) ∧ ls.map (fun l => l.2) = (bs.take i).map fun h => M08.f (pts as) (bq h)) ⟨Same.upd hD2, [], rfl, upd_same, (fun l h => by cases h), rfl⟩ (fun i H' _ ⟨s, _⟩ => SqL.of (s _ _ (s1 _ _ hb.l))) ?_ ?_
    · rintro i x H2 hx ⟨s2, ls, ln, hh, ok, ev⟩
      rw [List.getElem?_map] at hx
      obtain ⟨g, eg, rfl⟩ := Option.map_eq_some_iff.mp hx
      have hi := (List.getElem?_eq_some_iff.mp eg).1
      have gm := List.mem_of_getElem? eg
      have s12 := s1.trans s2
      have og := (hb.ok g gm).same s12
      refine ⟨g.q, _, rfl, SqT.of og.q, rfl, _, _, rfl, _, _, rfl, rfl, ?_⟩
      refine ⟨rfl, _, rfl, _, rfl, L, g.a, as, bq g, n, rfl, ha.same s12, og.a, by omega, fun r H3 s3 f3 => ?_⟩
      have f3 := f3.vbits (vb2 g gm)
      have hh3 := s3 _ _ hh
      have kt : KT H3 (upd H3 D2 (.lst ((ls.map fun l => V.ref l.1) ++ [.ref r]))) := KT.put hh3
      refine ⟨_, hh3, ?_, same_put (s2.trans s3) hD2, ls ++ [(r, M08.f (pts as) (bq g))], by rw [List.length_append, ln]; rfl, by rw [upd_same, List.map_append]; rfl, fun l hl => ?_, ?_⟩
      · rw [List.length_map, ln]
        exact Nat.lt_of_lt_of_le (show i < 100 by omega) (by decide)
      · rcases List.mem_append.mp hl with x | x
        · exact ((ok l x).same s3).kt kt
        · rw [List.mem_singleton.mp x]
          exact f3.kt kt
      · rw [List.map_append, ev, List.take_add_one, eg, List.map_append]
        rfl
    rintro H2 ⟨s2, ls, ln, h2, ok2, ev2⟩
    rw [List.length_map] at ln
    rw [List.length_map, List.take_length] at ev2
    refine ⟨D1, D2, _, _, rfl, rfl, s2 _ _ h1, h2, ?_, fun p hp => ?_⟩
    · rw [List.length_map, List.length_map]
      exact Nat.le_trans (show as.length + ls.length ≤ 100 by omega) (by decide)
    have s3 := Same.upd (o := .lst ((as.map fun g => V.ref g.a) ++ (ls.map fun l => V.ref l.1))) hp
    have e3 : upd H2 p (.lst ((as.map fun g => V.ref g.a) ++ (ls.map fun l => V.ref l.1))) p = some (.lst ((as.map fun g => V.ref g.a) ++ (ls.map fun l => V.ref l.1))) := upd_same
    generalize upd H2 p (.lst ((as.map fun g => V.ref g.a) ++ (ls.map fun l => V.ref l.1))) = H3 at s3 e3 ⊢
    refine ⟨by show 0 ≤ sizeLine; decide, fun F hF => ?_⟩
    have s4 := Same.upd (o := .lst []) hF
    have e4 : upd H3 F (.lst []) F = some (.lst []) := upd_same
    have pF : p ≠ F := fun e => by
      rw [e, hF] at e3
      cases e3
    generalize upd H3 F (.lst []) = H4 at s4 e4 ⊢
    have s14 := s1.trans (s2.trans (s3.trans s4))
    obtain ⟨c0, hc0⟩ : ∃ c0 : List (Addr × Rat), c0 = (as.map fun g => (g.a, bq g)) ++ ls := ⟨_, rfl⟩
    have c0l : c0.length = as.length + ls.length := by rw [hc0, List.length_append, List.length_map]
    have c0v : c0.map (fun b => b.2) = all := by
      rw [hc0, hall, List.map_append, ev2, List.map_map]
      rfl
    have I0 : CnI B H Fn all p F c0 H4 (c0.map fun b => b.2) c0.length := ⟨s14, none_of (s1.trans (s2.trans s3)) hF, ⟨by rw [s4 _ _ e3, hc0, List.map_append, List.map_map]; rfl, fun b hb' => by
      rw [hc0] at hb'
      rcases List.mem_append.mp hb' with x | x
      · obtain ⟨g, hg, rfl⟩ := List.mem_map.mp x
        exact ((ha.ok g hg).a.same s14).mono nB
      · exact (ok2 b x).same (s3.trans s4)⟩, pF, [], e4, (fun g h => by cases h), [], rfl, by rw [c0v]; exact M09.Sel.start all, by show 0 + c0.length ≤ 30; omega⟩
    refine while_by (fun σ H' => ∃ (p : Addr) (cs : List (Addr × Rat)) (v4 v5 : Option V), σ = SC L Lb p F v4 v5 ∧ CnI B H Fn all p F cs H' (cs.map fun b => b.2) cs.length) (fun σ H' => match σ with | [_, _, some (.ref p), _, _, _, _] => (match H' p with | some (.lst xs) => xs.length | _ => 0) | _ => 0) ⟨p, c0, _, _, rfl, I0⟩ ?_ ?_
    · rintro σ H5 ⟨p, cs, v4, v5, rfl, I⟩
      refine ⟨_, rfl, by show 0 ≤ sizeLine; decide, fun e0 he => ?_⟩
      have s5 := Same.upd (o := .lst []) he
      have e5 : upd H5 e0 (.lst []) e0 = some (.lst []) := upd_same
      generalize upd H5 e0 (.lst []) = H6 at s5 e5 ⊢
      have I6 := I.same s5
      refine ⟨p, e0, _, rfl, rfl, SqL.of I6.bl.l, SqL.of e5, _, rfl, ?_⟩
      cases cs with
      | nil =>
        refine if_false_of (by rfl) ?_
        obtain ⟨gs, g1, g2, fs, g3, g4, g5⟩ := I6.fo
        obtain ⟨d1, d2⟩ := g4.done
        have up : M08.Up (ptl gs) := by
          rw [g3, hFn]
          exact M08.up_then ha.up hb.up _ d1
        have gl : gs.length = fs.length := by
          have := congrArg List.length g3
          unfold ptl M08.graph at this
          rwa [List.length_map, List.length_map] at this
        exact ⟨_, rfl, k H6 F gs fs I6.s ⟨g1, g2, up, by omega⟩ (by rw [g3, hFn]) d1 (fun x => by rw [d2, mall]) I6.f0⟩
      | cons b cr =>
        refine if_true_of (by rfl) ⟨p, F, b :: cr, v4, v5, rfl, by simp, I6, fun H7 p' bs' v4 v5 lt I' => ⟨⟨p', bs', v4, v5, rfl, I'⟩, ?_⟩⟩
        have a1 := I'.bl.l
        have a2 := I.bl.l
        show (match H7 p' with | some (.lst xs) => xs.length | _ => 0) < (match H5 p with | some (.lst xs) => xs.length | _ => 0)
        rw [a1, a2]
        show (bs'.map fun b => V.ref b.1).length < ((b :: cr).map fun b => V.ref b.1).length
        rw [List.length_map, List.length_map]
        exact lt
    · intro σ H' Q1 Q2 kk h
      obtain ⟨v, h1, h2, h3⟩ := h
      exact ⟨v, h1, h2, fun e0 he => let ⟨a, b, xs, q1, q2, q3, q4, bb, q5, q6⟩ := h3 e0 he; ⟨a, b, xs, q1, q2, q3, q4, bb, q5, kk _ _ q6⟩⟩
end
end K09
set_option linter.all false
/-! A sheet's rows hold each beginning of each row. -/
namespace M06
open PySem M04
def PC (rows : List Row) : Prop := ∀ r ∈ rows, ∀ k, r.take k ∈ rows
theorem part_take (r : Row) (u : Str) : ∃ k, (part r u).1 = r.take k := by
  unfold part
  cases e : r.getLast? with
  | none => exact ⟨r.length, (List.take_length).symm⟩
  | some z =>
    obtain ⟨v, q⟩ := z
    show ∃ k, (if v = u then (r.dropLast, q) else (r, 0)).1 = r.take k
    by_cases c : v = u
    · rw [if_pos c]
      exact ⟨r.length - 1, List.dropLast_eq_take⟩
    · rw [if_neg c]
      exact ⟨r.length, (List.take_length).symm⟩
theorem ext_pre {rows : List Row} (pc : PC rows) {r : Row} (h : r ∈ rows) (u : Str) (q : Rat) {k : Nat} (hk : k < (ext r u q).length) : (ext r u q).take k ∈ rows := by
  obtain ⟨k0, e0⟩ := part_take r u
  have hp : ∀ j, ((part r u).1).take j ∈ rows := fun j => by
    rw [e0, List.take_take]
    exact pc r h _
  unfold ext at hk ⊢
  split at hk
  · rename_i c
    rw [if_pos c]
    exact hp k
  · rename_i c
    rw [if_neg c]
    rw [List.length_append] at hk
    have hk : k < (part r u).1.length + 1 := hk
    rw [List.take_append_of_le_length (by omega)]
    exact hp k
theorem row_in {s : M04.St} (h0 : [] ∈ s.rows) (c : Cue) : s.rows.getD ((num s.nums c.pa).getD 0) [] ∈ s.rows := by
  rw [List.getD_eq_getElem?_getD]
  cases e : s.rows[(num s.nums c.pa).getD 0]? with
  | none => exact h0
  | some z => exact List.mem_of_getElem? e
theorem row_pre {s : M04.St} (pc : PC s.rows) (h0 : [] ∈ s.rows) (c : Cue) {k : Nat} (hk : k < (row s c).length) : (row s c).take k ∈ s.rows := ext_pre pc (row_in h0 c) _ _ hk
theorem step_PC {s : M04.St} (pc : PC s.rows) (h0 : [] ∈ s.rows) (c : Cue) : PC (step s c).rows ∧ [] ∈ (step s c).rows := by
  show PC (rows s c) ∧ [] ∈ rows s c
  unfold rows
  split
  · exact ⟨pc, h0⟩
  · refine ⟨fun r hr k => ?_, List.mem_append_left _ h0⟩
    rcases List.mem_append.mp hr with m | m
    · exact List.mem_append_left _ (pc r m k)
    · rw [List.mem_singleton.mp m]
      rcases Nat.lt_or_ge k (row s c).length with c1 | c1
      · exact List.mem_append_left _ (row_pre pc h0 c c1)
      · rw [List.take_of_length_le c1]
        exact List.mem_append_right _ (List.mem_singleton.mpr rfl)
theorem fold_PC : ∀ (cs : List Cue) (s : M04.St), PC s.rows → [] ∈ s.rows → PC (cs.foldl step s).rows ∧ [] ∈ (cs.foldl step s).rows
  | [], _, pc, h0 => ⟨pc, h0⟩
  | c :: cs, s, pc, h0 => let ⟨a, b⟩ := step_PC pc h0 c; fold_PC cs (step s c) a b
theorem all_PC (cs : List Cue) : PC (all cs).rows ∧ [] ∈ (all cs).rows := fold_PC cs init (fun r hr k => by
  rw [List.mem_singleton.mp hr, List.take_nil]
  exact List.mem_singleton.mpr rfl) (List.mem_singleton.mpr rfl)
end M06
set_option linter.all false
namespace M06
open PySem M04
theorem step_nodup {s : M04.St} (h : s.rows.Nodup) (c : Cue) : (step s c).rows.Nodup := by
  show (rows s c).Nodup
  unfold rows
  split
  · exact h
  · rename_i n
    rw [List.nodup_append]
    refine ⟨h, by simp, fun a ha b hb => ?_⟩
    rw [List.mem_singleton.mp hb]
    exact fun e => n (e ▸ ha)
theorem fold_nodup : ∀ (cs : List Cue) (s : M04.St), s.rows.Nodup → (cs.foldl step s).rows.Nodup
  | [], _, h => h
  | c :: cs, s, h => fold_nodup cs (step s c) (step_nodup h c)
theorem all_nodup (cs : List Cue) : (all cs).rows.Nodup := fold_nodup cs init (by simp [init])
theorem at_inj {α : Type} {l : List α} (h : l.Nodup) {i j : Nat} {r : α} (e1 : l[i]? = some r) (e2 : l[j]? = some r) : i = j := by
  obtain ⟨h1, h2⟩ := List.getElem?_eq_some_iff.mp e1
  obtain ⟨h3, h4⟩ := List.getElem?_eq_some_iff.mp e2
  have := (List.nodup_iff_pairwise_ne.mp h)
  rw [List.pairwise_iff_getElem] at this
  rcases Nat.lt_trichotomy i j with c | c | c
  · exact absurd (h2.trans h4.symm) (this i j h1 h3 c)
  · exact c
  · exact absurd (h4.trans h2.symm) (this j i h3 h1 c)
/-- the names at the n-th row -/
theorem names_row {cs : List Cue} {n : Nat} {r : Row} (e : (all cs).rows[n]? = some r) : (((all cs).nums.filter fun z => decide ((z.2 : Int) = (n : Int))).map fun z => z.1) = ((tab (all cs)).filter fun y => decide (y.2 = some r)).map fun y => y.1 := by
  unfold tab
  rw [List.filter_map, List.map_map]
  show List.map _ _ = List.map (fun z : Str × Nat => z.1) _
  congr 1
  refine List.filter_congr fun z hz => ?_
  have lt := all_all cs init init_all z hz
  have lt : z.2 < (all cs).rows.length := lt
  show decide ((z.2 : Int) = (n : Int)) = decide ((all cs).rows[z.2]? = some r)
  rw [decide_eq_decide]
  constructor
  · intro h
    have : z.2 = n := by omega
    rw [this]
    exact e
  · intro h
    have := at_inj (all_nodup cs) h e
    omega
end M06
set_option linter.all false
/-! Distances between rows by one unit, and lines. -/
namespace M07
open PySem M04 M06
def dist (u : Str) (r1 r2 : Row) : Option Rat := if (part r1 u).1 = (part r2 u).1 then some ((part r2 u).2 - (part r1 u).2) else none
/-- what the way from one row to another one tells -/
def ofWay (u : Str) (w : Row) : Option Rat := match w with
  | [] => some 0
  | [(v, a)] => if v = u then some a else none
  | _ => none
theorem way_back {r : Row} (w : W r) : ∀ {x : Row}, W x → act r (act (neg r) x) = x := by
  induction w with
  | nil => exact fun _ => rfl
  | @snoc r u q w c h ih =>
    intro x hx
    have e : neg (r ++ [(u, q)]) = (u, -q) :: neg r := by
      unfold neg
      rw [List.map_append, List.reverse_append]
      rfl
    rw [e, act_app]
    show act [(u, q)] (act r (act (neg r) (ext x u (-q)))) = x
    rw [ih (ext_W hx _ _)]
    show ext (ext x u (-q)) u q = x
    rw [ext_ext hx, Rat.neg_add_cancel, ext_zero hx]
theorem way_ext {r : Row} (w : W r) (u : Str) (d : Rat) : way r (ext r u d) = glue [] u d := by
  unfold way
  rw [act_ext w (act_W _ .nil), way_back w .nil]
  have := ext_glue (p := []) (u := u) (b := 0) (q := d) (fun v a e => by cases e)
  rw [show glue [] u 0 = [] from by unfold glue; rw [if_pos rfl], Rat.zero_add] at this
  exact this
theorem dist_ext {r : Row} (w : W r) (u : Str) (d : Rat) : dist u r (ext r u d) = some d := by
  obtain ⟨p, b, wp, h, rfl⟩ := W_dec w u
  rw [ext_glue h]
  unfold dist
  rw [part_glue h, part_glue h, if_pos rfl]
  congr 1
  grind
theorem ext_dist {r1 r2 : Row} {u : Str} {d : Rat} (w1 : W r1) (w2 : W r2) (h : dist u r1 r2 = some d) : r2 = ext r1 u d := by
  obtain ⟨p, b, wp, hp, rfl⟩ := W_dec w1 u
  obtain ⟨q, c, wq, hq, rfl⟩ := W_dec w2 u
  unfold dist at h
  rw [part_glue hp, part_glue hq] at h
  rw [ext_glue hp]
  dsimp only at h
  split at h
  · rename_i e
    subst e
    cases h
    congr 1
    grind
  · cases h
theorem way_dist {r1 r2 : Row} (w1 : W r1) (w2 : W r2) (u : Str) : ofWay u (way r1 r2) = dist u r1 r2 := by
  cases h : dist u r1 r2 with
  | some d =>
    rw [ext_dist w1 w2 h, way_ext w1]
    unfold glue
    by_cases c : d = 0
    · rw [if_pos c, c]
      rfl
    · rw [if_neg c]
      show (if u = u then some d else none) = some d
      rw [if_pos rfl]
  | none =>
    have lead := way_leads w1 w2
    match e : way r1 r2 with
    | [] =>
      rw [e] at lead
      have lead : r1 = r2 := lead
      rw [← lead] at h
      have := dist_ext w1 u 0
      rw [ext_zero w1, h] at this
      cases this
    | [(v, a)] =>
      show (if v = u then some a else none) = none
      by_cases c : v = u
      · subst c
        rw [e] at lead
        have lead : ext r1 v a = r2 := lead
        have := dist_ext w1 v a
        rw [lead, h] at this
        cases this
      · rw [if_neg c]
    | _ :: _ :: _ => rfl
theorem dist_self {r : Row} (w : W r) (u : Str) : dist u r r = some 0 := by
  have := dist_ext w u 0
  rwa [ext_zero w] at this
theorem dist_add {u : Str} {r1 r2 r3 : Row} {a b : Rat} (h1 : dist u r1 r2 = some a) (h2 : dist u r2 r3 = some b) : dist u r1 r3 = some (a + b) := by
  unfold dist at *
  split at h1
  · rename_i e1
    split at h2
    · rename_i e2
      rw [if_pos (e1.trans e2)]
      cases h1
      cases h2
      congr 1
      grind
    · cases h2
  · cases h1
theorem dist_sym {u : Str} {r1 r2 : Row} {a : Rat} (h1 : dist u r1 r2 = some a) : dist u r2 r1 = some (-a) := by
  unfold dist at *
  split at h1
  · rename_i e1
    rw [if_pos e1.symm]
    cases h1
    congr 1
    grind
  · cases h1
theorem dist_inj {u : Str} {r r2 r3 : Row} {a : Rat} (w : W r) (w2 : W r2) (w3 : W r3) (h1 : dist u r r2 = some a) (h2 : dist u r r3 = some a) : r2 = r3 := by
  rw [ext_dist w w2 h1, ext_dist w w3 h2]
/-- a row that two units lead to is the row itself -/
theorem dist_two {u v : Str} (uv : u ≠ v) {r r2 : Row} {a b : Rat} (w : W r) (w2 : W r2) (h1 : dist u r r2 = some a) (h2 : dist v r r2 = some b) : r2 = r := by
  have e1 := ext_dist w w2 h1
  have e2 := ext_dist w w2 h2
  have k1 := way_ext w u a
  have k2 := way_ext w v b
  rw [← e1] at k1
  rw [← e2, k1] at k2
  unfold glue at k2
  by_cases c : a = 0
  · rw [e1, c, ext_zero w]
  · rw [if_neg c] at k2
    by_cases d : b = 0
    · rw [e2, d, ext_zero w]
    · rw [if_neg d] at k2
      have : (u, a) = (v, b) := by simpa using k2
      cases this
      exact absurd rfl uv
/-- the line of the i-th row: the numbers of the rows that the unit leads to, the nearest first -/
structure IsLine (u : Str) (rows : List Row) (i : Nat) (ns : List Nat) : Prop where
  mem : ∀ j, j ∈ ns ↔ ∃ r1 r2 d, rows[i]? = some r1 ∧ rows[j]? = some r2 ∧ dist u r1 r2 = some d
  up : ns.Pairwise fun j k => ∀ r r1 r2 d1 d2, rows[i]? = some r → rows[j]? = some r1 → rows[k]? = some r2 → dist u r r1 = some d1 → dist u r r2 = some d2 → d1 < d2
theorem eq_of_up {α : Type} {lt : α → α → Prop} (as : ∀ x y, lt x y → lt y x → False) (ir : ∀ x, lt x x → False) : ∀ (xs ys : List α), xs.Pairwise lt → ys.Pairwise lt → (∀ x, x ∈ xs ↔ x ∈ ys) → xs = ys
  | [], [], _, _, _ => rfl
  | [], y :: ys, _, _, h => by have := (h y).mpr (.head _); cases this
  | x :: xs, [], _, _, h => by have := (h x).mp (.head _); cases this
  | x :: xs, y :: ys, hx, hy, h => by
    rw [List.pairwise_cons] at hx hy
    have e : x = y := by
      rcases List.mem_cons.mp ((h x).mp (.head _)) with e | e
      · exact e
      · rcases List.mem_cons.mp ((h y).mpr (.head _)) with e2 | e2
        · exact e2.symm
        · exact (as _ _ (hx.1 _ e2) (hy.1 _ e)).elim
    subst e
    congr 1
    refine eq_of_up as ir xs ys hx.2 hy.2 fun z => ?_
    constructor
    · intro hz
      rcases List.mem_cons.mp ((h z).mp (.tail _ hz)) with e | e
      · subst e
        exact (ir _ (hx.1 _ hz)).elim
      · exact e
    · intro hz
      rcases List.mem_cons.mp ((h z).mpr (.tail _ hz)) with e | e
      · subst e
        exact (ir _ (hy.1 _ hz)).elim
      · exact e
/-- far by numbers -/
def far (u : Str) (rows : List Row) (i j : Nat) : Rat := ((rows[i]?.bind fun r1 => rows[j]?.bind fun r2 => dist u r1 r2)).getD 0
theorem far_at {u : Str} {rows : List Row} {i j : Nat} {r1 r2 : Row} {d : Rat} (h1 : rows[i]? = some r1) (h2 : rows[j]? = some r2) (h : dist u r1 r2 = some d) : far u rows i j = d := by
  unfold far
  rw [h1]
  show (rows[j]?.bind fun r2 => dist u r1 r2).getD 0 = d
  rw [h2]
  show (dist u r1 r2).getD 0 = d
  rw [h]
  rfl
theorem IsLine.far {u : Str} {rows : List Row} {i : Nat} {ns : List Nat} (h : IsLine u rows i ns) : ns.Pairwise fun j k => far u rows i j < far u rows i k := by
  refine List.Pairwise.imp_of_mem (fun {j k} hj hk g => ?_) h.up
  obtain ⟨r1, r2, d, e1, e2, e3⟩ := (h.mem j).mp hj
  obtain ⟨r1', r3, d', e1', e4, e5⟩ := (h.mem k).mp hk
  rw [e1] at e1'
  cases e1'
  rw [far_at e1 e2 e3, far_at e1 e4 e5]
  exact g _ _ _ _ _ e1 e2 e4 e3 e5
theorem IsLine.uniq {u : Str} {rows : List Row} {i : Nat} {ns ms : List Nat} (h : IsLine u rows i ns) (g : IsLine u rows i ms) : ns = ms :=
  eq_of_up (lt := fun j k => M07.far u rows i j < M07.far u rows i k) (fun _ _ a b => by grind) (fun _ a => by grind) _ _ h.far g.far fun x => by rw [h.mem, g.mem]
/-- a member's line is the same -/
theorem IsLine.other {u : Str} {rows : List Row} {i j : Nat} {ns : List Nat} (h : IsLine u rows i ns) (hj : j ∈ ns) : IsLine u rows j ns := by
  obtain ⟨r1, r2, d, e1, e2, e3⟩ := (h.mem j).mp hj
  refine ⟨fun k => ?_, ?_⟩
  · rw [h.mem]
    constructor
    · rintro ⟨r1', r3, d', f1, f2, f3⟩
      rw [e1] at f1
      cases f1
      exact ⟨r2, r3, _, e2, f2, dist_add (dist_sym e3) f3⟩
    · rintro ⟨r1', r3, d', f1, f2, f3⟩
      rw [e2] at f1
      cases f1
      exact ⟨r1, r3, _, e1, f2, dist_add e3 f3⟩
  · refine List.Pairwise.imp_of_mem (fun {k l} hk hl g => ?_) h.up
    intro r rk rl dk dl f1 f2 f3 f4 f5
    rw [e2] at f1
    cases f1
    have := g _ _ _ _ _ e1 f2 f3 (dist_add e3 f4) (dist_add e3 f5)
    grind
theorem IsLine.nodup {u : Str} {rows : List Row} {i : Nat} {ns : List Nat} (h : IsLine u rows i ns) : ns.Nodup := by
  refine List.nodup_iff_pairwise_ne.mpr (List.Pairwise.imp (fun {j k} g e => ?_) h.far)
  subst e
  grind
theorem IsLine.lt {u : Str} {rows : List Row} {i j : Nat} {ns : List Nat} (h : IsLine u rows i ns) (hj : j ∈ ns) : j < rows.length := by
  obtain ⟨_, _, _, _, e, _⟩ := (h.mem j).mp hj
  exact (List.getElem?_eq_some_iff.mp e).1
theorem IsLine.own {u : Str} {rows : List Row} {i : Nat} {ns : List Nat} (h : IsLine u rows i ns) (ws : ∀ r ∈ rows, W r) (hi : i < rows.length) : i ∈ ns := by
  have e := List.getElem?_eq_getElem hi
  exact (h.mem i).mpr ⟨_, _, _, e, e, dist_self (ws _ (List.mem_of_getElem? e)) u⟩
theorem IsLine.both {u v : Str} (uv : u ≠ v) {rows : List Row} {i j : Nat} {ns ms : List Nat} (h : IsLine u rows i ns) (g : IsLine v rows i ms) (ws : ∀ r ∈ rows, W r) (nd : rows.Nodup) (hj : j ∈ ns) (hk : j ∈ ms) : j = i := by
  obtain ⟨r1, r2, d, e1, e2, e3⟩ := (h.mem j).mp hj
  obtain ⟨r1', r3, d', e1', e4, e5⟩ := (g.mem j).mp hk
  rw [e1] at e1'
  cases e1'
  rw [e2] at e4
  cases e4
  have := dist_two uv (ws _ (List.mem_of_getElem? e1)) (ws _ (List.mem_of_getElem? e2)) e3 e5
  exact at_inj nd e2 (this ▸ e1)
theorem both_len {u v : Str} (uv : u ≠ v) {rows : List Row} {i : Nat} {ns ms : List Nat} (h : IsLine u rows i ns) (g : IsLine v rows i ms) (ws : ∀ r ∈ rows, W r) (nd : rows.Nodup) (hi : i < rows.length) :
    ∃ xs : List Nat, xs.Nodup ∧ (∀ x, x ∈ xs ↔ x ∈ ns ++ ms) ∧ xs.length + 1 = (ns ++ ms).length := by
  refine ⟨ns ++ ms.erase i, ?_, fun x => ?_, ?_⟩
  · rw [List.nodup_append]
    refine ⟨h.nodup, g.nodup.erase i, fun a ha b hb e => ?_⟩
    subst e
    have hb' := (List.Nodup.mem_erase_iff g.nodup).mp hb
    exact hb'.1 (h.both uv g ws nd ha hb'.2)
  · rw [List.mem_append, List.mem_append, List.Nodup.mem_erase_iff g.nodup]
    constructor
    · rintro (a | ⟨_, a⟩)
      · exact .inl a
      · exact .inr a
    · rintro (a | a)
      · exact .inl a
      · by_cases c : x = i
        · exact .inl (c ▸ h.own ws hi)
        · exact .inr ⟨c, a⟩
  · have im := g.own ws hi
    rw [List.length_append, List.length_append, List.length_erase_of_mem im]
    have := List.length_pos_of_mem im
    omega
end M07
set_option Elab.async false
set_option linter.all false
set_option maxRecDepth 100000
set_option maxHeartbeats 1000000
set_option exponentiation.threshold 100000
namespace K09
open PySem PySem.Spec PyProof.Rows L2 Fa Fb
/-! maps' bits, lowered by value -/
def PtsV (B : Nat) (ps : List M08.Pt) : Prop := ∀ p ∈ ps, VBits B p.1 ∧ VBits B p.2
theorem PgOk.vbits {K : PySem.W.Frag} {n B : Nat} {H : Hp} {g : Pg} (h : PgOk K n H g) (a : VBits B (bq g)) (b : VBits B (sq g)) : PgOk K B H g := ⟨h.1, h.2.1.vbits a, h.2.2.vbits b⟩
theorem PtL.vbits {K : PySem.W.Frag} {n B : Nat} {H : Hp} {p : Addr} {gs : List Pg} (h : PtL K n H p gs) (v : PtsV B (ptl gs)) : PtL K B H p gs :=
  ⟨h.l, fun g hg => (h.ok g hg).vbits (v _ (List.mem_map.mpr ⟨g, hg, rfl⟩)).1 (v _ (List.mem_map.mpr ⟨g, hg, rfl⟩)).2, h.up, h.n⟩
theorem PtsV.sw {B : Nat} {ps : List M08.Pt} (h : PtsV B ps) : PtsV B (M08.sw ps) := fun p hp => by
  obtain ⟨q, hq, rfl⟩ := List.mem_map.mp hp
  exact ⟨(h q hq).2, (h q hq).1⟩
theorem MapOk.vbits {K : PySem.W.Frag} {n B : Nat} {H : Hp} {o : Addr} {gs : List Pg} (h : MapOk K n H o gs) (v : PtsV B (ptl gs)) : MapOk K B H o gs :=
  let ⟨dx, q, r, a, b, hs, c, d⟩ := h; ⟨dx, q, r, a, b.vbits v, hs, c.vbits (by rw [d]; exact v.sw), d⟩
/-- two strictly rising lists with the same members are one -/
theorem rise_eq {xs ys : List Rat} (h1 : xs.Pairwise (· < ·)) (h2 : ys.Pairwise (· < ·)) (h : ∀ x, x ∈ xs ↔ x ∈ ys) : xs = ys :=
  M07.eq_of_up (lt := fun x y : Rat => x < y) (fun _ _ a b => by grind) (fun _ a => by grind) xs ys h1 h2 h
/-- the standard form's points are points of the list, or the one at 0 -/
theorem fil_sub (l : Rat) : ∀ (ps : List M08.Pt) (p : M08.Pt), p ∈ M08.fil l ps → p ∈ ps
  | [], _, h => by cases h
  | q :: r, p, h => by
    unfold M08.fil at h
    split at h
    · exact .tail _ (fil_sub _ r p h)
    · rcases List.mem_cons.mp h with e | e
      · rw [e]
        exact .head _
      · exact .tail _ (fil_sub _ r p e)
theorem PtsV.std {B : Nat} {ps : List M08.Pt} (h : PtsV B ps) (z : VBits B 0) (v : VBits B (M08.f ps 0)) : PtsV B (M08.std ps) := fun p hp => by
  unfold M08.std at hp
  split at hp
  · rw [List.mem_singleton.mp hp]
    exact ⟨z, v⟩
  · exact h p (fil_sub _ _ p hp)
theorem vbits_zero {B : Nat} (h : 1 ≤ B) : VBits B 0 := ⟨1, 0, Nat.one_pos, M06.VB.zero, Nat.lt_of_lt_of_le (by decide : 1 < 2 ^ 1) (Nat.pow_le_pow_right (by decide) h), Nat.two_pow_pos _⟩
end K09
set_option Elab.async false
set_option linter.all false
set_option maxRecDepth 100000
set_option maxHeartbeats 4000000
/-! an instance called, where what it raises is caught by the place; it follows StX.pe_callO. -/
namespace Fs
open PySem PySem.Spec PyProof.Rows L2 StX
section
variable {X : Cx} {CX : CXT} {k : Nat} {C : Addr} {sp : Sp} {E : L2.St → XK} {e fe : Expr} {es : List Expr} {tf : TE} {t : TA} {pos : Pos}
theorem run_fnAt {pins : List (Addr × Obj)} {σ : L2.St} {H : Hp} {s : Shared} {f : Addr} {Q : VK} {us : List Value} {vs : List V} (F : FnR X.prog X.w X.K X.mg X.base CX k f sp) (hr : Room k X.A) (hx : PassesAt CX X σ (E σ)) (I : Inv X pins σ H s) (r : Vals vs us) (h : sp vs H Q (E σ)) :
    codeAny (model X.prog X.w) X.A (.call (.ref f) ⟨us, []⟩) (fun r s' => match r with | .ok (.ret v) => EP X pins σ Q v s' | .ok _ => False | .error e => X.xe e s') s := by
  refine codeAny_mono (F X.A X.stack s H us vs Q (E σ) hr I.env0 r h) fun r s' hq => ?_
  cases r with
  | error e => exact hx pins H s e s' I hq
  | ok fl =>
    cases fl with
    | ret u => exact I.after hq
    | next => exact False.elim hq
    | brk => exact False.elim hq
    | cont => exact False.elim hq
/-- f(e, ..), f an expression that gives an instance of C -/
def tCallOX (C : Addr) (sp : Sp) (E : L2.St → XK) (tf : TE) (t : TA) : TE := fun σ H Q => tf σ H fun y H1 => ∃ a, y = V.ref a ∧ t σ H1 fun vs H2 => (∃ dx fs, H2 a = some (.ins C dx fs)) ∧ sp (V.ref a :: vs) H2 Q (E σ)
theorem pe_callOX {g : Addr} (hf : PE X fe tf) (c : CallO X.K C g) (F : FnR X.prog X.w X.K X.mg X.base CX k g sp) (hr : Room k X.A) (hx : ∀ σ, PassesAt CX X σ (E σ)) (ha : PA X (e :: es) t)
    (ht : eval (.Call fe (e :: es) [] pos) X.env = (do callWith pos (← eval fe X.env) [] (backTo pos (starEach (e :: es) X.env)) (backToKw pos (keywordEach [] X.env))) := by rfl)
    (he : starEach (e :: es) X.env = (false, eval e X.env) :: starEach es X.env := by rfl) (hpl : (backTo pos (starEach es X.env)).any (·.1) = false := by rfl) : PE X (.Call fe (e :: es) [] pos) (tCallOX C sp E tf t) := by
  refine ⟨fun pins s σ H Q I h => ?_⟩
  refine Call_ (thn (hf.run pins s σ H _ I h) fun u s1 ⟨y, H1, I1, ry, a, ey, q⟩ => ?_) ht
  subst ey
  obtain rfl : u = Value.ref a := ry
  refine callO_with (thn (ha.run pos pins s1 σ H1 _ I1 q) fun us s2 ⟨vs, H2, I2, r, hi, q2⟩ => ?_) he hpl
  obtain ⟨ox, od, J, hd⟩ := insC_at I2 (.inr hi)
  exact ⟨⟨C, ox, od, J, hd⟩, wpAny_call (PySem.W.kco_code I2.kIn J hd c.at_ c.fn c.fi (run_fnAt (us := .ref a :: us) (vs := .ref a :: vs) F hr (hx σ) I2 (.cons rfl r) q2))⟩
end
end Fs
set_option Elab.async false
set_option linter.all false
set_option maxRecDepth 100000
set_option maxHeartbeats 4000000
/-! x in o and len(o) by methods of o's own class. -/
namespace Fo
open PySem PySem.Spec PyProof.Rows L2
section
variable {X : Cx} {CX : CXT} {k : Nat} {f C : Addr} {fd : FuncData} {ps : List Str} {sp : Sp} {E : L2.St → XK} {a b e : Expr} {ta tb : TE} {pos p : Pos}
def tInX (C : Addr) (sp : Sp) (E : L2.St → XK) (neg : Bool) (ta tb : TE) : TE := fun σ H Q => ta σ H fun x H1 => tb σ H1 fun y H2 => ∃ p dx fs, y = .ref p ∧ H2 p = some (.ins C dx fs) ∧ sp [y, x] H2 (fun v H3 => ∃ k : Bool, v = .bl k ∧ Q (.bl (if neg then !k else k)) H3) (E σ)
theorem in_go (at_ : PySem.W.findIn X.K (.ref C) "__contains__" = some (some (.ref f))) (F : FnOk X.prog X.w X.K X.mg X.base CX k f fd ps sp) (hr : Room k X.A) (hb : Binds X.K fd ps []) {E0 : XK} {σ : L2.St} (hx : PassesAt CX X σ E0) {pins : List (Addr × Obj)} {H2 : Hp} {s2 : Shared} {p0 : Addr} {x : V} {v : Value} {Q : VK} {neg : Bool} (I2 : Inv X pins σ H2 s2) (rx : RelV x v)
    (q : sp [.ref p0, x] H2 (fun v H3 => ∃ k : Bool, v = .bl k ∧ Q (.bl (if neg then !k else k)) H3) E0) :
    wpAny (model X.prog X.w) X.A (call (.ref f) [.ref p0, v]) (fun r s' => wpAny (model X.prog X.w) X.A (truthy r) (fun b => EP X pins σ Q (.bool (if neg then !b else b))) X.xe s') X.xe s2 := by
  have hl : ([V.ref p0, x]).length = ps.length := F.len _ _ _ _ q
  refine wpAny_call (codeAny_mono (F.run X.A X.stack s2 H2 ⟨[.ref p0, v], []⟩ [.ref p0, v] [.ref p0, x] _ E0 hr I2.env0 (by
    have z := hb s2 [.ref p0, v] I2.kIn (by simpa using hl)
    simpa using z) (.cons rfl (.cons rx .nil)) q) fun r s' hq => ?_)
  cases r with
  | error e => exact hx pins H2 s2 e s' I2 hq
  | ok fl =>
    cases fl with
    | ret u =>
      obtain ⟨z, H', I', rz, kk, ez, q2⟩ := I2.after hq
      subst ez
      cases rz
      exact wpAny_truthy_bool ⟨.bl (if neg then !kk else kk), H', I', by cases neg <;> rfl, q2⟩
    | next => exact False.elim hq
    | brk => exact False.elim hq
    | cont => exact False.elim hq
theorem pc_inX (at_ : PySem.W.findIn X.K (.ref C) "__contains__" = some (some (.ref f))) (fn : PySem.W.isFn X.K (.ref f) = true) (F : FnOk X.prog X.w X.K X.mg X.base CX k f fd ps sp) (hr : Room k X.A) (hb : Binds X.K fd ps []) (hx : ∀ σ, PassesAt CX X σ (E σ)) (ha : PE X a ta) (hb2 : PE X b tb) :
    PC X .In a b (tInX C sp E false ta tb) := by
  refine ⟨fun pins s σ H Q I h => ?_⟩
  refine bin ha hb2 I h fun v u s2 x y H2 I2 rx ry q => ?_
  obtain ⟨p0, dx, fs, ey, hp, q⟩ := q
  subst ey
  obtain rfl : u = Value.ref p0 := ry
  obtain ⟨mA, O, _⟩ := ins_get I2.hok hp
  obtain ⟨od, J, _⟩ := O.look
  obtain ⟨m, hF⟩ := I2.fr
  exact PySem.W.in_K hF I2.ok.mod.kin J at_ fn (in_go (neg := false) at_ F hr hb (hx σ) I2 rx q)
theorem pc_notInX (at_ : PySem.W.findIn X.K (.ref C) "__contains__" = some (some (.ref f))) (fn : PySem.W.isFn X.K (.ref f) = true) (F : FnOk X.prog X.w X.K X.mg X.base CX k f fd ps sp) (hr : Room k X.A) (hb : Binds X.K fd ps []) (hx : ∀ σ, PassesAt CX X σ (E σ)) (ha : PE X a ta) (hb2 : PE X b tb) :
    PC X .NotIn a b (tInX C sp E true ta tb) := by
  refine ⟨fun pins s σ H Q I h => ?_⟩
  refine bin ha hb2 I h fun v u s2 x y H2 I2 rx ry q => ?_
  obtain ⟨p0, dx, fs, ey, hp, q⟩ := q
  subst ey
  obtain rfl : u = Value.ref p0 := ry
  obtain ⟨mA, O, _⟩ := ins_get I2.hok hp
  obtain ⟨od, J, _⟩ := O.look
  obtain ⟨m, hF⟩ := I2.fr
  exact PySem.W.notIn_K hF I2.ok.mod.kin J at_ fn (in_go (neg := true) at_ F hr hb (hx σ) I2 rx q)
def tLenX (C : Addr) (sp : Sp) (E : L2.St → XK) (ta : TE) : TE := fun σ H Q => ta σ H fun x H1 => ∃ p dx fs, x = .ref p ∧ H1 p = some (.ins C dx fs) ∧ sp [x] H1 (fun v H3 => ∃ n : Nat, v = .int (n : Int) ∧ n ≤ 1000000 ∧ Q (.int (n : Int)) H3) (E σ)
theorem pe_lenX (at_ : PySem.W.findIn X.K (.ref C) "__len__" = some (some (.ref f))) (fn : PySem.W.isFn X.K (.ref f) = true) (F : FnOk X.prog X.w X.K X.mg X.base CX k f fd ps sp) (hr : Room (k + 2) X.A) (hb : Binds X.K fd ps []) (hx : ∀ σ, PassesAt CX X σ (E σ)) (hg : Gl X "len") (hm : X.mg "len" = none) (ha : PE X e ta)
    (he : starEach [e] X.env = (false, eval e X.env) :: starEach [] X.env := by rfl) (hpl : (backTo pos (starEach [] X.env)).any (·.1) = false := by rfl) :
    PE X (.Call (.Name "len" p) [e] [] pos) (tLenX C sp E ta) := by
  refine ⟨fun pins s σ H Q I h => ?_⟩
  refine wpAny_Call_Name_kw (ld_blt I hg hm PySem.boot_len ?_)
  refine PyProof.Rows.callWith_builtin1 ?_ he hpl
  rw [he]
  show wpAny _ _ (spliced ((false, eval e X.env) :: backTo pos (starEach [] X.env))) _ _ s
  refine Calls.spliced_cons (thn (ha.run pins s σ H _ I h) fun v s1 ⟨x, H1, I1, r1, q1⟩ => Calls.spliced_nil ?_)
  obtain ⟨q0, dx, fs, ex, hp, q⟩ := q1
  subst ex
  obtain rfl : v = Value.ref q0 := r1
  obtain ⟨mA, O, _⟩ := ins_get I1.hok hp
  obtain ⟨od, J, _⟩ := O.look
  obtain ⟨m, hF⟩ := I1.fr
  have hr2 : Room k X.A.in1 := (show Room (k + 1) X.A.in1 from Room.in1 hr).mono (Nat.le_succ _)
  have hl : ([Value.ref q0]).length = ps.length := by
    rw [← F.len _ _ _ _ q]
    rfl
  refine PySem.W.len_K hF I1.ok.mod.kin J at_ fn ?_
  refine wpAny_call (codeAny_mono (F.run X.A.in1 X.stack s1 H1 ⟨[.ref q0], []⟩ [.ref q0] [.ref q0] _ (E σ) hr2 I1.env0.in1 (hb s1 [.ref q0] I1.kIn hl) (.cons rfl .nil) q) fun r s' hq => ?_)
  cases r with
  | error e => exact hx σ pins H1 s1 e s' I1 hq
  | ok fl =>
    cases fl with
    | ret u =>
      obtain ⟨z, H', I', rz, n, ez, hn, q2⟩ := I1.after hq
      subst ez
      obtain ⟨t, rfl⟩ := rz
      exact ⟨⟨by omega, Int.lt_of_le_of_lt (show (n : Int) ≤ 1000000 by omega) (by decide)⟩, .int (n : Int), H', I'.tok _, ⟨_, rfl⟩, q2⟩
    | next => exact False.elim hq
    | brk => exact False.elim hq
    | cont => exact False.elim hq
end
end Fo
set_option Elab.async false
set_option linter.all false
set_option maxRecDepth 100000
set_option maxHeartbeats 4000000
/-! o.m(a, ..) where what it raises is caught by the place. -/
namespace Fw
open PySem PySem.Spec PyProof.Rows L2
section
variable {X : Cx} {CX : CXT} {k : Nat} {f C : Addr} {fd : FuncData} {ps : List Str} {sp : Sp} {E : L2.St → XK}
theorem run_at {pn : List (Addr × Obj)} {σ : L2.St} {H : Hp} {s : Shared} {Q : VK} {us : List Value} {vs : List V} (F : FnOk X.prog X.w X.K X.mg X.base CX k f fd ps sp) (hr : Room k X.A) (hb : Binds X.K fd ps []) (px : PassesAt CX X σ (E σ))
    (I : Inv X pn σ H s) (r : Vals vs us) (h : sp vs H Q (E σ)) : wpAny (model X.prog X.w) X.A (call (.ref f) us) (EP X pn σ Q) X.xe s := by
  have bi := hb s us I.kIn (by rw [List.append_nil, ← r.length]; exact F.len _ _ _ _ h)
  rw [List.append_nil] at bi
  refine wpAny_call (codeAny_mono (F.run X.A X.stack s H ⟨us, []⟩ us vs Q (E σ) hr I.env0 bi r h) fun res s2 out => ?_)
  match res, out with
  | .error er, out => exact px pn H s er s2 I out
  | .ok (.ret u), out => exact I.after out
  | .ok .next, out => exact out.elim
  | .ok .brk, out => exact out.elim
  | .ok .cont, out => exact out.elim
def tMethX (C : Addr) (m : Str) (sp : Sp) (E : L2.St → XK) (ta : TE) (t : TA) : TE := fun σ H Q => ta σ H fun x H1 => ∃ a dx fs, x = .ref a ∧ H1 a = some (.ins C dx fs) ∧ fs.lookup m = none ∧ t σ H1 fun vs H2 => sp (.ref a :: vs) H2 Q (E σ)
theorem pe_methX {o e : Expr} {es : List Expr} {m : Str} {ta : TE} {t : TA} {apos pos : Pos} {pl : Sem Bool} (he : PE X o ta) (c : Cls X.K C) (hm : Meth X.K C m f) (F : FnOk X.prog X.w X.K X.mg X.base CX k f fd ps sp) (hr : Room k X.A) (hb : Binds X.K fd ps []) (px : ∀ σ, PassesAt CX X σ (E σ)) (ha : PA X (e :: es) t)
    (hst : starEach (e :: es) X.env = (false, eval e X.env) :: starEach es X.env := by rfl) (hpl : (backTo pos (starEach es X.env)).any (·.1) = false := by rfl)
    (ht : eval (.Call (.Attribute o m apos) (e :: es) [] pos) X.env = (do
      let ov ← eval o X.env
      standAt apos.atName
      let (f, first) ← holding [ov] (getMethod ov m pl)
      callWith pos f first (backTo pos (starEach (e :: es) X.env)) (backToKw pos (keywordEach [] X.env))) := by rfl) :
    PE X (.Call (.Attribute o m apos) (e :: es) [] pos) (tMethX C m sp E ta t) := by
  constructor
  intro pins s σ H Q I h
  refine PySem.W.methodCall_KW (pl := pl) (thn (he.run pins s σ H _ I h) fun u s1 z => ?_) ht
  obtain ⟨x, H1, I1, rx, a, dx, fs, ex, ea, l, q⟩ := z
  subst ex
  obtain rfl : u = Value.ref a := rx
  refine getmeth_ok I1 ea c hm l (PySem.W.callWith_K (first := [.ref a]) (h₀ := X.base) I.ok.mod.kin hm.kp (thn (ha.run pos pins s1 σ H1 _ I1 q) fun us s2 z => ?_) hst hpl)
  obtain ⟨vs, H2, I2, r, q2⟩ := z
  exact ⟨I2.kIn, run_at (us := .ref a :: us) (vs := .ref a :: vs) F hr hb (px σ) I2 (.cons rfl r) q2⟩
end
end Fw
set_option Elab.async false
set_option linter.all false
set_option maxRecDepth 100000
set_option maxHeartbeats 4000000
/-! try with several clauses «except A as e». -/
namespace Ft
open PySem PySem.Spec PyProof.Rows L2
abbrev Cl : Type := Value × (Addr → Value → Option Addr → TS)
/-- what the clauses wish, slot i the name of all of them -/
def wAll (K : PySem.W.Frag) (i : Nat) (Wo : WX) (D : Ends) : List Cl → WX
  | [] => Wo
  | (c, ts) :: r => fun cls d σ H => ∃ b, PySem.W.exmOne K cls c = some b ∧
      (b = true → ∀ a, H a = none → ts a cls d { nx := fun σ' H' => D.nx (σ'.set i none) H', rt := D.rt, bk := fun σ' H' => D.bk (σ'.set i none) H', ct := fun σ' H' => D.ct (σ'.set i none) H' } (σ.set i (some (.ref a))) H) ∧ (b = false → wAll K i Wo D r cls d σ H)
inductive Hds (X : Cx) (n : Str) : List ExceptHandler → List Cl → Prop
  | nil : Hds X n [] []
  | cons {x : Str} {c : Value} {ts : Addr → Value → Option Addr → TS} {b0 : Stmt} {su : List Stmt} {np ps : Pos} {hds : List ExceptHandler} {l : List Cl} (hc : Names X x c)
      (hs : ∀ (a : Addr) (oe : Obj) (cls : Value) (d : Option Addr) (pn : List (Addr × Obj)), Zc cls d oe → (∃ vs, oe.data = .fields vs) → PSs (X.suite a ((a, oe) :: pn)) (b0 :: su) (ts a cls d)) (r : Hds X n hds l) : Hds X n (.ExceptHandler (some (.Name x np)) (some n) (b0 :: su) ps :: hds) ((c, ts) :: l)
section
variable {X : Cx} {n : Str} {i : Nat} {body : List Stmt} {h0 : ExceptHandler} {hds : List ExceptHandler} {l : List Cl} {pos : Pos} {tb : WX → TS} {Wo : WX}
theorem ps_try_all (hst : X.stack = X.env :: X.outer) (hf : X.env.frame = some X.env.locals) (hN : X.N.Nodup) (hi : X.N[i]? = some n) (hln : X.env.kindOf n = some .local) (tk : Takes X Wo)
    (hb : ∀ (W : WX) (pn : List (Addr × Obj)) (xe : Value → Shared → Prop), Takes (X.tr pn xe) W → PassesOwn (model X.prog X.w) X.A X.env xe → PSs (X.tr pn xe) body (tb W)) (hh : Hds X n (h0 :: hds) l) :
    PS X (.Try body (h0 :: hds) [] [] pos) (fun D σ H => tb (wAll X.K i Wo D l) D σ H) := by
  constructor
  intro pn0 s σ H D I h
  have ok := I.ok
  have frames : X.A.frames = some (X.env :: X.outer) := ok.frames.trans (congrArg some hst)
  have locN : Loc X.env.scope n := .inl hln
  refine wpAny_Try_except ?_
  refine wpAny_mono ((hb (wAll X.K i Wo D l) (X.pn ++ pn0) (fun er t1 => wpAny (model X.prog X.w) X.A (noteFrame er X.env) (fun _ t2 => wpAny (model X.prog X.w) X.A (setFlight er none) (fun _ t3 =>
    wpAny (model X.prog X.w) X.A (handleBy er X.env (h0 :: hds)) (SP X pn0 D) X.xe t3) X.xe t2) X.xe t1) (fun u s2 air => ?_) PassesOwn.looking).run [] s σ H D (I.toTry _) h) (fun fl t1 done => ?_) (fun er t1 z => z)
  · obtain ⟨a, B, sI, pn1, σ1, H1, cls, d, rfl, J0, nb, up, sky, na, os, ag, w⟩ := air
    have J : Inv X pn0 σ1 H1 sI := J0.ofTry ok
    have sky2 : Sky B (X.env :: X.outer) a (Zc cls d) X.env.locals s2.heap := hst ▸ sky
    show wpAny (model X.prog X.w) X.A (noteFrame (.ref a) X.env) _ _ _
    refine Sky.land Zc.steady frames hf sky2 fun g3 fly up3 => ?_
    have J3 : Inv X pn0 σ1 H1 { s2 with heap := g3 } := J.landed nb fly.1 (up.trans up3) os ag
    obtain ⟨o3, w3, at3, z3, d3⟩ := fly.there
    have apart : a ∉ frs (X.env :: X.outer) := fun hm => by
      obtain ⟨_, o', e', nf⟩ := fly.2.2.1.mem hm
      rw [at3] at e'
      cases e'
      exact nf _ d3
    have nL : a ≠ X.env.locals := fun z => apart (List.mem_filterMap.mpr ⟨X.env, List.mem_cons_self, by rw [hf, z]⟩)
    have nF : a ∉ X.fs := fun hm => by
      obtain ⟨ev, hev, q⟩ := List.mem_filterMap.mp hm
      exact apart (List.mem_filterMap.mpr ⟨ev, List.mem_cons_of_mem _ hev, q⟩)
    have S3 := J3.suite at3 d3 na nL nF
    have go : ∀ {hs' : List ExceptHandler} {l' : List Cl}, Hds X n hs' l' → wAll X.K i Wo D l' cls d σ1 H1 → wpAny (model X.prog X.w) X.A (handleBy (.ref a) X.env hs') (SP X pn0 D) X.xe { s2 with heap := g3 } := by
      intro hs' l' hk
      induction hk with
      | nil =>
        intro w
        refine wpAny_handleBy_nil ?_
        obtain ⟨k1, k2, k3, oe, vs, T, oT, ts', he, hz, hd, hone, hr⟩ := id fly
        unfold PySem.passOn
        refine wpAny_bind (wpAny_field he hd hone ?_)
        rw [if_neg (show ¬ ((Value.ref T == Value.none) = true) by simp)]
        have away : wpAny (model X.prog X.w) X.A (setFlight (.ref a) X.env.frame) (fun _ t4 => wpAny (model X.prog X.w) X.A (throw (.ref a) : Sem Flow) (SP X pn0 D) X.xe t4) X.xe { s2 with heap := g3 } := by
          rw [hf]
          refine HandSPX.setFlight_upZ fly fun g4 hg4 up4 => wpAny_throw (tk _ _ ?_)
          exact ⟨a, B, sI, pn0, σ1, H1, cls, d, rfl, J, nb, (up.trans up3).trans up4, .inr (.inr (hst.symm ▸ hg4)), na, os, ag, w⟩
        first
          | exact wpAny_bind (wpAny_pure (wpAny_bind away))
          | exact wpAny_bind away
      | @cons x c ts b0 su np ps hds2 l2 hc hsu r ih =>
        intro w
        obtain ⟨b, hb1, hyes, hno⟩ := w
        refine wpAny_handleBy_cons (codeAny_handlers_test ?_) (by intro q; cases q)
        have tyA : PySem.W.Looks (model X.prog X.w) g3 (typeOf (.ref a)) cls := fun A Q E t k q => wpAny_typeOf_ref (k _ _ at3) (z3.1.symm ▸ q)
        have looks := PySem.W.exm_one (M := model X.prog X.w) (J3.kIn) tyA hb1
        have test : ∀ {Q E : Value → Shared → Prop}, Q c { s2 with heap := g3 } → wpAny (model X.prog X.w) (X.A.mark (some (.ref a))) (eval (.Name x np) X.env) Q E { s2 with heap := g3 } := by
          intro Q E q
          rcases hc with ⟨hg, hdbg, hm | ⟨hm, hv, hnn⟩⟩
          · exact ld_glob (X := X.suite a ((a, o3) :: (X.pn ++ pn0))) S3 hg hm q hdbg
          · exact ld_blt (X := X.suite a ((a, o3) :: (X.pn ++ pn0))) S3 hg hm hv q hnn hdbg
        refine test (looks.here ?_)
        cases b with
        | false => exact ih (hno rfl)
        | true =>
          refine codeAny_handlers_suite_as ?_
          refine HandSPX.lands_againZ fly fun g4 fly4 up4 => ?_
          have J4 : Inv X pn0 σ1 H1 { s2 with heap := g4 } := J.landed nb fly4.1 ((up.trans up3).trans up4) os ag
          obtain ⟨o4, w4, at4, z4, d4⟩ := fly4.there
          have S4 := J4.suite at4 d4 na nL nF
          refine store_ok (X := X.suite a ((a, o4) :: (X.pn ++ pn0))) (v := .ref a) S4 hN hi locN rfl (fun t5 S5 => ?_) (.inr hln)
          refine wpAny_mono ((hsu a o4 cls d (X.pn ++ pn0) z4 ⟨_, d4⟩).run [] t5 _ H1 _ S5 (hyes rfl a na)) (fun fl t6 done => ?_) (fun _ _ z => z.elim)
          have tidy : ∀ {σ6 : L2.St} {H6 : Hp} {Q : Shared → Prop}, Inv (X.suite a ((a, o4) :: (X.pn ++ pn0))) [] σ6 H6 t6 → (∀ t7, Inv X pn0 (σ6.set i none) H6 t7 → Q t7) →
              wpAny (model X.prog X.w) X.A (do bindName X.env n .none; unbindBehindTheSuite X.env n ps) (fun _ t7 => Q t7) X.xe t6 := fun {σ6 H6 Q} S6 hq => gone_ok (S6.unsuite ok) hN hi hln hq
          match fl, done with
          | .next, ⟨σ6, H6, S6, q6⟩ => exact tidy S6 fun t7 J7 => ⟨_, _, J7, q6⟩
          | .brk, ⟨σ6, H6, S6, q6⟩ => exact tidy S6 fun t7 J7 => ⟨_, _, J7, q6⟩
          | .cont, ⟨σ6, H6, S6, q6⟩ => exact tidy S6 fun t7 J7 => ⟨_, _, J7, q6⟩
          | .ret u, ⟨v6, σ6, H6, S6, r6, q6⟩ => exact tidy S6 fun t7 J7 => ⟨_, _, _, J7, r6, q6⟩
    exact go hh w
  · match fl, done with
    | .next, ⟨σ2, H2, J2, q⟩ => exact wpAny_execs_nil ⟨σ2, H2, J2.ofTry ok, q⟩
    | .brk, ⟨σ2, H2, J2, q⟩ => exact ⟨σ2, H2, J2.ofTry ok, q⟩
    | .cont, ⟨σ2, H2, J2, q⟩ => exact ⟨σ2, H2, J2.ofTry ok, q⟩
    | .ret u, ⟨v, σ2, H2, J2, r, q⟩ => exact ⟨v, σ2, H2, J2.ofTry ok, r, q⟩
end
end Ft
set_option Elab.async false
set_option linter.all false
set_option maxRecDepth 100000
set_option maxHeartbeats 1000000
set_option exponentiation.threshold 100000
namespace K09
open PySem PySem.Spec PyProof.Rows L2 Fa Fb
abbrev sCau : Stmt := top 46
theorem scCau : FnScope ["_law_door", "_law_tempo", "_law_thing", "e"] ["_law_door", "_law_tempo", "_law_thing"] (defScope sCau) := ⟨rfl, rfl, rfl, by decide +kernel, rfl, by decide +kernel, by decide +kernel⟩
structure MeS (P : Program) (w : World) (K : PySem.W.Frag) (mg : Str → Option Value) (base : Heap) (m : Str) (lev : Nat) (ps : List Str) (sp : Sp) (f : Addr) (fd : FuncData) : Prop where
  me : Meth K (CM K) m f
  ok : FnOk P w K mg base (L2.CX P w) lev f fd ps sp
  b : Binds K fd ps []
def tsC (C : Addr) (nm fld : Str) : Addr → Value → Option Addr → TS := fun a cls d => tRet (tLst (tCons (tC (.str nm)) (tCons (Xb.tByX C fld a cls d (tVar 3)) tNil)))
def tTol (t : TE) : TS := tRet (tLst (tCons (tC (.str "told")) (tCons t tNil)))
abbrev spC0 (K : PySem.W.Frag) : Sp := spCal K M08.f fun n m => m + 6 * n + 6
abbrev spC1 (K : PySem.W.Frag) : Sp := spCal K (fun ps x => M08.f (M08.sw ps) x) fun n m => m + 6 * n + 6
abbrev spC2 (K : PySem.W.Frag) : Sp := spCal K M08.sl fun n _ => 4 * n + 3
def clC (K : PySem.W.Frag) : List Ft.Cl := [(.ref (CV K), tsC (CV K) "amount" "value"), (.ref (CIM K), tsC (CIM K) "map" "value")]
def spCau (K : PySem.W.Frag) : Sp := fun vs H Q _ => ∃ (j : Int) (o : Addr) (y : V) (n : Nat) (gs : List Pg), vs = [.int j, .ref o, y] ∧ MapOk K n H o gs ∧ 0 < gs.length ∧ n ≤ 800 ∧
  (((j = 0 ∨ j = 1 ∨ j = 2) ∧ Bad K H y ∧ ∀ l H', Same H H' → H' l = some (.lst [.str "amount", y]) → Q (.ref l) H') ∨ (j = 3 ∧ NoMap K H y ∧ ∀ l H', Same H H' → H' l = some (.lst [.str "map", y]) → Q (.ref l) H'))
section
variable {P : Program} {w : World} {K : PySem.W.Frag} {mg : Str → Option Value} {base : Heap} {f f1 f2 f3 fC fU fV : Addr} {fd fd1 fd2 fd3 : FuncData} {qu tu qv tv : Str}
theorem ok_cau (F : FnP K "_law_caught" sCau f fd) (T : AF K mg) (M : MF K mg) (gA : mg "InvalidAmount" = some (.ref (CV K))) (gM : mg "InvalidMap" = some (.ref (CIM K))) (XA : Xb.Txt P.main.file K qu "value" tu (CV K) fU) (XM : Xb.Txt P.main.file K qv "value" tv (CIM K) fV) (hIM : PySem.W.exmOne K (.ref (CIM K)) (.ref (CV K)) = some false)
    (CO : StX.CallO K (CM K) fC) (RC : FnR P w K mg base (L2.CX P w) 10 fC (spC0 K)) (BO : MeS P w K mg base "beat_of" 10 ["self", "second"] (spC1 K) f1 fd1) (PA : MeS P w K mg base "pace" 9 ["self", "beat"] (spC2 K) f2 fd2) (TH : MeS P w K mg base "then" 13 ["self", "other"] (spThn K) f3 fd3) : FnOk P w K mg base (L2.CX P w) 14 f fd ["_law_door", "_law_tempo", "_law_thing"] (spCau K) := by
  refine F.ok scCau (fun vs H Q E h => ?_) (fun cdv A outer s H vs Q E hr h => ?_)
  · obtain ⟨j, o, y, n, gs, rfl, _⟩ := h
    rfl
  · obtain ⟨j, o, y, n, gs, rfl, mo, g0, n8, c⟩ := h
    have hr9 := hr.mono (show 9 ≤ 13 by decide)
    have hr10 := hr.mono (show 10 ≤ 13 by decide)
    have hr13 := hr.mono (show 13 ≤ 13 by decide)
    refine ⟨_, (pss_one (Ft.ps_try_all (n := "e") (i := 3) (l := clC K) (Wo := fun cls d _ H => E cls d H) rfl rfl scCau.nd rfl rfl (takes_of rfl rfl rfl rfl)
        (fun W pn xe tk _ => pss_cons (ps_if (pt_cmpR op_eq (pv 0) pe_int (nomark _)) (pss_one (ps_ret (pe_lst (pa_cons pe_str (pa_cons (Fw.pe_methX (pv 1) M.cl TH.me TH.ok hr13 TH.b (fun σ => passAt tk σ) (pa_cons (pv 2) pa_nil)) pa_nil))))) pss_nil)
          (pss_one (ps_ret (pe_lst (pa_cons pe_str (pa_cons (pe_ifExp (pt_cmpR op_eq (pv 0) pe_int (nomark _)) (Fs.pe_callOX (pv 1) CO RC hr10 (fun σ => passAt tk σ) (pa_cons (pv 2) pa_nil)) (pe_ifExp (pt_cmpR op_eq (pv 0) pe_int (nomark _)) (Fw.pe_methX (pv 1) M.cl BO.me BO.ok hr10 BO.b (fun σ => passAt tk σ) (pa_cons (pv 2) pa_nil)) (Fw.pe_methX (pv 1) M.cl PA.me PA.ok hr9 PA.b (fun σ => passAt tk σ) (pa_cons (pv 2) pa_nil)))) pa_nil))))))
        (.cons ⟨rfl, by decide, Or.inl gA⟩ (fun a oe cls d pn hz hf => pss_one (ps_ret (pe_lst (pa_cons pe_str (pa_cons (Xb.pe_byX XA hz hf (pv 3)) pa_nil)))))
          (.cons ⟨rfl, by decide, Or.inl gM⟩ (fun a oe cls d pn hz hf => pss_one (ps_ret (pe_lst (pa_cons pe_str (pa_cons (Xb.pe_byX XM hz hf (pv 3)) pa_nil))))) .nil)))), ?_⟩
    have nx (a b : Int) (h : a ≠ b) : decide (V.int a = V.int b) = false := decide_eq_false fun z => h (V.int.inj z)
    have suite : ∀ (C : Addr) (nm fld : Str) (bad : V) (a d : Addr) (v0 v1 v2 : V) (H1 : Hp) (D : Ends), D.rt = Q → Same H H1 → H1 d = none → (∀ l H', Same H H' → H' l = some (.lst [.str nm, bad]) → Q (.ref l) H') →
        tsC C nm fld a (.ref C) (some d) D [some v0, some v1, some v2, some (.ref a)] (upd H1 d (.xd [(fld, bad)])) := by
      intro C nm fld bad a d v0 v1 v2 H1 D hD s1 hd k
      refine ⟨_, rfl, rfl, rfl, d, bad, rfl, upd_same, by show 2 ≤ sizeLine; decide, fun l hl => ?_⟩
      rw [hD]
      exact k l _ (s1.trans ((Same.upd hd).trans (Same.upd hl))) upd_same
    have erA : ∀ (bad : V) (v0 v1 v2 : V) (D : Ends), D.rt = Q → (∀ l H', Same H H' → H' l = some (.lst [.str "amount", bad]) → Q (.ref l) H') → Err (CV K) bad H (WE (Ft.wAll K 3 (fun cls d _ H => E cls d H) D (clC K)) [some v0, some v1, some v2, none]) := fun bad v0 v1 v2 D hD k d hd =>
      ⟨true, XA.te, fun _ a _ => suite (CV K) "amount" "value" bad a d v0 v1 v2 H _ hD (Same.refl _) hd k, fun z => by cases z⟩
    have erM : ∀ (bad : V) (v0 v1 v2 : V) (D : Ends), D.rt = Q → (∀ l H', Same H H' → H' l = some (.lst [.str "map", bad]) → Q (.ref l) H') → Err (CIM K) bad H (WE (Ft.wAll K 3 (fun cls d _ H => E cls d H) D (clC K)) [some v0, some v1, some v2, none]) := fun bad v0 v1 v2 D hD k d hd =>
      ⟨false, hIM, (fun z => by cases z), fun _ => ⟨true, XM.te, fun _ a _ => suite (CIM K) "map" "value" bad a d v0 v1 v2 H _ hD (Same.refl _) hd k, fun z => by cases z⟩⟩
    obtain ⟨dx, q, r, ho, hq⟩ := id mo
    rcases c with ⟨hj, hb, k⟩ | ⟨rfl, hb, k⟩
    · rcases hj with rfl | rfl | rfl
      · exact ⟨_, rfl, rfl, _, rfl, if_false_of (nx _ _ (by decide)) ⟨_, rfl, rfl, _, rfl, if_true_of (decide_eq_true rfl) ⟨_, rfl, o, rfl, _, rfl, ⟨dx, _, ho⟩, o, n, gs, y, rfl, mo, g0, n8, .inl ⟨hb, erA _ _ _ _ _ rfl k⟩⟩⟩⟩
      · exact ⟨_, rfl, rfl, _, rfl, if_false_of (nx _ _ (by decide)) ⟨_, rfl, rfl, _, rfl, if_false_of (nx _ _ (by decide)) ⟨_, rfl, rfl, _, rfl, if_true_of (decide_eq_true rfl) ⟨_, rfl, o, dx, _, rfl, ho, by rfl, _, rfl, o, n, gs, y, rfl, mo, g0, n8, .inl ⟨hb, erA _ _ _ _ _ rfl k⟩⟩⟩⟩⟩
      · exact ⟨_, rfl, rfl, _, rfl, if_false_of (nx _ _ (by decide)) ⟨_, rfl, rfl, _, rfl, if_false_of (nx _ _ (by decide)) ⟨_, rfl, rfl, _, rfl, if_false_of (nx _ _ (by decide)) ⟨_, rfl, o, dx, _, rfl, ho, by rfl, _, rfl, o, n, gs, y, rfl, mo, g0, n8, .inl ⟨hb, erA _ _ _ _ _ rfl k⟩⟩⟩⟩⟩
    · exact ⟨_, rfl, rfl, _, rfl, if_true_of (decide_eq_true rfl) ⟨_, rfl, o, dx, _, rfl, ho, by rfl, _, rfl, o, n, gs, y, rfl, mo, .inl ⟨hb, erM _ _ _ _ _ rfl k⟩⟩⟩
end
end K09
set_option Elab.async false
set_option linter.all false
set_option maxRecDepth 100000
set_option maxHeartbeats 1000000
set_option exponentiation.threshold 100000
namespace K09
open PySem PySem.Spec PyProof.Rows L2 Fa Fb
abbrev sOdd : Stmt := top 48
theorem scOdd : FnScope ["_law_tempo", "_law_odd", "_law_door"] ["_law_tempo"] (defScope sOdd) := ⟨rfl, rfl, rfl, by decide +kernel, rfl, by decide +kernel, by decide +kernel⟩
abbrev ShA (d : PyData) : Prop := (PyData.list [.str "amount", d]).showable = true ∧ (PyData.list [.str "amount", d]).depth ≤ 20 ∧ (PyData.list [.str "amount", d]).shown.length ≤ sizeLine
abbrev ShM (d : PyData) : Prop := (PyData.list [.str "map", d]).showable = true ∧ (PyData.list [.str "map", d]).depth ≤ 20 ∧ (PyData.list [.str "map", d]).shown.length ≤ sizeLine
structure Tha (K : PySem.W.Frag) (H : Hp) (x : V) (d : PyData) : Prop where
  sv : Fg.Sv H x d
  nc : Bad K H x
structure Thm (K : PySem.W.Frag) (H : Hp) (x : V) (d : PyData) : Prop where
  sv : Fg.Sv H x d
  nc : NoMap K H x
def DSm : Eqv := fun x y _ => (flatV x = true ∧ flatV y = true ∧ eqV x y = true) ∨ ∃ a, x = .ref a ∧ y = .ref a
theorem mon_sm : Mon DSm := fun _ _ _ _ _ d => d
theorem eqG_sm {X : Cx} : EqG X 0 DSm := by
  refine EqG.or (D := DFlat) (D' := fun x y _ => ∃ a, x = .ref a ∧ y = .ref a) eqG_flat ?_
  intro A pins s σ H x y u v sb I rx ry d
  obtain ⟨a, rfl, rfl⟩ := d
  cases rx
  cases ry
  exact SeqAt.EqAt.same (A := A) (s := s) (.ref a) X.prog X.w X.xe _ ⟨rfl, H, I, Ext.rfl'⟩
def RA (K : PySem.W.Frag) (a b : Addr) (H : Hp) : Prop := ∃ t u n m, IsA K H (.ref a) t u n ∧ IsA K H (.ref b) t u m
theorem EqK.okR {P : Program} {w : World} {K : PySem.W.Frag} {mg : Str → Option Value} {base : Heap} {f : Addr} {fd : FuncData} (Q : EqK P w K mg base f fd) : FnOk P w K mg base (L2.CX P w) 1 f fd ["self", "other"] (L2.spEq (RA K)) := Q.ok.imp fun vs H Q E h => by
  obtain ⟨a, b, rfl, ⟨t, u, n, m, i1, i2⟩, q⟩ := h
  refine ⟨.ref a, .ref b, t, u, n, rfl, i1, .inl ⟨t, u, m, i2, ?_⟩⟩
  rw [decide_eq_true rfl, decide_eq_true rfl]
  exact q H Ext.rfl'
abbrev DA (K : PySem.W.Frag) : Eqv := fun x y H => DSm x y H ∨ DIns (CA K) (RA K) x y H
theorem monA (K : PySem.W.Frag) : Mon (DIns (CA K) (RA K)) := mon_ins fun a b H H' e ⟨t, u, n, m, i1, i2⟩ => ⟨t, u, n, m, i1.same e, i2.same e⟩
abbrev SO (o : Addr) (v1 v2 : Option V) : L2.St := [some (.ref o), v1, v2]
section
variable (K : PySem.W.Frag) (o : Addr) (n : Nat) (gs : List Pg)
def sOd1 (K : PySem.W.Frag) (H : Hp) (Q : VK) (o : Addr) (n : Nat) (gs : List Pg) : TS := fun D σ H' => ∃ v1 v2, σ = SO o v1 v2 ∧ Same H H' ∧ MapOk K n H' o gs ∧ D.rt = Q
abbrev sOd3 (K : PySem.W.Frag) (H : Hp) (Q : VK) (o : Addr) (n : Nat) (gs : List Pg) : TS := sOd1 K H Q o n gs
def sOd2 : TS := fun D σ H' => ∃ (x : V) (d : PyData) (v2 : Option V), σ = SO o (some x) v2 ∧ MapOk K n H' o gs ∧ (∀ J, Same H' J → Tha K J x d) ∧ ShA d ∧ ∀ J v2, Same H' J → D.nx (SO o (some x) v2) J
def sOd4 : TS := fun D σ H' => ∃ (x : V) (d : PyData) (j : Int), σ = SO o (some x) (some (.int j)) ∧ (j = 0 ∨ j = 1 ∨ j = 2) ∧ MapOk K n H' o gs ∧ (∀ J, Same H' J → Tha K J x d) ∧ ShA d ∧ ∀ J, Same H' J → D.nx (SO o (some x) (some (.int j))) J
def sOd5 : TS := fun D σ H' => ∃ (x : V) (d : PyData) (v2 : Option V), σ = SO o (some x) v2 ∧ MapOk K n H' o gs ∧ (∀ J, Same H' J → Thm K J x d) ∧ ShM d ∧ ∀ J, Same H' J → D.nx (SO o (some x) v2) J
end
def spOdd (K : PySem.W.Frag) : Sp := fun vs H Q _ => ∃ (o : Addr) (n : Nat) (gs : List Pg), vs = [.ref o] ∧ MapOk K n H o gs ∧ 0 < gs.length ∧ n ≤ 800 ∧ ∀ H', Same H H' → Q (.bl true) H'
theorem bad_of {K : PySem.W.Frag} {mg : Str → Option Value} (T : AF K mg) {H : Hp} {y : V} {Ty : String} {b1 b2 : Bool} (hT : Ty ∈ tys) (t : TyX K H y (.type Ty)) (h1 : kitB Ty "int" = some b1) (h2 : kitB Ty "bool" = some b2) (hb : (b1 && !b2) = false) : Bad K H y :=
  ⟨.type Ty, t, T.kT Ty hT, _, b1, b2, t, kit_ty h1, kit_ty h2, hb.symm⟩
theorem things9 {K : PySem.W.Frag} {mg : Str → Option Value} (T : AF K mg) {H : Hp} {q1 q2 q3 q4 : Addr} (h1 : H q1 = some (.lst [])) (h2 : H q2 = some (.dK [])) (h3 : H q3 = some (.tup [.int 1, .int 2])) (h4 : H q4 = some (.lst [.int 1])) :
    ∀ x ∈ [V.non, .bl true, .bl false, .str "1", .str "", .ref q1, .ref q2, .ref q3, .ref q4], ∃ d, ShA d ∧ ∀ J, Same H J → Tha K J x d := by
  intro x hx
  simp only [List.mem_cons, List.not_mem_nil, or_false] at hx
  rcases hx with rfl | rfl | rfl | rfl | rfl | rfl | rfl | rfl | rfl
  · exact ⟨.none, ⟨by decide +kernel, by decide +kernel, by decide +kernel⟩, fun J sJ => ⟨.non, bad_of T (Ty := "NoneType") (b1 := false) (b2 := false) (by simp [tys]) (.base .non) (by decide +kernel) (by decide +kernel) rfl⟩⟩
  · exact ⟨.bool true, ⟨by decide +kernel, by decide +kernel, by decide +kernel⟩, fun J sJ => ⟨.bl _, bad_of T (Ty := "bool") (b1 := true) (b2 := true) (by simp [tys]) (.base (.bl _)) (by decide +kernel) (by decide +kernel) rfl⟩⟩
  · exact ⟨.bool false, ⟨by decide +kernel, by decide +kernel, by decide +kernel⟩, fun J sJ => ⟨.bl _, bad_of T (Ty := "bool") (b1 := true) (b2 := true) (by simp [tys]) (.base (.bl _)) (by decide +kernel) (by decide +kernel) rfl⟩⟩
  · exact ⟨.str "1", ⟨by decide +kernel, by decide +kernel, by decide +kernel⟩, fun J sJ => ⟨.str _, bad_of T (Ty := "str") (b1 := false) (b2 := false) (by simp [tys]) (.base (.str _)) (by decide +kernel) (by decide +kernel) rfl⟩⟩
  · exact ⟨.str "", ⟨by decide +kernel, by decide +kernel, by decide +kernel⟩, fun J sJ => ⟨.str _, bad_of T (Ty := "str") (b1 := false) (b2 := false) (by simp [tys]) (.base (.str _)) (by decide +kernel) (by decide +kernel) rfl⟩⟩
  · exact ⟨.list [], ⟨by decide +kernel, by decide +kernel, by decide +kernel⟩, fun J sJ => ⟨.lst (sJ _ _ h1) .nil, bad_of T (Ty := "list") (b1 := false) (b2 := false) (by simp [tys]) (.base (.lst (sJ _ _ h1))) (by decide +kernel) (by decide +kernel) rfl⟩⟩
  · exact ⟨.dict [], ⟨by decide +kernel, by decide +kernel, by decide +kernel⟩, fun J sJ => ⟨.dic (sJ _ _ h2), bad_of T (Ty := "dict") (b1 := false) (b2 := false) (by simp [tys]) (.base (.dK (sJ _ _ h2))) (by decide +kernel) (by decide +kernel) rfl⟩⟩
  · exact ⟨.tuple [.int 1, .int 2], ⟨by decide +kernel, by decide +kernel, by decide +kernel⟩, fun J sJ => ⟨.tup (sJ _ _ h3) (.cons (.int _) (.cons (.int _) .nil)), bad_of T (Ty := "tuple") (b1 := false) (b2 := false) (by simp [tys]) (.base (.tup (sJ _ _ h3))) (by decide +kernel) (by decide +kernel) rfl⟩⟩
  · exact ⟨.list [.int 1], ⟨by decide +kernel, by decide +kernel, by decide +kernel⟩, fun J sJ => ⟨.lst (sJ _ _ h4) (.cons (.int _) .nil), bad_of T (Ty := "list") (b1 := false) (b2 := false) (by simp [tys]) (.base (.lst (sJ _ _ h4))) (by decide +kernel) (by decide +kernel) rfl⟩⟩
theorem things7 {K : PySem.W.Frag} (kTM : ∀ Ty ∈ tys, PySem.W.kitOne K (.type Ty) (.ref (CM K)) = some false) {H : Hp} {q1 q2 q3 q4 : Addr} (h1 : H q1 = some (.lst [])) (h2 : H q2 = some (.dK [])) (h3 : H q3 = some (.tup [.int 0, .int 0])) (h4 : H q4 = some (.lst [.ref q3])) :
    ∀ x ∈ [V.non, .bl true, .int 0, .str "map", .ref q1, .ref q2, .ref q4], ∃ d, ShM d ∧ ∀ J, Same H J → Thm K J x d := by
  have nm : ∀ {J : Hp} {x : V} (Ty : String), Ty ∈ tys → TyX K J x (.type Ty) → NoMap K J x := fun Ty hT ty => ⟨_, ty, kTM Ty hT⟩
  intro x hx
  simp only [List.mem_cons, List.not_mem_nil, or_false] at hx
  rcases hx with rfl | rfl | rfl | rfl | rfl | rfl | rfl
  · exact ⟨.none, ⟨by decide +kernel, by decide +kernel, by decide +kernel⟩, fun J sJ => ⟨.non, nm "NoneType" (by simp [tys]) (.base .non)⟩⟩
  · exact ⟨.bool true, ⟨by decide +kernel, by decide +kernel, by decide +kernel⟩, fun J sJ => ⟨.bl _, nm "bool" (by simp [tys]) (.base (.bl _))⟩⟩
  · exact ⟨.int 0, ⟨by decide +kernel, by decide +kernel, by decide +kernel⟩, fun J sJ => ⟨.int _, nm "int" (by simp [tys]) (.base (.int _))⟩⟩
  · exact ⟨.str "map", ⟨by decide +kernel, by decide +kernel, by decide +kernel⟩, fun J sJ => ⟨.str _, nm "str" (by simp [tys]) (.base (.str _))⟩⟩
  · exact ⟨.list [], ⟨by decide +kernel, by decide +kernel, by decide +kernel⟩, fun J sJ => ⟨.lst (sJ _ _ h1) .nil, nm "list" (by simp [tys]) (.base (.lst (sJ _ _ h1)))⟩⟩
  · exact ⟨.dict [], ⟨by decide +kernel, by decide +kernel, by decide +kernel⟩, fun J sJ => ⟨.dic (sJ _ _ h2), nm "dict" (by simp [tys]) (.base (.dK (sJ _ _ h2)))⟩⟩
  · exact ⟨.list [.tuple [.int 0, .int 0]], ⟨by decide +kernel, by decide +kernel, by decide +kernel⟩, fun J sJ => ⟨.lst (sJ _ _ h4) (.cons (.tup (sJ _ _ h3) (.cons (.int _) (.cons (.int _) .nil))) .nil), nm "list" (by simp [tys]) (.base (.lst (sJ _ _ h4)))⟩⟩
section
variable {P : Program} {w : World} {K : PySem.W.Frag} {mg : Str → Option Value} {base : Heap} {f f1 fE : Addr} {fd fd1 fdE fdI : FuncData}
theorem ok_odd (F : FnP K "_law_odd_right" sOdd f fd) (T : AF K mg) (M : MF K mg) (hS : Fg.SysD K) (mR : mg "repr" = none) (mG : mg "range" = none) (EQ : EqK P w K mg base fE fdE) (CG : Fn P w K mg base "_law_caught" 14 ["_law_door", "_law_tempo", "_law_thing"] (spCau K) f1 fd1)
    (GI : FnOk P w K mg base (L2.CX P w) 4 (aI K) fdI ["self", "top", "bottom"] (spInit K)) {ds : List Value} (hds : Vals [.int 1] ds) (bI : Binds K fdI ["self", "top", "bottom"] ds)
    (ca : PySem.W.findIn K (.ref (CM K)) "__class__" = some (some (.builtin "object.__class__"))) (cm : PySem.W.mroIn K (CM K) (.type "object") = some true)
    (kMA : PySem.W.kitOne K (.ref (CM K)) (.ref (CA K)) = some false) (kMI : PySem.W.kitOne K (.ref (CM K)) (.type "int") = some false) (kMB : PySem.W.kitOne K (.ref (CM K)) (.type "bool") = some false) (kAM : PySem.W.kitOne K (.ref (CA K)) (.ref (CM K)) = some false)
    (kTM : ∀ Ty ∈ tys, PySem.W.kitOne K (.type Ty) (.ref (CM K)) = some false) : Fg.FnG P w K mg base (L2.CX P w) 15 f fd ["_law_tempo"] (spOdd K) := by
  refine Fg.okG F scOdd (fun vs H Q E h => ?_) (fun cdv A outer s H vs Q E G hr h => ?_)
  · obtain ⟨o, n, gs, rfl, _⟩ := h
    rfl
  · obtain ⟨o, n, gs, rfl, mo, g0, n8, k⟩ := h
    have hu : (A.deeper (envOfC "_law_odd_right" (defScope sOdd) s.heap.objs.size f cdv)).units + 64 < cLine := by
      have := hr.un
      omega
    have hr14 := hr.mono (show 14 ≤ 14 by decide)
    have hr2 := hr.mono (show 2 ≤ 14 by decide)
    have hr5 := hr.mono (show 5 ≤ 14 by decide)
    have monD : Mon (DA K) := Mon.or mon_sm (monA K)
    have eqD : EqG (cxOf (L2.CX P w) P w K mg base ["_law_tempo", "_law_odd", "_law_door"] "_law_odd_right" (defScope sOdd) f cdv A outer s H E) 1 (DA K) := EqG.or (eqG_sm.mono (by decide)) (eqG_ins EQ.okR EQ.at_ EQ.fn EQ.b passL)
    refine ⟨_, (pss_cons (ps_if (PW.pt (pw_or (pt_cmpR (Fe.op_neG monD eqD hr2) (pe_call CG.ok hr14 rfl CG.g CG.k CG.b .nil passL (pa_cons pe_int (pa_cons (pv 0) (pa_cons (pv 0) pa_nil)))) (pe_lst (pa_cons pe_str (pa_cons (pv 0) pa_nil))) (nomark _)) (pw_or1 (pt_cmpR (Fe.op_neG monD eqD hr2) (pe_call CG.ok hr14 rfl CG.g CG.k CG.b .nil passL (pa_cons pe_int (pa_cons (pv 0) (pa_cons (pe_make T.mkA GI hr5 rfl T.g bI hds passL (pa_cons pe_int pa_nil)) pa_nil)))) (pe_lst (pa_cons pe_str (pa_cons (pe_make T.mkA GI hr5 rfl T.g bI hds passL (pa_cons pe_int pa_nil)) pa_nil))) (nomark _))))) (pss_one (ps_ret pe_bl)) pss_nil)
      (pss_imp (S := sOd1 K H Q o n gs) (pss_cons (ps_for (passes_of rfl) rfl (pi_list (pe_lst (pa_cons pe_non (pa_cons pe_bl (pa_cons pe_bl (pa_cons pe_str (pa_cons pe_str (pa_cons (pe_lst pa_nil) (pa_cons pe_dnewK (pa_cons (pe_tup (pa_cons pe_int (pa_cons pe_int pa_nil))) (pa_cons (pe_lst (pa_cons pe_int pa_nil)) pa_nil))))))))))) (pg_name (i := 1) scOdd.nd rfl (Or.inl rfl))
      (pss_imp (S := sOd2 K o n gs) (pss_one (ps_for (passes_of rfl) rfl (pi_range1 rfl mG (pa_cons pe_int pa_nil)) (pg_name (i := 2) scOdd.nd rfl (Or.inl rfl))
      (pss_imp (S := sOd4 K o n gs) (pss_one (ps_if (pt_cmpR op_ne (pe_callB (Fg.call_reprD hS G hu) rfl mR boot_repr (pa_cons (pe_call CG.ok hr14 rfl CG.g CG.k CG.b .nil passL (pa_cons (pv 2) (pa_cons (pv 0) (pa_cons (pv 1) pa_nil)))) pa_nil)) (pe_callB (Fg.call_reprD hS G hu) rfl mR boot_repr (pa_cons (pe_lst (pa_cons pe_str (pa_cons (pv 1) pa_nil))) pa_nil)) (nomark _)) (pss_one (ps_ret pe_bl)) pss_nil)) ?o4))) ?o2))
      (pss_imp (S := sOd3 K H Q o n gs) (pss_cons (ps_for (passes_of rfl) rfl (pi_list (pe_lst (pa_cons pe_non (pa_cons pe_bl (pa_cons pe_int (pa_cons pe_str (pa_cons (pe_lst pa_nil) (pa_cons pe_dnewK (pa_cons (pe_lst (pa_cons (pe_tup (pa_cons pe_int (pa_cons pe_int pa_nil))) pa_nil)) pa_nil))))))))) (pg_name (i := 1) scOdd.nd rfl (Or.inl rfl))
      (pss_imp (S := sOd5 K o n gs) (pss_one (ps_if (pt_cmpR op_ne (pe_callB (Fg.call_reprD hS G hu) rfl mR boot_repr (pa_cons (pe_call CG.ok hr14 rfl CG.g CG.k CG.b .nil passL (pa_cons pe_int (pa_cons (pv 0) (pa_cons (pv 1) pa_nil)))) pa_nil)) (pe_callB (Fg.call_reprD hS G hu) rfl mR boot_repr (pa_cons (pe_lst (pa_cons pe_str (pa_cons (pv 1) pa_nil))) pa_nil)) (nomark _)) (pss_one (ps_ret pe_bl)) pss_nil)) ?o5))
      (pss_one (ps_ret pe_bl))) ?o3)) ?o1)), ?_⟩
    case o4 =>
      rintro D' σ H1 ⟨x, d, j, rfl, hj, m1, th, ⟨b1, b2, b3⟩, kn⟩
      refine ⟨_, rfl, _, rfl, _, rfl, j, o, x, n, gs, rfl, m1, g0, n8, .inl ⟨hj, (th _ (Same.refl _)).nc, fun l1 H2 s2 e2 => ?_⟩⟩
      refine ⟨l1, .list [.str "amount", d], rfl, .lst e2 (.cons (.str _) (.cons (th _ s2).sv .nil)), b1, b2, b3, _, rfl, by show 2 ≤ sizeLine; decide, fun l3 h3 => ?_⟩
      have s3 := s2.trans (Same.upd (o := .lst [.str "amount", x]) h3)
      refine ⟨l3, .list [.str "amount", d], rfl, .lst upd_same (.cons (.str _) (.cons (th _ s3).sv .nil)), b1, b2, b3, rfl, _, rfl, ?_⟩
      exact if_false_of (by rw [decide_eq_true rfl]; rfl) (kn _ s3)
    case o5 =>
      rintro D' σ H1 ⟨x, d, v2, rfl, m1, th, ⟨b1, b2, b3⟩, kn⟩
      refine ⟨_, rfl, _, rfl, 3, o, x, n, gs, rfl, m1, g0, n8, .inr ⟨rfl, (th _ (Same.refl _)).nc, fun l1 H2 s2 e2 => ?_⟩⟩
      refine ⟨l1, .list [.str "map", d], rfl, .lst e2 (.cons (.str _) (.cons (th _ s2).sv .nil)), b1, b2, b3, _, rfl, by show 2 ≤ sizeLine; decide, fun l3 h3 => ?_⟩
      have s3 := s2.trans (Same.upd (o := .lst [.str "map", x]) h3)
      refine ⟨l3, .list [.str "map", d], rfl, .lst upd_same (.cons (.str _) (.cons (th _ s3).sv .nil)), b1, b2, b3, rfl, _, rfl, ?_⟩
      exact if_false_of (by rw [decide_eq_true rfl]; rfl) (kn _ s3)
    case o2 =>
      rintro D' σ H1 ⟨x, d, v2, rfl, m1, th, sa, kn⟩
      refine ⟨3, rfl, by decide, by decide, ?_⟩
      refine for_range (lo := 0) (n := 3) (fun i σ H' => ∃ v2, σ = SO o (some x) v2 ∧ Same H1 H') ⟨_, rfl, Same.refl _⟩ ?_ ?_
      · rintro i σ H3 hi ⟨v2, rfl, s3⟩
        refine ⟨x, d, 0 + (i : Int), rfl, by omega, m1.same s3, fun J sJ => th J (s3.trans sJ), sa, fun J sJ => ⟨_, rfl, s3.trans sJ⟩⟩
      · rintro σ H3 ⟨v2, rfl, s3⟩
        exact kn _ _ s3
    case o3 =>
      rintro D' σ H1 ⟨v1, v2, rfl, s1, m1, hD⟩
      refine ⟨by show 0 ≤ sizeLine; decide, fun q1 h1 => fun q2 h2 => ⟨by show 2 ≤ sizeLine; decide, fun q3 h3 => ⟨by show 1 ≤ sizeLine; decide, fun q4 h4 => ⟨by show 7 ≤ sizeLine; decide, fun l hl => ⟨l, rfl, ⟨_, SqL.of upd_same⟩, ?_⟩⟩⟩⟩⟩
      have g1 := Same.upd (o := .lst []) h1
      have e1 : upd H1 q1 (.lst []) q1 = some (.lst []) := upd_same
      generalize upd H1 q1 (.lst []) = H2 at g1 e1 h2 h3 h4 hl ⊢
      have g2 := Same.upd (o := .dK []) h2
      have e2 : upd H2 q2 (.dK []) q2 = some (.dK []) := upd_same
      generalize upd H2 q2 (.dK []) = H3 at g2 e2 h3 h4 hl ⊢
      have g3 := Same.upd (o := .tup [.int 0, .int 0]) h3
      have e3 : upd H3 q3 (.tup [.int 0, .int 0]) q3 = some (.tup [.int 0, .int 0]) := upd_same
      generalize upd H3 q3 (.tup [.int 0, .int 0]) = H4 at g3 e3 h4 hl ⊢
      have g4 := Same.upd (o := .lst [V.ref q3]) h4
      have e4 : upd H4 q4 (.lst [V.ref q3]) q4 = some (.lst [V.ref q3]) := upd_same
      generalize upd H4 q4 (.lst [V.ref q3]) = H5 at g4 e4 hl ⊢
      have g5 := Same.upd (o := .lst [V.non, .bl true, .int 0, .str "map", .ref q1, .ref q2, .ref q4]) hl
      have el : upd H5 l (.lst [V.non, .bl true, .int 0, .str "map", .ref q1, .ref q2, .ref q4]) l = some (.lst [V.non, .bl true, .int 0, .str "map", .ref q1, .ref q2, .ref q4]) := upd_same
      generalize upd H5 l (.lst [V.non, .bl true, .int 0, .str "map", .ref q1, .ref q2, .ref q4]) = HB at g5 el ⊢
      have things := things7 kTM (H := HB) (g5 _ _ (g4 _ _ (g3 _ _ (g2 _ _ e1)))) (g5 _ _ (g4 _ _ (g3 _ _ e2))) (g5 _ _ (g4 _ _ e3)) (g5 _ _ e4)
      have sB := g1.trans (g2.trans (g3.trans (g4.trans g5)))
      refine for_list (K := K) (a := l) (xs := [V.non, .bl true, .int 0, .str "map", .ref q1, .ref q2, .ref q4]) (fun i σ H' => ∃ v1 v2, σ = SO o v1 v2 ∧ Same HB H') ⟨_, _, rfl, Same.refl _⟩ (fun i σ H' _ ⟨_, _, _, s⟩ => SqL.of (s _ _ el)) ?_ ?_
      · rintro i x σ H6 hi ⟨v1, v2, rfl, s5⟩
        obtain ⟨d, so, th⟩ := things x (List.mem_of_getElem? hi)
        exact ⟨x, d, v2, rfl, m1.same (sB.trans s5), fun J sJ => th J (s5.trans sJ), so, fun J sJ => ⟨_, v2, rfl, s5.trans sJ⟩⟩
      · rintro σ H6 ⟨v1, v2, rfl, s5⟩
        have := k _ (s1.trans (sB.trans s5))
        rw [← hD] at this
        exact this
    case o1 =>
      rintro D' σ H1 ⟨v1, v2, rfl, s1, m1, hD⟩
      refine ⟨by show 0 ≤ sizeLine; decide, fun q1 h1 => fun q2 h2 => ⟨by show 2 ≤ sizeLine; decide, fun q3 h3 => ⟨by show 1 ≤ sizeLine; decide, fun q4 h4 => ⟨by show 9 ≤ sizeLine; decide, fun l hl => ⟨l, rfl, ⟨_, SqL.of upd_same⟩, ?_⟩⟩⟩⟩⟩
      have g1 := Same.upd (o := .lst []) h1
      have e1 : upd H1 q1 (.lst []) q1 = some (.lst []) := upd_same
      generalize upd H1 q1 (.lst []) = H2 at g1 e1 h2 h3 h4 hl ⊢
      have g2 := Same.upd (o := .dK []) h2
      have e2 : upd H2 q2 (.dK []) q2 = some (.dK []) := upd_same
      generalize upd H2 q2 (.dK []) = H3 at g2 e2 h3 h4 hl ⊢
      have g3 := Same.upd (o := .tup [.int 1, .int 2]) h3
      have e3 : upd H3 q3 (.tup [.int 1, .int 2]) q3 = some (.tup [.int 1, .int 2]) := upd_same
      generalize upd H3 q3 (.tup [.int 1, .int 2]) = H4 at g3 e3 h4 hl ⊢
      have g4 := Same.upd (o := .lst [V.int 1]) h4
      have e4 : upd H4 q4 (.lst [V.int 1]) q4 = some (.lst [V.int 1]) := upd_same
      generalize upd H4 q4 (.lst [V.int 1]) = H5 at g4 e4 hl ⊢
      have g5 := Same.upd (o := .lst [V.non, .bl true, .bl false, .str "1", .str "", .ref q1, .ref q2, .ref q3, .ref q4]) hl
      have el : upd H5 l (.lst [V.non, .bl true, .bl false, .str "1", .str "", .ref q1, .ref q2, .ref q3, .ref q4]) l = some (.lst [V.non, .bl true, .bl false, .str "1", .str "", .ref q1, .ref q2, .ref q3, .ref q4]) := upd_same
      generalize upd H5 l (.lst [V.non, .bl true, .bl false, .str "1", .str "", .ref q1, .ref q2, .ref q3, .ref q4]) = HB at g5 el ⊢
      have things := things9 T (H := HB) (g5 _ _ (g4 _ _ (g3 _ _ (g2 _ _ e1)))) (g5 _ _ (g4 _ _ (g3 _ _ e2))) (g5 _ _ (g4 _ _ e3)) (g5 _ _ e4)
      have sB := g1.trans (g2.trans (g3.trans (g4.trans g5)))
      refine for_list (K := K) (a := l) (xs := [V.non, .bl true, .bl false, .str "1", .str "", .ref q1, .ref q2, .ref q3, .ref q4]) (fun i σ H' => ∃ v1 v2, σ = SO o v1 v2 ∧ Same HB H') ⟨_, _, rfl, Same.refl _⟩ (fun i σ H' _ ⟨_, _, _, s⟩ => SqL.of (s _ _ el)) ?_ ?_
      · rintro i x σ H6 hi ⟨v1, v2, rfl, s5⟩
        obtain ⟨d, so, th⟩ := things x (List.mem_of_getElem? hi)
        exact ⟨x, d, v2, rfl, m1.same (sB.trans s5), fun J sJ => th J (s5.trans sJ), so, fun J v2 sJ => ⟨_, v2, rfl, s5.trans sJ⟩⟩
      · rintro σ H6 ⟨v1, v2, rfl, s5⟩
        exact ⟨v1, v2, rfl, s1.trans (sB.trans s5), m1.same (sB.trans s5), hD⟩
    have r2 : (2 : Nat) ≤ sizeLine := by decide
    obtain ⟨dx, q, r, ho, hq⟩ := id mo
    have tyM : ∀ J, Same H J → TyX K J (.ref o) (.ref (CM K)) := fun J s => .base (.ins (s _ _ ho) M.cl ca T.cn T.ct cm)
    refine ⟨_, rfl, _, rfl, 0, o, .ref o, n, gs, rfl, mo, g0, n8, .inl ⟨.inl rfl, ⟨_, tyM _ (Same.refl _), kMA, _, false, false, tyM _ (Same.refl _), kMI, kMB, rfl⟩, fun l H1 s1 e1 => ?_⟩⟩
    refine ⟨_, rfl, r2, fun m hm => ?_⟩
    refine ⟨⟨l, m, _, _, rfl, rfl, (Same.upd hm) _ _ e1, upd_same, .cons (.inl (.inl ⟨rfl, rfl, by rfl⟩)) (.cons (.inl (.inr ⟨o, rfl, rfl⟩)) .nil)⟩, fun H2 e2 => ⟨false, rfl, iteF ?_⟩⟩
    have s2 : Same H H2 := s1.trans ((Same.upd (o := .lst [.str "amount", .ref o]) hm).trans e2)
    refine ⟨_, rfl, fun x dx1 hx hdx hne => spInit_imp (make_fact T (n := 1) (a := 1) (b := 1) (by decide) (by decide) (by decide) (by decide) hx hdx hne) fun v0 H3 ⟨hv0, t0, u0, sm, iy, ee⟩ => ⟨hv0, ?_⟩⟩
    have s3 := s2.trans sm
    obtain ⟨_, d1, q1, g1, w1, _⟩ := id iy
    cases q1
    refine ⟨3, o, .ref x, n, gs, rfl, mo.same s3, g0, n8, .inr ⟨rfl, ⟨_, T.ty g1, kAM⟩, fun l2 H4 s4 e4 => ?_⟩⟩
    refine fun x2 dx2 hx2 hdx2 hne2 => spInit_imp (make_fact T (n := 1) (a := 1) (b := 1) (by decide) (by decide) (by decide) (by decide) hx2 hdx2 hne2) fun v2 H5 ⟨hv2, t2, u2, sm2, iy2, ee2⟩ => ⟨hv2, r2, fun m2 hm2 => ?_⟩
    have s5 := s4.trans (sm2.trans (Same.upd (o := .lst [.str "map", .ref x2]) hm2))
    have iA := iy.same s5
    have iB := iy2.same (Same.upd (o := .lst [.str "map", .ref x2]) hm2)
    obtain ⟨_, d3, q3, g3, w3, _⟩ := id iA
    obtain ⟨_, d2, q2, g2, w2, _⟩ := id iB
    cases q2
    cases q3
    have e0 : t0 = u0 := by omega
    have e02 : t2 = u2 := by omega
    obtain ⟨et, eu⟩ := Am.uniq w1 w2 (by rw [e0, e02, Int.mul_comm])
    subst et eu
    refine ⟨⟨l2, m2, _, _, rfl, rfl, (sm2.trans (Same.upd (o := .lst [.str "map", .ref x2]) hm2)) _ _ e4, upd_same, .cons (.inl (.inl ⟨rfl, rfl, by rfl⟩)) (.cons (.inr ⟨x, x2, d3, d2, _, _, rfl, rfl, g3, g2, _, _, 1, 1, iA, iB⟩) .nil)⟩, fun H6 e6 => ⟨false, rfl, iteF ?_⟩⟩
    have s6 := s3.trans (s5.trans e6)
    exact ⟨none, none, rfl, s6, mo.same s6, rfl⟩
end
end K09
set_option linter.all false
set_option exponentiation.threshold 100000
/-! Levels of values: how many answers a value is away from a drawn one. -/
namespace M09
open PySem M08
open M06 (VB)
def Lv (k : Nat) (x : Rat) : Prop := ∃ E X, 0 < E ∧ E ≤ 2 ^ (115 * k) ∧ X ≤ 2 ^ (24 + 116 * k) ∧ VB (420 * E) X x
theorem Lv.up {k j : Nat} {x : Rat} (h : Lv k x) (e : k ≤ j) : Lv j x := by
  obtain ⟨E, X, a, b, c, d⟩ := h
  exact ⟨E, X, a, Nat.le_trans b (Nat.pow_le_pow_right (by decide) (by omega)), Nat.le_trans c (Nat.pow_le_pow_right (by decide) (by omega)), d⟩
theorem Lv.zero {k : Nat} : Lv k 0 := ⟨1, 0, Nat.one_pos, Nat.two_pow_pos _, Nat.zero_le _, VB.zero⟩
theorem Lv.base {Y : Nat} {x : Rat} (hY : Y ≤ 2 ^ 22) (h : VB 420 Y x) : Lv 0 x := ⟨1, Y, Nat.one_pos, Nat.two_pow_pos _, Nat.le_trans hY (Nat.pow_le_pow_right (by decide) (by decide)), h⟩
def Dg (d : Nat) (F : Rat → Rat) : Prop := ∀ k x, Lv k x → Lv (k + d) (F x)
theorem Dg.comp {d d2 : Nat} {F F2 : Rat → Rat} (a : Dg d F) (b : Dg d2 F2) : Dg (d + d2) (fun x => F2 (F x)) := fun k x h => by
  have := b _ _ (a k x h)
  rw [Nat.add_assoc] at this
  exact this
theorem Dg.ext {d : Nat} {F F2 : Rat → Rat} (a : Dg d F) (h : ∀ x, F x = F2 x) : Dg d F2 := fun k x z => by
  rw [← h]
  exact a k x z
theorem Dg.id : Dg 0 (fun x => x) := fun k x h => h
theorem PtV.sw {D Y : Nat} {ps : List Pt} (h : PtV D Y ps) : PtV D Y (sw ps) := fun p hp => by
  obtain ⟨q, hq, rfl⟩ := List.mem_map.mp hp
  exact ⟨(h q hq).2, (h q hq).1⟩
theorem dg_base {Y : Nat} {ps : List Pt} (u : Up ps) (h : PtV 420 Y ps) (hY : Y ≤ 2 ^ 22) (hl : ps.length ≤ 5) (y0 : 0 < Y) : Dg 1 (f ps) := fun k x lx => by
  obtain ⟨P, p0, pm, sv⟩ := SlV.base (by decide) y0 u h
  have hM : (Y + Y) ^ ps.length ≤ 2 ^ 115 := by
    have h1 : (Y + Y) ^ ps.length ≤ (2 ^ 23) ^ ps.length := Nat.pow_le_pow_left (by omega) _
    have h2 : (2 ^ 23) ^ ps.length ≤ (2 ^ 23) ^ 5 := Nat.pow_le_pow_right (by decide) hl
    have h3 : ((2 : Nat) ^ 23) ^ 5 = 2 ^ 115 := by decide
    omega
  generalize (Y + Y) ^ ps.length = M at pm sv hM
  obtain ⟨E, X, e0, e1, x1, v⟩ := lx
  have pv : PtV (420 * E) (Y * E) ps := fun p hp => ⟨VB.up E (h p hp).1, VB.up E (h p hp).2⟩
  have r := f_VB sv pv pm v
  have hP : P ≤ 2 ^ 115 := Nat.le_trans pm hM
  have a1 : E * P ≤ 2 ^ (115 * k) * 2 ^ 115 := Nat.mul_le_mul e1 hP
  have a2 : (2 : Nat) ^ (115 * k) * 2 ^ 115 = 2 ^ (115 * (k + 1)) := by
    rw [← Nat.pow_add]
    rfl
  have ye : Y * E ≤ 2 ^ (22 + 116 * k) := by
    refine Nat.le_trans (Nat.mul_le_mul hY e1) ?_
    rw [← Nat.pow_add]
    exact Nat.pow_le_pow_right (by decide) (by omega)
  have b1 : Y * E * P ≤ 2 ^ (22 + 116 * k) * 2 ^ 115 := Nat.mul_le_mul ye hP
  have b2 : (X + Y * E) * M ≤ (2 ^ (24 + 116 * k) + 2 ^ (22 + 116 * k)) * 2 ^ 115 := Nat.mul_le_mul (Nat.add_le_add x1 ye) hM
  refine ⟨E * P, Y * E * P + (X + Y * E) * M, Nat.mul_pos e0 p0, a2 ▸ a1, ?_, ?_⟩
  · have c1 : (2 : Nat) ^ (24 + 116 * k) = 4 * 2 ^ (22 + 116 * k) := by
      rw [show 24 + 116 * k = (22 + 116 * k) + 2 by omega, Nat.pow_add, Nat.mul_comm]
    have c2 : (2 : Nat) ^ (24 + 116 * (k + 1)) = 8 * (2 ^ (22 + 116 * k) * 2 ^ 115) := by
      rw [show 24 + 116 * (k + 1) = 3 + ((22 + 116 * k) + 115) by omega, Nat.pow_add 2 3, Nat.pow_add 2 (22 + 116 * k)]
    rw [c2]
    rw [c1] at b2
    generalize (2 : Nat) ^ 115 = T at b1 b2 ⊢
    generalize (2 : Nat) ^ (22 + 116 * k) = Z at b1 b2 ⊢
    have b3 : (4 * Z + Z) * T = 5 * (Z * T) := by
      rw [show 4 * Z + Z = 5 * Z by omega, Nat.mul_assoc]
    rw [b3] at b2
    generalize Z * T = W at b1 b2 ⊢
    omega
  · rw [show 420 * (E * P) = 420 * E * P from (Nat.mul_assoc ..).symm]
    exact r
theorem std_le (ps : List Pt) : (std ps).length ≤ ps.length + (if ps = [] then 1 else 0) := by
  unfold std
  split
  · cases ps with
    | nil => exact Nat.le_refl _
    | cons p r => show 1 ≤ r.length + 1 + _; omega
  · exact Nat.le_trans (fil_sub ps 1).length_le (Nat.le_add_right _ _)
theorem std_max {ps : List Pt} {l : Nat} (h : ps.length ≤ l) (h1 : 1 ≤ l) : (std ps).length ≤ l := by
  have t := std_le ps
  by_cases e : ps = []
  · subst e
    exact Nat.le_trans t h1
  · rw [if_neg e] at t
    omega
theorem sw_std (ps : List Pt) (u : Up ps) (x : Rat) : f (sw (std ps)) x = f (sw ps) x := by
  have h := f_inv (std ps) (up_std u) (f (sw ps) x)
  rw [(f_std ps u _).1, f_inv' ps u] at h
  exact h
theorem sl_pos (ps : List Pt) (u : Up ps) (x : Rat) : 0 < sl ps x := by
  obtain ⟨e, he, near⟩ := sl_near ps u x
  obtain ⟨y, y1, y2⟩ := between x e he
  have h := near y (Rat.le_of_lt y1) y2
  have h2 := f_lt ps u y1
  rw [h] at h2
  have h3 : 0 < (y - x) * sl ps x := by grind
  have h4 : 0 < y - x := by grind
  rcases lt_or_le 0 (sl ps x) with c | c
  · exact c
  · exfalso
    have : (y - x) * sl ps x ≤ 0 := by
      have h5 := Rat.mul_le_mul_of_nonneg_left c (Rat.le_of_lt h4)
      rw [Rat.mul_zero] at h5
      exact h5
    grind
theorem f_pt (ps : List Pt) (u : Up ps) : ∀ p ∈ ps, f ps p.1 = p.2 := fun p hp => by
  obtain ⟨i, e⟩ := List.getElem?_of_mem hp
  have li := (List.getElem?_eq_some_iff.mp e).1
  have pw := up_pw ps u
  have lt : ∀ (j k : Nat) z y, ps[j]? = some z → ps[k]? = some y → j < k → z.1 < y.1 := fun j k z y ez ey c => by
    obtain ⟨lj, ej⟩ := List.getElem?_eq_some_iff.mp ez
    obtain ⟨lk, ek⟩ := List.getElem?_eq_some_iff.mp ey
    rw [← ej, ← ek]
    exact (List.pairwise_iff_getElem.mp pw j k lj lk c).1
  rw [(M08.f_at (ps := ps) (x := p.1) (n := i + 1) (q := p) e (by omega) (fun j z hj ez => ?_) (fun j z hj ez => lt i j p z e ez (by omega))).1]
  · grind
  · rcases Nat.lt_or_ge j i with c | c
    · exact Rat.le_of_lt (lt j i z p ez e c)
    · have : j = i := by omega
      subst this
      rw [e] at ez
      cases ez
      exact Rat.le_refl
theorem rise_len {bs as : List Rat} (h : bs.Pairwise (· < ·)) (m : ∀ x ∈ bs, x ∈ as) : bs.length ≤ as.length := by
  have nd : bs.Nodup := h.imp fun z e => by rw [e] at z; exact Rat.lt_irrefl z
  exact nd.length_le_of_subset m
end M09
set_option Elab.async false
set_option linter.all false
set_option maxRecDepth 100000
set_option maxHeartbeats 1000000
set_option exponentiation.threshold 100000
namespace K09
open PySem PySem.Spec PyProof.Rows L2 Fa Fb
/-! maps by what they answer; the levels of their values -/
theorem lvbits {k B : Nat} {x : Rat} (h : M09.Lv k x) (e : 25 + 116 * k ≤ B) : VBits B x := by
  obtain ⟨E, X, a, b, c, d⟩ := h
  refine ⟨420 * E, X, Nat.mul_pos (by decide) a, d, ?_, ?_⟩
  · refine Nat.lt_of_lt_of_le ?_ (Nat.pow_le_pow_right (by decide) e)
    have h1 : 420 * E ≤ 420 * 2 ^ (115 * k) := Nat.mul_le_mul_left _ b
    have h2 : 420 * 2 ^ (115 * k) < 2 ^ 9 * 2 ^ (115 * k) := Nat.mul_lt_mul_of_pos_right (by decide) (Nat.two_pow_pos _)
    rw [← Nat.pow_add] at h2
    exact Nat.lt_of_le_of_lt h1 (Nat.lt_of_lt_of_le h2 (Nat.pow_le_pow_right (by decide) (by omega)))
  · exact Nat.lt_of_le_of_lt c (Nat.pow_lt_pow_right (by decide) (by omega))
structure FG (F G : Rat → Rat) (d : Nat) : Prop where
  dF : M09.Dg d F
  dG : M09.Dg d G
  fg : ∀ x, F (G x) = x
  gf : ∀ x, G (F x) = x
theorem FG.inv {F G : Rat → Rat} {d : Nat} (h : FG F G d) : FG G F d := ⟨h.dG, h.dF, h.gf, h.fg⟩
theorem FG.comp {F G F2 G2 : Rat → Rat} {d d2 : Nat} (h : FG F G d) (k : FG F2 G2 d2) : FG (fun x => F2 (F x)) (fun x => G (G2 x)) (d + d2) :=
  ⟨h.dF.comp k.dF, by rw [Nat.add_comm]; exact k.dG.comp h.dG, fun x => by rw [h.fg, k.fg], fun x => by rw [k.gf, h.gf]⟩
theorem fg_id : FG (fun x => x) (fun x => x) 0 := ⟨M09.Dg.id, M09.Dg.id, fun _ => rfl, fun _ => rfl⟩
structure MV (K : PySem.W.Frag) (H : Hp) (o : Addr) (F : Rat → Rat) (a l : Nat) : Prop where
  ex : ∃ hs, MapOk K 721 H o hs ∧ 0 < hs.length ∧ hs.length ≤ l ∧ M08.std (ptl hs) = ptl hs ∧ (∀ x, M08.f (ptl hs) x = F x) ∧ ∀ g ∈ hs, M09.Lv a (bq g)
theorem MV.same {K : PySem.W.Frag} {H H' : Hp} {o : Addr} {F : Rat → Rat} {a l : Nat} (h : MV K H o F a l) (s : Same H H') : MV K H' o F a l :=
  let ⟨hs, m, r⟩ := h.ex; ⟨hs, m.same s, r⟩
theorem MapOk.rise {K : PySem.W.Frag} {n : Nat} {H : Hp} {o : Addr} {hs : List Pg} (h : MapOk K n H o hs) : M08.Up (ptl hs) := let ⟨_, _, _, _, b, _⟩ := h; b.rise
theorem mv_mk {K : PySem.W.Frag} {n : Nat} {H : Hp} {o : Addr} {hs : List Pg} {F : Rat → Rat} {a d l : Nat} {ps : List M08.Pt} (m : MapOk K n H o hs) (u : M08.Up ps) (e : ptl hs = M08.std ps) (hF : ∀ x, M08.f ps x = F x) (dF : M09.Dg d F)
    (lv : ∀ p ∈ ps, M09.Lv a p.1) (ad : a + d ≤ 6) (len : ps.length ≤ l) (l1 : 1 ≤ l) : MV K H o F a l := by
  have mem : ∀ p ∈ M08.std ps, M09.Lv a p.1 ∧ M09.Lv (a + d) p.2 := fun p hp => by
    unfold M08.std at hp
    split at hp
    · rw [List.mem_singleton.mp hp]
      refine ⟨M09.Lv.zero, ?_⟩
      show M09.Lv (a + d) (M08.f ps 0)
      rw [hF]
      exact (dF 0 0 M09.Lv.zero).up (by omega)
    · have hp := fil_sub _ _ p hp
      refine ⟨lv p hp, ?_⟩
      rw [← M09.f_pt ps u p hp, hF]
      exact dF _ _ (lv p hp)
  have hl : hs.length = (M08.std ps).length := by rw [← e]; exact (List.length_map ..).symm
  refine ⟨hs, m.vbits fun p hp => ?_, ?_, ?_, ?_, fun x => ?_, fun g hg => ?_⟩
  · rw [e] at hp
    exact ⟨lvbits (mem p hp).1 (by omega), lvbits (mem p hp).2 (by omega)⟩
  · rw [hl]
    exact List.length_pos_iff.mpr (M08.std_len ps).2
  · rw [hl]
    exact M09.std_max len l1
  · rw [e]
    exact M08.std_std ps u
  · rw [e, (M08.f_std ps u x).1]
    exact hF x
  · exact (mem (bq g, sq g) (by rw [← e]; exact List.mem_map.mpr ⟨g, hg, rfl⟩)).1
theorem back_of {F G : Rat → Rat} {d : Nat} {ps : List M08.Pt} (u : M08.Up ps) (h : ∀ x, M08.f ps x = F x) (fg : FG F G d) (x : Rat) : M08.f (M08.sw ps) x = G x := by
  have := M08.f_inv ps u (G x)
  rw [h, fg.fg] at this
  exact this
/-- a drawn list -/
structure Drw (ps : List M08.Pt) : Prop where
  up : M08.Up ps
  v : M09.PtV 420 (2 ^ 22) ps
  l : ps.length ≤ 5
theorem Drw.fg {ps : List M08.Pt} (h : Drw ps) : FG (M08.f ps) (M08.f (M08.sw ps)) 1 :=
  ⟨M09.dg_base h.up h.v (Nat.le_refl _) h.l (by decide), M09.dg_base (M08.up_sw ps h.up) h.v.sw (Nat.le_refl _) (by show (List.map _ ps).length ≤ 5; rw [List.length_map]; exact h.l) (by decide), M08.f_inv' ps h.up, M08.f_inv ps h.up⟩
theorem Drw.lv {ps : List M08.Pt} (h : Drw ps) : ∀ p ∈ ps, M09.Lv 0 p.1 ∧ M09.Lv 0 p.2 := fun p hp => ⟨M09.Lv.base (Nat.le_refl _) (h.v p hp).1, M09.Lv.base (Nat.le_refl _) (h.v p hp).2⟩
def spThnV (K : PySem.W.Frag) : Sp := fun vs H Q _ => ∃ (o o2 : Addr) (F G F2 G2 : Rat → Rat) (d d2 a a2 e l l2 : Nat), vs = [.ref o, .ref o2] ∧ MV K H o F a l ∧ MV K H o2 F2 a2 l2 ∧ FG F G d ∧ FG F2 G2 d2 ∧ a ≤ e ∧ a2 + d ≤ e ∧ e + d + d2 ≤ 6 ∧ l + l2 ≤ 20 ∧
  ∀ H' z, Same H H' → MV K H' z (fun x => F2 (F x)) e (l + l2) → H z = none → Q (.ref z) H'
theorem thn_v {K : PySem.W.Frag} {vs : List V} {H : Hp} {Q : VK} {E : XK} (h : spThnV K vs H Q E) : spThn K vs H Q E := by
  obtain ⟨o, o2, F, G, F2, G2, d, d2, a, a2, e, l, l2, rfl, ⟨gs, m1, p1, l1, c1, f1, v1⟩, ⟨gs2, m2, p2, q2, c2, f2, v2⟩, fg, fg2, ae, ade, e6, l20, k⟩ := h
  have u1 := m1.rise
  have u2 := m2.rise
  have bk : ∀ x, M08.f (M08.sw (ptl gs)) x = G x := back_of u1 f1 fg
  have lx : ∀ x, ((∃ h ∈ gs, x = bq h) ∨ ∃ h ∈ gs2, x = M08.f (M08.sw (ptl gs)) (bq h)) → M09.Lv e x := by
    rintro x (⟨h, hh, rfl⟩ | ⟨h, hh, rfl⟩)
    · exact (v1 h hh).up ae
    · rw [bk]
      exact (fg.dG _ _ (v2 h hh)).up ade
  refine ⟨o, 721, gs, .ref o2, rfl, m1, .inr ⟨o2, gs2, 721, rfl, m2, p1, p2, by omega, by decide, by decide, fun h hh => lvbits (v1 h hh) (by omega), fun h hh => lvbits (lx _ (.inr ⟨h, hh, rfl⟩)) (by omega), fun x hx => ?_, fun H' z hs s mo ⟨bs, pw, mem, ez⟩ hz => k H' z s ?_ hz⟩⟩
  · have h1 := fg.dF _ _ (lx x hx)
    refine ⟨lvbits (k := e + d) (by rw [f1]; exact h1) (by omega), lvbits (k := e + d + d2) ?_ (by omega)⟩
    rw [f1, f2]
    exact fg2.dF _ _ h1
  · have ug := M08.up_then u1 u2 bs pw
    refine mv_mk mo ug ez (fun x => ?_) (fg.dF.comp fg2.dF) (fun p hp => ?_) (by omega) ?_ (by omega)
    · rw [M08.f_then u1 u2 bs pw (fun p hp => ?_) (fun q hq => ?_) x, f1, f2]
      · obtain ⟨h, hh, rfl⟩ := List.mem_map.mp hp
        exact (mem _).mpr (.inl ⟨h, hh, rfl⟩)
      · obtain ⟨h, hh, rfl⟩ := List.mem_map.mp hq
        exact ⟨_, (mem _).mpr (.inr ⟨h, hh, rfl⟩), M08.f_inv' _ u1 _⟩
    · obtain ⟨b, hb, rfl⟩ := List.mem_map.mp hp
      exact lx b ((mem b).mp hb)
    · rw [show (M08.graph _ bs).length = bs.length from List.length_map ..]
      have := M09.rise_len (as := gs.map bq ++ gs2.map fun h => M08.f (M08.sw (ptl gs)) (bq h)) pw fun x hx => by
        rcases (mem x).mp hx with ⟨h, hh, rfl⟩ | ⟨h, hh, rfl⟩
        · exact List.mem_append_left _ (List.mem_map.mpr ⟨h, hh, rfl⟩)
        · exact List.mem_append_right _ (List.mem_map.mpr ⟨h, hh, rfl⟩)
      rw [List.length_append, List.length_map, List.length_map] at this
      omega
def spInvV (K : PySem.W.Frag) : Sp := fun vs H Q _ => ∃ (o : Addr) (F G : Rat → Rat) (d a l : Nat), vs = [.ref o] ∧ MV K H o F a l ∧ FG F G d ∧ a + d + d ≤ 6 ∧ ∀ H' y, Same H H' → MV K H' y G (a + d) l → H y = none → Q (.ref y) H'
theorem inv_v {K : PySem.W.Frag} {vs : List V} {H : Hp} {Q : VK} {E : XK} (h : spInvV K vs H Q E) : spInv K vs H Q E := by
  obtain ⟨o, F, G, d, a, l, rfl, ⟨gs, m1, p1, l1, c1, f1, v1⟩, fg, e6, k⟩ := h
  have u1 := m1.rise
  refine ⟨o, 721, gs, rfl, m1, by decide, fun H' y hs s mo e hy => k H' y s ?_ hy⟩
  refine mv_mk mo (M08.up_sw _ u1) e (back_of u1 f1 fg) fg.dG (fun p hp => ?_) e6 ?_ (by omega)
  · obtain ⟨q, hq, rfl⟩ := List.mem_map.mp hp
    show M09.Lv (a + d) q.2
    rw [← M09.f_pt _ u1 q hq, f1]
    obtain ⟨g, hg, rfl⟩ := List.mem_map.mp hq
    exact fg.dF _ _ (v1 g hg)
  · show (List.map _ (ptl gs)).length ≤ l
    rw [List.length_map]
    exact Nat.le_trans (Nat.le_of_eq (List.length_map ..)) l1
def spMadV (K : PySem.W.Frag) : Sp := fun vs H Q _ => ∃ (L : Addr) (ps : List Pg), vs = [.ref L] ∧ LsP 50 H L ps ∧ Drw (ptl ps) ∧ ∀ H' y, Same H H' → MV K H' y (M08.f (ptl ps)) 0 5 → H y = none → Q (.ref y) H'
theorem mad_v {K : PySem.W.Frag} {vs : List V} {H : Hp} {Q : VK} {E : XK} (h : spMadV K vs H Q E) : spMad K vs H Q E := by
  obtain ⟨L, ps, rfl, hl, dr, k⟩ := h
  have len : ps.length ≤ 5 := Nat.le_trans (Nat.le_of_eq (List.length_map ..).symm) dr.l
  exact ⟨L, ps, 50, rfl, hl, by omega, by decide, fun H' y hs s mo e hy => k H' y s (mv_mk mo dr.up e (fun _ => rfl) dr.fg.dF (fun p hp => (dr.lv p hp).1) (by decide) dr.l (by decide)) hy⟩
theorem QA.vbits {K : PySem.W.Frag} {H : Hp} {x : V} {q : Rat} {n B : Nat} (h : QA K H x q n) (b : VBits B q) : QA K H x q B := let ⟨t, u, ia, e⟩ := h; ⟨t, u, ia.vbits (by rw [e]; exact b), e⟩
def spCalV (K : PySem.W.Frag) : Sp := fun vs H Q _ => ∃ (o : Addr) (y : V) (F G : Rat → Rat) (d a l m k : Nat) (t u : Int), vs = [.ref o, y] ∧ MV K H o F a l ∧ FG F G d ∧ m ≤ 2000 ∧ Arg K H y t u m ∧ M09.Lv k (vq t u) ∧ ∀ z H', Same H H' → QA K H' z (F (vq t u)) (25 + 116 * (k + d)) → Q z H'
theorem cal_v {K : PySem.W.Frag} {vs : List V} {H : Hp} {Q : VK} {E : XK} (h : spCalV K vs H Q E) : spC0 K vs H Q E := by
  obtain ⟨o, y, F, G, d, a, l, m, k, t, u, rfl, ⟨gs, m1, p1, l1, c1, f1, v1⟩, fg, m2, ar, lv, q⟩ := h
  refine ⟨o, 721, gs, y, rfl, m1, p1, by decide, .inr ⟨t, u, m, m2, ar, fun z H' s qa => q z H' s ?_⟩⟩
  rw [f1] at qa
  exact qa.vbits (lvbits (fg.dF _ _ lv) (Nat.le_refl _))
def spBofV (K : PySem.W.Frag) : Sp := fun vs H Q _ => ∃ (o : Addr) (y : V) (F G : Rat → Rat) (d a l m k : Nat) (t u : Int), vs = [.ref o, y] ∧ MV K H o F a l ∧ FG F G d ∧ m ≤ 2000 ∧ Arg K H y t u m ∧ M09.Lv k (vq t u) ∧ ∀ z H', Same H H' → QA K H' z (G (vq t u)) (25 + 116 * (k + d)) → Q z H'
theorem bof_v {K : PySem.W.Frag} {vs : List V} {H : Hp} {Q : VK} {E : XK} (h : spBofV K vs H Q E) : spC1 K vs H Q E := by
  obtain ⟨o, y, F, G, d, a, l, m, k, t, u, rfl, ⟨gs, m1, p1, l1, c1, f1, v1⟩, fg, m2, ar, lv, q⟩ := h
  refine ⟨o, 721, gs, y, rfl, m1, p1, by decide, .inr ⟨t, u, m, m2, ar, fun z H' s qa => q z H' s ?_⟩⟩
  have qa : QA K H' z (M08.f (M08.sw (ptl gs)) (vq t u)) _ := qa
  rw [back_of m1.rise f1 fg] at qa
  exact qa.vbits (lvbits (fg.dG _ _ lv) (Nat.le_refl _))
def spPacV (K : PySem.W.Frag) : Sp := fun vs H Q _ => ∃ (o : Addr) (y : V) (F : Rat → Rat) (ps : List M08.Pt) (a l m : Nat) (t u : Int), vs = [.ref o, y] ∧ MV K H o F a l ∧ M08.Up ps ∧ (∀ x, M08.f ps x = F x) ∧ m ≤ 2000 ∧ Arg K H y t u m ∧ ∀ z H', Same H H' → QA K H' z (M08.sl ps (vq t u)) 2887 → Q z H'
theorem pac_v {K : PySem.W.Frag} {vs : List V} {H : Hp} {Q : VK} {E : XK} (h : spPacV K vs H Q E) : spC2 K vs H Q E := by
  obtain ⟨o, y, F, ps, a, l, m, t, u, rfl, ⟨gs, m1, p1, l1, c1, f1, v1⟩, up, hf, m2, ar, q⟩ := h
  refine ⟨o, 721, gs, y, rfl, m1, p1, by decide, .inr ⟨t, u, m, m2, ar, fun z H' s qa => q z H' s ?_⟩⟩
  rw [M09.sl_ext m1.rise up (fun x => by rw [f1, hf])] at qa
  exact qa
def spMEqV (K : PySem.W.Frag) : Sp := fun vs H Q _ => ∃ (o o2 : Addr) (F F2 : Rat → Rat) (a l a2 l2 : Nat), vs = [.ref o, .ref o2] ∧ MV K H o F a l ∧ MV K H o2 F2 a2 l2 ∧ (∀ x, F x = F2 x) ∧ ∀ H', Same H H' → Q (.bl true) H'
theorem meq_v {K : PySem.W.Frag} {vs : List V} {H : Hp} {Q : VK} {E : XK} (h : spMEqV K vs H Q E) : spMEq K vs H Q E := by
  obtain ⟨o, o2, F, F2, a, l, a2, l2, rfl, ⟨gs, m1, p1, l1, c1, f1, v1⟩, ⟨gs2, m2, p2, q2, c2, f2, v2⟩, e, k⟩ := h
  refine ⟨o, 721, gs, .ref o2, rfl, m1, .inl ⟨o2, 721, gs2, rfl, m2, fun H' s => ?_⟩⟩
  have : ptl gs = ptl gs2 := by
    rw [← c1, ← c2]
    exact M08.std_ext m1.rise m2.rise fun x => by rw [f1, f2, e]
  rw [decide_eq_true this]
  exact k H' s
theorem tm_make0 {K : PySem.W.Frag} {H : Hp} {y dy t0 : Addr} {Q : VK} {E : XK} (ht0 : ∀ H, SqT K H t0 []) (hy : H y = none) (hd : H dy = none) (hne : dy ≠ y)
    (k : ∀ H', Same H H' → MV K H' y (fun x => x) 0 1 → Q .non H') : spTMI K [.ref y, .ref t0] (upd (upd H dy (.own y)) y (.ins (CM K) dy [])) Q E :=
  tm_make (n := 0) (gs := []) (xs := []) ⟨.inr (ht0 H), by decide, rfl, (fun i g e => by cases e), fun i g h e => by cases e⟩ (by decide) hy hd hne fun H' hs s mo e =>
    k H' s (mv_mk (d := 0) (ps := []) mo trivial e (fun _ => rfl) M09.Dg.id (fun p hp => by cases hp) (by decide) (by decide) (by decide))
theorem MeS.imp {P : Program} {w : World} {K : PySem.W.Frag} {mg : Str → Option Value} {base : Heap} {m : Str} {lev : Nat} {ps : List Str} {sp sp' : Sp} {f : Addr} {fd : FuncData} (h : MeS P w K mg base m lev ps sp f fd) (k : ∀ vs H Q E, sp' vs H Q E → sp vs H Q E) : MeS P w K mg base m lev ps sp' f fd := ⟨h.me, h.ok.imp k, h.b⟩
theorem Fn.imp {P : Program} {w : World} {K : PySem.W.Frag} {mg : Str → Option Value} {base : Heap} {x : Str} {lev : Nat} {ps : List Str} {sp sp' : Sp} {f : Addr} {fd : FuncData} (h : Fn P w K mg base x lev ps sp f fd) (k : ∀ vs H Q E, sp' vs H Q E → sp vs H Q E) : Fn P w K mg base x lev ps sp' f fd := ⟨h.ok.imp k, h.g, h.k, h.b⟩
structure EqM (P : Program) (w : World) (K : PySem.W.Frag) (mg : Str → Option Value) (base : Heap) (f : Addr) (fd : FuncData) : Prop where
  at_ : PySem.W.findIn K (.ref (CM K)) "__eq__" = some (some (.ref f))
  fn : PySem.W.isFn K (.ref f) = true
  ok : FnOk P w K mg base (L2.CX P w) 5 f fd ["self", "other"] (spMEq K)
  b : Binds K fd ["self", "other"] []
  ne : PySem.W.findIn K (.ref (CM K)) "__ne__" = some (some (.builtin "object.__ne__"))
  ob : PySem.W.subIn K (.ref (CM K)) (.type "object") = some true
end K09
set_option Elab.async false
set_option linter.all false
set_option maxRecDepth 100000
set_option maxHeartbeats 1000000
set_option exponentiation.threshold 100000
namespace K09
open PySem PySem.Spec PyProof.Rows L2 Fa Fb
abbrev sPai : Stmt := top 44
theorem scPai : FnScope ["_law_amount"] ["_law_amount"] (defScope sPai) := ⟨rfl, rfl, rfl, by decide +kernel, rfl, by decide +kernel, by decide +kernel⟩
abbrev sPas : Stmt := top 45
theorem scPas : FnScope ["_law_points_here", "_law_point", "_law_one", "_law_other"] ["_law_points_here"] (defScope sPas) := ⟨rfl, rfl, rfl, by decide +kernel, rfl, by decide +kernel, by decide +kernel⟩
structure PrF (P : Program) (w : World) (K : PySem.W.Frag) (mg : Str → Option Value) (base : Heap) (f fld : Str) (pa fa : Addr) (fd : FuncData) : Prop where
  pr : PropOf K (CA K) f pa fa
  ok : FnOk P w K mg base (L2.CX P w) 1 fa fd ["self"] (getSp (CA K) fld)
  bi : Binds K fd ["self"] []
def spPai (K : PySem.W.Frag) : Sp := fun vs H Q _ => ∃ y t u n, vs = [y] ∧ IsA K H y t u n ∧ ∀ r H', Same H H' → Fr H' r t u → Q (.ref r) H'
def spPas (K : PySem.W.Frag) : Sp := fun vs H Q _ => ∃ l hs n, vs = [.ref l] ∧ PtL K n H l hs ∧ ∀ r rs H', Same H H' → LsP n H' r rs → ptl rs = ptl hs → Q (.ref r) H'
section
variable {P : Program} {w : World} {K : PySem.W.Frag} {mg : Str → Option Value} {base : Heap} {f fP pT pB fT fB : Addr} {fd fdP fdT fdB : FuncData}
theorem ok_pai (F : FnP K "_law_pair" sPai f fd) (T : AF K mg) (RT : PrF P w K mg base "top" "_top" pT fT fdT) (RB : PrF P w K mg base "bottom" "_bottom" pB fB fdB) : FnOk P w K mg base (L2.CX P w) 3 f fd ["_law_amount"] (spPai K) := by
  refine F.ok scPai (fun vs H Q E h => ?_) (fun cdv A outer s H vs Q E hr h => ?_)
  · obtain ⟨y, t, u, n, rfl, _⟩ := h
    rfl
  · obtain ⟨y, t, u, n, rfl, ⟨py, dy, rfl, hy, rd, _⟩, k⟩ := h
    have hr2 := hr
    refine ⟨_, (pss_one (ps_ret (pe_ifExp (pt_val (pe_isi T.isi (pv 0) (pe_glob (v := .ref (CA K)) rfl T.g rfl))) (pe_tup (pa_cons (pe_prop (pv 0) T.cl RT.pr RT.ok hr2 RT.bi .nil passL rfl) (pa_cons (pe_prop (pv 0) T.cl RB.pr RB.ok hr2 RB.bi .nil passL rfl) pa_nil))) pe_non))), ?_⟩
    refine ⟨_, rfl, _, _, _, _, true, rfl, .own _, T.ty hy, T.kS, true, rfl, iteT ?_⟩
    refine ⟨_, rfl, py, dy, _, rfl, hy, py, dy, _, _, rfl, hy, fl_top _ _, _, rfl, py, dy, _, rfl, hy, py, dy, _, _, rfl, hy, fl_bot _ _, by show 2 ≤ sizeLine; decide, fun lt hlt => ?_⟩
    exact k lt _ (Same.upd hlt) upd_same
theorem ok_pas (F : FnP K "_law_pairs" sPas f fd) (T : AF K mg) (mTu : mg "tuple" = none) (PA : Fn P w K mg base "_law_pair" 3 ["_law_amount"] (spPai K) fP fdP) : FnOk P w K mg base (L2.CX P w) 4 f fd ["_law_points_here"] (spPas K) := by
  refine F.ok scPas (fun vs H Q E h => ?_) (fun cdv A outer s H vs Q E hr h => ?_)
  · obtain ⟨l, hs, n, rfl, _⟩ := h
    rfl
  · obtain ⟨l, hs, n, rfl, hp, k⟩ := h
    have hu : (A.deeper (envOfC "_law_pairs" (defScope sPas) s.heap.objs.size f cdv)).units + 64 < cLine := by
      have := hr.un
      omega
    have hr3 := hr
    refine ⟨_, (pss_cons (ps_if (pt_cmpR (Fk.op_neNil hu) (pe_lc (own := [("_law_point", 1)]) (g := gName 1) (tt := tNot (tB (tCB (rIsi K) (tCons (tVar 1) (tCons (tC (.ty "tuple")) tNil))))) (te := tVar 1) (by rfl) scPas.nd (pi_list (pv 0)) (blkOk_by (own := [("_law_point", 1)]) (N := ["_law_points_here", "_law_point", "_law_one", "_law_other"]) (sc := defScope sPas) (by decide +kernel)) (fun _ _ _ _ _ => (pg_name (i := 1) scPas.nd rfl (Or.inl rfl))) (fun _ _ _ _ _ => pts_one (pt_not (pt_val (pe_isi T.isi (pv 1) (pe_ty mTu (by decide +kernel : bootBuiltins "tuple" = some (.type "tuple"))))))) (fun _ _ _ _ _ => (pv 1))) (pe_lst pa_nil) (nomark _)) (pss_one (ps_ret pe_non)) pss_nil)
      (pss_one (ps_ret (pe_lc (own := [("_law_one", 2), ("_law_other", 3)]) (g := gTup K 2 (gCons (gName 2) (gCons (gName 3) gNil)))  (by rfl) scPas.nd (pi_list (pv 0)) (blkOk_by (own := [("_law_one", 2), ("_law_other", 3)]) (N := ["_law_points_here", "_law_point", "_law_one", "_law_other"]) (sc := defScope sPas) (by decide +kernel)) (fun _ _ _ _ _ => (pg_tup (by rfl) (pgs_cons (pg_name (i := 2) scPas.nd rfl (Or.inl rfl)) (pgs_cons (pg_name (i := 3) scPas.nd rfl (Or.inl rfl)) pgs_nil)))) (fun _ _ _ _ _ => pts_nil) (fun _ _ _ _ _ => (pe_tup (pa_cons (pe_call PA.ok hr3 rfl PA.g PA.k PA.b .nil passL (pa_cons (pv 2) pa_nil)) (pa_cons (pe_call PA.ok hr3 rfl PA.g PA.k PA.b .nil passL (pa_cons (pv 3) pa_nil)) pa_nil)))))))), ?_⟩
    have hsz := hp.n
    refine ⟨_, rfl, l, rfl, ⟨_, SqL.of hp.l⟩, fun D hD => ?_⟩
    refine lc_list (K := K) (a := l) (xs := hs.map fun g => V.ref g.q) (fun i H' => Same H H' ∧ H' D = some (.lst [])) ⟨Same.upd hD, upd_same⟩ (fun i H' _ ⟨s, _⟩ => SqL.of (s _ _ hp.l)) ?_ ?_
    · rintro i x H1 hx ⟨s1, e1⟩
      obtain ⟨g, hg, rfl⟩ := List.mem_map.mp (List.mem_of_getElem? hx)
      refine ⟨rfl, _, rfl, _, _, _, _, true, rfl, .ty "tuple", .base (.tup (s1 _ _ (hp.ok g hg).1)), kT (by decide +kernel), _, rfl, ?_⟩
      exact if_false_of (by rfl) ⟨s1, e1⟩
    · rintro H1 ⟨s1, e1⟩
      refine ⟨by decide, fun e0 he0 => ⟨D, e0, _, rfl, rfl, SqL.of (Same.upd he0 _ _ e1), SqL.of upd_same, _, rfl, if_false_of (by rfl) ?_⟩⟩
      have s2 := Same.upd (o := .lst []) he0
      have s12 := s1.trans s2
      generalize upd H1 e0 (.lst []) = H2 at s2 s12 ⊢
      refine ⟨_, rfl, l, rfl, ⟨_, SqL.of (s12 _ _ hp.l)⟩, fun D2 hD2 => ?_⟩
      have hD2n := none_of s12 hD2
      refine lc_list (K := K) (a := l) (xs := hs.map fun g => V.ref g.q) (fun i H' => Same H H' ∧ ∃ rs : List Pg, rs.length = i ∧ H' D2 = some (.lst (rs.map fun g => V.ref g.q)) ∧ (∀ g ∈ rs, LpP n H' g) ∧ ptl rs = (ptl hs).take i) ⟨s12.trans (Same.upd hD2), [], rfl, upd_same, (fun g hg => by cases hg), rfl⟩ (fun i H' _ ⟨s, _⟩ => SqL.of (s _ _ hp.l)) ?_ ?_
      · rintro i x H3 hx ⟨s3, rs, rn, hr1, hr2', hr3'⟩
        rw [List.getElem?_map] at hx
        cases eg : hs[i]? with
        | none => rw [eg] at hx; cases hx
        | some g =>
          rw [eg] at hx
          obtain rfl := Option.some.inj hx
          have li := (List.getElem?_eq_some_iff.mp eg).1
          obtain ⟨gq, ga, gb⟩ := (hp.ok g (List.mem_of_getElem? eg)).same s3
          obtain ⟨_, _, _, _, rda, ba1, ba2⟩ := id ga
          obtain ⟨_, _, _, _, rdb, bb1, bb2⟩ := id gb
          refine ⟨g.q, _, rfl, SqT.of gq, rfl, _, _, rfl, _, _, rfl, rfl, rfl, ?_⟩
          refine ⟨_, rfl, _, _, _, n, rfl, ga, fun r1 H4 s4 f4 => ?_⟩
          refine ⟨_, rfl, _, _, _, n, rfl, gb.same s4, fun r2 H5 s5 f5 => ?_⟩
          refine ⟨by show 2 ≤ sizeLine; decide, fun t1 ht1 => ?_⟩
          have s6 := Same.upd (o := .tup [.ref r1, .ref r2]) ht1
          have s46 := s4.trans (s5.trans s6)
          have hr6 := s46 _ _ hr1
          have kt : KT (upd H5 t1 (.tup [.ref r1, .ref r2])) (upd (upd H5 t1 (.tup [.ref r1, .ref r2])) D2 (.lst ((rs.map fun g => V.ref g.q) ++ [.ref t1]))) := KT.put hr6
          refine ⟨_, hr6, ?_, same_put (s3.trans s46) hD2n, rs ++ [⟨t1, r1, r2, g.t, g.u, g.t2, g.u2⟩], by rw [List.length_append, rn]; rfl, by rw [upd_same, List.map_append]; rfl, fun h hh => ?_, ?_⟩
          · rw [List.length_map]
            exact Nat.lt_of_lt_of_le (show rs.length < 100 by omega) (by decide)
          · rcases List.mem_append.mp hh with m | m
            · have o := (hr2' h m).same s46
              exact ⟨kt _ _ o.q (fun l z => by cases z), o.a.kt kt, o.b.kt kt⟩
            · rw [List.mem_singleton] at m
              rw [m]
              exact ⟨kt _ _ upd_same (fun l z => by cases z), (show FrP n _ r1 (bq g) from ⟨g.t, g.u, (s5.trans s6) _ _ f4, rda, ba1, ba2, rfl⟩).kt kt, (show FrP n _ r2 (sq g) from ⟨g.t2, g.u2, s6 _ _ f5, rdb, bb1, bb2, rfl⟩).kt kt⟩
          · have et : (ptl hs).take (i + 1) = (ptl hs).take i ++ [(bq g, sq g)] := by
              rw [List.take_succ, ptl_at eg]
              rfl
            rw [et, ← hr3']
            unfold ptl
            rw [List.map_append]
            rfl
      · rintro H3 ⟨s3, rs, rn, hr1, hr2', hr3'⟩
        rw [List.length_map] at rn hr3'
        have e : ptl rs = ptl hs := by
          rw [hr3', List.take_of_length_le (by rw [show (ptl hs).length = hs.length from List.length_map ..]; omega)]
        exact k D2 rs H3 s3 ⟨hr1, hr2', by rw [e]; exact hp.rise, by omega⟩ e
end
end K09
set_option Elab.async false
set_option linter.all false
set_option maxRecDepth 100000
set_option maxHeartbeats 1000000
set_option exponentiation.threshold 100000
namespace K09
open PySem PySem.Spec PyProof.Rows L2 Fa Fb
/-! ### the law's points as data -/
abbrev Z4 : Type := Int × Int × Int × Int
def qd (z : Z4) : PyData := .tuple [.tuple [.int z.1, .int z.2.1], .tuple [.int z.2.2.1, .int z.2.2.2]]
def vz (z : Z4) : M08.Pt := (vq z.1 z.2.1, vq z.2.2.1 z.2.2.2)
def Rz (z : Z4) : Prop := Am.Red z.1 z.2.1 ∧ Am.Red z.2.2.1 z.2.2.2
theorem lp_data {K : PySem.W.Frag} {n : Nat} {H : Hp} {g : Pg} (h : LpP n H g) : ∃ z : Z4, Rz z ∧ vz z = (bq g, sq g) ∧ Dp K H (.ref g.q) (qd z) := by
  obtain ⟨hq, ⟨t, u, a, r, _, _, v⟩, ⟨t2, u2, a2, r2, _, _, v2⟩⟩ := h
  exact ⟨(t, u, t2, u2), ⟨r, r2⟩, by show (vq t u, vq t2 u2) = _; rw [v, v2], .tup (SqT.of hq) (.cons (.tup (SqT.of a) (.cons (.int _) (.cons (.int _) .nil))) (.cons (.tup (SqT.of a2) (.cons (.int _) (.cons (.int _) .nil))) .nil))⟩
theorem ls_data {K : PySem.W.Frag} {n : Nat} {H : Hp} : ∀ (ps : List Pg), (∀ g ∈ ps, LpP n H g) → ∃ zs : List Z4, (∀ z ∈ zs, Rz z) ∧ zs.map vz = ptl ps ∧ DpAll K H (ps.map fun g => V.ref g.q) (zs.map qd)
  | [], _ => ⟨[], (fun z hz => by cases hz), rfl, .nil⟩
  | g :: r, h => by
    obtain ⟨z, z1, z2, z3⟩ := lp_data (K := K) (h g List.mem_cons_self)
    obtain ⟨zs, h1, h2, h3⟩ := ls_data (K := K) r fun x hx => h x (List.mem_cons_of_mem _ hx)
    refine ⟨z :: zs, fun x hx => ?_, ?_, .cons z3 h3⟩
    · rcases List.mem_cons.mp hx with e | m
      · rw [e]; exact z1
      · exact h1 x m
    · show vz z :: zs.map vz = (bq g, sq g) :: ptl r
      rw [z2, h2]
theorem qd_eqv {z w : Z4} (a : Rz z) (b : Rz w) : PyData.eqv (qd z) (qd w) = decide (vz z = vz w) := by
  have e : PyData.eqv (qd z) (qd w) = ((decide (z.1 = w.1) && decide (z.2.1 = w.2.1)) && (decide (z.2.2.1 = w.2.2.1) && decide (z.2.2.2 = w.2.2.2))) := by
    simp [qd, PyData.eqv, PyData.eqvAll]
    try rfl
  rw [e, am_dec a.1 b.1, am_dec a.2 b.2]
  unfold vz
  by_cases c1 : vq z.1 z.2.1 = vq w.1 w.2.1
  · by_cases c2 : vq z.2.2.1 z.2.2.2 = vq w.2.2.1 w.2.2.2
    · rw [decide_eq_true c1, decide_eq_true c2, decide_eq_true (by rw [c1, c2])]
      rfl
    · rw [decide_eq_true c1, decide_eq_false c2, decide_eq_false fun h => c2 (congrArg Prod.snd h)]
      rfl
  · rw [decide_eq_false c1, decide_eq_false fun h => c1 (congrArg Prod.fst h)]
    rfl
theorem all_eqv : ∀ (zs ws : List Z4), (∀ z ∈ zs, Rz z) → (∀ z ∈ ws, Rz z) → PyData.eqvAll (zs.map qd) (ws.map qd) = decide (zs.map vz = ws.map vz)
  | [], [], _, _ => rfl
  | [], _ :: _, _, _ => by
    rw [decide_eq_false (by simp)]
    rfl
  | _ :: _, [], _, _ => by
    rw [decide_eq_false (by simp)]
    rfl
  | z :: zs, w :: ws, h1, h2 => by
    have ih := all_eqv zs ws (fun x hx => h1 x (List.mem_cons_of_mem _ hx)) fun x hx => h2 x (List.mem_cons_of_mem _ hx)
    have e : PyData.eqvAll ((z :: zs).map qd) ((w :: ws).map qd) = (PyData.eqv (qd z) (qd w) && PyData.eqvAll (zs.map qd) (ws.map qd)) := by
      simp [PyData.eqvAll]
    rw [e, ih, qd_eqv (h1 z List.mem_cons_self) (h2 w List.mem_cons_self)]
    show _ = decide (vz z :: zs.map vz = vz w :: ws.map vz)
    by_cases c1 : vz z = vz w
    · by_cases c2 : zs.map vz = ws.map vz
      · rw [decide_eq_true c1, decide_eq_true c2, decide_eq_true (by rw [c1, c2])]
        rfl
      · rw [decide_eq_true c1, decide_eq_false c2, decide_eq_false fun h => c2 (List.cons.inj h).2]
        rfl
    · rw [decide_eq_false c1, decide_eq_false fun h => c1 (List.cons.inj h).1]
      rfl
theorem qd_lay : ∀ zs : List Z4, PyData.canLayAll0 (zs.map qd) = true
  | [] => rfl
  | z :: zs => by
    have ih := qd_lay zs
    show (PyData.canLay0 (qd z) && PyData.canLayAll0 (zs.map qd)) = true
    rw [ih]
    simp [qd, PyData.canLay0, PyData.canLayAll0]
theorem qd_deep : ∀ zs : List Z4, PyData.depthAll (zs.map qd) ≤ 3
  | [] => by simp [PyData.depthAll]
  | z :: zs => by
    have ih := qd_deep zs
    simp [PyData.depthAll, qd, PyData.depth] at ih ⊢
    omega
theorem ls_two {K : PySem.W.Frag} {n m : Nat} {H : Hp} {r r2 : Addr} {ps qs : List Pg} (a : LsP n H r ps) (b : LsP m H r2 qs) : ∃ d e, Dp K H (.ref r) d ∧ Dp K H (.ref r2) e ∧ SeqAt.shaped d = true ∧ SeqAt.shaped e = true ∧ PyData.eqv d e = decide (ptl ps = ptl qs) := by
  obtain ⟨zs, z1, z2, z3⟩ := ls_data (K := K) ps a.ok
  obtain ⟨ws, w1, w2, w3⟩ := ls_data (K := K) qs b.ok
  have sh : ∀ zs : List Z4, SeqAt.shaped (.list (zs.map qd)) = true := fun zs => by
    unfold SeqAt.shaped
    have h1 : PyData.canLay0 (.list (zs.map qd)) = true := by
      simp only [PyData.canLay0]
      exact qd_lay zs
    have h2 : PyData.depth (.list (zs.map qd)) ≤ 64 := by
      have := qd_deep zs
      simp only [PyData.depth]
      omega
    rw [h1, decide_eq_true h2]
    rfl
  refine ⟨_, _, .lst (SqL.of a.l) z3, .lst (SqL.of b.l) w3, sh zs, sh ws, ?_⟩
  show PyData.eqvAll (zs.map qd) (ws.map qd) = _
  rw [all_eqv zs ws z1 w1, z2, w2]
end K09
set_option Elab.async false
set_option linter.all false
set_option maxRecDepth 100000
set_option maxHeartbeats 1000000
set_option exponentiation.threshold 100000
namespace K09
open PySem PySem.Spec PyProof.Rows L2 Fa Fb
abbrev sPrt : Stmt := top 51
theorem scPrt : FnScope ["_law_one", "_law_two", "_law_both", "_law_back", "_law_some", "_law_chained_here", "_law_given_here", "_law_beat", "_law_second", "_law_point"] ["_law_one", "_law_two", "_law_both", "_law_back", "_law_some"] (defScope sPrt) := ⟨rfl, rfl, rfl, by decide +kernel, rfl, by decide +kernel, by decide +kernel⟩
theorem vb_of {t u : Int} {T : Nat} (u0 : 0 < u) (dv : u ∣ 420) (h : t.natAbs ≤ T * u.natAbs) : M06.VB 420 (T * 420) (vq t u) := by
  obtain ⟨k, hk⟩ := dv
  refine ⟨t * k, ?_, ?_⟩
  · have e : ((420 : Nat) : Rat) = (u : Rat) * (k : Rat) := by
      rw [← Rat.intCast_mul, ← hk]
      rfl
    have un : (u : Rat) ≠ 0 := cast_ne (by omega)
    rw [e, Rat.intCast_mul]
    unfold vq
    grind
  · rw [Int.natAbs_mul]
    have h2 : u.natAbs * k.natAbs = 420 := by
      rw [← Int.natAbs_mul, ← hk]
      rfl
    have h3 : t.natAbs * k.natAbs ≤ T * u.natAbs * k.natAbs := Nat.mul_le_mul_right _ h
    rw [Nat.mul_assoc, h2] at h3
    exact h3
def GvOk (K : PySem.W.Frag) (H : Hp) (y : V) : Prop := ∃ t u, IsA K H y t u 141 ∧ M09.Lv 1 (vq t u)
theorem GvOk.same {K : PySem.W.Frag} {H H' : Hp} {y : V} (h : GvOk K H y) (s : Same H H') : GvOk K H' y := let ⟨t, u, a, b⟩ := h; ⟨t, u, a.same s, b⟩
structure PrC (K : PySem.W.Frag) (o1 oB oK S L1 L2 L3 : Addr) (as bs : List Pg) (CH : Addr) (gs : List Pg) (H : Hp) : Prop where
  m1 : MV K H o1 (M08.f (ptl as)) 0 5
  mB : MV K H oB (fun x => M08.f (ptl bs) (M08.f (ptl as) x)) 1 10
  mK : MV K H oK (M08.f (M08.sw (ptl as))) 1 5
  hS : H S = some (.lst [.ref L1, .ref L2, .ref L3])
  l1 : LsP 50 H L1 as
  ch : LsP 373 H CH gs
  fn : ∀ x, M08.f (ptl gs) x = M08.f (ptl bs) (M08.f (ptl as) x)
theorem PrC.same {K : PySem.W.Frag} {o1 oB oK S L1 L2 L3 : Addr} {as bs : List Pg} {CH : Addr} {gs : List Pg} {H H' : Hp} (h : PrC K o1 oB oK S L1 L2 L3 as bs CH gs H) (s : Same H H') : PrC K o1 oB oK S L1 L2 L3 as bs CH gs H' :=
  ⟨h.m1.same s, h.mB.same s, h.mK.same s, s _ _ h.hS, h.l1.same s, h.ch.same s, h.fn⟩
abbrev SP (o1 o2 oB oK S CH : Addr) (v6 v7 : Option V) : L2.St := [some (.ref o1), some (.ref o2), some (.ref oB), some (.ref oK), some (.ref S), some (.ref CH), v6, v7, none, none]
def sPrt2 (Q : VK) (H : Hp) (K : PySem.W.Frag) (o1 o2 oB oK S L1 L2 L3 : Addr) (as bs : List Pg) : TS := fun D σ H' => ∃ (CH : Addr) (gs : List Pg) (v6 v7 : Option V), σ = SP o1 o2 oB oK S CH v6 v7 ∧ Same H H' ∧ PrC K o1 oB oK S L1 L2 L3 as bs CH gs H' ∧ D.rt = Q
def sPrt3 (K : PySem.W.Frag) (o1 o2 oB oK S L1 L2 L3 : Addr) (as bs : List Pg) : TS := fun D σ H' => ∃ (CH : Addr) (gs : List Pg) (x : V) (v7 : Option V), σ = SP o1 o2 oB oK S CH (some x) v7 ∧ PrC K o1 oB oK S L1 L2 L3 as bs CH gs H' ∧ GvOk K H' x ∧ ∀ J v7, Same H' J → D.nx (SP o1 o2 oB oK S CH (some x) v7) J
def spPrt (K : PySem.W.Frag) : Sp := fun vs H Q _ => ∃ (o1 o2 oB oK S L1 L2 L3 : Addr) (as bs : List Pg), vs = [.ref o1, .ref o2, .ref oB, .ref oK, .ref S] ∧ H S = some (.lst [.ref L1, .ref L2, .ref L3]) ∧ LsP 50 H L1 as ∧ LsP 50 H L2 bs ∧ Drw (ptl as) ∧ Drw (ptl bs) ∧
  MV K H o1 (M08.f (ptl as)) 0 5 ∧ MV K H oB (fun x => M08.f (ptl bs) (M08.f (ptl as) x)) 1 10 ∧ MV K H oK (M08.f (M08.sw (ptl as))) 1 5 ∧ ∀ H', Same H H' → Q (.bl true) H'
theorem FrP.of {n : Nat} {K : PySem.W.Frag} {H : Hp} {x : V} {t u : Int} {p : Addr} (i : IsA K H x t u n) {H' : Hp} (f : Fr H' p t u) : FrP n H' p (vq t u) := let ⟨_, _, _, _, r, a, b⟩ := i; ⟨t, u, f, r, a, b, rfl⟩
section
variable {P : Program} {w : World} {K : PySem.W.Frag} {mg : Str → Option Value} {base : Heap} {f f1 f2 f3 f4 f5 f6 fC fO fA : Addr} {fd fd1 fd2 fd3 fd4 fd5 fd6 fdO fdA fdI : FuncData}
theorem ok_prt (F : FnP K "_law_points_right" sPrt f fd) (T : AF K mg) (M : MF K mg) (CN : Fn P w K mg base "_law_chained" 4 ["_law_one", "_law_other"] spChn f1 fd1) (PS : Fn P w K mg base "_law_pairs" 4 ["_law_points_here"] (spPas K) f2 fd2) (PP : Fn P w K mg base "_law_pair" 3 ["_law_amount"] (spPai K) f3 fd3) (BE : Fn P w K mg base "_law_bends" 4 ["_law_points_here"] spBen f4 fd4)
    (LP : Fn P w K mg base "_law_pace" 4 ["_law_points_here", "_law_beat"] spLpc f5 fd5) (QU : Fn P w K mg base "_law_quotient" 2 ["_law_one", "_law_other"] (spBq b21 fun x y => x / y) f6 fd6)
    (PO : MeS P w K mg base "points" 1 ["self"] (spPts K) fO fdO) (PAC : MeS P w K mg base "pace" 9 ["self", "beat"] (spC2 K) fA fdA) (CO : StX.CallO K (CM K) fC) (RC0 : FnR P w K mg base (L2.CX P w) 10 fC (spC0 K))
    (GI : FnOk P w K mg base (L2.CX P w) 4 (aI K) fdI ["self", "top", "bottom"] (spInit K)) (b2 : Binds K fdI ["self", "top", "bottom"] []) {ds : List Value} (hds : Vals [.int 1] ds) (bI : Binds K fdI ["self", "top", "bottom"] ds) :
    FnOk P w K mg base (L2.CX P w) 11 f fd ["_law_one", "_law_two", "_law_both", "_law_back", "_law_some"] (spPrt K) := by
  have PA := PAC.imp (sp' := spPacV K) fun _ _ _ _ => pac_v
  have RC := RC0.imp (sp' := spCalV K) fun _ _ _ _ => cal_v
  refine F.ok scPrt (fun vs H Q E h => ?_) (fun cdv A outer s H vs Q E hr h => ?_)
  · obtain ⟨o1, o2, oB, oK, S, L1, L2, L3, as, bs, rfl, _⟩ := h
    rfl
  · obtain ⟨o1, o2, oB, oK, S, L1, L2, L3, as, bs, rfl, hS, h1, h2, dr, dr2, m1, mB, mK, k⟩ := h
    have hu : (A.deeper (envOfC "_law_points_right" (defScope sPrt) s.heap.objs.size f cdv)).units + 64 < cLine := by
      have := hr.un
      omega
    have hr1 := hr.mono (show 1 ≤ 10 by decide)
    have hr2 := hr.mono (show 2 ≤ 10 by decide)
    have hr3 := hr.mono (show 3 ≤ 10 by decide)
    have hr4 := hr.mono (show 4 ≤ 10 by decide)
    have hr5 := hr.mono (show 5 ≤ 10 by decide)
    have hr9 := hr.mono (show 9 ≤ 10 by decide)
    have hr10 := hr.mono (show 10 ≤ 10 by decide)
    have i0 : ∀ x y : V, atI [x, y] 0 = some x := fun _ _ => rfl
    have j0 : ∀ x y z : V, atI [x, y, z] 0 = some x := fun _ _ _ => rfl
    have j1 : ∀ x y z : V, atI [x, y, z] 1 = some y := fun _ _ _ => rfl
    refine ⟨_, (pss_cons (ps_set (i := 5) scPrt.nd rfl (Or.inl rfl) (pe_call CN.ok hr4 rfl CN.g CN.k CN.b .nil passL (pa_cons (pe_ix ix_list (pv 4) pe_int (fun _ _ => rfl)) (pa_cons (pe_ix ix_list (pv 4) pe_int (fun _ _ => rfl)) pa_nil))))
      (pss_cons (ps_if (pt_cmpR (op_neD hu) (pe_call PS.ok hr4 rfl PS.g PS.k PS.b .nil passL (pa_cons (pe_meth0 (pv 2) M.cl PO.me PO.ok hr1 PO.b .nil passL) pa_nil)) (pe_call BE.ok hr4 rfl BE.g BE.k BE.b .nil passL (pa_cons (pv 5) pa_nil)) (nomark _)) (pss_one (ps_ret pe_bl)) pss_nil)
      (pss_cons (ps_if (pt_cmpR (op_neD hu) (pe_call PS.ok hr4 rfl PS.g PS.k PS.b .nil passL (pa_cons (pe_meth0 (pv 3) M.cl PO.me PO.ok hr1 PO.b .nil passL) pa_nil)) (pe_call BE.ok hr4 rfl BE.g BE.k BE.b .nil passL (pa_cons (pe_lc (own := [("_law_beat", 7), ("_law_second", 8)]) (g := gTup K 2 (gCons (gName 7) (gCons (gName 8) gNil))) (te := tTup (tCons (tVar 8) (tCons (tVar 7) tNil))) (by rfl) scPrt.nd (pi_list (pe_ix ix_list (pv 4) pe_int (fun _ _ => rfl))) (blkOk_by (own := [("_law_beat", 7), ("_law_second", 8)]) (N := ["_law_one", "_law_two", "_law_both", "_law_back", "_law_some", "_law_chained_here", "_law_given_here", "_law_beat", "_law_second", "_law_point"]) (sc := defScope sPrt) (by decide +kernel)) (fun _ _ _ _ _ => (pg_tup (by rfl) (pgs_cons (pg_name (i := 7) scPrt.nd rfl (Or.inl rfl)) (pgs_cons (pg_name (i := 8) scPrt.nd rfl (Or.inl rfl)) pgs_nil)))) (fun _ _ _ _ _ => pts_nil) (fun _ _ _ _ _ => (pe_tup (pa_cons (pv 8) (pa_cons (pv 7) pa_nil))))) pa_nil)) (nomark _)) (pss_one (ps_ret pe_bl)) pss_nil)
      (pss_imp (S := sPrt2 Q H K o1 o2 oB oK S L1 L2 L3 as bs) (pss_cons (ps_for (passes_of rfl) rfl (pi_list (pe_op op_cat (pe_lc (own := [("_law_point", 9)]) (g := gName 9) (te := tOp (rIxT K) (tVar 9) (tC (.int 0))) (by rfl) scPrt.nd (pi_list (pe_op op_cat (pe_meth0 (pv 2) M.cl PO.me PO.ok hr1 PO.b .nil passL) (pe_meth0 (pv 0) M.cl PO.me PO.ok hr1 PO.b .nil passL))) (blkOk_by (own := [("_law_point", 9)]) (N := ["_law_one", "_law_two", "_law_both", "_law_back", "_law_some", "_law_chained_here", "_law_given_here", "_law_beat", "_law_second", "_law_point"]) (sc := defScope sPrt) (by decide +kernel)) (fun _ _ _ _ _ => (pg_name (i := 9) scPrt.nd rfl (Or.inl rfl))) (fun _ _ _ _ _ => pts_nil) (fun _ _ _ _ _ => (pe_ix ix_tup (pv 9) pe_int (fun _ _ => rfl)))) (pe_lst (pa_cons (pe_make T.mkA GI hr5 rfl T.g b2 .nil passL (pa_cons pe_int (pa_cons pe_int pa_nil))) (pa_cons (pe_make T.mkA GI hr5 rfl T.g bI hds passL (pa_cons (pe_un un_neg pe_int) pa_nil)) pa_nil))))) (pg_name (i := 6) scPrt.nd rfl (Or.inl rfl))
      (pss_imp (S := sPrt3 K o1 o2 oB oK S L1 L2 L3 as bs) (pss_cons (ps_set (i := 7) scPrt.nd rfl (Or.inl rfl) (pe_call PP.ok hr3 rfl PP.g PP.k PP.b .nil passL (pa_cons (pv 6) pa_nil)))
      (pss_cons (ps_if (pt_cmpR (op_neD hu) (pe_call PP.ok hr3 rfl PP.g PP.k PP.b .nil passL (pa_cons (pe_meth (pv 2) M.cl PA.me PA.ok hr9 PA.b .nil passL (pa_cons (pv 6) pa_nil)) pa_nil)) (pe_call LP.ok hr4 rfl LP.g LP.k LP.b .nil passL (pa_cons (pv 5) (pa_cons (pv 7) pa_nil))) (nomark _)) (pss_one (ps_ret pe_bl)) pss_nil)
      (pss_one (ps_if (pt_cmpR (op_neD hu) (pe_call PP.ok hr3 rfl PP.g PP.k PP.b .nil passL (pa_cons (pe_meth (pv 3) M.cl PA.me PA.ok hr9 PA.b .nil passL (pa_cons (StX.pe_callO (pv 0) CO RC hr10 passL (pa_cons (pv 6) pa_nil)) pa_nil)) pa_nil)) (pe_call QU.ok hr2 rfl QU.g QU.k QU.b .nil passL (pa_cons (pe_tup (pa_cons pe_int (pa_cons pe_int pa_nil))) (pa_cons (pe_call LP.ok hr4 rfl LP.g LP.k LP.b .nil passL (pa_cons (pe_ix ix_list (pv 4) pe_int (fun _ _ => rfl)) (pa_cons (pv 7) pa_nil))) pa_nil))) (nomark _)) (pss_one (ps_ret pe_bl)) pss_nil)))) ?p3))
      (pss_one (ps_ret pe_bl))) ?p2)))), ?_⟩
    case p3 =>
      rintro D σ H1 ⟨CH, gs, x, v7, rfl, pc, ⟨t, u, ia, lv⟩, kn⟩
      refine ⟨_, rfl, x, t, u, 141, rfl, ia, fun r1 H2 s2 fr2 => ?_⟩
      have pc2 := pc.same s2
      have ia2 := ia.same s2
      have fb2 := FrP.of ia fr2
      obtain ⟨hsB, mB2, _⟩ := pc2.mB.ex
      obtain ⟨dxB, _, _, hoB, _⟩ := id mB2
      refine ⟨_, rfl, oB, dxB, _, rfl, hoB, by rfl, _, rfl, oB, x, _, ptl gs, 1, 10, 141, t, u, rfl, pc2.mB, pc2.ch.up, pc2.fn, by decide, .inl ia2, fun z H3 s3 ⟨zt, zu, iz, ez⟩ => ?_⟩
      refine ⟨z, zt, zu, _, rfl, iz, fun r2 H4 s4 fr4 => ?_⟩
      have s24 := s3.trans s4
      refine ⟨_, rfl, _, rfl, CH, r1, gs, vq t u, 373, rfl, pc2.ch.same s24, (fb2.mono (by decide)).same s24, by decide, fun r3 H5 s5 fr5 => ?_⟩
      obtain ⟨d, e, d1, d2, d3, d4, d5⟩ := ((FrP.of iz fr4).same s5).two (K := K) fr5
      refine ⟨d, e, d1, d2, d3, d4, _, rfl, ?_⟩
      rw [d5, ez]
      refine if_false_of (by simp) ?_
      have s25 := s24.trans s5
      have pc5 := pc2.same s25
      obtain ⟨hsK, mK5, _⟩ := pc5.mK.ex
      obtain ⟨dxK, _, _, hoK, _⟩ := id mK5
      obtain ⟨hs1, m15, _⟩ := pc5.m1.ex
      obtain ⟨dx1, _, _, ho1, _⟩ := id m15
      refine ⟨_, rfl, oK, dxK, _, rfl, hoK, by rfl, _, rfl, o1, rfl, _, rfl, .inr ⟨dx1, _, ho1⟩, o1, x, _, _, 1, 0, 5, 141, 1, t, u, rfl, pc5.m1, dr.fg, by decide, .inl (ia2.same s25), lv, fun y H6 s6 ⟨yt, yu, iy, ey⟩ => ?_⟩
      refine ⟨oK, y, _, M08.sw (ptl as), 1, 5, _, yt, yu, rfl, pc5.mK.same s6, M08.up_sw _ dr.up, fun _ => rfl, by decide, .inl iy, fun y2 H7 s7 ⟨y2t, y2u, iy2, ey2⟩ => ?_⟩
      refine ⟨y2, y2t, y2u, _, rfl, iy2, fun r4 H8 s8 fr8 => ?_⟩
      have s58 := s6.trans (s7.trans s8)
      refine ⟨by show 2 ≤ sizeLine; decide, fun q hq => ?_⟩
      have sq := Same.upd (o := .tup [.int 1, .int 1]) hq
      have eq : upd H8 q (.tup [.int 1, .int 1]) q = some (.tup [.int 1, .int 1]) := upd_same
      generalize upd H8 q (.tup [.int 1, .int 1]) = H9 at sq eq ⊢
      have pc9 := pc5.same (s58.trans sq)
      refine ⟨_, rfl, S, _, _, _, rfl, rfl, SqL.of pc9.hS, j0 _ _ _, _, rfl, L1, r1, as, vq t u, 141, rfl, ?_, fb2.same (s25.trans (s58.trans sq)), by decide, fun r5 H10 s10 fr10 => ?_⟩
      · have l9 := pc9.l1
        exact ⟨l9.l, fun g hg => ⟨(l9.ok g hg).q, (l9.ok g hg).a.mono (by decide), (l9.ok g hg).b.mono (by decide)⟩, l9.up, l9.sz⟩
      refine ⟨q, r5, 1, M08.sl (ptl as) (vq t u), 4 * 141 + 3, rfl, one_fr (s10 _ _ eq) (by decide), fr10, fun z => by
        have := M09.sl_pos _ dr.up (vq t u)
        rw [z] at this
        exact Rat.lt_irrefl this, by decide, fun r6 H11 s11 fr11 => ?_⟩
      obtain ⟨d, e, d1, d2, d3, d4, d5⟩ := ((FrP.of iy2 fr8).same (sq.trans (s10.trans s11))).two (K := K) fr11
      refine ⟨d, e, d1, d2, d3, d4, _, rfl, ?_⟩
      rw [d5, ey2, ey, M08.sl_back _ dr.up]
      refine if_false_of (by simp) ?_
      exact kn _ _ (s2.trans (s25.trans (s58.trans (sq.trans (s10.trans s11)))))
    case p2 =>
      rintro D σ H1 ⟨CH, gs, v6, v7, rfl, s1, pc, hD⟩
      obtain ⟨hsB, mB1, _, lenB, _, _, lvB⟩ := pc.mB.ex
      obtain ⟨dxB, _, _, hoB, _⟩ := id mB1
      refine ⟨_, rfl, oB, dxB, _, rfl, hoB, by rfl, oB, 721, hsB, rfl, mB1, fun lB Ha sa plB nlB => ?_⟩
      have pca := pc.same sa
      obtain ⟨hs1, m1a, _, len1, _, _, lv1⟩ := pca.m1.ex
      obtain ⟨dx1, _, _, ho1, _⟩ := id m1a
      refine ⟨_, rfl, o1, dx1, _, rfl, ho1, by rfl, o1, 721, hs1, rfl, m1a, fun lo Hb sb plo nlo => ?_⟩
      have plBb := plB.same sb
      refine ⟨lB, lo, _, _, rfl, rfl, plBb.l, plo.l, ?_, fun lc hlc => ?_⟩
      · rw [List.length_map, List.length_map]
        have := plB.n
        have := plo.n
        exact Nat.le_trans (show hsB.length + hs1.length ≤ 40 by omega) (by decide)
      obtain ⟨xs, hxs⟩ : ∃ xs, xs = (hsB.map fun g => V.ref g.q) ++ hs1.map fun g => V.ref g.q := ⟨_, rfl⟩
      rw [← hxs]
      have sc := Same.upd (o := .lst xs) hlc
      have ec : upd Hb lc (.lst xs) lc = some (.lst xs) := upd_same
      have lenx : xs.length ≤ 15 := by
        rw [hxs, List.length_append, List.length_map, List.length_map]
        omega
      have okx : ∀ x ∈ xs, ∃ g : Pg, x = .ref g.q ∧ PgOk K 721 (upd Hb lc (.lst xs)) g ∧ M09.Lv 1 (bq g) := fun x hx => by
        rw [hxs] at hx
        rcases List.mem_append.mp hx with m | m
        · obtain ⟨g, hg, rfl⟩ := List.mem_map.mp m
          exact ⟨g, rfl, ((plB.ok g hg).same sb).same sc, lvB g hg⟩
        · obtain ⟨g, hg, rfl⟩ := List.mem_map.mp m
          exact ⟨g, rfl, (plo.ok g hg).same sc, (lv1 g hg).up (by decide)⟩
      clear hxs
      generalize upd Hb lc (.lst xs) = Hc at sc ec okx ⊢
      refine ⟨lc, rfl, ⟨_, SqL.of ec⟩, fun D0 hD0 => ?_⟩
      refine lc_list (K := K) (a := lc) (xs := xs) (fun i H' => Same Hc H' ∧ ∃ ys : List V, H' D0 = some (.lst ys) ∧ ys.length = i ∧ ∀ y ∈ ys, GvOk K Hc y) ⟨Same.upd hD0, [], upd_same, rfl, fun y h => by cases h⟩ (fun i H' _ ⟨s, _⟩ => SqL.of (s _ _ ec)) ?_ ?_
      · rintro i x H2 hx ⟨s2, ys, hy, yn, yok⟩
        have li := (List.getElem?_eq_some_iff.mp hx).1
        obtain ⟨g, rfl, ok, lv⟩ := okx x (List.mem_of_getElem? hx)
        refine ⟨rfl, _, rfl, g.q, _, _, _, rfl, rfl, SqT.of (s2 _ _ ok.1), i0 _ _, _, hy, by rw [yn]; exact Nat.lt_of_lt_of_le (show i < 100 by omega) (by decide), same_put s2 hD0, ys ++ [.ref g.a], upd_same, by rw [List.length_append, yn]; rfl, fun y hy' => ?_⟩
        rcases List.mem_append.mp hy' with m | m
        · exact yok y m
        · rw [List.mem_singleton.mp m]
          exact ⟨_, _, ok.2.1.vbits (lvbits lv (by decide)), lv⟩
      rintro H2 ⟨s2, ys, hy, yn, yok⟩
      refine fun y1 dy1 h1' hd1 n1 => spInit_imp (make_fact T (n := 2) (a := 1) (b := 3) (by decide) (by decide) (by decide) (by decide) h1' hd1 n1) fun w1 H3 ⟨hw1, t1, u1, s3, ia1, e1⟩ => ⟨hw1, ?_⟩
      refine ⟨_, rfl, fun y2 dy2 h2' hd2 n2 => spInit_imp (make_fact T (n := 10) (a := -900) (b := 1) (by decide) (by decide) (by decide) (by decide) h2' hd2 n2) fun w2 H4 ⟨hw2, t2, u2, s4, ia2, e2⟩ => ⟨hw2, ?_⟩⟩
      refine ⟨by show 2 ≤ sizeLine; decide, fun l2 hl2 => ?_⟩
      have s5 := Same.upd (o := .lst [.ref y1, .ref y2]) hl2
      have e5 : upd H4 l2 (.lst [.ref y1, .ref y2]) l2 = some (.lst [.ref y1, .ref y2]) := upd_same
      generalize upd H4 l2 (.lst [.ref y1, .ref y2]) = H5 at s5 e5 ⊢
      have s25 := s3.trans (s4.trans s5)
      refine ⟨D0, l2, _, _, rfl, rfl, s25 _ _ hy, e5, ?_, fun lf hlf => ?_⟩
      · exact Nat.le_trans (show ys.length + 2 ≤ 40 by omega) (by decide)
      have s6 := Same.upd (o := .lst (ys ++ [.ref y1, .ref y2])) hlf
      have e6 : upd H5 lf (.lst (ys ++ [.ref y1, .ref y2])) lf = some (.lst (ys ++ [.ref y1, .ref y2])) := upd_same
      generalize upd H5 lf (.lst (ys ++ [.ref y1, .ref y2])) = H6 at s6 e6 ⊢
      have sc6 : Same Hc H6 := s2.trans (s25.trans s6)
      have s16 := sa.trans (sb.trans (sc.trans sc6))
      have all : ∀ y ∈ ys ++ [.ref y1, .ref y2], GvOk K H6 y := fun y m => by
        rcases List.mem_append.mp m with m | m
        · exact (yok y m).same sc6
        · simp only [List.mem_cons, List.not_mem_nil, or_false] at m
          rcases m with rfl | rfl
          · have ia := ia1.same (s4.trans (s5.trans s6))
            obtain ⟨_, _, _, _, rd, _⟩ := id ia
            obtain ⟨rfl, rfl⟩ := Am.uniq rd (show Am.Red 1 3 from ⟨by decide, by decide⟩) e1
            have lv : M09.Lv 1 (vq 1 3) := (M09.Lv.base (by decide) (vb_of (T := 1) (by decide) (by decide) (by decide))).up (by decide)
            exact ⟨1, 3, ia.mono (by decide), lv⟩
          · have ia := ia2.same (s5.trans s6)
            obtain ⟨_, _, _, _, rd, _⟩ := id ia
            obtain ⟨rfl, rfl⟩ := Am.uniq rd (show Am.Red (-900) 1 from ⟨by decide, by decide⟩) e2
            have lv : M09.Lv 1 (vq (-900) 1) := (M09.Lv.base (by decide) (vb_of (T := 900) (by decide) (by decide) (by decide))).up (by decide)
            exact ⟨-900, 1, ia.mono (by decide), lv⟩
      refine ⟨lf, rfl, ⟨_, SqL.of e6⟩, ?_⟩
      refine for_list (K := K) (a := lf) (xs := ys ++ [.ref y1, .ref y2]) (fun i σ H' => ∃ v6 v7, σ = SP o1 o2 oB oK S CH v6 v7 ∧ Same H6 H') ⟨_, _, rfl, Same.refl _⟩ (fun i σ H' _ ⟨_, _, _, s⟩ => SqL.of (s _ _ e6)) ?_ ?_
      · rintro i x σ H7 hi ⟨v6, v7, rfl, s7⟩
        exact ⟨CH, gs, x, v7, rfl, pc.same (s16.trans s7), (all x (List.mem_of_getElem? hi)).same s7, fun J v7 sJ => ⟨_, _, rfl, s7.trans sJ⟩⟩
      · rintro σ H7 ⟨v6, v7, rfl, s7⟩
        have := k _ (s1.trans (s16.trans s7))
        rw [← hD] at this
        exact this
    have lv1 : ∀ h ∈ as, M09.Lv 0 (bq h) := fun h hh => (dr.lv _ (List.mem_map.mpr ⟨h, hh, rfl⟩)).1
    have lv2 : ∀ h ∈ bs, M09.Lv 0 (bq h) := fun h hh => (dr2.lv _ (List.mem_map.mpr ⟨h, hh, rfl⟩)).1
    have lx : ∀ x, ((∃ h ∈ as, x = bq h) ∨ ∃ h ∈ bs, x = M08.f (pts as) (bq h)) → M09.Lv 1 x := by
      rintro x (⟨h, hh, rfl⟩ | ⟨h, hh, rfl⟩)
      · exact (lv1 h hh).up (by decide)
      · rw [pts_sw]
        exact dr.fg.dG _ _ (lv2 h hh)
    have lenA : as.length ≤ 5 := Nat.le_trans (Nat.le_of_eq (List.length_map ..).symm) dr.l
    have lenB : bs.length ≤ 5 := Nat.le_trans (Nat.le_of_eq (List.length_map ..).symm) dr2.l
    refine ⟨_, rfl, S, _, _, _, rfl, rfl, SqL.of hS, j0 _ _ _, _, rfl, S, _, _, _, rfl, rfl, SqL.of hS, j1 _ _ _, L1, L2, as, bs, 50, 373, rfl, h1, h2, by omega, by decide, by decide, fun h hh => lvbits (lx _ (.inr ⟨h, hh, rfl⟩)) (by decide), fun x hx => ⟨lvbits (k := 2) (dr.fg.dF _ _ (lx x hx)) (by decide), lvbits (k := 3) (dr2.fg.dF _ _ (dr.fg.dF _ _ (lx x hx))) (by decide)⟩, fun H1 CH gs fs s1 lch egs pw mem nCH => ?_⟩
    have fn : ∀ x, M08.f (ptl gs) x = M08.f (ptl bs) (M08.f (ptl as) x) := fun x => by
      rw [egs]
      refine M08.f_then dr.up dr2.up fs pw (fun p hp => ?_) (fun q hq => ?_) x
      · obtain ⟨h, hh, rfl⟩ := List.mem_map.mp hp
        exact (mem _).mpr (.inl ⟨h, hh, rfl⟩)
      · obtain ⟨h, hh, rfl⟩ := List.mem_map.mp hq
        refine ⟨_, (mem _).mpr (.inr ⟨h, hh, rfl⟩), ?_⟩
        rw [pts_sw]
        exact M08.f_inv' _ dr.up _
    have pc : PrC K o1 oB oK S L1 L2 L3 as bs CH gs H1 := ⟨m1.same s1, mB.same s1, mK.same s1, s1 _ _ hS, h1.same s1, lch, fn⟩
    obtain ⟨hsB, mB1, _, lB, cB, fB, _⟩ := pc.mB.ex
    obtain ⟨dxB, _, _, hoB, _⟩ := id mB1
    refine ⟨_, rfl, oB, dxB, _, rfl, hoB, by rfl, oB, 721, hsB, rfl, mB1, fun lB Ha sa plB nlB => ?_⟩
    refine ⟨lB, hsB, 721, rfl, plB, fun rB rsB H3 s3 lrs ers => ?_⟩
    have sa3 := sa.trans s3
    refine ⟨_, rfl, CH, gs, 373, rfl, lch.same sa3, by decide, by decide, fun r2 hs2 H4 s4 l2 e2 => ?_⟩
    obtain ⟨d, e, d1, d2, d3, d4, d5⟩ := ls_two (K := K) (lrs.same s4) l2
    refine ⟨d, e, d1, d2, d3, d4, _, rfl, ?_⟩
    have eB : ptl rsB = ptl hs2 := by
      rw [ers, e2, ← cB]
      exact M08.std_ext mB1.rise lch.up fun x => by rw [fB, fn]
    rw [d5, decide_eq_true eB]
    refine if_false_of (by rfl) ?_
    have pc4 := pc.same (sa3.trans s4)
    obtain ⟨hsK, mK4, _, lK, cK, fK, _⟩ := pc4.mK.ex
    obtain ⟨dxK, _, _, hoK, _⟩ := id mK4
    refine ⟨_, rfl, oK, dxK, _, rfl, hoK, by rfl, oK, 721, hsK, rfl, mK4, fun lK Hb sb plK nlK => ?_⟩
    refine ⟨lK, hsK, 721, rfl, plK, fun rK rsK H5 s5 lrK erK => ?_⟩
    have pc5 := pc4.same (sb.trans s5)
    have ok5 := pc5.l1
    refine ⟨_, rfl, S, _, _, _, rfl, rfl, SqL.of pc5.hS, j0 _ _ _, L1, rfl, ⟨_, SqL.of ok5.l⟩, fun D0 hD0 => ?_⟩
    refine lc_list (K := K) (a := L1) (xs := as.map fun g => V.ref g.q) (fun i H' => Same H5 H' ∧ ∃ zs : List Pg, zs.length = i ∧ H' D0 = some (.lst (zs.map fun (g : Pg) => V.ref g.q)) ∧ (∀ g ∈ zs, LpP 50 H' g) ∧ ptl zs = (pts as).take i) ⟨Same.upd hD0, [], rfl, upd_same, (fun l h => by cases h), rfl⟩ (fun i H' _ ⟨s, _⟩ => SqL.of (s _ _ ok5.l)) ?_ ?_
    · rintro i x H6 hx ⟨s6, zs, zn, ha, ok, ev⟩
      rw [List.getElem?_map] at hx
      obtain ⟨g, eg, rfl⟩ := Option.map_eq_some_iff.mp hx
      have hi := (List.getElem?_eq_some_iff.mp eg).1
      obtain ⟨c1, c2, c3⟩ := (ok5.ok g (List.mem_of_getElem? eg)).same s6
      refine ⟨g.q, _, rfl, SqT.of c1, rfl, _, _, rfl, _, _, rfl, rfl, ?_⟩
      refine ⟨rfl, _, rfl, _, rfl, by show 2 ≤ sizeLine; decide, fun t0 ht0 => ?_⟩
      have s7 := Same.upd (o := .tup [.ref g.b, .ref g.a]) ht0
      have e7 : upd H6 t0 (.tup [.ref g.b, .ref g.a]) t0 = some (.tup [.ref g.b, .ref g.a]) := upd_same
      generalize upd H6 t0 (.tup [.ref g.b, .ref g.a]) = H7 at s7 e7 ⊢
      have ha7 := s7 _ _ ha
      have put : ∀ {z : Pg}, LpP 50 H7 z → LpP 50 (upd H7 D0 (.lst ((zs.map fun (g : Pg) => V.ref g.q) ++ [.ref t0]))) z := fun {z} h => by
        have kk : KT H7 (upd H7 D0 (.lst ((zs.map fun (g : Pg) => V.ref g.q) ++ [.ref t0]))) := KT.put ha7
        exact ⟨kk _ _ h.q (fun l z => by cases z), h.a.kt kk, h.b.kt kk⟩
      refine ⟨_, ha7, ?_, same_put (s6.trans s7) hD0, zs ++ [⟨t0, g.b, g.a, g.t2, g.u2, g.t, g.u⟩], by rw [List.length_append, zn]; rfl, by rw [upd_same, List.map_append]; rfl, fun l hl' => ?_, ?_⟩
      · rw [List.length_map, zn]
        exact Nat.lt_of_lt_of_le (show i < 100 by omega) (by decide)
      · rcases List.mem_append.mp hl' with m | m
        · exact put ((ok l m).same s7)
        · rw [List.mem_singleton.mp m]
          exact put ⟨e7, c3.same s7, c2.same s7⟩
      · have e1 : ptl (zs ++ [⟨t0, g.b, g.a, g.t2, g.u2, g.t, g.u⟩]) = ptl zs ++ [(sq g, bq g)] := by
          unfold ptl
          rw [List.map_append]
          rfl
        rw [e1, ev, List.take_add_one, pts_at eg]
        rfl
    rintro H6 ⟨s6, zs, zn, ha6, ok6, ev6⟩
    rw [List.length_map] at zn
    have ev6 : ptl zs = M08.sw (ptl as) := by
      rw [ev6, List.length_map, ← pts_sw]
      exact List.take_of_length_le (by rw [show (pts as).length = as.length from List.length_map ..]; exact Nat.le_refl _)
    have lz : LsP 50 H6 D0 zs := ⟨ha6, ok6, by rw [ev6]; exact M08.up_sw _ dr.up, by omega⟩
    refine ⟨D0, zs, 50, rfl, lz, by decide, by decide, fun r4 hs4 H7 s7 l4 e4 => ?_⟩
    obtain ⟨d, e, d1, d2, d3, d4, d5⟩ := ls_two (K := K) (lrK.same (s6.trans s7)) l4
    refine ⟨d, e, d1, d2, d3, d4, _, rfl, ?_⟩
    have eK : ptl rsK = ptl hs4 := by
      rw [erK, e4, ev6, ← cK]
      exact M08.std_ext mK4.rise (M08.up_sw _ dr.up) fK
    rw [d5, decide_eq_true eK]
    refine if_false_of (by rfl) ?_
    have s57 := s6.trans s7
    exact ⟨CH, gs, none, none, rfl, s1.trans ((sa3.trans s4).trans ((sb.trans s5).trans s57)), pc5.same s57, rfl⟩
end
end K09
set_option Elab.async false
set_option linter.all false
set_option maxRecDepth 100000
set_option maxHeartbeats 2000000
set_option exponentiation.threshold 100000
namespace K09
open PySem PySem.Spec PyProof.Rows L2 Fa Fb
abbrev sLaw : Stmt := top 52
theorem scLaw : FnScope ["_law_script", "_law_index", "_law_bag_here", "_law_some", "_law_one", "_law_two", "_law_three", "_law_both", "_law_back", "_law_whole", "_law_turn", "_law_beat", "_law_given_here", "_law_second", "_law_last", "_law_points_here"] ["_law_script"] (defScope sLaw) := ⟨rfl, rfl, rfl, by decide +kernel, rfl, by decide +kernel, by decide +kernel⟩
/-- all is kept but a box -/
def KR (H H' : Hp) : Prop := ∀ q o, H q = some o → (∀ a b c : Int, o ≠ .lst [.int a, .int b, .int c]) → H' q = some o
theorem KR.of {H H' : Hp} (s : Same H H') : KR H H' := fun q o h _ => s q o h
theorem KR.kp {H H' : Hp} {p : Addr} {n : Nat} (b : Box H p n) (k : Kp p H H') : KR H H' := fun q o h ne => k q o (fun e => by
  obtain ⟨a, x, c, z, _⟩ := b
  rw [e, z] at h
  exact ne _ _ _ (Option.some.inj h).symm) h
theorem KR.kt {H H' : Hp} (k : KR H H') : KT H H' := fun q o h nl => k q o h fun a b c => nl _
theorem refs_ne (xs : List Addr) (a b c : Int) : HO.lst (xs.map V.ref) ≠ .lst [.int a, .int b, .int c] := fun e => by
  cases xs with
  | nil => cases e
  | cons x r => cases e
theorem refs_pg (xs : List Pg) (a b c : Int) : HO.lst (xs.map fun g => V.ref g.q) ≠ .lst [.int a, .int b, .int c] := fun e => by
  cases xs with
  | nil => cases e
  | cons x r => cases e
theorem IsA.lift {K : PySem.W.Frag} {H H' : Hp} {x : V} {t u : Int} {n : Nat} (h : IsA K H x t u n) (k : KT H H') : IsA K H' x t u n := let ⟨p, dx, e, h1, h2⟩ := h; ⟨p, dx, e, k _ _ h1 (fun l z => by cases z), h2⟩
theorem PtL.kr {K : PySem.W.Frag} {n : Nat} {H H' : Hp} {q : Addr} {gs : List Pg} (h : PtL K n H q gs) (k : KR H H') : PtL K n H' q gs :=
  ⟨k _ _ h.l (refs_pg gs), fun g hg => ⟨k _ _ (h.ok g hg).1 (fun a b c z => by cases z), (h.ok g hg).2.1.lift k.kt, (h.ok g hg).2.2.lift k.kt⟩, h.up, h.n⟩
theorem MapOk.kr {K : PySem.W.Frag} {n : Nat} {H H' : Hp} {o : Addr} {gs : List Pg} (h : MapOk K n H o gs) (k : KR H H') : MapOk K n H' o gs :=
  let ⟨dx, q, r, a, b, hs, c, d⟩ := h; ⟨dx, q, r, k _ _ a (fun a b c z => by cases z), b.kr k, hs, c.kr k, d⟩
theorem MV.kr {K : PySem.W.Frag} {H H' : Hp} {o : Addr} {F : Rat → Rat} {a l : Nat} (h : MV K H o F a l) (k : KR H H') : MV K H' o F a l := let ⟨hs, m, r⟩ := h.ex; ⟨hs, m.kr k, r⟩
theorem LsP.kr {n : Nat} {H H' : Hp} {L : Addr} {ps : List Pg} (h : LsP n H L ps) (k : KR H H') : LsP n H' L ps :=
  ⟨k _ _ h.l (refs_pg ps), fun g hg => ⟨k _ _ (h.ok g hg).q (fun a b c z => by cases z), (h.ok g hg).a.kt k.kt, (h.ok g hg).b.kt k.kt⟩, h.up, h.sz⟩
theorem LsP.mono {n m : Nat} {H : Hp} {L : Addr} {ps : List Pg} (h : LsP n H L ps) (e : n ≤ m) : LsP m H L ps := ⟨h.l, fun g hg => ⟨(h.ok g hg).q, (h.ok g hg).a.mono e, (h.ok g hg).b.mono e⟩, h.up, h.sz⟩
theorem LsP.kt {n : Nat} {H H' : Hp} {L : Addr} {ps : List Pg} (h : LsP n H L ps) (k : KT H H') (e : H' L = H L) : LsP n H' L ps :=
  ⟨by rw [e]; exact h.l, fun g hg => ⟨k _ _ (h.ok g hg).q (fun l z => by cases z), (h.ok g hg).a.kt k, (h.ok g hg).b.kt k⟩, h.up, h.sz⟩
theorem MV.ho {K : PySem.W.Frag} {H : Hp} {o : Addr} {F : Rat → Rat} {a l : Nat} (h : MV K H o F a l) : ∃ dx q r, H o = some (.ins (CM K) dx (mFl q r)) := let ⟨_, ⟨dx, q, r, e, _⟩, _⟩ := h.ex; ⟨dx, q, r, e⟩
/-- a list of instances that grows is no list of points -/
theorem PtL.putO {K : PySem.W.Frag} {n : Nat} {H : Hp} {q D : Addr} {gs : List Pg} {os : List Addr} {o : HO} (h : PtL K n H q gs) (g0 : 0 < gs.length) (hD : H D = some (.lst (os.map V.ref))) (ok : ∀ x ∈ os, ∃ c dx fs, H x = some (.ins c dx fs)) : PtL K n (upd H D o) q gs := by
  have kt : KT H (upd H D o) := KT.put hD
  refine ⟨?_, fun g hg => ⟨kt _ _ (h.ok g hg).1 (fun l z => by cases z), (h.ok g hg).2.1.lift kt, (h.ok g hg).2.2.lift kt⟩, h.up, h.n⟩
  rw [upd_ne fun e => ?_]
  · exact h.l
  · have hl := h.l
    rw [e, hD] at hl
    have e2 : os.map V.ref = gs.map fun g => V.ref g.q := HO.lst.inj (Option.some.inj hl)
    cases gs with
    | nil => cases g0
    | cons g r =>
      cases os with
      | nil => cases e2
      | cons x s =>
        have e3 : x = g.q := V.ref.inj (List.cons.inj e2).1
        obtain ⟨c, dx, fs, hx⟩ := ok x List.mem_cons_self
        have := (h.ok g List.mem_cons_self).1
        rw [← e3, hx] at this
        cases this
theorem MV.putO {K : PySem.W.Frag} {H : Hp} {y D : Addr} {F : Rat → Rat} {a l : Nat} {os : List Addr} {o : List V} (h : MV K H y F a l) (hD : H D = some (.lst (os.map V.ref))) (ok : ∀ x ∈ os, ∃ c dx fs, H x = some (.ins c dx fs)) : MV K (upd H D (.lst o)) y F a l := by
  obtain ⟨hs, ⟨dx, q, r, a1, b1, ts, c1, d1⟩, p1, rest⟩ := h.ex
  have kt : KT H (upd H D (.lst o)) := KT.put hD
  refine ⟨hs, ⟨dx, q, r, kt _ _ a1 (fun l z => by cases z), b1.putO p1 hD ok, ts, c1.putO ?_ hD ok, d1⟩, p1, rest⟩
  have : (ptl ts).length = (ptl hs).length := by
    rw [d1]
    exact List.length_map ..
  unfold ptl at this
  rw [List.length_map, List.length_map] at this
  omega
theorem rat_vb {t u : Int} {i : Nat} (h : RatOk t u i) (hi : i ≤ 5) : M06.VB 420 (2 ^ 22) (vq t u) := by
  have u0 := h.red.1
  have lo := h.lo
  have hi' := h.hi
  have up : t ≤ 5405 * u := by
    refine Int.le_trans hi' (Int.mul_le_mul_of_nonneg_right ?_ (by omega))
    omega
  exact (vb_of (T := 5405) u0 h.dv (by omega)).mono (by decide)
theorem up_ls {H : Hp} {L : Addr} {lps : List Pg} (h : LpL H L lps) (hl : lps.length ≤ 5) : LsP 50 H L lps ∧ Drw (ptl lps) := by
  have po : ∀ g ∈ lps, 0 < g.u ∧ 0 < g.u2 := fun g hg => by
    obtain ⟨i, e⟩ := List.getElem?_of_mem hg
    exact ⟨(h.ok i g e).ra.red.1, (h.ok i g e).rb.red.1⟩
  have up := up_of po h.up
  refine ⟨⟨h.l, fun g hg => ?_, up, by omega⟩, up, fun p hp => ?_, by show (List.map _ lps).length ≤ 5; rw [List.length_map]; exact hl⟩
  · obtain ⟨i, e⟩ := List.getElem?_of_mem hg
    have li := (List.getElem?_eq_some_iff.mp e).1
    have o := h.ok i g e
    obtain ⟨b1, b2⟩ := o.ra.bits (by omega)
    obtain ⟨b3, b4⟩ := o.rb.bits (by omega)
    exact ⟨o.q, ⟨_, _, o.a, o.ra.red, b1, b2, rfl⟩, ⟨_, _, o.b, o.rb.red, b3, b4, rfl⟩⟩
  · obtain ⟨g, hg, rfl⟩ := List.mem_map.mp hp
    obtain ⟨i, e⟩ := List.getElem?_of_mem hg
    have li := (List.getElem?_eq_some_iff.mp e).1
    have o := h.ok i g e
    exact ⟨rat_vb o.ra (by omega), rat_vb o.rb (by omega)⟩
def St16 (sc : Addr) (σ : L2.St) : Prop := ∃ v1 v2 v3 v4 v5 v6 v7 v8 v9 v10 v11 v12 v13 v14 : Option V, σ = [some (.ref sc), v1, v2, v3, v4, v5, v6, v7, v8, v9, v10, v11, v12, v13, v14, none]
structure LwC (K : PySem.W.Frag) (H : Hp) (p : Addr) (n : Nat) (S L1 L2 L3 o1 o2 o3 : Addr) (as bs cs : List Pg) : Prop where
  bx : Box H p n
  hS : H S = some (.lst [.ref L1, .ref L2, .ref L3])
  l1 : LsP 50 H L1 as
  l2 : LsP 50 H L2 bs
  l3 : LsP 50 H L3 cs
  d1 : Drw (ptl as)
  d2 : Drw (ptl bs)
  d3 : Drw (ptl cs)
  m1 : MV K H o1 (M08.f (ptl as)) 0 5
  m2 : MV K H o2 (M08.f (ptl bs)) 0 5
  m3 : MV K H o3 (M08.f (ptl cs)) 0 5
theorem LwC.kr {K : PySem.W.Frag} {H H' : Hp} {p : Addr} {n m : Nat} {S L1 L2 L3 o1 o2 o3 : Addr} {as bs cs : List Pg} (h : LwC K H p n S L1 L2 L3 o1 o2 o3 as bs cs) (k : KR H H') (b : Box H' p m) : LwC K H' p m S L1 L2 L3 o1 o2 o3 as bs cs :=
  ⟨b, k _ _ h.hS (refs_ne [L1, L2, L3]), h.l1.kr k, h.l2.kr k, h.l3.kr k, h.d1, h.d2, h.d3, h.m1.kr k, h.m2.kr k, h.m3.kr k⟩
theorem LwC.same {K : PySem.W.Frag} {H H' : Hp} {p : Addr} {n : Nat} {S L1 L2 L3 o1 o2 o3 : Addr} {as bs cs : List Pg} (h : LwC K H p n S L1 L2 L3 o1 o2 o3 as bs cs) (s : Same H H') : LwC K H' p n S L1 L2 L3 o1 o2 o3 as bs cs := h.kr (KR.of s) (h.bx.sm s)
structure LwD (K : PySem.W.Frag) (H : Hp) (oB oK oW : Addr) (as bs cs : List Pg) : Prop where
  mB : MV K H oB (fun x => M08.f (ptl bs) (M08.f (ptl as) x)) 1 10
  mK : MV K H oK (M08.f (M08.sw (ptl as))) 1 5
  mW : MV K H oW (fun x => M08.f (ptl cs) (M08.f (ptl bs) (M08.f (ptl as) x))) 2 15
theorem LwD.kr {K : PySem.W.Frag} {H H' : Hp} {oB oK oW : Addr} {as bs cs : List Pg} (h : LwD K H oB oK oW as bs cs) (k : KR H H') : LwD K H' oB oK oW as bs cs := ⟨h.mB.kr k, h.mK.kr k, h.mW.kr k⟩
theorem LwD.same {K : PySem.W.Frag} {H H' : Hp} {oB oK oW : Addr} {as bs cs : List Pg} (h : LwD K H oB oK oW as bs cs) (s : Same H H') : LwD K H' oB oK oW as bs cs := h.kr (KR.of s)
abbrev SW (sc : Addr) (v1 : Option V) (p S o1 o2 o3 : Addr) (v7 v8 v9 v10 v11 v12 v13 v14 : Option V) : L2.St := [some (.ref sc), v1, some (.ref p), some (.ref S), some (.ref o1), some (.ref o2), some (.ref o3), v7, v8, v9, v10, v11, v12, v13, v14, none]
def sW1 (K : PySem.W.Frag) (sc : Addr) : TS := fun D σ H1 => ∃ (p S L1 L2 L3 o1 o2 o3 : Addr) (as bs cs : List Pg) (v1 v7 v8 v9 v10 v11 v12 v13 v14 : Option V), σ = SW sc v1 p S o1 o2 o3 v7 v8 v9 v10 v11 v12 v13 v14 ∧ LwC K H1 p 240 S L1 L2 L3 o1 o2 o3 as bs cs ∧ ∀ σ' J, St16 sc σ' → Kp p H1 J → D.nx σ' J
def sW2 (K : PySem.W.Frag) (sc : Addr) : TS := fun D σ H1 => ∃ (p S L1 L2 L3 o1 o2 o3 oB oK oW : Addr) (as bs cs : List Pg) (v1 v10 v11 v12 v13 v14 : Option V), σ = SW sc v1 p S o1 o2 o3 (some (.ref oB)) (some (.ref oK)) (some (.ref oW)) v10 v11 v12 v13 v14 ∧ LwC K H1 p 240 S L1 L2 L3 o1 o2 o3 as bs cs ∧ LwD K H1 oB oK oW as bs cs ∧ ∀ σ' J, St16 sc σ' → Kp p H1 J → D.nx σ' J
def sW3 (K : PySem.W.Frag) (sc : Addr) : TS := fun D σ H1 => ∃ (p S L1 L2 L3 o1 o2 o3 oB oK oW : Addr) (as bs cs : List Pg) (v1 v10 v12 v13 v14 : Option V) (rb : Addr) (q : Rat) (n : Nat), σ = SW sc v1 p S o1 o2 o3 (some (.ref oB)) (some (.ref oK)) (some (.ref oW)) v10 (some (.ref rb)) v12 v13 v14 ∧ LwC K H1 p n S L1 L2 L3 o1 o2 o3 as bs cs ∧ LwD K H1 oB oK oW as bs cs ∧ FrP 50 H1 rb q ∧ M09.Lv 0 q ∧ n ≤ 900 ∧
  ∀ v12 v13 v14 J, Kp p H1 J → Box J p (n + 1) → D.nx (SW sc v1 p S o1 o2 o3 (some (.ref oB)) (some (.ref oK)) (some (.ref oW)) v10 (some (.ref rb)) v12 v13 v14) J
def sW4 (K : PySem.W.Frag) (sc : Addr) : TS := fun D σ H1 => ∃ (p S L1 L2 L3 o1 o2 o3 : Addr) (as bs cs : List Pg) (v1 v7 v8 v9 v10 v11 v12 v13 v14 : Option V) (n : Nat), σ = SW sc v1 p S o1 o2 o3 v7 v8 v9 v10 v11 v12 v13 v14 ∧ LwC K H1 p n S L1 L2 L3 o1 o2 o3 as bs cs ∧ ∀ σ' J, St16 sc σ' → Kp p H1 J → D.nx σ' J
structure FnS2 (P : Program) (w : World) (K : PySem.W.Frag) (mg : Str → Option Value) (base : Heap) (x : Str) (lev : Nat) (ps : List Str) (sp : Sp) (f : Addr) (fd : FuncData) : Prop where
  ok : Fg.FnG P w K mg base (L2.CX P w) lev f fd ps sp
  g : mg x = some (.ref f)
  k : PySem.W.keepIn K (.ref f) = true
  b : Binds K fd ps []
def spLaw (K : PySem.W.Frag) : Sp := fun vs H Q _ => ∃ (a : Addr) (ns : List Int), vs = [.ref a] ∧ SqL K H a (ns.map V.int) ∧ ns.length ≤ 63 ∧ ∀ H', Q (.bl true) H'
theorem QA.eq2 {K : PySem.W.Frag} {H : Hp} {x y : V} {q : Rat} {n m : Nat} (a : QA K H x q n) (b : QA K H y q m) : ∃ t u t2 u2, IsA K H x t u n ∧ IsA K H y t2 u2 m ∧ (decide (t = t2) && decide (u = u2)) = true := by
  obtain ⟨t, u, ia, e⟩ := a
  obtain ⟨t2, u2, ib, e2⟩ := b
  obtain ⟨_, _, _, _, r, _⟩ := id ia
  obtain ⟨_, _, _, _, r2, _⟩ := id ib
  refine ⟨t, u, t2, u2, ia, ib, ?_⟩
  obtain ⟨h1, h2⟩ := vq_inj r r2 (e.trans e2.symm)
  rw [decide_eq_true h1, decide_eq_true h2]
  rfl
section
variable {P : Program} {w : World} {K : PySem.W.Frag} {mg : Str → Option Value} {base : Heap} {f f1 f2 f3 f4 f5 f6 f7 f8 f9 fa fb fc fd_ fe fg_ fC fO fE fM t0 : Addr} {fd fd1 fd2 fd3 fd4 fd5 fd6 fd7 fd8 fd9 fda fdb fdc fdd fde fdg fdO fdE fdM fdI fdF : FuncData}
theorem ok_law (F : FnP K "law" sLaw f fd) (T : AF K mg) (M : MF K mg) (mL : mg "len" = none) (mG : mg "range" = none) (mMax : mg "max" = none) (mMin : mg "min" = none)
    (GC : Fn0 P w K mg base "_law_cell" 1 ["_law_script", "_law_index"] (spCel K) f1 fd1) (GB : Fn0 P w K mg base "_law_bag" 1 ["_law_cell_here"] spBox f2 fd2) (GT : Fn0 P w K mg base "_law_take" 1 ["_law_bag_here", "_law_many"] spTake f3 fd3)
    (GP : Fn P w K mg base "_law_points" 4 ["_law_bag_here", "_law_cap"] spPoi f4 fd4) (GV : Fn P w K mg base "_law_given" 6 ["_law_bag_here", "_law_value"] (spGiv K) f5 fd5) (FN : Fn P w K mg base "_law_fraction" 2 ["_law_bag_here"] spFn f6 fd6)
    (MD0 : Fn P w K mg base "_law_made" 13 ["_law_points_here"] (spMad K) f7 fd7) (LD : Fn P w K mg base "_law_led" 3 ["_law_points_here", "_law_value", "_law_here", "_law_there"] spLed f8 fd8) (LB : Fn P w K mg base "_law_led" 3 ["_law_points_here", "_law_value", "_law_here", "_law_there"] spLedB f8 fd8)
    (PP : Fn P w K mg base "_law_pair" 3 ["_law_amount"] (spPai K) f9 fd9) (PR_ : Fn P w K mg base "_law_points_right" 11 ["_law_one", "_law_two", "_law_both", "_law_back", "_law_some"] (spPrt K) fa fda) (OD : FnS2 P w K mg base "_law_odd_right" 15 ["_law_tempo"] (spOdd K) fb fdb)
    (TH0 : MeS P w K mg base "then" 13 ["self", "other"] (spThn K) fc fdc) (IV0 : MeS P w K mg base "inverse" 13 ["self"] (spInv K) fd_ fdd) (BO0 : MeS P w K mg base "beat_of" 10 ["self", "second"] (spC1 K) fe fde) (CO : StX.CallO K (CM K) fC) (RC0 : FnR P w K mg base (L2.CX P w) 10 fC (spC0 K))
    (EQ : EqK P w K mg base fE fdE) (EM : EqM P w K mg base fM fdM) (GI : FnOk P w K mg base (L2.CX P w) 4 (aI K) fdI ["self", "top", "bottom"] (spInit K)) (b2 : Binds K fdI ["self", "top", "bottom"] [])
    (TM : FnOk P w K mg base (L2.CX P w) 11 (aM K) fdF ["self", "points"] (spTMI K)) {ds : List Value} (hdt : Vals [.ref t0] ds) (bT0 : Binds K fdF ["self", "points"] ds) (ht0 : ∀ H, SqT K H t0 []) : Fg.FnG P w K mg base (L2.CX P w) 16 f fd ["_law_script"] (spLaw K) := by
  have MD := MD0.imp (sp' := spMadV K) fun _ _ _ _ => mad_v
  have TH := TH0.imp (sp' := spThnV K) fun _ _ _ _ => thn_v
  have IV := IV0.imp (sp' := spInvV K) fun _ _ _ _ => inv_v
  have BO := BO0.imp (sp' := spBofV K) fun _ _ _ _ => bof_v
  have RC := RC0.imp (sp' := spCalV K) fun _ _ _ _ => cal_v
  have EV := EM.ok.imp (sp' := spMEqV K) fun _ _ _ _ => meq_v
  refine Fg.okG F scLaw (fun vs H Q E h => ?_) (fun cdv A outer s H vs Q E G hr h => ?_)
  · obtain ⟨sc, ns, rfl, _⟩ := h
    rfl
  · obtain ⟨sc, ns, rfl, ha, hn, kq⟩ := h
    have hu : (A.deeper (envOfC "law" (defScope sLaw) s.heap.objs.size f cdv)).units + 64 < cLine := by
      have := hr.un
      omega
    have hr1 := hr.mono (show 1 ≤ 15 by decide)
    have hr2 := hr.mono (show 2 ≤ 15 by decide)
    have hr3 := hr.mono (show 3 ≤ 15 by decide)
    have hr4 := hr.mono (show 4 ≤ 15 by decide)
    have hr5 := hr.mono (show 5 ≤ 15 by decide)
    have hr6 := hr.mono (show 6 ≤ 15 by decide)
    have hr7 := hr.mono (show 7 ≤ 15 by decide)
    have hr10 := hr.mono (show 10 ≤ 15 by decide)
    have hr11 := hr.mono (show 11 ≤ 15 by decide)
    have hr12 := hr.mono (show 12 ≤ 15 by decide)
    have hr13 := hr.mono (show 13 ≤ 15 by decide)
    have hr15 := hr.mono (show 15 ≤ 15 by decide)
    have i0 : ∀ x y : V, atI [x, y] 0 = some x := fun _ _ => rfl
    have i1 : ∀ x y : V, atI [x, y] 1 = some y := fun _ _ => rfl
    have j0 : ∀ x y z : V, atI [x, y, z] 0 = some x := fun _ _ _ => rfl
    have j1 : ∀ x y z : V, atI [x, y, z] 1 = some y := fun _ _ _ => rfl
    have j2 : ∀ x y z : V, atI [x, y, z] 2 = some z := fun _ _ _ => rfl
    refine ⟨_, (pss_cons (ps_for (passes_of rfl) rfl (pi_range1 rfl mG (pa_cons (pe_callB (call_max2 rfl) rfl mMax (by decide +kernel) (pa_cons pe_int (pa_cons (pe_callB (call_min2 rfl) rfl mMin (by decide +kernel) (pa_cons pe_int (pa_cons (pe_callB call_len rfl mL PySem.boot_len (pa_cons (pv 0) pa_nil)) pa_nil))) pa_nil))) pa_nil)) (pg_name (i := 1) scLaw.nd rfl (Or.inl rfl))
      (pss_cons (ps_set (i := 2) scLaw.nd rfl (Or.inr rfl) (pe_call GB.ok hr1 rfl GB.g GB.k GB.b .nil pass0 (pa_cons (pe_call GC.ok hr1 rfl GC.g GC.k GC.b .nil pass0 (pa_cons (pv 0) (pa_cons (pv 1) pa_nil))) pa_nil)))
      (pss_cons (ps_setLc (i := 3) (own := [("_law_turn", 10)]) (g := gName 10) (te := tCall spPoi [] E0 (tCons (tVar 2) (tCons (tC (.int 5)) tNil))) (by rfl) scLaw.nd rfl rfl (sw_true rfl rfl rfl (by decide +kernel)) (pi_range1 rfl mG (pa_cons pe_int pa_nil)) (blkOk_by (own := [("_law_turn", 10)]) (N := ["_law_script", "_law_index", "_law_bag_here", "_law_some", "_law_one", "_law_two", "_law_three", "_law_both", "_law_back", "_law_whole", "_law_turn", "_law_beat", "_law_given_here", "_law_second", "_law_last", "_law_points_here"]) (sc := defScope sLaw) (by decide +kernel)) (fun _ _ _ _ _ => (pg_name (i := 10) scLaw.nd rfl (Or.inl rfl))) (fun _ _ _ _ _ => pts_nil) (fun _ _ _ _ _ => (pe_call GP.ok hr4 rfl GP.g GP.k GP.b .nil passL (pa_cons (pv 2) (pa_cons pe_int pa_nil)))))
      (pss_cons (ps_asg (pe_lc (own := [("_law_points_here", 15)]) (g := gName 15) (te := tCall (spMadV K) [] E0 (tCons (tVar 15) tNil)) (by rfl) scLaw.nd (pi_list (pv 3)) (blkOk_by (own := [("_law_points_here", 15)]) (N := ["_law_script", "_law_index", "_law_bag_here", "_law_some", "_law_one", "_law_two", "_law_three", "_law_both", "_law_back", "_law_whole", "_law_turn", "_law_beat", "_law_given_here", "_law_second", "_law_last", "_law_points_here"]) (sc := defScope sLaw) (by decide +kernel)) (fun _ _ _ _ _ => (pg_name (i := 15) scLaw.nd rfl (Or.inl rfl))) (fun _ _ _ _ _ => pts_nil) (fun _ _ _ _ _ => (pe_call MD.ok hr13 rfl MD.g MD.k MD.b .nil passL (pa_cons (pv 15) pa_nil)))) (pg_lst (by rfl) (pgs_cons (pg_name (i := 4) scLaw.nd rfl (Or.inl rfl)) (pgs_cons (pg_name (i := 5) scLaw.nd rfl (Or.inl rfl)) (pgs_cons (pg_name (i := 6) scLaw.nd rfl (Or.inl rfl)) pgs_nil)))))
      (pss_imp (S := sW1 K sc) (pss_cons (ps_par (by rfl) scLaw.nd (i := 7) (j := 8) rfl rfl (by decide) rfl rfl (pa_cons (pe_meth (pv 4) M.cl TH.me TH.ok hr13 TH.b .nil passL (pa_cons (pv 5) pa_nil)) (pa_cons (pe_meth0 (pv 4) M.cl IV.me IV.ok hr13 IV.b .nil passL) pa_nil)) (by rfl))
      (pss_cons (ps_set (i := 9) scLaw.nd rfl (Or.inl rfl) (pe_meth (pv 7) M.cl TH.me TH.ok hr13 TH.b .nil passL (pa_cons (pv 6) pa_nil)))
      (pss_cons (ps_if (PW.pt (pw_or (pt_cmp (Fn.pe_neX EM.at_ EM.fn EM.ne EM.ob EV hr7 EM.b passS (pv 9) (pe_meth (pv 4) M.cl TH.me TH.ok hr13 TH.b .nil passL (pa_cons (pe_meth (pv 5) M.cl TH.me TH.ok hr13 TH.b .nil passL (pa_cons (pv 6) pa_nil)) pa_nil)))) (pw_or (pt_cmp (Fn.pe_neX EM.at_ EM.fn EM.ne EM.ob EV hr7 EM.b passS (pe_meth0 (pv 8) M.cl IV.me IV.ok hr13 IV.b .nil passL) (pv 4))) (pw_or1 (pt_cmp (Fn.pe_neX EM.at_ EM.fn EM.ne EM.ob EV hr7 EM.b passS (pe_meth (pv 4) M.cl TH.me TH.ok hr13 TH.b .nil passL (pa_cons (pv 8) pa_nil)) (pe_make0 M.make TM hr12 rfl M.g bT0 hdt passL))))))) (pss_one (ps_ret pe_bl)) pss_nil)
      (pss_cons (ps_if (PW.pt (pw_or (pt_cmp (Fn.pe_neX EM.at_ EM.fn EM.ne EM.ob EV hr7 EM.b passS (pe_meth0 (pv 7) M.cl IV.me IV.ok hr13 IV.b .nil passL) (pe_meth (pe_meth0 (pv 5) M.cl IV.me IV.ok hr13 IV.b .nil passL) M.cl TH.me TH.ok hr13 TH.b .nil passL (pa_cons (pv 8) pa_nil)))) (pw_or1 (pt_cmp (Fn.pe_neX EM.at_ EM.fn EM.ne EM.ob EV hr7 EM.b passS (pe_meth (pv 8) M.cl TH.me TH.ok hr13 TH.b .nil passL (pa_cons (pv 4) pa_nil)) (pe_make0 M.make TM hr12 rfl M.g bT0 hdt passL)))))) (pss_one (ps_ret pe_bl)) pss_nil)
      (pss_cons (ps_if (pt_not (pt_val (pe_call PR_.ok hr11 rfl PR_.g PR_.k PR_.b .nil passL (pa_cons (pv 4) (pa_cons (pv 5) (pa_cons (pv 7) (pa_cons (pv 8) (pa_cons (pv 3) pa_nil)))))))) (pss_one (ps_ret pe_bl)) pss_nil)
      (pss_imp (S := sW2 K sc) (pss_cons (ps_for (passes_of rfl) rfl (pi_range1 rfl mG (pa_cons pe_int pa_nil)) (pg_name (i := 10) scLaw.nd rfl (Or.inl rfl))
      (pss_cons (ps_set (i := 11) scLaw.nd rfl (Or.inl rfl) (pe_call FN.ok hr2 rfl FN.g FN.k FN.b .nil passL (pa_cons (pv 2) pa_nil)))
      (pss_cons (ps_if (PW.pt (pw_and (pt_cmpR op_lt (pv 10) pe_int (nomark _)) (pw_and1 (pt_cmpR (Fk.op_neNil hu) (pe_ix ix_list (pv 3) pe_int (fun _ _ => rfl)) (pe_lst pa_nil) (nomark _))))) (pss_one (ps_set (i := 11) scLaw.nd rfl (Or.inl rfl) (pe_ix ix_tup (pe_ix ix_list (pe_ix ix_list (pv 3) pe_int (fun _ _ => rfl)) (pe_call GT.ok hr1 rfl GT.g GT.k GT.b .nil pass0 (pa_cons (pv 2) (pa_cons (pe_callB call_len rfl mL PySem.boot_len (pa_cons (pe_ix ix_list (pv 3) pe_int (fun _ _ => rfl)) pa_nil)) pa_nil))) (fun _ _ => rfl)) (pv 10) (fun _ _ => rfl)))) pss_nil)
      (pss_imp (S := sW3 K sc) (pss_cons (ps_par (by rfl) scLaw.nd (i := 12) (j := 13) rfl rfl (by decide) rfl rfl (pa_cons (pe_make T.mkA GI hr5 rfl T.g b2 .nil passL (pa_cons (pe_ix ix_tup (pv 11) pe_int (fun _ _ => rfl)) (pa_cons (pe_ix ix_tup (pv 11) pe_int (fun _ _ => rfl)) pa_nil))) (pa_cons (pe_call LD.ok hr3 rfl LD.g LD.k LD.b .nil passL (pa_cons (pe_ix ix_list (pv 3) pe_int (fun _ _ => rfl)) (pa_cons (pv 11) (pa_cons pe_int (pa_cons pe_int pa_nil))))) pa_nil)) (by rfl))
      (pss_cons (ps_set (i := 14) scLaw.nd rfl (Or.inl rfl) (pe_call LD.ok hr3 rfl LD.g LD.k LD.b .nil passL (pa_cons (pe_ix ix_list (pv 3) pe_int (fun _ _ => rfl)) (pa_cons (pv 13) (pa_cons pe_int (pa_cons pe_int pa_nil))))))
      (pss_cons (ps_if (pt_cmpR (op_neD hu) (pe_call PP.ok hr3 rfl PP.g PP.k PP.b .nil passL (pa_cons (pe_meth (pv 4) M.cl BO.me BO.ok hr10 BO.b .nil passL (pa_cons (pe_call GV.ok hr6 rfl GV.g GV.k GV.b .nil passL (pa_cons (pv 2) (pa_cons (pv 11) pa_nil))) pa_nil)) pa_nil)) (pe_call LB.ok hr3 rfl LB.g LB.k LB.b .nil passL (pa_cons (pe_ix ix_list (pv 3) pe_int (fun _ _ => rfl)) (pa_cons (pv 11) (pa_cons pe_int (pa_cons pe_int pa_nil))))) (nomark _)) (pss_one (ps_ret pe_bl)) pss_nil)
      (pss_cons (ps_if (PW.pt (pw_or (pt_cmpR (op_neD hu) (pe_call PP.ok hr3 rfl PP.g PP.k PP.b .nil passL (pa_cons (pe_meth (pv 4) M.cl BO.me BO.ok hr10 BO.b .nil passL (pa_cons (StX.pe_callO (pv 4) CO RC hr10 passL (pa_cons (pv 12) pa_nil)) pa_nil)) pa_nil)) (pv 11) (nomark _)) (pw_or1 (pt_cmpR (op_neD hu) (pe_call PP.ok hr3 rfl PP.g PP.k PP.b .nil passL (pa_cons (StX.pe_callO (pv 4) CO RC hr10 passL (pa_cons (pe_meth (pv 4) M.cl BO.me BO.ok hr10 BO.b .nil passL (pa_cons (pv 12) pa_nil)) pa_nil)) pa_nil)) (pv 11) (nomark _))))) (pss_one (ps_ret pe_bl)) pss_nil)
      (pss_cons (ps_if (PW.pt (pw_or (pt_cmpR (op_neD hu) (pe_call PP.ok hr3 rfl PP.g PP.k PP.b .nil passL (pa_cons (StX.pe_callO (pv 7) CO RC hr10 passL (pa_cons (pv 12) pa_nil)) pa_nil)) (pv 14) (nomark _)) (pw_or1 (pt_cmpR (op_neD hu) (pe_call PP.ok hr3 rfl PP.g PP.k PP.b .nil passL (pa_cons (StX.pe_callO (pv 9) CO RC hr10 passL (pa_cons (pv 12) pa_nil)) pa_nil)) (pe_call LD.ok hr3 rfl LD.g LD.k LD.b .nil passL (pa_cons (pe_ix ix_list (pv 3) pe_int (fun _ _ => rfl)) (pa_cons (pv 14) (pa_cons pe_int (pa_cons pe_int pa_nil))))) (nomark _))))) (pss_one (ps_ret pe_bl)) pss_nil)
      (pss_one (ps_if (PW.pt (pw_or (pt_cmp (Fn.pe_neX EQ.at_ EQ.fn EQ.ne EQ.ob EQ.ok hr3 EQ.b passS (StX.pe_callO (pv 8) CO RC hr10 passL (pa_cons (pv 12) pa_nil)) (pe_meth (pv 4) M.cl BO.me BO.ok hr10 BO.b .nil passL (pa_cons (pv 12) pa_nil)))) (pw_or1 (pt_cmp (Fn.pe_neX EQ.at_ EQ.fn EQ.ne EQ.ob EQ.ok hr3 EQ.b passS (pe_meth (pv 8) M.cl BO.me BO.ok hr10 BO.b .nil passL (pa_cons (pv 12) pa_nil)) (StX.pe_callO (pv 4) CO RC hr10 passL (pa_cons (pv 12) pa_nil))))))) (pss_one (ps_ret pe_bl)) pss_nil))))))) ?c3))))
      (pss_imp (S := sW4 K sc) (pss_one (ps_if (PW.pt (pw_or (pt_not (pt_val (Fg.pe_callG G OD.ok hr15 rfl OD.g OD.k OD.b passS (pa_cons (pv 4) pa_nil)))) (pw_or1 (pt_cmp (Fn.pe_neX EM.at_ EM.fn EM.ne EM.ob EV hr7 EM.b passS (pv 4) (pe_call MD.ok hr13 rfl MD.g MD.k MD.b .nil passL (pa_cons (pe_ix ix_list (pv 3) pe_int (fun _ _ => rfl)) pa_nil))))))) (pss_one (ps_ret pe_bl)) pss_nil)) ?c4)) ?c2)))))) ?c1)))))
      (pss_one (ps_ret pe_bl))), ?_⟩
    case c4 =>
      rintro D σ H1 ⟨p, S, L1, L2, L3, o1, o2, o3, as, bs, cs, v1, v7, v8, v9, v10, v11, v12, v13, v14, n, rfl, c, kn⟩
      obtain ⟨hs1, m1, p1, _⟩ := c.m1.ex
      refine ⟨_, rfl, o1, 721, hs1, rfl, m1, p1, by decide, fun H2 s2 => ⟨_, rfl, if_false_of (by rfl) ?_⟩⟩
      have c2 := c.same s2
      refine ⟨_, rfl, _, rfl, S, _, _, _, rfl, rfl, SqL.of c2.hS, j0 _ _ _, L1, as, rfl, c2.l1, c2.d1, fun H3 y s3 my ny => ?_⟩
      have c3 := c2.same s3
      obtain ⟨dx1, _, _, ho1⟩ := c3.m1.ho
      obtain ⟨dx2, _, _, ho2⟩ := my.ho
      refine ⟨o1, dx1, _, rfl, ho1, .inl ⟨y, dx2, _, rfl, ho2⟩, o1, y, _, _, 0, 5, 0, 5, rfl, c3.m1, my, fun _ => rfl, fun H4 s4 => ⟨_, rfl, _, rfl, if_false_of (by rfl) ?_⟩⟩
      exact kn _ _ ⟨_, _, _, _, _, _, _, _, _, _, _, _, _, _, rfl⟩ (Kp.same (s2.trans (s3.trans s4)))
    case c3 =>
      rintro D σ H1 ⟨p, S, L1, L2, L3, o1, o2, o3, oB, oK, oW, as, bs, cs, v1, v10, v12, v13, v14, rb, q, n, rfl, c, w_, fb, lv, n9, kn⟩
      obtain ⟨t, u, fr, red, bt, bu, eq⟩ := id fb
      refine ⟨_, rfl, rb, _, _, _, rfl, rfl, SqT.of fr, i0 _ _, _, rfl, rb, _, _, _, rfl, rfl, SqT.of fr, i1 _ _, fun y dy hy hd ne => spInit_imp (make_fact T (n := 50) (a := t) (b := u) (Int.ne_of_gt red.1) (by decide) bt bu hy hd ne) fun w1 H2 ⟨hw1, t', u', s2, ia, e1⟩ => ⟨hw1, ?_⟩⟩
      obtain ⟨_, _, _, _, rd', _⟩ := id ia
      obtain ⟨rfl, rfl⟩ := Am.uniq rd' red e1
      have c2 := c.same s2
      refine ⟨_, rfl, S, _, _, _, rfl, rfl, SqL.of c2.hS, j0 _ _ _, _, rfl, L1, rb, as, q, 50, rfl, c2.l1, fb.same s2, by decide, fun r3 H3 s3 fr3 => ?_⟩
      have c3 := c2.same s3
      have lv1 : M09.Lv 1 (M08.f (ptl as) q) := c.d1.fg.dF _ _ lv
      have lv2 : M09.Lv 2 (M08.f (ptl bs) (M08.f (ptl as) q)) := c.d2.fg.dF _ _ lv1
      have fr3 := fr3.vbits (lvbits (B := 141) lv1 (by decide))
      refine ⟨_, _, rfl, _, rfl, S, _, _, _, rfl, rfl, SqL.of c3.hS, j1 _ _ _, _, rfl, L2, r3, bs, _, 141, rfl, c3.l2.mono (by decide), fr3, by decide, fun r4 H4 s4 fr4 => ?_⟩
      have c4 := c3.same s4
      have fr4 := fr4.vbits (lvbits (B := 257) lv2 (by decide))
      have s14 := s2.trans (s3.trans s4)
      have w4 := w_.same s14
      have ia4 := ia.same (s3.trans s4)
      have fb4 := fb.same s14
      obtain ⟨dx1, _, _, ho1⟩ := c4.m1.ho
      refine ⟨_, rfl, o1, dx1, _, rfl, ho1, by rfl, _, rfl, _, rfl, p, rb, t', u', n, 50, rfl, c4.bx, by omega, s14 _ _ fr, red, bt, bu, by decide, by decide, fun y2 H5 k5 b5 ar => ?_⟩
      have r5 := KR.kp c4.bx k5
      have c5 := c4.kr r5 b5
      have w5 := w4.kr r5
      have ia5 := ia4.lift r5.kt
      have fb5 := fb4.kt r5.kt
      have fr5 := fr4.kt r5.kt
      refine ⟨o1, y2, _, _, 1, 0, 5, 50, 0, t', u', rfl, c5.m1, c.d1.fg, by decide, ar, by rw [eq]; exact lv, fun z H6 s6 ⟨zt, zu, iz, ez⟩ => ?_⟩
      refine ⟨z, zt, zu, _, rfl, iz, fun r7 H7 s7 fr7 => ?_⟩
      have c7 := c5.same (s6.trans s7)
      refine ⟨_, rfl, S, _, _, _, rfl, rfl, SqL.of c7.hS, j0 _ _ _, _, rfl, L1, rb, as, q, 50, rfl, c7.l1, fb5.same (s6.trans s7), by decide, fun r8 H8 s8 fr8 => ?_⟩
      obtain ⟨d, e, d1, d2, d3, d4, d5⟩ := ((FrP.of iz fr7).same s8).two (K := K) fr8
      refine ⟨d, e, d1, d2, d3, d4, _, rfl, ?_⟩
      rw [d5, ez, eq, pts_sw]
      refine if_false_of (by simp) ?_
      have s58 := s6.trans (s7.trans s8)
      have c8 := c5.same s58
      have w8 := w5.same s58
      have ia8 := ia5.same s58
      have fb8 := fb5.same s58
      have fr8' := fr5.same s58
      clear fr8 c7 s8 s7 s6
      have lq : M09.Lv 0 (vq t' u') := by rw [eq]; exact lv
      obtain ⟨dx8, _, _, ho8⟩ := c8.m1.ho
      -- beat_of of the second
      refine ⟨_, rfl, o1, dx8, _, rfl, ho8, by rfl, _, rfl, o1, rfl, _, rfl, .inr ⟨dx8, _, ho8⟩, o1, .ref y, _, _, 1, 0, 5, 50, 0, t', u', rfl, c8.m1, c.d1.fg, by decide, .inl ia8, lq, fun z2 H9 s9 ⟨z2t, z2u, iz2, ez2⟩ => ?_⟩
      refine ⟨o1, z2, _, _, 1, 0, 5, _, 1, z2t, z2u, rfl, c8.m1.same s9, c.d1.fg, by decide, .inl iz2, by rw [ez2]; exact c.d1.fg.dF _ _ lq, fun z3 Ha sa ⟨z3t, z3u, iz3, ez3⟩ => ?_⟩
      refine ⟨z3, z3t, z3u, _, rfl, iz3, fun rB Hb sb frB => ?_⟩
      have s8b := s9.trans (sa.trans sb)
      obtain ⟨d, e, d1, d2, d3, d4, d5⟩ := (FrP.of iz3 frB).two (K := K) (fb8.same s8b)
      refine ⟨_, rfl, d, e, d1, d2, d3, d4, _, rfl, ?_⟩
      rw [d5, ez3, ez2, eq, c.d1.fg.gf]
      refine if_false_of (by simp) ?_
      have cb := c8.same s8b
      have iab := ia8.same s8b
      have fbb := fb8.same s8b
      obtain ⟨dxb, _, _, hob⟩ := cb.m1.ho
      refine ⟨_, rfl, o1, rfl, _, rfl, o1, dxb, _, rfl, hob, by rfl, _, rfl, o1, .ref y, _, _, 1, 0, 5, 50, 0, t', u', rfl, cb.m1, c.d1.fg, by decide, .inl iab, lq, fun z4 Hc sc_ ⟨z4t, z4u, iz4, ez4⟩ => ?_⟩
      refine ⟨.inr ⟨dxb, _, sc_ _ _ hob⟩, o1, z4, _, _, 1, 0, 5, _, 1, z4t, z4u, rfl, cb.m1.same sc_, c.d1.fg, by decide, .inl iz4, by rw [ez4]; exact c.d1.fg.dG _ _ lq, fun z5 Hd sd ⟨z5t, z5u, iz5, ez5⟩ => ?_⟩
      refine ⟨z5, z5t, z5u, _, rfl, iz5, fun rE He_ se frE => ?_⟩
      have sbe := sc_.trans (sd.trans se)
      obtain ⟨d, e, d1, d2, d3, d4, d5⟩ := (FrP.of iz5 frE).two (K := K) (fbb.same sbe)
      refine ⟨_, rfl, d, e, d1, d2, d3, d4, _, rfl, ?_⟩
      rw [d5, ez5, ez4, eq, c.d1.fg.fg]
      refine if_false_of (by simp) ?_
      have s8e := s8b.trans sbe
      have ce := c8.same s8e
      have we := w8.same s8e
      have iae := ia8.same s8e
      have fre := fr8'.same s8e
      -- both and the whole
      obtain ⟨dxB, _, _, hoB⟩ := we.mB.ho
      refine ⟨_, rfl, oB, rfl, _, rfl, .inr ⟨dxB, _, hoB⟩, oB, .ref y, _, _, 2, 1, 10, 50, 0, t', u', rfl, we.mB, c.d1.fg.comp c.d2.fg, by decide, .inl iae, lq, fun z6 Hf sf ⟨z6t, z6u, iz6, ez6⟩ => ?_⟩
      refine ⟨z6, z6t, z6u, _, rfl, iz6, fun rG Hg sg frG => ?_⟩
      have sg2 := sf.trans sg
      obtain ⟨d, e, d1, d2, d3, d4, d5⟩ := (FrP.of iz6 frG).two (K := K) (fre.same sg2)
      refine ⟨_, rfl, d, e, d1, d2, d3, d4, _, rfl, ?_⟩
      rw [d5, ez6, eq]
      refine if_false_of (by simp) ?_
      have wg := we.same sg2
      have iag := iae.same sg2
      obtain ⟨dxW, _, _, hoW⟩ := wg.mW.ho
      refine ⟨_, rfl, oW, rfl, _, rfl, .inr ⟨dxW, _, hoW⟩, oW, .ref y, _, _, 3, 2, 15, 50, 0, t', u', rfl, wg.mW, (c.d1.fg.comp c.d2.fg).comp c.d3.fg, by decide, .inl iag, lq, fun z7 Hh sh ⟨z7t, z7u, iz7, ez7⟩ => ?_⟩
      refine ⟨z7, z7t, z7u, _, rfl, iz7, fun rI Hi si frI => ?_⟩
      have sgi := sh.trans si
      have ci := ce.same (sg2.trans sgi)
      refine ⟨_, rfl, S, _, _, _, rfl, rfl, SqL.of ci.hS, j2 _ _ _, _, rfl, L3, r4, cs, _, 257, rfl, ci.l3.mono (by decide), fre.same (sg2.trans sgi), by decide, fun rJ Hj sj frJ => ?_⟩
      obtain ⟨d, e, d1, d2, d3, d4, d5⟩ := ((FrP.of iz7 frI).same sj).two (K := K) frJ
      refine ⟨d, e, d1, d2, d3, d4, _, rfl, ?_⟩
      rw [d5, ez7, eq]
      refine if_false_of (by simp) ?_
      have sej := sg2.trans (sgi.trans sj)
      have cj := ce.same sej
      have wj := we.same sej
      have iaj := iae.same sej
      -- back
      obtain ⟨dxK, _, _, hoK⟩ := wj.mK.ho
      refine ⟨_, rfl, oK, rfl, _, rfl, .inr ⟨dxK, _, hoK⟩, oK, .ref y, _, _, 1, 1, 5, 50, 0, t', u', rfl, wj.mK, c.d1.fg.inv, by decide, .inl iaj, lq, fun z8 Hk sk qa8 => ?_⟩
      have ck := cj.same sk
      obtain ⟨dxk, _, _, hok⟩ := ck.m1.ho
      refine ⟨_, rfl, o1, dxk, _, rfl, hok, by rfl, _, rfl, o1, .ref y, _, _, 1, 0, 5, 50, 0, t', u', rfl, ck.m1, c.d1.fg, by decide, .inl (iaj.same sk), lq, fun z9 Hl sl qa9 => ?_⟩
      obtain ⟨x1, x2, x3, x4, ix, iy, exy⟩ := (qa8.same sl).eq2 qa9
      obtain ⟨pa, da, ea, hpa, _⟩ := id ix
      obtain ⟨pb, db, eb, hpb, _⟩ := id iy
      subst ea
      subst eb
      refine ⟨pa, da, _, rfl, hpa, .inl ⟨pb, db, _, rfl, hpb⟩, .ref pa, .ref pb, x1, x2, _, rfl, ix, .inl ⟨x3, x4, _, iy, ?_⟩⟩
      rw [exy]
      refine ⟨_, rfl, _, rfl, if_false_of (by rfl) ?_⟩
      clear exy ix iy hpa hpb qa8 qa9
      have skl := sk.trans sl
      have cl_ := cj.same skl
      have wl := wj.same skl
      have ial := iaj.same skl
      obtain ⟨dxl, _, _, hol⟩ := wl.mK.ho
      refine ⟨_, rfl, oK, dxl, _, rfl, hol, by rfl, _, rfl, oK, .ref y, _, _, 1, 1, 5, 50, 0, t', u', rfl, wl.mK, c.d1.fg.inv, by decide, .inl ial, lq, fun w8_ Hm sm qa8 => ?_⟩
      have cm_ := cl_.same sm
      obtain ⟨dxm, _, _, hom⟩ := cm_.m1.ho
      refine ⟨_, rfl, o1, rfl, _, rfl, .inr ⟨dxm, _, hom⟩, o1, .ref y, _, _, 1, 0, 5, 50, 0, t', u', rfl, cm_.m1, c.d1.fg, by decide, .inl (ial.same sm), lq, fun w9_ Hn sn qa9 => ?_⟩
      obtain ⟨x1, x2, x3, x4, ix, iy, exy⟩ := (qa8.same sn).eq2 qa9
      obtain ⟨pa, da, ea, hpa, _⟩ := id ix
      obtain ⟨pb, db, eb, hpb, _⟩ := id iy
      subst ea
      subst eb
      refine ⟨pa, da, _, rfl, hpa, .inl ⟨pb, db, _, rfl, hpb⟩, .ref pa, .ref pb, x1, x2, _, rfl, ix, .inl ⟨x3, x4, _, iy, ?_⟩⟩
      rw [exy]
      refine ⟨_, rfl, _, rfl, if_false_of (by rfl) ?_⟩
      have s5n := s58.trans (s8e.trans (sej.trans (skl.trans (sm.trans sn))))
      exact kn _ _ _ Hn ((Kp.same s14).trans (k5.trans (Kp.same s5n))) (b5.sm s5n)
    case c2 =>
      rintro D σ H1 ⟨p, S, L1, L2, L3, o1, o2, o3, oB, oK, oW, as, bs, cs, v1, v10, v11, v12, v13, v14, rfl, c, w_, kn⟩
      refine ⟨6, rfl, by decide, by decide, ?_⟩
      refine for_range (lo := 0) (n := 6) (fun i σ H' => ∃ v10 v11 v12 v13 v14, σ = SW sc v1 p S o1 o2 o3 (some (.ref oB)) (some (.ref oK)) (some (.ref oW)) v10 v11 v12 v13 v14 ∧ Kp p H1 H' ∧ Box H' p (240 + 5 * i)) ⟨_, _, _, _, _, rfl, Kp.refl _ _, c.bx⟩ ?_ ?_
      · rintro i σ H2 hi ⟨v10, v11, v12, v13, v14, rfl, k2, b2'⟩
        have c2 := c.kr (KR.kp c.bx k2) b2'
        have w2 := w_.kr (KR.kp c.bx k2)
        refine ⟨_, rfl, p, _, rfl, b2', by omega, fun r t u H3 k3 b3 red ht hu_ fr => ?_⟩
        have c3 := c2.kr (KR.kp b2' k3) b3
        have w3 := w2.kr (KR.kp b2' k3)
        have u0 := red.1
        have k13 := k2.trans k3
        have fin : ∀ (v10' : Option V) (rb : Addr) (q : Rat) (H4 : Hp), Kp p H3 H4 → Box H4 p (240 + 5 * i + 3 + 1) → FrP 50 H4 rb q → M09.Lv 0 q → ∀ D', (∀ v12 v13 v14 J, Kp p H1 J → Box J p (240 + 5 * (i + 1)) → D'.nx (SW sc v1 p S o1 o2 o3 (some (.ref oB)) (some (.ref oK)) (some (.ref oW)) v10' (some (.ref rb)) v12 v13 v14) J) →
            sW3 K sc D' (SW sc v1 p S o1 o2 o3 (some (.ref oB)) (some (.ref oK)) (some (.ref oW)) v10' (some (.ref rb)) v12 v13 v14) H4 := fun v10' rb q H4 k4 b4 fp lv D' kd =>
          ⟨p, S, L1, L2, L3, o1, o2, o3, oB, oK, oW, as, bs, cs, v1, v10', v12, v13, v14, rb, q, _, rfl, c3.kr (KR.kp b3 k4) b4, w3.kr (KR.kp b3 k4), fp, lv, by omega, fun v12 v13 v14 J kJ bJ => kd v12 v13 v14 J (k13.trans (k4.trans kJ)) (bJ.mono (by omega))⟩
        have fp3 : FrP 50 H3 r (vq t u) := ⟨t, u, fr, red, Nat.lt_of_le_of_lt ht (by decide), Nat.lt_of_le_of_lt hu_ (by decide), rfl⟩
        have lv3 : M09.Lv 0 (vq t u) := M09.Lv.base (by decide) (vb_of (T := 900) u0 (dv7 u0 (by omega)) (by omega))
        refine ⟨_, rfl, _, _, rfl, rfl, _, rfl, ite2 (fun c1 => ?_) (fun _ => fin _ r _ H3 (Kp.refl _ _) (b3.mono (by omega)) fp3 lv3 _ fun v12 v13 v14 J kJ bJ => ⟨_, _, _, _, _, rfl, kJ, bJ⟩)⟩
        refine ⟨_, rfl, S, _, _, _, rfl, rfl, SqL.of c3.hS, j0 _ _ _, by decide, fun l0 hl0 => ?_⟩
        have s4 := Same.upd (o := .lst []) hl0
        refine ⟨L1, l0, _, rfl, rfl, SqL.of (s4 _ _ c3.l1.l), SqL.of upd_same, _, rfl, ?_⟩
        have b4 := b3.sm s4
        generalize upd H3 l0 (.lst []) = H4 at s4 b4 ⊢
        have c4 := c3.same s4
        refine ite2 (fun c2' => ?_) (fun _ => fin _ r _ H4 (Kp.same s4) (b4.mono (by omega)) (fp3.same s4) lv3 _ fun v12 v13 v14 J kJ bJ => ⟨_, _, _, _, _, rfl, kJ, bJ⟩)
        have i2 : i < 2 := by
          have := of_decide_eq_true c1
          omega
        have as0 : 0 < as.length := by
          cases as with
          | nil => cases c2'
          | cons _ _ => exact Nat.succ_pos _
        have lenA : as.length ≤ 5 := Nat.le_trans (Nat.le_of_eq (List.length_map ..).symm) c.d1.l
        refine ⟨_, rfl, S, _, _, _, rfl, rfl, SqL.of c4.hS, j0 _ _ _, _, rfl, _, rfl, S, _, _, _, rfl, rfl, SqL.of c4.hS, j0 _ _ _, _, _, rfl, .inl ⟨_, SqL.of c4.l1.l, rfl⟩, p, _, _, rfl, b4, by omega, by rw [List.length_map]; omega, by rw [List.length_map]; exact Int.lt_trans (show (as.length : Int) < 6 by omega) (by decide), fun z H5 z0 z1 b5 k5 => ?_⟩
        rw [List.length_map] at z1
        have r5 := KR.kp b4 (Kp.but k5)
        have c5 := c4.kr r5 b5
        obtain ⟨j, rfl⟩ := Int.eq_ofNat_of_zero_le z0
        have hj : j < as.length := by omega
        have eg : as[j]? = some as[j] := List.getElem?_eq_getElem hj
        have ok := c5.l1.ok _ (List.getElem_mem hj)
        have drl := c.d1.lv _ (List.mem_map.mpr ⟨as[j], List.getElem_mem hj, rfl⟩)
        have k35 : Kp p H3 H5 := (Kp.same s4).trans (Kp.but k5)
        have ci : i = 0 ∨ i = 1 := by omega
        rcases ci with rfl | rfl
        · exact ⟨L1, _, _, _, rfl, rfl, SqL.of c5.l1.l, atI_nat (by rw [List.getElem?_map, eg]; rfl), _, rfl, as[j].q, _, _, _, rfl, rfl, SqT.of ok.q, i0 _ _, fin _ _ _ H5 k35 (b5.mono (by omega)) ok.a drl.1 _ fun v12 v13 v14 J kJ bJ => ⟨_, _, _, _, _, rfl, kJ, bJ⟩⟩
        · exact ⟨L1, _, _, _, rfl, rfl, SqL.of c5.l1.l, atI_nat (by rw [List.getElem?_map, eg]; rfl), _, rfl, as[j].q, _, _, _, rfl, rfl, SqT.of ok.q, i1 _ _, fin _ _ _ H5 k35 (b5.mono (by omega)) ok.b drl.2 _ fun v12 v13 v14 J kJ bJ => ⟨_, _, _, _, _, rfl, kJ, bJ⟩⟩
      · rintro σ H2 ⟨v10, v11, v12, v13, v14, rfl, k2, b2'⟩
        exact ⟨p, S, L1, L2, L3, o1, o2, o3, as, bs, cs, _, _, _, _, _, _, _, _, _, _, rfl, c.kr (KR.kp c.bx k2) b2', fun σ' J st kJ => kn σ' J st (k2.trans kJ)⟩
    case c1 =>
      rintro D σ H1 ⟨p, S, L1, L2, L3, o1, o2, o3, as, bs, cs, v1, v7, v8, v9, v10, v11, v12, v13, v14, rfl, c, kn⟩
      have f1 := c.d1.fg
      have f2 := c.d2.fg
      have f3 := c.d3.fg
      obtain ⟨dx1, _, _, ho1⟩ := c.m1.ho
      refine ⟨_, rfl, o1, dx1, _, rfl, ho1, by rfl, _, rfl, o1, o2, _, _, _, _, 1, 1, 0, 0, 1, 5, 5, rfl, c.m1, c.m2, f1, f2, by decide, by decide, by decide, by decide, fun H2 oB s2 mB nB => ?_⟩
      have c2 := c.same s2
      refine ⟨_, rfl, o1, dx1, _, rfl, s2 _ _ ho1, by rfl, o1, _, _, 1, 0, 5, rfl, c2.m1, f1, by decide, fun H3 oK s3 mK nK => ?_⟩
      have c3 := c2.same s3
      have mB3 := mB.same s3
      obtain ⟨dxB, _, _, hoB⟩ := mB3.ho
      refine ⟨_, _, rfl, _, rfl, oB, dxB, _, rfl, hoB, by rfl, _, rfl, oB, o3, _, _, _, _, 2, 1, 1, 0, 2, 10, 5, rfl, mB3, c3.m3, f1.comp f2, f3, by decide, by decide, by decide, by decide, fun H4 oW s4 mW nW => ?_⟩
      have c4 := c3.same s4
      have w4 : LwD K H4 oB oK oW as bs cs := ⟨mB3.same s4, mK.same s4, mW⟩
      have s14 := s2.trans (s3.trans s4)
      clear mB3 hoB dxB mW mK mB
      obtain ⟨dxa, _, _, hoa⟩ := c4.m1.ho
      obtain ⟨dxb, _, _, hob⟩ := c4.m2.ho
      refine ⟨_, rfl, _, rfl, o1, dxa, _, rfl, hoa, by rfl, _, rfl, o2, dxb, _, rfl, hob, by rfl, _, rfl, o2, o3, _, _, _, _, 1, 1, 0, 0, 1, 5, 5, rfl, c4.m2, c4.m3, f2, f3, by decide, by decide, by decide, by decide, fun H5 x5 s5 m5 n5 => ?_⟩
      refine ⟨o1, x5, _, _, _, _, 1, 2, 0, 1, 2, 5, 10, rfl, c4.m1.same s5, m5, f1, f2.comp f3, by decide, by decide, by decide, by decide, fun H6 x6 s6 m6 n6 => ?_⟩
      have w6 := w4.same (s5.trans s6)
      obtain ⟨dxw, _, _, how⟩ := w6.mW.ho
      obtain ⟨dx6, _, _, ho6⟩ := m6.ho
      refine ⟨oW, dxw, _, rfl, how, .inl ⟨x6, dx6, _, rfl, ho6⟩, oW, x6, _, _, 2, 15, 2, 15, rfl, w6.mW, m6, fun _ => rfl, fun H7 s7 => ⟨_, rfl, _, rfl, if_false_of (by rfl) ?_⟩⟩
      have s47 := s5.trans (s6.trans s7)
      have c7 := c4.same s47
      have w7 := w4.same s47
      obtain ⟨dxk, _, _, hok⟩ := w7.mK.ho
      refine ⟨_, rfl, oK, dxk, _, rfl, hok, by rfl, oK, _, _, 1, 1, 5, rfl, w7.mK, f1.inv, by decide, fun H8 x8 s8 m8 n8 => ?_⟩
      obtain ⟨dx8, _, _, ho8⟩ := m8.ho
      obtain ⟨dx8', _, _, ho8'⟩ := (c7.m1.same s8).ho
      refine ⟨_, rfl, x8, dx8, _, rfl, ho8, .inl ⟨o1, dx8', _, rfl, ho8'⟩, x8, o1, _, _, 2, 5, 0, 5, rfl, m8, c7.m1.same s8, fun _ => rfl, fun H9 s9 => ⟨_, rfl, _, rfl, if_false_of (by rfl) ?_⟩⟩
      have s79 := s8.trans s9
      have c9 := c7.same s79
      have w9 := w7.same s79
      obtain ⟨dx9, _, _, ho9⟩ := c9.m1.ho
      refine ⟨_, rfl, o1, dx9, _, rfl, ho9, by rfl, _, rfl, o1, oK, _, _, _, _, 1, 1, 0, 1, 2, 5, 5, rfl, c9.m1, w9.mK, f1, f1.inv, by decide, by decide, by decide, by decide, fun Ha xa sa ma na => ?_⟩
      refine fun y dy hy hdy hne => tm_make0 ht0 hy hdy hne fun Hb sb mb => ⟨rfl, ?_⟩
      have ma' := ma.same sb
      obtain ⟨dxa', _, _, hoa'⟩ := ma'.ho
      obtain ⟨dxb', _, _, hob'⟩ := mb.ho
      refine ⟨xa, dxa', _, rfl, hoa', .inl ⟨y, dxb', _, rfl, hob'⟩, xa, y, _, _, 2, 10, 0, 1, rfl, ma', mb, f1.gf, fun Hc sc_ => ⟨_, rfl, _, rfl, if_false_of (by rfl) ?_⟩⟩
      have s9c := sa.trans (sb.trans sc_)
      have cc := c9.same s9c
      have wc := w9.same s9c
      -- the second if
      obtain ⟨dxB, _, _, hoB⟩ := wc.mB.ho
      refine ⟨_, rfl, oB, dxB, _, rfl, hoB, by rfl, oB, _, _, 2, 1, 10, rfl, wc.mB, f1.comp f2, by decide, fun Hd xd sd md nd => ?_⟩
      have cd := cc.same sd
      obtain ⟨dxd, _, _, hod⟩ := cd.m2.ho
      refine ⟨_, rfl, o2, dxd, _, rfl, hod, by rfl, o2, _, _, 1, 0, 5, rfl, cd.m2, f2, by decide, fun He_ xe se me ne => ?_⟩
      obtain ⟨dxe, _, _, hoe⟩ := me.ho
      refine ⟨xe, dxe, _, rfl, hoe, by rfl, _, rfl, xe, oK, _, _, _, _, 1, 1, 1, 1, 2, 5, 5, rfl, me, wc.mK.same (sd.trans se), f2.inv, f1.inv, by decide, by decide, by decide, by decide, fun Hf xf sf mf nf => ?_⟩
      have md' := md.same (se.trans sf)
      obtain ⟨dxd', _, _, hod'⟩ := md'.ho
      obtain ⟨dxf, _, _, hof⟩ := mf.ho
      refine ⟨xd, dxd', _, rfl, hod', .inl ⟨xf, dxf, _, rfl, hof⟩, xd, xf, _, _, 3, 10, 2, 10, rfl, md', mf, fun _ => rfl, fun Hg sg => ⟨_, rfl, _, rfl, if_false_of (by rfl) ?_⟩⟩
      have scg := sd.trans (se.trans (sf.trans sg))
      have cg := cc.same scg
      have wg := wc.same scg
      obtain ⟨dxg, _, _, hog⟩ := wg.mK.ho
      refine ⟨_, rfl, oK, dxg, _, rfl, hog, by rfl, _, rfl, oK, o1, _, _, _, _, 1, 1, 1, 0, 1, 5, 5, rfl, wg.mK, cg.m1, f1.inv, f1, by decide, by decide, by decide, by decide, fun Hh xh sh mh nh => ?_⟩
      refine fun y2 dy2 hy2 hdy2 hne2 => tm_make0 ht0 hy2 hdy2 hne2 fun Hi si mi => ⟨rfl, ?_⟩
      have mh' := mh.same si
      obtain ⟨dxh, _, _, hoh⟩ := mh'.ho
      obtain ⟨dxi, _, _, hoi⟩ := mi.ho
      refine ⟨xh, dxh, _, rfl, hoh, .inl ⟨y2, dxi, _, rfl, hoi⟩, xh, y2, _, _, 1, 10, 0, 1, rfl, mh', mi, f1.fg, fun Hj sj => ⟨_, rfl, _, rfl, if_false_of (by rfl) ?_⟩⟩
      have sgj := sh.trans (si.trans sj)
      have cj := cg.same sgj
      have wj := wg.same sgj
      refine ⟨_, rfl, _, rfl, _, rfl, _, rfl, _, rfl, o1, o2, oB, oK, S, L1, L2, L3, as, bs, rfl, cj.hS, cj.l1, cj.l2, cj.d1, cj.d2, cj.m1, wj.mB, wj.mK, fun Hk sk => ⟨_, rfl, if_false_of (by rfl) ?_⟩⟩
      have s1k := s14.trans (s47.trans (s79.trans (s9c.trans (scg.trans (sgj.trans sk)))))
      exact ⟨p, S, L1, L2, L3, o1, o2, o3, oB, oK, oW, as, bs, cs, _, _, _, _, _, _, rfl, cj.same sk, wj.same sk, fun σ' J st kJ => kn σ' J st ((Kp.same s1k).trans kJ)⟩
    refine ⟨_, rfl, _, (ns.map V.int).length, rfl, .inl ⟨_, ha, rfl⟩, _, _, rfl, _, _, rfl, _, rfl, ?_, ?_, ?_⟩
    · split <;> (try split) <;> omega
    · split <;> (try split) <;> omega
    generalize hN : Int.toNat _ = N0
    have hbn : N0 ≤ 8 := by
      rw [← hN]
      split <;> (try split) <;> omega
    refine for_range (lo := 0) (n := N0) (fun i σ H' => Same H H' ∧ St16 sc σ) ⟨Same.refl _, _, _, _, _, _, _, _, _, _, _, _, _, _, _, rfl⟩ ?_ ?_
    · rintro j σ H1 hj ⟨s1, v1, v2, v3, v4, v5, v6, v7, v8, v9, v10, v11, v12, v13, v14, rfl⟩
      rw [Int.zero_add]
      refine ⟨_, rfl, _, rfl, sc, ns, j, rfl, ha.ext s1, by omega, fun c => ⟨c, rfl, fun p H2 hp1 hk2 hb2 => ?_⟩⟩
      have hp : H p = none := none_of s1 hp1
      have s2 : Same H H2 := fun c o z => by rw [hk2 c (fun e => by rw [e, hp] at z; cases z)]; exact s1 c o z
      refine ⟨3, rfl, by decide, by decide, fun S0 hS0 => ?_⟩
      have nS : S0 ≠ p := (hb2.ne hS0).symm
      refine lc_range (lo := 0) (n := 3) (fun i H' => Kp p H2 H' ∧ Box H' p (80 * i) ∧ ∃ Ls : List (Addr × List Pg), Ls.length = i ∧ H' S0 = some (.lst (Ls.map fun z => V.ref z.1)) ∧ ∀ z ∈ Ls, z.1 ≠ S0 ∧ LsP 50 H' z.1 z.2 ∧ Drw (ptl z.2)) ⟨Kp.same (Same.upd hS0), (hb2.upd hS0), [], rfl, upd_same, fun z hz => by cases hz⟩ ?_ ?_
      · rintro i H3 hi ⟨k3, b3, Ls, ln, hl, ok⟩
        refine ⟨rfl, _, rfl, p, 80 * i, rfl, b3, by omega, fun L lps H4 k4 b4 hL lp hlen => ?_⟩
        have hS4 := k4 _ _ nS hl
        obtain ⟨lsp, drw⟩ := up_ls lp hlen
        have ktp : KT H4 (upd H4 S0 (.lst ((Ls.map fun z => V.ref z.1) ++ [.ref L]))) := KT.put hS4
        have nL : L ≠ S0 := (ne_of_none hl hL).symm
        refine ⟨_, hS4, ?_, (k3.trans k4).put hS0, (b4.put nS).mono (by omega), Ls ++ [(L, lps)], by rw [List.length_append, ln]; rfl, by rw [upd_same, List.map_append]; rfl, fun z hz => ?_⟩
        · rw [List.length_map, ln]
          exact Nat.lt_of_lt_of_le (show i < 100 by omega) (by decide)
        · rcases List.mem_append.mp hz with m | m
          · obtain ⟨z1, z2, z3⟩ := ok z m
            exact ⟨z1, (z2.kr (KR.kp b3 k4)).kt ktp (upd_ne z1), z3⟩
          · rw [List.mem_singleton.mp m]
            exact ⟨nL, lsp.kt ktp (upd_ne nL), drw⟩
      rintro H3 ⟨k3, b3, Ls, ln, hl, ok⟩
      obtain ⟨z1, z2, z3, rfl⟩ : ∃ z1 z2 z3, Ls = [z1, z2, z3] := by
        match Ls, ln with
        | [a, b, c], _ => exact ⟨a, b, c, rfl⟩
      obtain ⟨_, la, da⟩ := ok z1 (by simp)
      obtain ⟨_, lb, db⟩ := ok z2 (by simp)
      obtain ⟨_, lc_, dc⟩ := ok z3 (by simp)
      clear ok ln
      have hl : H3 S0 = some (.lst [.ref z1.1, .ref z2.1, .ref z3.1]) := hl
      refine ⟨_, rfl, S0, rfl, ⟨_, SqL.of hl⟩, fun D2 hD2 => ?_⟩
      refine lc_list (K := K) (a := S0) (xs := [V.ref z1.1, .ref z2.1, .ref z3.1]) (fun i H' => Same H3 H' ∧ ∃ os : List Addr, os.length = i ∧ H' D2 = some (.lst (os.map V.ref)) ∧ ∀ (j : Nat) o z, os[j]? = some o → [z1, z2, z3][j]? = some z → MV K H' o (M08.f (ptl z.2)) 0 5) ⟨Same.upd hD2, [], rfl, upd_same, fun j o z e => by cases e⟩ (fun i H' _ ⟨s, _⟩ => SqL.of (s _ _ hl)) ?_ ?_
      · rintro i x H4 hx ⟨s4, os, on, ho, ok⟩
        obtain ⟨z, ez, rfl, lz, dz⟩ : ∃ z, [z1, z2, z3][i]? = some z ∧ x = .ref z.1 ∧ LsP 50 H3 z.1 z.2 ∧ Drw (ptl z.2) := by
          match i, hx with
          | 0, hx => cases hx; exact ⟨z1, rfl, rfl, la, da⟩
          | 1, hx => cases hx; exact ⟨z2, rfl, rfl, lb, db⟩
          | 2, hx => cases hx; exact ⟨z3, rfl, rfl, lc_, dc⟩
        have hi : i < 3 := (List.getElem?_eq_some_iff.mp ez).1
        refine ⟨rfl, _, rfl, z.1, z.2, rfl, lz.same s4, dz, fun H5 y s5 my ny => ?_⟩
        have ho5 := s5 _ _ ho
        have inst : ∀ x ∈ os, ∃ c dx fs, H5 x = some (.ins c dx fs) := fun x hx => by
          obtain ⟨j, ej⟩ := List.getElem?_of_mem hx
          have lj := (List.getElem?_eq_some_iff.mp ej).1
          obtain ⟨z', ez'⟩ : ∃ z', [z1, z2, z3][j]? = some z' := ⟨_, List.getElem?_eq_getElem (show j < [z1, z2, z3].length by show j < 3; omega)⟩
          obtain ⟨dx, _, _, h⟩ := (ok j x _ ej ez').ho
          exact ⟨_, _, _, s5 _ _ h⟩
        refine ⟨_, ho5, ?_, same_put (s4.trans s5) hD2, os ++ [y], by rw [List.length_append, on]; rfl, by rw [upd_same, List.map_append]; rfl, fun j o z' ej ez' => ?_⟩
        · rw [List.length_map, on]
          exact Nat.lt_of_lt_of_le (show i < 100 by omega) (by decide)
        · rcases Nat.lt_or_ge j os.length with c | c
          · rw [List.getElem?_append_left c] at ej
            exact ((ok j o z' ej ez').same s5).putO ho5 inst
          · have lj := (List.getElem?_eq_some_iff.mp ej).1
            rw [List.length_append, List.length_singleton] at lj
            have e : j = os.length := by omega
            rw [List.getElem?_append_right c, e, Nat.sub_self] at ej
            cases ej
            rw [e, on, ez] at ez'
            cases ez'
            exact my.putO ho5 inst
      rintro H4 ⟨s4, os, on, ho, ok⟩
      obtain ⟨y1, y2, y3, rfl⟩ : ∃ y1 y2 y3, os = [y1, y2, y3] := by
        match os, on with
        | [a, b, c], _ => exact ⟨a, b, c, rfl⟩
      have m1 := ok 0 y1 z1 rfl rfl
      have m2 := ok 1 y2 z2 rfl rfl
      have m3 := ok 2 y3 z3 rfl rfl
      refine ⟨D2, _, rfl, SqL.of ho, rfl, _, _, rfl, _, _, rfl, _, _, rfl, rfl, ?_⟩
      refine ⟨p, S0, z1.1, z2.1, z3.1, y1, y2, y3, z1.2, z2.2, z3.2, _, _, _, _, _, _, _, _, _, rfl, ⟨b3.sm s4, s4 _ _ hl, la.same s4, lb.same s4, lc_.same s4, da, db, dc, m1, m2, m3⟩, fun σ' J st kJ => ⟨?_, st⟩⟩
      exact fun c o z => ((k3.trans (Kp.same s4)).trans kJ) c o (fun e => by rw [e, hp] at z; cases z) (s2 c o z)
    · rintro σ H1 ⟨s1, v1, v2, v3, v4, v5, v6, v7, v8, v9, v10, v11, v12, v13, v14, rfl⟩
      exact kq H1
end
end K09
set_option Elab.async false
set_option linter.all false
set_option maxRecDepth 100000
set_option maxHeartbeats 4000000
set_option exponentiation.threshold 100000
namespace K09
open PySem PySem.Spec PyProof.Rows L2 Fa Fb
abbrev PP : Program := PySem.Challenge.pw_anytempo_k09_maps_there_and_back
theorem facts {w : World} {K : PySem.W.Frag} {h : Heap} {mg : Str → Option Value} {f : Addr} (X : K.In h) (G : h.Ns mainGlobals mg) (hfa : mg ("law" : Str) = some (.ref f)) (c : Hd.obsK ds chk K = Hd.valK ds) :
    ∃ fd : FuncData, (∀ (s : Shared) (v : Value), BindsTo s fd ⟨[v], []⟩ [("_law_script", v)]) ∧ ∀ base : Heap, K.In base → base.Ns mainGlobals mg → Fg.FnG PP w K mg base (L2.CX PP w) 16 f fd ["_law_script"] (spLaw K) := by
  have ck : Hd.allB _ = true := Hd.says_chk c
  have cg := Hd.allB_at ck 0
  have cf := Hd.allB_at ck 1
  have cc : Hd.allB _ = true := (Hd.allB_at ck 2)
  have cm : Hd.allB _ = true := (Hd.allB_at ck 3)
  have glo : ∀ x ∈ glos, mg x = some (.ref (He.ga K x)) := fun x hx => PySem.W.mg_of X G (He.eqO_ok (List.all_eq_true.mp cg x hx))
  have fre : ∀ x ∈ frees, mg x = none := fun x hx => PySem.W.mg_none_of X G (He.eqO_ok (List.all_eq_true.mp cf x hx))
  have G_Amount := glo "Amount" (by simp [glos, glos0, glos1, glos2])
  have G_TempoMap := glo "TempoMap" (by simp [glos, glos0, glos1, glos2])
  have G_InvalidInteger := glo "InvalidInteger" (by simp [glos, glos0, glos1, glos2])
  have G_InvalidAmount := glo "InvalidAmount" (by simp [glos, glos0, glos1, glos2])
  have G_InvalidMap := glo "InvalidMap" (by simp [glos, glos0, glos1, glos2])
  have G__law_cell := glo "_law_cell" (by simp [glos, glos0, glos1, glos2])
  have G__law_bag := glo "_law_bag" (by simp [glos, glos0, glos1, glos2])
  have G__law_take := glo "_law_take" (by simp [glos, glos0, glos1, glos2])
  have G_is_whole := glo "is_whole" (by simp [glos, glos0, glos1, glos2])
  have G_is_amount := glo "is_amount" (by simp [glos, glos0, glos1, glos2])
  have G_as_amount := glo "as_amount" (by simp [glos, glos0, glos1, glos2])
  have G_is_listing := glo "is_listing" (by simp [glos, glos0, glos1, glos2])
  have G__rises := glo "_rises" (by simp [glos, glos0, glos1, glos2])
  have G__pace := glo "_pace" (by simp [glos, glos0, glos1, glos2])
  have G__reached := glo "_reached" (by simp [glos, glos0, glos1, glos2])
  have G__taken := glo "_taken" (by simp [glos, glos0, glos1, glos2])
  have G__exchanged := glo "_exchanged" (by simp [glos, glos0, glos1, glos2])
  have G__standard := glo "_standard" (by simp [glos, glos0, glos1, glos2])
  have G__told_points := glo "_told_points" (by simp [glos, glos0, glos1, glos2])
  have G__merged := glo "_merged" (by simp [glos, glos0, glos1, glos2])
  have G_check_map := glo "check_map" (by simp [glos, glos0, glos1, glos2])
  have G__law_frac := glo "_law_frac" (by simp [glos, glos0, glos1, glos2])
  have G__law_sum := glo "_law_sum" (by simp [glos, glos0, glos1, glos2])
  have G__law_rest := glo "_law_rest" (by simp [glos, glos0, glos1, glos2])
  have G__law_fraction := glo "_law_fraction" (by simp [glos, glos0, glos1, glos2])
  have G__law_step := glo "_law_step" (by simp [glos, glos0, glos1, glos2])
  have G__law_points := glo "_law_points" (by simp [glos, glos0, glos1, glos2])
  have G__law_less := glo "_law_less" (by simp [glos, glos0, glos1, glos2])
  have G__law_product := glo "_law_product" (by simp [glos, glos0, glos1, glos2])
  have G__law_quotient := glo "_law_quotient" (by simp [glos, glos0, glos1, glos2])
  have G__law_given := glo "_law_given" (by simp [glos, glos0, glos1, glos2])
  have G__law_led := glo "_law_led" (by simp [glos, glos0, glos1, glos2])
  have G__law_paces := glo "_law_paces" (by simp [glos, glos0, glos1, glos2])
  have G__law_pace := glo "_law_pace" (by simp [glos, glos0, glos1, glos2])
  have G__law_bends := glo "_law_bends" (by simp [glos, glos0, glos1, glos2])
  have G__law_pair := glo "_law_pair" (by simp [glos, glos0, glos1, glos2])
  have G__law_pairs := glo "_law_pairs" (by simp [glos, glos0, glos1, glos2])
  have G__law_made := glo "_law_made" (by simp [glos, glos0, glos1, glos2])
  have G__law_chained := glo "_law_chained" (by simp [glos, glos0, glos1, glos2])
  have G__law_caught := glo "_law_caught" (by simp [glos, glos0, glos1, glos2])
  have G__law_odd_right := glo "_law_odd_right" (by simp [glos, glos0, glos1, glos2])
  have G__law_points_right := glo "_law_points_right" (by simp [glos, glos0, glos1, glos2])
  have R_abs := fre "abs" (by simp [frees])
  have R_bool := fre "bool" (by simp [frees])
  have R_enumerate := fre "enumerate" (by simp [frees])
  have R_int := fre "int" (by simp [frees])
  have R_isinstance := fre "isinstance" (by simp [frees])
  have R_len := fre "len" (by simp [frees])
  have R_list := fre "list" (by simp [frees])
  have R_max := fre "max" (by simp [frees])
  have R_min := fre "min" (by simp [frees])
  have R_range := fre "range" (by simp [frees])
  have R_repr := fre "repr" (by simp [frees])
  have R_tuple := fre "tuple" (by simp [frees])
  have R_zip := fre "zip" (by simp [frees])
  obtain ⟨fdinit, ginit⟩ := Hd.says_def c 0
  obtain ⟨fdtop, gtop⟩ := Hd.says_def c 1
  obtain ⟨fdbot, gbot⟩ := Hd.says_def c 2
  obtain ⟨fdeq, geq⟩ := Hd.says_def c 3
  obtain ⟨fdadd, gadd⟩ := Hd.says_def c 4
  obtain ⟨fdsub, gsub⟩ := Hd.says_def c 5
  obtain ⟨fdmul, gmul⟩ := Hd.says_def c 6
  obtain ⟨fddvd, gdvd⟩ := Hd.says_def c 7
  obtain ⟨fdcmp, gcmp⟩ := Hd.says_def c 8
  obtain ⟨fdtmi, gtmi⟩ := Hd.says_def c 9
  obtain ⟨fdcal, gcal⟩ := Hd.says_def c 10
  obtain ⟨fdmeq, gmeq⟩ := Hd.says_def c 11
  obtain ⟨fdbof, gbof⟩ := Hd.says_def c 12
  obtain ⟨fdmpa, gmpa⟩ := Hd.says_def c 13
  obtain ⟨fdpts, gpts⟩ := Hd.says_def c 14
  obtain ⟨fdinv, ginv⟩ := Hd.says_def c 15
  obtain ⟨fdthn, gthn⟩ := Hd.says_def c 16
  obtain ⟨fdDlawcell, gDlawcell⟩ := Hd.says_def c 17
  obtain ⟨fdDlawbag, gDlawbag⟩ := Hd.says_def c 18
  obtain ⟨fdDlawtake, gDlawtake⟩ := Hd.says_def c 19
  obtain ⟨fdDiswhole, gDiswhole⟩ := Hd.says_def c 20
  obtain ⟨fdDisamount, gDisamount⟩ := Hd.says_def c 21
  obtain ⟨fdDasamount, gDasamount⟩ := Hd.says_def c 22
  obtain ⟨fdDislisting, gDislisting⟩ := Hd.says_def c 23
  obtain ⟨fdDrises, gDrises⟩ := Hd.says_def c 24
  obtain ⟨fdDpace, gDpace⟩ := Hd.says_def c 25
  obtain ⟨fdDreached, gDreached⟩ := Hd.says_def c 26
  obtain ⟨fdDtaken, gDtaken⟩ := Hd.says_def c 27
  obtain ⟨fdDexchanged, gDexchanged⟩ := Hd.says_def c 28
  obtain ⟨fdDstandard, gDstandard⟩ := Hd.says_def c 29
  obtain ⟨fdDtoldpoints, gDtoldpoints⟩ := Hd.says_def c 30
  obtain ⟨fdDmerged, gDmerged⟩ := Hd.says_def c 31
  obtain ⟨fdDcheckmap, gDcheckmap⟩ := Hd.says_def c 32
  obtain ⟨fdDlawfrac, gDlawfrac⟩ := Hd.says_def c 33
  obtain ⟨fdDlawsum, gDlawsum⟩ := Hd.says_def c 34
  obtain ⟨fdDlawrest, gDlawrest⟩ := Hd.says_def c 35
  obtain ⟨fdDlawfraction, gDlawfraction⟩ := Hd.says_def c 36
  obtain ⟨fdDlawstep, gDlawstep⟩ := Hd.says_def c 37
  obtain ⟨fdDlawpoints, gDlawpoints⟩ := Hd.says_def c 38
  obtain ⟨fdDlawless, gDlawless⟩ := Hd.says_def c 39
  obtain ⟨fdDlawproduct, gDlawproduct⟩ := Hd.says_def c 40
  obtain ⟨fdDlawquotient, gDlawquotient⟩ := Hd.says_def c 41
  obtain ⟨fdDlawgiven, gDlawgiven⟩ := Hd.says_def c 42
  obtain ⟨fdDlawled, gDlawled⟩ := Hd.says_def c 43
  obtain ⟨fdDlawpaces, gDlawpaces⟩ := Hd.says_def c 44
  obtain ⟨fdDlawpace, gDlawpace⟩ := Hd.says_def c 45
  obtain ⟨fdDlawbends, gDlawbends⟩ := Hd.says_def c 46
  obtain ⟨fdDlawpair, gDlawpair⟩ := Hd.says_def c 47
  obtain ⟨fdDlawpairs, gDlawpairs⟩ := Hd.says_def c 48
  obtain ⟨fdDlawmade, gDlawmade⟩ := Hd.says_def c 49
  obtain ⟨fdDlawchained, gDlawchained⟩ := Hd.says_def c 50
  obtain ⟨fdDlawcaught, gDlawcaught⟩ := Hd.says_def c 51
  obtain ⟨fdDlawoddright, gDlawoddright⟩ := Hd.says_def c 52
  obtain ⟨fdDlawpointsright, gDlawpointsright⟩ := Hd.says_def c 53
  obtain ⟨fdDlaw, gDlaw⟩ := Hd.says_def c 54
  obtain ⟨fdxInvalidInteger, gxInvalidInteger⟩ := Hd.says_def c 55
  obtain ⟨fdxInvalidAmount, gxInvalidAmount⟩ := Hd.says_def c 56
  obtain ⟨fdxInvalidMap, gxInvalidMap⟩ := Hd.says_def c 57
  have Finit := ginit.funD
  have Ftop := gtop.funD
  have Fbot := gbot.funD
  have Feq := geq.funD
  have Fadd := gadd.funD
  have Fsub := gsub.funD
  have Fmul := gmul.funD
  have Fdvd := gdvd.funD
  have Fcmp := gcmp.funD
  have Ftmi := gtmi.funD
  have Fcal := gcal.funD
  have Fmeq := gmeq.funD
  have Fbof := gbof.funD
  have Fmpa := gmpa.funD
  have Fpts := gpts.funD
  have Finv := ginv.funD
  have Fthn := gthn.funD
  have FDlawcell := gDlawcell.funD
  have FDlawbag := gDlawbag.funD
  have FDlawtake := gDlawtake.funD
  have FDiswhole := gDiswhole.funD
  have FDisamount := gDisamount.funD
  have FDasamount := gDasamount.funD
  have FDislisting := gDislisting.funD
  have FDrises := gDrises.funD
  have FDpace := gDpace.funD
  have FDreached := gDreached.funD
  have FDtaken := gDtaken.funD
  have FDexchanged := gDexchanged.funD
  have FDstandard := gDstandard.funD
  have FDtoldpoints := gDtoldpoints.funD
  have FDmerged := gDmerged.funD
  have FDcheckmap := gDcheckmap.funD
  have FDlawfrac := gDlawfrac.funD
  have FDlawsum := gDlawsum.funD
  have FDlawrest := gDlawrest.funD
  have FDlawfraction := gDlawfraction.funD
  have FDlawstep := gDlawstep.funD
  have FDlawpoints := gDlawpoints.funD
  have FDlawless := gDlawless.funD
  have FDlawproduct := gDlawproduct.funD
  have FDlawquotient := gDlawquotient.funD
  have FDlawgiven := gDlawgiven.funD
  have FDlawled := gDlawled.funD
  have FDlawpaces := gDlawpaces.funD
  have FDlawpace := gDlawpace.funD
  have FDlawbends := gDlawbends.funD
  have FDlawpair := gDlawpair.funD
  have FDlawpairs := gDlawpairs.funD
  have FDlawmade := gDlawmade.funD
  have FDlawchained := gDlawchained.funD
  have FDlawcaught := gDlawcaught.funD
  have FDlawoddright := gDlawoddright.funD
  have FDlawpointsright := gDlawpointsright.funD
  have FDlaw := gDlaw.funD
  have bDlawcell : Binds K fdDlawcell ["_law_script", "_law_index"] [] := FDlawcell.bindsN fun _ _ _ _ _ _ us hl => match us, hl with | [_, _], _ => rfl
  have bDlawbag : Binds K fdDlawbag ["_law_cell_here"] [] := FDlawbag.bindsN fun _ _ _ _ _ _ us hl => match us, hl with | [_], _ => rfl
  have bDlawtake : Binds K fdDlawtake ["_law_bag_here", "_law_many"] [] := FDlawtake.bindsN fun _ _ _ _ _ _ us hl => match us, hl with | [_, _], _ => rfl
  have bDiswhole : Binds K fdDiswhole ["value"] [] := FDiswhole.bindsN fun _ _ _ _ _ _ us hl => match us, hl with | [_], _ => rfl
  have bDisamount : Binds K fdDisamount ["value"] [] := FDisamount.bindsN fun _ _ _ _ _ _ us hl => match us, hl with | [_], _ => rfl
  have bDasamount : Binds K fdDasamount ["value"] [] := FDasamount.bindsN fun _ _ _ _ _ _ us hl => match us, hl with | [_], _ => rfl
  have bDislisting : Binds K fdDislisting ["value"] [] := FDislisting.bindsN fun _ _ _ _ _ _ us hl => match us, hl with | [_], _ => rfl
  have bDrises : Binds K fdDrises ["one", "other"] [] := FDrises.bindsN fun _ _ _ _ _ _ us hl => match us, hl with | [_, _], _ => rfl
  have bDpace : Binds K fdDpace ["points", "index"] [] := FDpace.bindsN fun _ _ _ _ _ _ us hl => match us, hl with | [_, _], _ => rfl
  have bDreached : Binds K fdDreached ["points", "beat"] [] := FDreached.bindsN fun _ _ _ _ _ _ us hl => match us, hl with | [_, _], _ => rfl
  have bDtaken : Binds K fdDtaken ["points", "beat"] [] := FDtaken.bindsN fun _ _ _ _ _ _ us hl => match us, hl with | [_, _], _ => rfl
  have bDexchanged : Binds K fdDexchanged ["points"] [] := FDexchanged.bindsN fun _ _ _ _ _ _ us hl => match us, hl with | [_], _ => rfl
  have bDstandard : Binds K fdDstandard ["points"] [] := FDstandard.bindsN fun _ _ _ _ _ _ us hl => match us, hl with | [_], _ => rfl
  have bDtoldpoints : Binds K fdDtoldpoints ["points"] [] := FDtoldpoints.bindsN fun _ _ _ _ _ _ us hl => match us, hl with | [_], _ => rfl
  have bDmerged : Binds K fdDmerged ["one", "other"] [] := FDmerged.bindsN fun _ _ _ _ _ _ us hl => match us, hl with | [_, _], _ => rfl
  have bDcheckmap : Binds K fdDcheckmap ["tempo"] [] := FDcheckmap.bindsN fun _ _ _ _ _ _ us hl => match us, hl with | [_], _ => rfl
  have bDlawfrac : Binds K fdDlawfrac ["_law_top", "_law_bottom"] [] := FDlawfrac.bindsN fun _ _ _ _ _ _ us hl => match us, hl with | [_, _], _ => rfl
  have bDlawsum : Binds K fdDlawsum ["_law_one", "_law_other"] [] := FDlawsum.bindsN fun _ _ _ _ _ _ us hl => match us, hl with | [_, _], _ => rfl
  have bDlawrest : Binds K fdDlawrest ["_law_one", "_law_other"] [] := FDlawrest.bindsN fun _ _ _ _ _ _ us hl => match us, hl with | [_, _], _ => rfl
  have bDlawfraction : Binds K fdDlawfraction ["_law_bag_here"] [] := FDlawfraction.bindsN fun _ _ _ _ _ _ us hl => match us, hl with | [_], _ => rfl
  have bDlawstep : Binds K fdDlawstep ["_law_bag_here"] [] := FDlawstep.bindsN fun _ _ _ _ _ _ us hl => match us, hl with | [_], _ => rfl
  have bDlawpoints : Binds K fdDlawpoints ["_law_bag_here", "_law_cap"] [] := FDlawpoints.bindsN fun _ _ _ _ _ _ us hl => match us, hl with | [_, _], _ => rfl
  have bDlawless : Binds K fdDlawless ["_law_one", "_law_other"] [] := FDlawless.bindsN fun _ _ _ _ _ _ us hl => match us, hl with | [_, _], _ => rfl
  have bDlawproduct : Binds K fdDlawproduct ["_law_one", "_law_other"] [] := FDlawproduct.bindsN fun _ _ _ _ _ _ us hl => match us, hl with | [_, _], _ => rfl
  have bDlawquotient : Binds K fdDlawquotient ["_law_one", "_law_other"] [] := FDlawquotient.bindsN fun _ _ _ _ _ _ us hl => match us, hl with | [_, _], _ => rfl
  have bDlawgiven : Binds K fdDlawgiven ["_law_bag_here", "_law_value"] [] := FDlawgiven.bindsN fun _ _ _ _ _ _ us hl => match us, hl with | [_, _], _ => rfl
  have bDlawled : Binds K fdDlawled ["_law_points_here", "_law_value", "_law_here", "_law_there"] [] := FDlawled.bindsN fun _ _ _ _ _ _ us hl => match us, hl with | [_, _, _, _], _ => rfl
  have bDlawpaces : Binds K fdDlawpaces ["_law_points_here"] [] := FDlawpaces.bindsN fun _ _ _ _ _ _ us hl => match us, hl with | [_], _ => rfl
  have bDlawpace : Binds K fdDlawpace ["_law_points_here", "_law_beat"] [] := FDlawpace.bindsN fun _ _ _ _ _ _ us hl => match us, hl with | [_, _], _ => rfl
  have bDlawbends : Binds K fdDlawbends ["_law_points_here"] [] := FDlawbends.bindsN fun _ _ _ _ _ _ us hl => match us, hl with | [_], _ => rfl
  have bDlawpair : Binds K fdDlawpair ["_law_amount"] [] := FDlawpair.bindsN fun _ _ _ _ _ _ us hl => match us, hl with | [_], _ => rfl
  have bDlawpairs : Binds K fdDlawpairs ["_law_points_here"] [] := FDlawpairs.bindsN fun _ _ _ _ _ _ us hl => match us, hl with | [_], _ => rfl
  have bDlawmade : Binds K fdDlawmade ["_law_points_here"] [] := FDlawmade.bindsN fun _ _ _ _ _ _ us hl => match us, hl with | [_], _ => rfl
  have bDlawchained : Binds K fdDlawchained ["_law_one", "_law_other"] [] := FDlawchained.bindsN fun _ _ _ _ _ _ us hl => match us, hl with | [_, _], _ => rfl
  have bDlawcaught : Binds K fdDlawcaught ["_law_door", "_law_tempo", "_law_thing"] [] := FDlawcaught.bindsN fun _ _ _ _ _ _ us hl => match us, hl with | [_, _, _], _ => rfl
  have bDlawoddright : Binds K fdDlawoddright ["_law_tempo"] [] := FDlawoddright.bindsN fun _ _ _ _ _ _ us hl => match us, hl with | [_], _ => rfl
  have bDlawpointsright : Binds K fdDlawpointsright ["_law_one", "_law_two", "_law_both", "_law_back", "_law_some"] [] := FDlawpointsright.bindsN fun _ _ _ _ _ _ us hl => match us, hl with | [_, _, _, _, _], _ => rfl
  have btop : Binds K fdtop ["self"] [] := Ftop.bindsN fun _ _ _ _ _ _ us hl => match us, hl with | [_], _ => rfl
  have bbot : Binds K fdbot ["self"] [] := Fbot.bindsN fun _ _ _ _ _ _ us hl => match us, hl with | [_], _ => rfl
  have beq : Binds K fdeq ["self", "other"] [] := Feq.bindsN fun _ _ _ _ _ _ us hl => match us, hl with | [_, _], _ => rfl
  have badd : Binds K fdadd ["self", "other"] [] := Fadd.bindsN fun _ _ _ _ _ _ us hl => match us, hl with | [_, _], _ => rfl
  have bsub : Binds K fdsub ["self", "other"] [] := Fsub.bindsN fun _ _ _ _ _ _ us hl => match us, hl with | [_, _], _ => rfl
  have bmul : Binds K fdmul ["self", "other"] [] := Fmul.bindsN fun _ _ _ _ _ _ us hl => match us, hl with | [_, _], _ => rfl
  have bdvd : Binds K fddvd ["self", "other"] [] := Fdvd.bindsN fun _ _ _ _ _ _ us hl => match us, hl with | [_, _], _ => rfl
  have bcmp : Binds K fdcmp ["self", "other"] [] := Fcmp.bindsN fun _ _ _ _ _ _ us hl => match us, hl with | [_, _], _ => rfl
  have bcal : Binds K fdcal ["self", "beat"] [] := Fcal.bindsN fun _ _ _ _ _ _ us hl => match us, hl with | [_, _], _ => rfl
  have bmeq : Binds K fdmeq ["self", "other"] [] := Fmeq.bindsN fun _ _ _ _ _ _ us hl => match us, hl with | [_, _], _ => rfl
  have bbof : Binds K fdbof ["self", "second"] [] := Fbof.bindsN fun _ _ _ _ _ _ us hl => match us, hl with | [_, _], _ => rfl
  have bmpa : Binds K fdmpa ["self", "beat"] [] := Fmpa.bindsN fun _ _ _ _ _ _ us hl => match us, hl with | [_, _], _ => rfl
  have bpts : Binds K fdpts ["self"] [] := Fpts.bindsN fun _ _ _ _ _ _ us hl => match us, hl with | [_], _ => rfl
  have binv : Binds K fdinv ["self"] [] := Finv.bindsN fun _ _ _ _ _ _ us hl => match us, hl with | [_], _ => rfl
  have bthn : Binds K fdthn ["self", "other"] [] := Fthn.bindsN fun _ _ _ _ _ _ us hl => match us, hl with | [_, _], _ => rfl
  have sub : ∀ T ∈ tys, PySem.W.subIn K (.type T) (.ref (CA K)) = some false := fun T hT => of_decide_eq_true (List.all_eq_true.mp (Hd.allB_at cc 19) T hT)
  have sf : PySem.W.selfFirst K (CA K) = true := Hd.allB_at cc 20
  have A : AF K mg :=
    { cl := ⟨Hd.allB_at cc 0, Hd.allB_at cc 1, Hd.allB_at cc 2, He.eqO_ok (Hd.allB_at cc 3)⟩
      noT := He.eqO_ok (Hd.allB_at cc 4)
      noB := He.eqO_ok (Hd.allB_at cc 5)
      mkA := ⟨Hd.allB_at cc 6, He.eqO_ok (Hd.allB_at cc 7), Hd.allB_at cc 8, Hd.allB_at cc 9⟩
      g := G_Amount
      isi := R_isinstance
      int := R_int
      bool := R_bool
      gcd := PySem.W.mg_of X G (He.eqO_ok (Hd.allB_at cc 10))
      gI := G_InvalidInteger
      gV := G_InvalidAmount
      kI := of_decide_eq_true (Hd.allB_at cc 11)
      kB := of_decide_eq_true (Hd.allB_at cc 12)
      kS := of_decide_eq_true (Hd.allB_at cc 13)
      kT := fun T hT => of_decide_eq_true (List.all_eq_true.mp (Hd.allB_at cc 14) T hT)
      ca := He.eqO_ok (Hd.allB_at cc 15)
      cn := He.eqO_ok (Hd.allB_at cc 16)
      ct := of_decide_eq_true (Hd.allB_at cc 17)
      cm := of_decide_eq_true (Hd.allB_at cc 18) }
  have xInvalidInteger := Hd.exc_txt Xb.nm_value gxInvalidInteger (Hd.allB_at ck 36) ⟨_, _, _, _, _, _, _, _, _, _, _, _, _, rfl, rfl, rfl, rfl⟩
  have xInvalidAmount := Hd.exc_txt Xb.nm_value gxInvalidAmount (Hd.allB_at ck 37) ⟨_, _, _, _, _, _, _, _, _, _, _, _, _, rfl, rfl, rfl, rfl⟩
  have xInvalidMap := Hd.exc_txt Xb.nm_value gxInvalidMap (Hd.allB_at ck 38) ⟨_, _, _, _, _, _, _, _, _, _, _, _, _, rfl, rfl, rfl, rfl⟩
  have M : MF K mg := ⟨⟨Hd.allB_at cm 0, Hd.allB_at cm 1, Hd.allB_at cm 2, He.eqO_ok (Hd.allB_at cm 3)⟩, He.eqO_ok (Hd.allB_at cm 4), He.eqO_ok (Hd.allB_at cm 5), ⟨Hd.allB_at cm 6, He.eqO_ok (Hd.allB_at cm 7), Hd.allB_at cm 8, Hd.allB_at cm 9⟩, G_TempoMap⟩
  have mE := meB_of (Hd.allB_at ck 4)
  have neE := He.eqO_ok (Hd.allB_at ck 5)
  have obE := of_decide_eq_true (Hd.allB_at ck 6)
  have oA := opF_of (Hd.allB_at ck 7) sf sub
  have oS := opF_of (Hd.allB_at ck 8) sf sub
  have oM := opF_of (Hd.allB_at ck 9) sf sub
  have mD := meB_of (Hd.allB_at ck 10)
  have mC := meB_of (Hd.allB_at ck 11)
  have m_pts := mmB_of (Hd.allB_at ck 14)
  have m_mpa := mmB_of (Hd.allB_at ck 15)
  have m_cal := mmB_of (Hd.allB_at ck 16)
  have m_meq := mmB_of (Hd.allB_at ck 17)
  have m_bof := mmB_of (Hd.allB_at ck 18)
  have m_inv := mmB_of (Hd.allB_at ck 19)
  have m_thn := mmB_of (Hd.allB_at ck 20)
  have nca := of_decide_eq_true (Hd.allB_at ck 24)
  have kM := of_decide_eq_true (Hd.allB_at ck 25)
  have mcm := of_decide_eq_true (Hd.allB_at ck 32)
  have kMA := of_decide_eq_true (Hd.allB_at ck 26)
  have kMI := of_decide_eq_true (Hd.allB_at ck 27)
  have kMB := of_decide_eq_true (Hd.allB_at ck 28)
  have kAM := of_decide_eq_true (Hd.allB_at ck 29)
  have kTM : ∀ T ∈ tys, PySem.W.kitOne K (.type T) (.ref (CM K)) = some false := fun T hT => of_decide_eq_true (List.all_eq_true.mp (Hd.allB_at ck 30) T hT)
  have hIM := of_decide_eq_true (Hd.allB_at ck 33)
  have hS := sysB_of (Hd.allB_at ck 34)
  have mca := He.eqO_ok (Hd.allB_at ck 31)
  have hlaw := glo "law" (by simp [glos, glos0, glos1, glos2])
  cases hfa.symm.trans hlaw
  have htop : (PP.main.scope.names.lookup ("super" : Str)).isSome = false := by decide +kernel
  have blaw := FDlaw.bindsA (ps := ["_law_script"]) fun _ _ _ _ _ _ us hl => match us, hl with | [_], _ => rfl
  refine ⟨fdDlaw, fun s v => blaw s [v] rfl, fun base _ _ => ?_⟩
  obtain ⟨dv, hds, bI⟩ := Finit.binds1 (ps := ["self", "top", "bottom"]) 2 0 (by simp [dC]) rfl (fun _ _ _ _ _ _ _ us its hu hi => match us, its, hu, hi with | [_, _], [_], _, _ => ⟨_, rfl, rfl⟩)
  obtain ⟨ds2', hds2, bI2⟩ := Finit.binds1 (ps := ["self", "top", "bottom"]) 3 1 (by simp [dC]) rfl (fun _ _ _ _ _ _ _ us its hu hi => match us, its, hu, hi with | [_, _, _], [_], _, _ => ⟨_, rfl, rfl⟩)
  cases hds2
  obtain ⟨ds3', hds3, bT⟩ := Ftmi.binds1 (ps := ["self", "points"]) 2 1 (by simp [dC]) rfl (fun _ _ _ _ _ _ _ us its hu hi => match us, its, hu, hi with | [_, _], [_], _, _ => ⟨_, rfl, rfl⟩)
  cases hds3
  obtain ⟨ds4', hdt, bT0⟩ := Ftmi.binds1 (ps := ["self", "points"]) 1 0 (by simp [dC]) rfl (fun _ _ _ _ _ _ _ us its hu hi => match us, its, hu, hi with | [_], [_], _, _ => ⟨_, rfl, rfl⟩)
  have OI : FnOk PP w K mg base (L2.CX PP w) 4 (aI K) fdinit ["self", "top", "bottom"] (spInit K) := ok_init Finit A FDiswhole G_is_whole xInvalidInteger htop
  have OS : FnOk PP w K mg base (L2.CX PP w) 6 _ fdDasamount ["value"] (spAs K) := ok_as FDasamount A FDiswhole G_is_whole FDisamount G_is_amount Finit xInvalidInteger xInvalidAmount htop
  have Oadd : OpK PP w K mg base "add" 7 (spAdd K) _ fdadd := ⟨oA, ok_add Fadd A OS G_as_amount FDasamount.kp bDasamount OI bI2, badd⟩
  have Osub : OpK PP w K mg base "sub" 7 (spSub K) _ fdsub := ⟨oS, ok_sub Fsub A OS G_as_amount FDasamount.kp bDasamount OI bI2, bsub⟩
  have Omul : OpK PP w K mg base "mul" 7 (spMul K) _ fdmul := ⟨oM, ok_mul Fmul A OS G_as_amount FDasamount.kp bDasamount OI bI2, bmul⟩
  have Mdivided : MeK PP w K mg base "divided" 7 (spDiv K) _ fddvd := ⟨mD, ok_div Fdvd A OS G_as_amount FDasamount.kp bDasamount OI bI2 xInvalidAmount htop, bdvd⟩
  have Mcompare : MeK PP w K mg base "compare" 7 (spCmp K) _ fdcmp := ⟨mC, ok_cmp Fcmp A OS G_as_amount FDasamount.kp bDasamount, bcmp⟩
  have Eq : EqK PP w K mg base _ fdeq := ⟨mE.at_, mE.fn, ok_eq Feq A, beq, neE, obE⟩
  have Ptop : PrF PP w K mg base "top" "_top" _ _ fdtop := ⟨prB_of (Hd.allB_at ck 12), ok_top Ftop A, btop⟩
  have Pbottom : PrF PP w K mg base "bottom" "_bottom" _ _ fdbot := ⟨prB_of (Hd.allB_at ck 13), ok_bot Fbot A, bbot⟩
  have VDasamount : Fn PP w K mg base "as_amount" 6 ["value"] (spAs K) _ fdDasamount := ⟨OS, G_as_amount, FDasamount.kp, bDasamount⟩
  have VDlawcell : Fn0 PP w K mg base "_law_cell" 1 ["_law_script", "_law_index"] (spCel K) _ fdDlawcell := ⟨ok_cell FDlawcell R_len, G__law_cell, FDlawcell.kp, bDlawcell⟩
  have VDlawbag : Fn0 PP w K mg base "_law_bag" 1 ["_law_cell_here"] spBox _ fdDlawbag := ⟨ok_box FDlawbag R_max, G__law_bag, FDlawbag.kp, bDlawbag⟩
  have VDlawtake : Fn0 PP w K mg base "_law_take" 1 ["_law_bag_here", "_law_many"] spTake _ fdDlawtake := ⟨ok_take FDlawtake, G__law_take, FDlawtake.kp, bDlawtake⟩
  have VDisamount : Fn PP w K mg base "is_amount" 2 ["value"] (spIsA K) _ fdDisamount := ⟨ok_isA FDisamount A FDiswhole G_is_whole, G_is_amount, FDisamount.kp, bDisamount⟩
  have VDislisting : Fn PP w K mg base "is_listing" 1 ["value"] (spLs K) _ fdDislisting := ⟨ok_ls FDislisting A R_list R_tuple, G_is_listing, FDislisting.kp, bDislisting⟩
  have VDrises : Fn PP w K mg base "_rises" 8 ["one", "other"] (spRise K) _ fdDrises := ⟨ok_rise FDrises A Mcompare, G__rises, FDrises.kp, bDrises⟩
  have VDpace : Fn PP w K mg base "_pace" 8 ["points", "index"] (spPace K) _ fdDpace := ⟨ok_pace FDpace A R_len Osub Mdivided OI hds bI, G__pace, FDpace.kp, bDpace⟩
  have VDreached : Fn PP w K mg base "_reached" 8 ["points", "beat"] (spRch K) _ fdDreached := ⟨ok_rch FDreached A R_len Mcompare, G__reached, FDreached.kp, bDreached⟩
  have VDtaken : Fn PP w K mg base "_taken" 9 ["points", "beat"] (spTak K) _ fdDtaken := ⟨ok_tak FDtaken A R_max Oadd Osub Omul VDreached VDpace, G__taken, FDtaken.kp, bDtaken⟩
  have VDexchanged : Fn PP w K mg base "_exchanged" 1 ["points"] (spExc K) _ fdDexchanged := ⟨ok_exc FDexchanged, G__exchanged, FDexchanged.kp, bDexchanged⟩
  have VDstandard : Fn PP w K mg base "_standard" 10 ["points"] (spStd K) _ fdDstandard := ⟨ok_std FDstandard A R_len R_range Eq VDpace VDtaken OI hds bI, G__standard, FDstandard.kp, bDstandard⟩
  have VDtoldpoints : Fn PP w K mg base "_told_points" 9 ["points"] (spTP K) _ fdDtoldpoints := ⟨ok_tp FDtoldpoints A R_len R_enumerate VDislisting VDisamount VDasamount VDrises, G__told_points, FDtoldpoints.kp, bDtoldpoints⟩
  have TM := ok_tmi (P := PP) (w := w) (base := base) Ftmi M nca VDstandard VDexchanged VDtoldpoints
  have Spoints : MeS PP w K mg base "points" 1 ["self"] (spPts K) _ fdpts := ⟨m_pts, ok_pts Fpts M R_list, bpts⟩
  have TC := ok_cal (P := PP) (w := w) (base := base) Fcal M VDtaken VDasamount
  have CO : StX.CallO K (CM K) _ := ⟨m_cal.at_, m_cal.fn, (Hd.allB_at ck 21)⟩
  have RC : FnR PP w K mg base (L2.CX PP w) 10 _ (spC0 K) := (TC.raw bcal .nil).imp fun vs H Q E h => by rw [List.append_nil]; exact h
  have Sbeat_of : MeS PP w K mg base "beat_of" 10 ["self", "second"] (spC1 K) _ fdbof := ⟨m_bof, ok_bof Fbof M VDtaken VDasamount, bbof⟩
  have Space : MeS PP w K mg base "pace" 9 ["self", "beat"] (spC2 K) _ fdmpa := ⟨m_mpa, ok_mpa Fmpa M VDpace VDreached VDasamount, bmpa⟩
  have EM : EqM PP w K mg base _ fdmeq := ⟨m_meq.at_, m_meq.fn, ok_meq Fmeq A M Eq kM mca mcm, bmeq, He.eqO_ok (Hd.allB_at ck 22), of_decide_eq_true (Hd.allB_at ck 23)⟩
  have Sinverse : MeS PP w K mg base "inverse" 13 ["self"] (spInv K) _ fdinv := ⟨m_inv, ok_inv Finv M M.make TM bT, binv⟩
  have VDmerged : Fn PP w K mg base "_merged" 8 ["one", "other"] (spMrg K) _ fdDmerged := ⟨ok_mrg FDmerged A R_len Mcompare Eq, G__merged, FDmerged.kp, bDmerged⟩
  have VDcheckmap : Fn PP w K mg base "check_map" 2 ["tempo"] (spChm K) _ fdDcheckmap := ⟨ok_chm FDcheckmap A M G_InvalidMap xInvalidMap htop kM mca mcm, G_check_map, FDcheckmap.kp, bDcheckmap⟩
  have Sthen : MeS PP w K mg base "then" 13 ["self", "other"] (spThn K) _ fdthn := ⟨m_thn, ok_thn Fthn M M.make VDcheckmap VDtaken VDmerged TM bT, bthn⟩
  have VDlawfrac : Fn PP w K mg base "_law_frac" 1 ["_law_top", "_law_bottom"] spFrac _ fdDlawfrac := ⟨ok_frac FDlawfrac R_abs, G__law_frac, FDlawfrac.kp, bDlawfrac⟩
  have VDlawsum : Fn PP w K mg base "_law_sum" 2 ["_law_one", "_law_other"] spSum _ fdDlawsum := ⟨ok_sum FDlawsum VDlawfrac, G__law_sum, FDlawsum.kp, bDlawsum⟩
  have VDlawrest : Fn PP w K mg base "_law_rest" 2 ["_law_one", "_law_other"] spRest _ fdDlawrest := ⟨ok_rest FDlawrest VDlawfrac, G__law_rest, FDlawrest.kp, bDlawrest⟩
  have VDlawfraction : Fn PP w K mg base "_law_fraction" 2 ["_law_bag_here"] spFn _ fdDlawfraction := ⟨ok_fn FDlawfraction VDlawtake VDlawfrac, G__law_fraction, FDlawfraction.kp, bDlawfraction⟩
  have VDlawstep : Fn PP w K mg base "_law_step" 3 ["_law_bag_here"] spSp _ fdDlawstep := ⟨ok_sp FDlawstep VDlawfraction VDlawfrac, G__law_step, FDlawstep.kp, bDlawstep⟩
  have VDlawpoints : Fn PP w K mg base "_law_points" 4 ["_law_bag_here", "_law_cap"] spPoi _ fdDlawpoints := ⟨ok_poi FDlawpoints R_range VDlawtake VDlawfraction VDlawstep VDlawsum VDlawrest, G__law_points, FDlawpoints.kp, bDlawpoints⟩
  have VDlawsumq : Fn PP w K mg base "_law_sum" 2 ["_law_one", "_law_other"] (spB b21 fun x y => x + y) _ fdDlawsum := ⟨sum_q VDlawsum.ok, G__law_sum, FDlawsum.kp, bDlawsum⟩
  have VDlawrestq : Fn PP w K mg base "_law_rest" 2 ["_law_one", "_law_other"] (spB b21 fun x y => x - y) _ fdDlawrest := ⟨rest_q VDlawrest.ok, G__law_rest, FDlawrest.kp, bDlawrest⟩
  have VDlawless : Fn PP w K mg base "_law_less" 1 ["_law_one", "_law_other"] spLes _ fdDlawless := ⟨ok_les FDlawless, G__law_less, FDlawless.kp, bDlawless⟩
  have VDlawproduct : Fn PP w K mg base "_law_product" 2 ["_law_one", "_law_other"] (spB b21 fun x y => x * y) _ fdDlawproduct := ⟨ok_pro FDlawproduct VDlawfrac, G__law_product, FDlawproduct.kp, bDlawproduct⟩
  have VDlawquotient : Fn PP w K mg base "_law_quotient" 2 ["_law_one", "_law_other"] (spBq b21 fun x y => x / y) _ fdDlawquotient := ⟨ok_quo FDlawquotient VDlawfrac, G__law_quotient, FDlawquotient.kp, bDlawquotient⟩
  have VDlawgiven : Fn PP w K mg base "_law_given" 6 ["_law_bag_here", "_law_value"] (spGiv K) _ fdDlawgiven := ⟨ok_giv FDlawgiven A VDlawtake OI bI2, G__law_given, FDlawgiven.kp, bDlawgiven⟩
  have VDlawled : Fn PP w K mg base "_law_led" 3 ["_law_points_here", "_law_value", "_law_here", "_law_there"] spLed _ fdDlawled := ⟨ok_led FDlawled R_zip VDlawsumq VDlawrestq VDlawproduct VDlawquotient VDlawless, G__law_led, FDlawled.kp, bDlawled⟩
  have VDlawpaces : Fn PP w K mg base "_law_paces" 3 ["_law_points_here"] spPcs _ fdDlawpaces := ⟨ok_pcs FDlawpaces R_zip VDlawrestq VDlawquotient, G__law_paces, FDlawpaces.kp, bDlawpaces⟩
  have VDlawledB : Fn PP w K mg base "_law_led" 3 ["_law_points_here", "_law_value", "_law_here", "_law_there"] spLedB _ fdDlawled := ⟨ok_ledB FDlawled R_zip VDlawsumq VDlawrestq VDlawproduct VDlawquotient VDlawless, G__law_led, FDlawled.kp, bDlawled⟩
  have VDlawpace : Fn PP w K mg base "_law_pace" 4 ["_law_points_here", "_law_beat"] spLpc _ fdDlawpace := ⟨ok_lpc FDlawpace R_len VDlawless VDlawpaces, G__law_pace, FDlawpace.kp, bDlawpace⟩
  have VDlawbends : Fn PP w K mg base "_law_bends" 4 ["_law_points_here"] spBen _ fdDlawbends := ⟨ok_ben FDlawbends R_enumerate VDlawpaces VDlawled, G__law_bends, FDlawbends.kp, bDlawbends⟩
  have VDlawpair : Fn PP w K mg base "_law_pair" 3 ["_law_amount"] (spPai K) _ fdDlawpair := ⟨ok_pai FDlawpair A Ptop Pbottom, G__law_pair, FDlawpair.kp, bDlawpair⟩
  have VDlawpairs : Fn PP w K mg base "_law_pairs" 4 ["_law_points_here"] (spPas K) _ fdDlawpairs := ⟨ok_pas FDlawpairs A R_tuple VDlawpair, G__law_pairs, FDlawpairs.kp, bDlawpairs⟩
  have VDlawmade : Fn PP w K mg base "_law_made" 13 ["_law_points_here"] (spMad K) _ fdDlawmade := ⟨ok_mad FDlawmade A M M.make OI bI2 TM bT, G__law_made, FDlawmade.kp, bDlawmade⟩
  have VDlawchained : Fn PP w K mg base "_law_chained" 4 ["_law_one", "_law_other"] spChn _ fdDlawchained := ⟨ok_chn FDlawchained VDlawless VDlawled VDlawledB, G__law_chained, FDlawchained.kp, bDlawchained⟩
  have VDlawcaught : Fn PP w K mg base "_law_caught" 14 ["_law_door", "_law_tempo", "_law_thing"] (spCau K) _ fdDlawcaught := ⟨ok_cau FDlawcaught A M G_InvalidAmount G_InvalidMap xInvalidAmount xInvalidMap hIM CO RC Sbeat_of Space Sthen, G__law_caught, FDlawcaught.kp, bDlawcaught⟩
  have VDlawoddright : FnS2 PP w K mg base "_law_odd_right" 15 ["_law_tempo"] (spOdd K) _ fdDlawoddright := ⟨ok_odd FDlawoddright A M hS R_repr R_range Eq VDlawcaught OI hds bI mca mcm kMA kMI kMB kAM kTM, G__law_odd_right, FDlawoddright.kp, bDlawoddright⟩
  have VDlawpointsright : Fn PP w K mg base "_law_points_right" 11 ["_law_one", "_law_two", "_law_both", "_law_back", "_law_some"] (spPrt K) _ fdDlawpointsright := ⟨ok_prt FDlawpointsright A M VDlawchained VDlawpairs VDlawpair VDlawbends VDlawpace VDlawquotient Spoints Space CO RC OI bI2 hds bI, G__law_points_right, FDlawpointsright.kp, bDlawpointsright⟩
  exact ok_law FDlaw A M R_len R_range R_max R_min VDlawcell VDlawbag VDlawtake VDlawpoints VDlawgiven VDlawfraction VDlawmade VDlawled VDlawledB VDlawpair VDlawpointsright VDlawoddright Sthen Sinverse Sbeat_of CO RC Eq EM OI bI2 TM hdt bT0 (fun H => tupB_of (zs := []) (Hd.allB_at ck 35) H)
end K09
set_option Elab.async false
set_option linter.all false
set_option maxRecDepth 100000
set_option maxHeartbeats 0
namespace K09
open PySem PySem.Spec PyProof.Rows L2
theorem noX (P : Program) (w : World) (H : Hp) (s : Shared) (e : Value) (s' : Shared) : L2.CX P w [] H s (fun _ _ _ => False) e s' → False := fun ⟨_, _, _, _, _, _, _, _, _, _, _, _, z⟩ => z
end K09
open PySem PySem.W PySem.Calls PyProof.Rows
theorem PySem.Challenge.cw_anytempo_k09_maps_there_and_back_holds : PySem.Challenge.rw_anytempo_k09_maps_there_and_back.Holds := by
  w_on; o_law
  refine HandSHeadRun.head_imp (r := OpenLaw.row PySem.Challenge.rw_anytempo_k09_maps_there_and_back) (q := view (OpenLaw.row PySem.Challenge.rw_anytempo_k09_maps_there_and_back).prog [0, 52]) (H := K09.hk) (ob := Hd.obL K09.asL K09.ds K09.chk) (M := 20000) (loose := K09.nms) (d := HandSHeadRun.topDef (OpenLaw.row PySem.Challenge.rw_anytempo_k09_maps_there_and_back).prog 52) (kwd := [])
    (Hd.obL_eq K09.asL K09.ds K09.chk) K09.run (by kernel_rfl) (by kernel_rfl) (by kernel_rfl) (by rfl) (by first | assumption | decide +kernel) (by decide +kernel) ⟨rfl, rfl, rfl, rfl, rfl, by decide +kernel⟩ ?hw ?hc
  case hw => w_witness2
  case hc =>
    refine Fg.walk_ofG (l := PySem.Challenge.rw_anytempo_k09_maps_there_and_back) (n := 63) (k := 16) (x := "_law_script") (CX := fun w => L2.CX K09.PP w) rfl (by decide) (by kernel_rfl) ⟨rfl, by decide, by decide⟩ ?F (fun w => K09.noX K09.PP w)
    intro w mg fa h Y G hmg0
    obtain ⟨K, KX, c⟩ := Y
    have hmg : mg ("law" : PySem.Str) = some (.ref fa) := by
      have e : (HandSHeadRun.topDef (OpenLaw.row PySem.Challenge.rw_anytempo_k09_maps_there_and_back).prog 52).name = ("law" : PySem.Str) := by kernel_rfl
      rw [← e]
      exact hmg0
    obtain ⟨fd, hb, hF⟩ := K09.facts (w := w) KX G hmg c
    exact ⟨K, fd, K09.spLaw K, KX, hb, fun H a ns hl _ hS => ⟨a, ns, rfl, hS, hl, fun _ => rfl⟩, hF⟩

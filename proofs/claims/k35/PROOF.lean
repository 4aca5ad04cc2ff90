import PyProof.Rows.All
import Wide.All
import OpenK.AllK
import Wide.FinOn
import KE.KExcSuper
import HandS.Base
import HandS.Call
import HandS.List
import HandS.Exc
import HandS.ExcOwn
import HandS.TryOnly
import HandS.WordsExc
import HandS.ForMost
import HandS.Wide
import HandS.IsInst
import HandS.Gcd
import HandS.Property
import HandS.Defaults
import HandS.Star
import KE.KOpsOwn
import HandS.CallSlots
import HandS.SlotsOwn
import KE.KStateDown
import HandS.Ends
import HandS.Head0
import HandS.Head1
import HandS.Head2
import HandS.Head3
import HandS.HeadEnd
import HandS.HeadHook1
import HandS.HeadHook2
import HandS.Text
import HandS.Iter
import HandS.Comp
import HandS.RaiseMore
import HandS.Dict
import PyProof.ReprRoads
import HandS.MapJoin
import HandS.Rev
import HandS.RevTup
import PyProof.NeKinds
import PyProof.EqKinds
import PyProof.FactsAll.dict
import HandS.OwnEq
import KE.GoesMore
import PyProof.P3In
import HandS.Deep
import HandS.StrMore
import KE.IntTextLaws
import PyProof.StrLawsAffix
import HandS.TupAny
import PyProof.StrBlock2
import HandS.ExcIs
import HandS.Walk
import HandS.TryMany
import HandS.FStr
import PyProof.ReprLen
import PyProof.Rows.RegFStrParts
import HandS.Style
import PySem.Challenge.RW_anytempo_k35_texts_of_sheets
set_option Elab.async false
set_option linter.all false
set_option maxRecDepth 100000
set_option maxHeartbeats 4000000
/-! Exception classes whose __init__ says super().__init__(a text) and stores its one argument. -/
namespace Xb
open PySem PySem.W PySem.Calls PyProof.Rows
abbrev arg2 (F : Str) (p1 p2 : Pos) : Arguments :=
  { posonlyargs := [], args := [{ arg := "self", annotation := none, pos := p1 }, { arg := F, annotation := none, pos := p2 }],
    vararg := none, kwonlyargs := [], kw_defaults := [], kwarg := none, defaults := [] }
abbrev bod2 (F txt : Str) (k : Nat) (q1 q2 q3 q4 q5 q6 q7 q8 q9 q10 : Pos) : List Stmt :=
  [.Expr (.Call (.Attribute (.Call (.Name "super" q1) [] [] q2) "__init__" q3) [.Constant (.str txt) k q4] [] q5) q6,
   .Assign [.Attribute (.Name "self" q7) F q8] (.Name F q9) q10]
abbrev sco2 (F : Str) : Scope :=
  { kind := .function, names := [(PySem.Str.ofString "self", .local), (F, .local), (PySem.Str.ofString "__class__", .free), (PySem.Str.ofString "super", .globalImplicit)],
    isGenerator := false, isCoroutine := false, more := [] }
/-- the names of the one field are no other names -/
structure Nm (F : Str) : Prop where
  s : (sco2 F).names.lookup ("super" : Str) = some .globalImplicit
  c : (sco2 F).names.lookup ("__class__" : Str) = some .free
  f : (sco2 F).names.lookup F = some .local
  l : (sco2 F).names.lookup ("self" : Str) = some .local
  ne : (F == ("self" : Str)) = false
  en : (("self" : Str) == F) = false
  db : (F == ("__debug__" : Str)) = false
  b : ∀ (q : Str) (bd : List Stmt) (kV doc pm : Value) (an : Option Addr) (cd ct : Value) (cc : Addr) (p1 p2 : Pos) (u v : Value),
    bindArgs (ksFn "__init__" q (arg2 F p1 p2) bd (sco2 F) .none kV doc pm an cd ct cc) ⟨[u, v], []⟩ = pure [(("self" : Str), u), (F, v)]
theorem mcall1 {o : Expr} {name : Str} {apos pos p4 : Pos} {txt : Str} {kk : Nat} {env : Env} (h : (apos.endLine == pos.line) = true) :
    eval (.Call (.Attribute o name apos) [.Constant (.str txt) kk p4] [] pos) env = (do
      let ov ← attributeBase o name env (eval o env)
      standAt apos.atName
      let (f, first) ← holding [ov] (getMethod ov name (do return (← importBound o env).getD true))
      callWith pos f first (backTo pos (starEach [.Constant (.str txt) kk p4] env)) []) := by
  have e : ∀ ov, methodCall o name apos pos env ov 1 (backTo pos (starEach [.Constant (.str txt) kk p4] env)) [] = (do
      let (f, first) ← holding [ov] (getMethod ov name (do return (← importBound o env).getD true))
      callWith pos f first (backTo pos (starEach [.Constant (.str txt) kk p4] env)) []) := fun ov => by
    have hf : methodCallForm 1 (backTo pos (starEach [.Constant (.str txt) kk p4] env)) [] = true := rfl
    unfold methodCall methodCallPos calleeOf
    simp only [hf, h, Bool.not_true, Bool.false_or, if_true, pure_bind]
  show (do
      let ov ← attributeBase o name env (eval o env)
      standAt apos.atName
      methodCall o name apos pos env ov 1 (backTo pos (starEach [.Constant (.str txt) kk p4] env)) []) = _
  simp only [e]
theorem nm_value : Nm "value" := ⟨rfl, rfl, rfl, rfl, by decide, by decide, by decide, fun _ _ _ _ _ _ _ _ _ _ _ _ _ => rfl⟩
/-- what the written part says of the class at C and of its __init__ at fI -/
structure Txt (file : Str) (K : Frag) (q F txt : Str) (C fI : Addr) : Prop where
  nm : Nm F
  cls : ∃ nm q' N bs bm sn sub ab col dd k0 k1 k2 k3 k5, K.lookup C = some (excClassObj nm q' C N bs bm true sn sub ab col dd k0 k1 k2 k3 k5 "ValueError.__new__") ∧ HandSPX.refsVE bm = true
  sa : findIn K (.ref C) "__setattr__" = some (some (.builtin "object.__setattr__"))
  ga : findIn K (.ref C) "__getattribute__" = some (some (.builtin "BaseException.__getattribute__"))
  gg : findIn K (.ref C) "__getattr__" = some none
  noF : findIn K (.ref C) F = some none
  iC : findIn K (.ref C) "__init__" = some (some (.ref fI))
  tC : typeIn K (.ref fI) = some (.type "function")
  kC : keepIn K (.ref C) = true
  exC : subIn K (.ref C) (.type "BaseException") = some true
  veC : subIn K (.ref C) (.type "ValueError") = some true
  tyC : typeIn K (.ref C) = some (.type "type")
  hdC : hasDictIn K C = true
  te : exmOne K (.ref C) (.ref C) = some true
  sup : ks_superIn K C C "__init__" = some (some (.builtin "ValueError.__init__"))
  slf : mroIn K C (.ref C) = some true
  gs : nsIn K mainGlobals "super" = some none
  tp : nsIn K cStatics "thirdparty.any" = some none
  fn : ∃ (oc : Value) (od : Option Addr) (kV doc pm : Value) (an : Option Addr) (cda : Addr) (ct : Value) (osl : Array (Option Value)) (cc : Addr) (p1 p2 : Pos) (kk : Nat) (q1 q2 q3 q4 q5 q6 q7 q8 q9 q10 : Pos),
    K.lookup fI = some ⟨oc, od, .func (ksFn "__init__" q (arg2 F p1 p2) (bod2 F txt kk q1 q2 q3 q4 q5 q6 q7 q8 q9 q10) (sco2 F) .none kV doc pm an (.ref cda) ct cc), osl⟩ ∧ codeIn K (.ref cda) q = true ∧ (q3.endLine == q5.line) = true ∧
    (∃ ccl cdd vs ccs tf, K.lookup cda = some ⟨ccl, cdd, .fields vs, ccs⟩ ∧ vs[2]? = some (.str file tf)) ∧ (∃ cl cld csl, K.lookup cc = some ⟨cl, cld, .cell (some (.ref C)), csl⟩)
/-- behind __init__ -/
structure Done (h h' : Heap) (x C dx t1 : Addr) (F : Str) (v : Value) : Prop where
  keep : ∀ b o, b ≠ x → h.get? b = some o → h'.get? b = some o
  obj : h'.get? x = some { cls := .ref C, dict := some dx, data := .fields #[.ref t1, .none, .none, .none, .bool false, .none] }
  dbig : h.objs.size ≤ dx
  dne : dx ≠ x
  ns : h'.Ns1 dx (fun y => if y = F then some v else none)
section
variable {prog : Program} {w : World} {A : Around} {E : Value → Shared → Prop} {h : Heap} {g : Array GenState} {d : Drawn} {t : Nat} {os : OsState}
variable {nm q : Str} {C N : Addr} {bs bm : List Value} {hdct : Bool} {sn : List Str} {sub : List Value} {ab : Bool} {col : Option Bool} {dd : Option Addr} {k0 k1 k2 k3 k5 : Option Value}
/-- the bound built-in __init__ is called -/
theorem mw_call {u e t0 : Addr} {rest : List Value} {Q : Value → Shared → Prop}
    (hC : h.get? C = some (excClassObj nm q C N bs bm hdct sn sub ab col dd k0 k1 k2 k3 k5 "ValueError.__new__")) (he : h.get? e = some (HandSPX.excO C t0))
    (hu : h.get? u = some (kxs_mw "ValueError.__init__" e)) (hz : rest.length ≤ sizeLine)
    (hq : ∀ h' t1, (∀ b o, b ≠ e → h.get? b = some o → h'.get? b = some o) → h'.get? e = some (HandSPX.excO C t1) → Q .none ⟨h', g, d, t, os⟩) :
    wpAny (model prog w) A (call (.ref u) rest) Q E ⟨h, g, d, t, os⟩ := by
  have FB := F.excBase_ValueError
  have c1 : (Value.type "method-wrapper" == Value.type "method" || Value.type "method-wrapper" == Value.type "builtin_function_or_method" || Value.type "method-wrapper" == Value.type "method-wrapper") = true := by decide
  refine wpAny_call (codeAny_of_tree ?_)
  show wpAny _ A.in1 (callAny (.ref u) ⟨rest, []⟩) _ _ _
  simp only [callAny]
  refine wpAny_bind (wpAny_load hu ?_)
  simp only [kxs_mw, c1, if_true]
  refine KFB.if_so (by decide) ?_
  refine wpAny_bind (check_bound_init (initId := "ValueError.__init__") FB.toExcCallFacts hC he rfl ?_)
  refine wpAny_bind (wpAny_pure (wpAny_pure ?_))
  refine ⟨plainId_quiet FB.init.plain _, codeAny_builtin FB.initEntry ?_⟩
  refine exc_init_tree (cls := .ref C) (t0 := t0) (dv := none) (c2 := .none) (c3 := .none) (b4 := .bool false) he hz fun h' k e' _ => ?_
  exact hq h' _ k e'
end
section
variable {prog : Program} {w : World} {A : Around} {E : Value → Shared → Prop} {R : Result → Shared → Prop} {s : Shared} {K : Frag} {q F txt : Str} {C fI : Addr} {mg mb : Str → Option Value}
theorem initX (T : Txt prog.main.file K q F txt C fI) {x t0 : Addr} {v : Value} (X : K.In s.heap) (hlim : s.heap.NoLimit) (hg : s.heap.Ns mainGlobals mg) (hb : s.heap.Ns builtinsNs mb) (hbs : mb "super" = some (.type "super"))
    (htop : (prog.main.scope.names.lookup ("super" : Str)).isSome = false) (hx : s.heap.get? x = some (HandSPX.excO C t0)) (hnx : K.lookup x = none) (hroom : A.depth < recursionLimit)
    (hq : ∀ h' tk dx t1, Done s.heap h' x C dx t1 F v → R (.ok (.ret .none)) { s with heap := h', toks := tk }) :
    codeAny (model prog w) A (.call (.ref fI) ⟨[.ref x, v], []⟩) R s := by
  obtain ⟨oc, od, kV, doc, pm, an, cda, ct, osl, cc, p1, p2, kk, q1, q2, q3, q4, q5, q6, q7, q8, q9, q10, ho, hcd, hpl, ⟨ccl, cdd, vs, ccs, tf, hcode, hvs⟩, cl, cld, csl, hcell⟩ := T.fn
  obtain ⟨nm, q', N, bs, bm, sn, sub, ab, col, dd, k0, k1, k2, k3, k5, hC, hbm⟩ := T.cls
  have hcl : clsIn K C = some { name := nm, bases := bs, mro := .ref C :: bm, ns := N, qualname := q', hasDict := true, slotNames := sn, subclasses := sub, abstract := ab, collection := col, hasDel := false } := by unfold clsIn; rw [hC] <;> rfl
  refine ks_codeAny_call_defAt (fd := ksFn "__init__" q (arg2 F p1 p2) (bod2 F txt kk q1 q2 q3 q4 q5 q6 q7 q8 q9 q10) (sco2 F) .none kV doc pm an (.ref cda) ct cc) (binds := [("self", .ref x), (F, v)]) hroom (X _ _ ho) rfl hlim (codeRec_of X hcd) rfl
    (BindsTo.of_eq (T.nm.b _ _ _ _ _ _ _ _ _ _ _ _ _)) (fun y hy => ?_) (fun y hy => ?_) (fun h₁ hns hk => ?_)
  · simp only [List.mem_cons, List.not_mem_nil, or_false] at hy
    rcases hy with rfl | rfl | rfl | rfl <;> (intro z; cases z)
  · simp only [List.mem_cons, List.not_mem_nil, or_false] at hy
    rcases hy with rfl | rfl
    · exact T.nm.l
    · exact T.nm.f
  have X1 : K.In h₁ := X.keeps hk
  have g1 : h₁.Ns mainGlobals mg := hg.keeps hk
  have b1 : h₁.Ns builtinsNs mb := hb.keeps hk
  have x1 := hk _ _ hx
  have vS : ([(PySem.Str.ofString "self", Value.ref x), (F, v)] : List (Str × Value)).reverse.lookup ("self" : Str) = some (.ref x) := by
    show List.lookup ("self" : Str) [(F, v), (("self" : Str), Value.ref x)] = _
    simp [List.lookup, T.nm.en]
  have vF : ([(PySem.Str.ofString "self", Value.ref x), (F, v)] : List (Str × Value)).reverse.lookup F = some v := by
    show List.lookup F [(F, v), (("self" : Str), Value.ref x)] = _
    simp [List.lookup]
  show _root_.PySem.wpAt _ _ _ (execs (_ :: _) _) _ _ _
  refine ks_wpAt_execs_cons (ks_wpAt_Expr_any (ks_wpAt_MethodCall ?_ (mcall1 hpl)))
  obtain ⟨oD, hD1, hD2⟩ : ∃ oD, h₁.get? C = some oD ∧ oD.data = .cls { name := nm, bases := bs, mro := .ref C :: bm, ns := N, qualname := q', hasDict := true, slotNames := sn, subclasses := sub, abstract := ab, collection := col, hasDel := false } := ⟨_, X1 _ _ hC, rfl⟩
  have I1 : InstAt h₁ x (HandSPX.excO C t0) C none := ⟨x1, rfl, rfl, trivial⟩
  refine ks_wpAt_super_base T.nm.s T.nm.c (by decide) rfl (X1 _ _ ho) rfl rfl rfl (X1 _ _ hcode) rfl hvs (beq_self_eq_true _) htop ?_
  refine ks_loadName_global rfl T.nm.s (loadGlobal_builtin g1 (mg_none_of X1 g1 T.gs) b1 hbs ⟨rfl, ?_⟩)
  refine wpAny_loadName_free rfl T.nm.c (by rfl) ⟨_, X1 _ _ hcell, rfl⟩ ?_
  refine wpAny_loadName_local rfl T.nm.l hns vS ?_
  refine ks_wpAny_isType_cls hD1 hD2 ⟨rfl, ?_⟩
  refine ks_wpAny_call_super hD1 hD2 x1 rfl (fun c e => by cases e) (looks_mroIn X1 T.slf) (fun h₂ e2 k2' => ?_)
  have X2 : K.In h₂ := X1.keeps k2'
  have x2 := k2' _ _ x1
  have n2 : h₂.Ns s.heap.objs.size (fun y => ([(PySem.Str.ofString "self", Value.ref x), (F, v)] : List (Str × Value)).reverse.lookup y) := hns.keeps k2'
  have I2 : InstAt h₂ x (HandSPX.excO C t0) C none := ⟨x2, rfl, rfl, trivial⟩
  have hxC : x ≠ C := ks_ne X2 I2 hcl
  have hsup := T.sup
  unfold ks_superIn at hsup
  rw [hcl] at hsup
  have hI : Looks (model prog w) h₂ (isInstance (.ref x) (.type "ValueError")) true := I2.type.andThen (looks_subIn X2 T.veC)
  show wpAny _ _ (getMethod (.ref h₁.objs.size) "__init__" _) _ _ _
  refine kxs_getMethod kxs_ValueError e2 (looks_opaque X2 T.tp) (l₀ := .ref C :: bm) (fun A Q E s k z => wpAny_bind ((looks_clsIn X2 hcl) A _ E s k (wpAny_pure z))) rfl X2 hsup hI hxC (by decide) ?_
  have k3' : ∀ b o, h₂.get? b = some o → (h₂.push (kxs_mw "ValueError.__init__" x)).get? b = some o := fun b o e => Heap.get?_push_of_some _ e
  have u3 : (h₂.push (kxs_mw "ValueError.__init__" x)).get? h₂.objs.size = some (kxs_mw "ValueError.__init__" x) := Heap.get?_push_size _ rfl
  refine kxs_callWith (i := "ValueError.__init__") (x := x) rfl (evalArgs_plain (spliced_cons (Constant_str (k := kk) (pos := q4) (spliced_nil ⟨u3, ?_⟩))))
  refine mw_call (k3' _ _ (X2 _ _ hC)) (k3' _ _ x2) u3 (by show 1 ≤ sizeLine; rw [sizeLine_eq]; omega) fun h₄ t1 k4 x4 => ?_
  have X4 : K.In h₄ := fun a o e => k4 a o (fun z => by rw [z, hnx] at e; cases e) (k3' _ _ (X2 _ _ e))
  have hxL : s.heap.objs.size ≠ x := Nat.ne_of_gt (Heap.lt_size hx)
  have n4 : h₄.Ns s.heap.objs.size (fun y => ([(PySem.Str.ofString "self", Value.ref x), (F, v)] : List (Str × Value)).reverse.lookup y) := by
    obtain ⟨o, es, ep, e, r⟩ := n2
    exact ⟨o, es, ep, k4 _ _ hxL (k3' _ _ e), r⟩
  show _root_.PySem.wpAt _ _ _ (execs (_ :: _) _) _ _ _
  refine wpAt_of_wpAny (wpAny_execs_cons (plainObj_wpAny_Assign_Attribute ?_))
  refine wpAny_Name (wpAny_loadName_local rfl T.nm.f n4 vF ?_) T.nm.db
  refine wpAny_Name (wpAny_loadName_local rfl T.nm.l n4 vS ?_) (by decide)
  refine set_plain X4 (ox := HandSPX.excO C t1) (od := none) ⟨x4, rfl, rfl, trivial⟩ T.sa ?_
  refine HandSPX.exc_osa X4 x4 hcl (show HandSPX.refsVE (.ref C :: bm) = true from hbm) rfl T.noF (fun h₅ tk₅ dx k₅ dn dne hx₅ hn₅ => ?_)
  show wpAny _ _ (execs _ _) _ _ _
  have z4 : ∀ b o, b ≠ x → s.heap.get? b = some o → h₄.get? b = some o := fun b o hb e => k4 b o hb (k3' _ _ (k2' _ _ (hk _ _ e)))
  refine wpAny_execs_nil (hq h₅ tk₅ dx t1 ⟨fun b o hb e => k₅ b o hb (z4 b o hb e), hx₅, ?_, dne, hn₅⟩)
  obtain ⟨o4, es4, ep4, e4, _⟩ := n4
  exact Nat.le_of_lt (Nat.lt_of_lt_of_le (Heap.lt_size e4) dn)

/-- a made one -/
structure Made (h h' : Heap) (e C d : Addr) (F : Str) (v : Value) : Prop where
  keep : ∀ b o, h.get? b = some o → h'.get? b = some o
  new : h.objs.size ≤ e
  obj : ∃ t1 : Addr, h'.get? e = some { cls := .ref C, dict := some d, data := .fields #[.ref t1, .none, .none, .none, .bool false, .none] }
  dbig : h.objs.size ≤ d
  dne : d ≠ e
  ns : h'.Ns1 d (fun y => if y = F then some v else none)
theorem madeX (T : Txt prog.main.file K q F txt C fI) {v : Value} (X : K.In s.heap) (hlim : s.heap.NoLimit) (hg : s.heap.Ns mainGlobals mg) (hb : s.heap.Ns builtinsNs mb) (hbs : mb "super" = some (.type "super"))
    (htop : (prog.main.scope.names.lookup ("super" : Str)).isSome = false) (hroom : A.depth + 1 < recursionLimit)
    (hq : ∀ h' tk e d, Made s.heap h' e C d F v → R (.ok (.ret (.ref e))) { s with heap := h', toks := tk }) :
    codeAny (model prog w) A (.call (.ref C) ⟨[v], []⟩) R s := by
  obtain ⟨nm, q', N, bs, bm, sn, sub, ab, col, dd, k0, k1, k2, k3, k5, hC, hbm⟩ := T.cls
  obtain ⟨hp, g, dr, tk, os⟩ := s
  have k : ∀ b o, hp.get? b = some o → ((hp.push (kdv_tup [v])).push (HandSPX.excO C hp.objs.size)).get? b = some o := fun b o e => Heap.get?_push_of_some _ (Heap.get?_push_of_some _ e)
  have hget : ((hp.push (kdv_tup [v])).push (HandSPX.excO C hp.objs.size)).get? (hp.objs.size + 1) = some (HandSPX.excO C hp.objs.size) := by heap_get
  have hnx : K.lookup (hp.objs.size + 1) = none := by
    cases e : K.lookup (hp.objs.size + 1) with
    | none => rfl
    | some o =>
      have z : hp.get? (hp.objs.size + 1) = some o := X _ _ e
      exact absurd (Nat.lt_of_succ_lt (Heap.lt_size z)) (Nat.lt_irrefl _)
  refine HandSPX.call_own _root_.PySem.F.excBase_ValueError (fun X => HandSPX.refsVE_contains X bm hbm) (X _ _ hC) (looks_findIn X T.iC) (fun self => bind_fn X self T.tC) (by show 1 ≤ sizeLine; rw [sizeLine_eq]; omega) ?_
  refine initX (s := ⟨(hp.push (kdv_tup [v])).push (HandSPX.excO C hp.objs.size), g, dr, tk, os⟩) T (X.keeps k) (hlim.keeps k) (hg.keeps k) (hb.keeps k) hbs htop hget hnx ?_ fun h' tk' dx t1 D => ?_
  · show A.depth + 1 < recursionLimit
    exact hroom
  · have old : ∀ b o, hp.get? b = some o → h'.get? b = some o := fun b o e => D.keep b o (Nat.ne_of_lt (Nat.lt_succ_of_lt (Heap.lt_size e))) (k b o e)
    have z : hp.objs.size + 1 + 1 ≤ dx := by
      have q := D.dbig
      simp only [Heap.size_push] at q
      exact q
    exact ⟨rfl, hq h' tk' (hp.objs.size + 1) dx ⟨old, Nat.le_succ _, ⟨_, D.obj⟩, Nat.le_trans (Nat.le_trans (Nat.le_succ _) (Nat.le_succ _)) z, D.dne, D.ns⟩⟩
end
end Xb
set_option Elab.async false
set_option linter.all false
set_option maxRecDepth 100000
set_option maxHeartbeats 4000000
namespace Xb
open PySem PySem.Spec PyProof.Rows L2
theorem boot_super : bootBuiltins "super" = some (.type "super") := by decide +kernel
theorem relO_one {F : Str} {v : V} {v' : Value} (r : RelV v v') (f : Str) : RelO (List.lookup f [(F, v)]) (if f = F then some v' else none) := by
  by_cases hw : f = F
  · subst hw
    rw [if_pos rfl]
    have q : List.lookup f [(f, v)] = some v := by simp [List.lookup]
    rw [q]
    exact r
  · rw [if_neg hw]
    have qw : (f == F) = false := by simpa using hw
    have q2 : List.lookup f [(F, v)] = none := by simp [List.lookup, qw]
    rw [q2]
    trivial
section
variable {X : Cx} {C fI : Addr} {q F txt : Str}
/-- C(e), to be raised -/
def tMkX (C : Addr) (F : Str) (ta : TA) : L2.St → Hp → XK → Prop := fun σ H Q => ta σ H fun vs H1 => ∃ v, vs = [v] ∧ ∀ d, H1 d = none → Q (.ref C) (some d) (upd H1 d (.xd [(F, v)]))
theorem pmk_x {x : Str} {a : Expr} {ta : TA} {p pos : Pos} {k : Nat} (T : Txt X.prog.main.file X.K q F txt C fI) (hm : X.mg x = some (.ref C)) (htop : (X.prog.main.scope.names.lookup ("super" : Str)).isSome = false) (hr : Room k X.A) (ha : PA X [a] ta) (hg : Gl X x := by rfl)
    (hdb : (x == ("__debug__" : Str)) = false := by decide)
    (he : starEach (a :: []) X.env = (false, eval a X.env) :: starEach [] X.env := by rfl) (hpl : (backTo pos (starEach [] X.env)).any (·.1) = false := by rfl) :
    PMk X (.Call (.Name x p) [a] [] pos) (tMkX C F ta) := by
  intro pins s σ H Q I h
  refine wpAny_Call_Name_kw (ld_glob I hg hm ?_ hdb)
  refine PySem.W.callWith_K (h₀ := X.base) I.ok.mod.kin T.kC (thn (ha.run pos pins s σ H _ I h) fun us s1 hh => ?_) he hpl
  obtain ⟨vs, H1, I1, r1, v, ev, q1⟩ := hh
  subst ev
  refine ⟨I1.kIn, ?_⟩
  cases r1 with
  | cons rv rn =>
    rename_i v' us'
    cases rn
    show wpAny _ _ (call (.ref C) [v']) _ _ _
    have hlim := I1.nolimit
    have M := I1.mod
    have hns : s1.heap.Ns mainGlobals X.mg := M.glob.keeps I1.bk
    obtain ⟨mb, hb, hbb⟩ := M.blt
    have hb1 : s1.heap.Ns builtinsNs mb := hb.keeps I1.bk
    have hbs : mb "super" = some (.type "super") := (hbb _ (by decide)).trans boot_super
    obtain ⟨hp, g, dr, tk, os⟩ := s1
    refine wpAny_call (madeX T I1.kIn hlim hns hb1 hbs htop (by have := hr.dp; omega) fun h' tk' e d M => ?_)
    show MkP X pins σ Q (.ref e) ⟨h', g, dr, tk', os⟩
    obtain ⟨t1, hoe⟩ := M.obj
    obtain ⟨G', g1, g2⟩ := restrict h' fun b => decide (b ≠ e)
    have gk : ∀ b, b ≠ e → G'.get? b = h'.get? b := fun b hb => g1 b (decide_eq_true hb)
    have ge : G'.get? e = none := g2 e (by simp)
    have old : ∀ b o, hp.get? b = some o → G'.get? b = some o := fun b o q => (gk b (Nat.ne_of_lt (Nat.lt_of_lt_of_le (Heap.lt_size q) M.new))).trans (M.keep b o q)
    have ob : ObjOk X.prog X.w (upd H1 d (.xd [(F, v)])) G' d (.xd [(F, v)]) :=
      ⟨_, M.ns.at (fun o q => (gk d M.dne).trans q), fun f => relO_one rv f⟩
    have J : Inv X pins σ (upd H1 d (.xd [(F, v)])) ⟨G', g, dr, tk', os⟩ := I1.laid (t' := tk') old M.dbig ob
    refine ⟨e, _, _, ⟨G', g, dr, tk', os⟩, _, .ref C, some d, rfl, J, fun b o q => ?_, ge, hoe, ⟨rfl, rfl⟩, rfl, rfl, ?_, rfl, I1.bare, raises_own T.exC T.tyC, q1 d (I1.hok.fresh M.dbig)⟩
    · by_cases hb : b = e
      · have q' : G'.get? b = some o := q
        rw [hb, ge] at q'; cases q'
      · exact (gk b hb).symm.trans q
    · rw [upd_ne (Ne.symm M.dne)]
      exact I1.hok.fresh M.new
/-- raise C(e) -/
def tRaiseX (C : Addr) (F : Str) (W : WX) (ta : TA) : TS := fun _ σ H => tMkX C F ta σ H fun cls d H' => W cls d σ H'
theorem ps_raiseX {x : Str} {a : Expr} {ta : TA} {W : WX} {p pos pos2 : Pos} {k : Nat} (hc : X.calm = true) (T : Txt X.prog.main.file X.K q F txt C fI) (hm : X.mg x = some (.ref C)) (htop : (X.prog.main.scope.names.lookup ("super" : Str)).isSome = false) (hr : Room k X.A) (tk : Takes X W) (ha : PA X [a] ta) (hg : Gl X x := by rfl)
    (hdb : (x == ("__debug__" : Str)) = false := by decide)
    (he : starEach (a :: []) X.env = (false, eval a X.env) :: starEach [] X.env := by rfl) (hpl : (backTo pos (starEach [] X.env)).any (·.1) = false := by rfl) :
    PS X (.Raise (some (.Call (.Name x p) [a] [] pos)) none pos2) (tRaiseX C F W ta) := ps_raise hc tk (pmk_x T hm htop hr ha hg hdb he hpl)
/-- e.F, e the exception that the suite holds (at a; its class cls, its dict d) -/
def tByX (C : Addr) (F : Str) (a : Addr) (cls : Value) (d : Option Addr) (te : TE) : TE := fun σ H Q => te σ H fun x H1 => x = .ref a ∧ cls = .ref C ∧ ∃ (dd : Addr) (v : V), d = some dd ∧ H1 dd = some (.xd [(F, v)]) ∧ Q v H1
theorem pe_byX {a : Addr} {oe : Obj} {cls : Value} {d : Option Addr} {pn : List (Addr × Obj)} {e : Expr} {te : TE} {pos : Pos} (T : Txt X.prog.main.file X.K q F txt C fI) (hz : Zc cls d oe) (hf : ∃ vs, oe.data = .fields vs) (he : PE (X.suite a ((a, oe) :: pn)) e te)
    (hb : attributeBase e F X.env (eval e X.env) = eval e X.env := by rfl) :
    PE (X.suite a ((a, oe) :: pn)) (.Attribute e F pos) (tByX C F a cls d te) := by
  refine ⟨fun pins s σ H Q I h => ?_⟩
  refine attr_of hb (thn (he.run pins s σ H _ I h) fun u s1 hh => ?_)
  obtain ⟨x, H1, I1, rx, ex, ec, dd, v, ed, ea, q⟩ := hh
  subst ex
  obtain rfl : u = Value.ref a := rx
  subst ec
  subst ed
  obtain ⟨ha, _⟩ := I1.pin (a, oe) (List.mem_append_left _ List.mem_cons_self)
  obtain ⟨vs, hd⟩ := hf
  have hx : ObjOk X.prog X.w H1 s1.heap dd (.xd [(F, v)]) := I1.hok dd _ ea
  obtain ⟨mA, hns, hr⟩ := hx
  obtain ⟨od, ho, hl⟩ := lookIn_ns hns
  have l : List.lookup F [(F, v)] = some v := by simp [List.lookup]
  obtain ⟨u, hu, ru⟩ := RelO.some_of (v := v) (o := mA F) (by rw [← l]; exact hr F)
  have J : PySem.W.InstAt s1.heap a oe C (some od) := ⟨ha, hz.1, by unfold PySem.W.notCls; rw [hd] <;> rfl, by rw [hz.2]; exact ho⟩
  exact HandSPX.exc_get I1.kIn J T.ga T.gg T.exC (PySem.W.findObj_own T.hdC T.noF rfl (by rw [hl, hu])) (handed_of ru) ⟨v, H1, I1.tok _, ru, q⟩
end
end Xb
set_option Elab.async false
set_option linter.all false
set_option maxRecDepth 100000
set_option maxHeartbeats 4000000
namespace Fa
open PySem PySem.Spec PyProof.Rows L2
/-! ### the draws of the laws: a box of three ints -/
/-- a box at p, of which fewer than n draws were taken by the second way -/
def Box (H : Hp) (p : Addr) (n : Nat) : Prop := ∃ a b c : Int, H p = some (.lst [.int a, .int b, .int c]) ∧ 0 ≤ a ∧ 0 ≤ b ∧ b < 2147483648 ∧ 0 ≤ c ∧ c ≤ (n : Int)
theorem Box.mono {H : Hp} {p : Addr} {n m : Nat} (h : Box H p n) (e : n ≤ m) : Box H p m := by
  obtain ⟨a, b, c, h1, h2, h3, h4, h5, h6⟩ := h
  exact ⟨a, b, c, h1, h2, h3, h4, h5, by omega⟩
/-- all but p is as it was -/
def But (p : Addr) (H H' : Hp) : Prop := ∀ q, q ≠ p → H' q = H q
theorem But.refl (p : Addr) (H : Hp) : But p H H := fun _ _ => rfl
theorem But.trans {p : Addr} {H H1 H2 : Hp} (a : But p H H1) (b : But p H1 H2) : But p H H2 := fun q h => (b q h).trans (a q h)
theorem But.upd {p : Addr} {H : Hp} {o : HO} : But p H (upd H p o) := fun _ h => upd_ne h
def spCel (K : PySem.W.Frag) : Sp := fun vs H Q _ => ∃ (l : Addr) (ns : List Int) (j : Nat), vs = [.ref l, .int (j : Int)] ∧ SqL K H l (ns.map V.int) ∧ j ≤ 1000 ∧ ∀ z : Int, Q (.int z) H
def spBox : Sp := fun vs H Q _ => ∃ c : Int, vs = [.int c] ∧ ∀ p H', H p = none → (∀ q, q ≠ p → H' q = H q) → Box H' p 0 → Q (.ref p) H'
def spTake : Sp := fun vs H Q _ => ∃ (p : Addr) (m : Int) (n : Nat), vs = [.ref p, .int m] ∧ Box H p n ∧ n ≤ 1000000 ∧ 0 < m ∧ m < 2 ^ 1000 ∧ ∀ (z : Int) (H' : Hp), 0 ≤ z → z < m → Box H' p (n + 1) → But p H H' → Q (.int z) H'
theorem cdivW {a m : Int} (h : 0 < m) (h2 : m < 2 ^ 1000) : CDivW a m := ⟨h, by
  have e : m.natAbs < 2 ^ 1000 := by omega
  exact Nat.lt_of_lt_of_le ((Nat.log2_lt (by omega)).mpr e) (by omega)⟩
theorem atI3 {α : Type} {a b c : α} (i : Int) (h0 : i = 0 ∨ i = 1 ∨ i = 2) : atI [a, b, c] i = some (if i = 0 then a else if i = 1 then b else c) := by
  rcases h0 with rfl | rfl | rfl <;> rfl
end Fa
set_option Elab.async false
set_option linter.all false
set_option maxRecDepth 100000
set_option maxHeartbeats 4000000
namespace K35
open PySem PySem.Spec PyProof.Rows L2 Fa
def top (i : Nat) : Stmt := PySem.Challenge.pw_anytempo_k35_texts_of_sheets.main.body.getD i (.Pass ⟨0, 0, 0, 0⟩)
abbrev FnP (K : PySem.W.Frag) (x : Str) (st : Stmt) (f : Addr) (fd : FuncData) : Prop := FunD K x x (defArgs st) (defBody st) (defScope st) [] [] f fd

abbrev sCell : Stmt := top 59
abbrev sBox : Stmt := top 60
abbrev sTake : Stmt := top 61
theorem scCell : FnScope ["_law_script", "_law_k"] ["_law_script", "_law_k"] (defScope sCell) := ⟨rfl, rfl, rfl, by decide +kernel, rfl, by decide +kernel, by decide +kernel⟩
theorem scBox : FnScope ["_law_cell_here"] ["_law_cell_here"] (defScope sBox) := ⟨rfl, rfl, rfl, by decide +kernel, rfl, by decide +kernel, by decide +kernel⟩
theorem scTake : FnScope ["_law_box_here", "_law_many", "_law_digit", "_law_mixed"] ["_law_box_here", "_law_many"] (defScope sTake) := ⟨rfl, rfl, rfl, by decide +kernel, rfl, by decide +kernel, by decide +kernel⟩
section
variable {P : Program} {w : World} {K : PySem.W.Frag} {mg : Str → Option Value} {base : Heap} {f : Addr} {fd : FuncData}
theorem ok_cell (F : FnP K "_law_cell" sCell f fd) (mL : mg "len" = none) : FnOk P w K mg base CX0 1 f fd ["_law_script", "_law_k"] (spCel K) := by
  refine F.ok scCell (fun vs H Q E h => ?_) (fun cdv A outer s H vs Q E hr h => ?_)
  · obtain ⟨l, ns, j, rfl, _⟩ := h
    rfl
  · obtain ⟨l, ns, j, rfl, hs, hj, q⟩ := h
    refine ⟨_, PSs.nox (pss_cons (ps_if (pt_cmpR op_lt (pv 1) (pe_callB call_len rfl mL boot_len (pa_cons (pv 0) pa_nil)) (nomark _)) (pss_one (ps_ret (pe_ix ix_list (pv 0) (pv 1) (fun _ _ => rfl)))) pss_nil)
      (pss_one (ps_ret (pe_op op_add (pe_op op_mul pe_int (pv 1)) pe_int)))), ?_⟩
    refine ⟨_, rfl, _, rfl, _, (ns.map V.int).length, rfl, .inl ⟨_, hs, rfl⟩, _, _, rfl, rfl, _, rfl, ?_⟩
    refine ite2 (fun c => ?_) (fun c => ?_)
    · have c2 := of_decide_eq_true c
      have c3 : j < ns.length := by
        rw [List.length_map] at c2
        omega
      have e : atI (ns.map V.int) (j : Int) = some (.int ns[j]) := atI_nat (by
        rw [List.getElem?_map, List.getElem?_eq_getElem c3]
        rfl)
      exact ⟨_, rfl, _, rfl, l, _, _, _, rfl, rfl, hs, e, q _⟩
    · refine ⟨_, rfl, _, _, rfl, rfl, .inl ⟨by decide, by decide⟩, _, _, rfl, rfl, q _⟩
theorem ok_box (F : FnP K "_law_box" sBox f fd) (mM : mg "max" = none) : FnOk P w K mg base CX0 1 f fd ["_law_cell_here"] spBox := by
  refine F.ok scBox (fun vs H Q E h => ?_) (fun cdv A outer s H vs Q E hr h => ?_)
  · obtain ⟨c, rfl, _⟩ := h
    rfl
  · obtain ⟨c, rfl, q⟩ := h
    refine ⟨_, PSs.nox (pss_one (ps_ret (pe_lst (pa_cons (pe_callB (call_max2 rfl) rfl mM (by decide +kernel) (pa_cons pe_int (pa_cons (pe_op op_sub (pv 0) (pe_op op_pow pe_int pe_int)) pa_nil)))
      (pa_cons (pe_op op_mod (pv 0) pe_int) (pa_cons pe_int pa_nil)))))), ?_⟩
    refine ⟨_, rfl, _, _, rfl, rfl, ⟨by decide, by decide, by decide⟩, _, _, rfl, rfl, _, _, rfl, ?_⟩
    refine ⟨_, rfl, _, _, rfl, rfl, (by show (0 : Int) < 2147483629; decide), (by show 3 ≤ sizeLine; decide), fun p hp => ?_⟩
    refine q p _ hp (fun z hz => upd_ne hz) ⟨_, _, _, upd_same, ?_, ?_, ?_, by decide, by decide⟩
    · split <;> omega
    · exact Int.emod_nonneg _ (by decide)
    · exact Int.lt_trans (Int.emod_lt_of_pos _ (by decide)) (by decide)
theorem ok_take (F : FnP K "_law_take" sTake f fd) : FnOk P w K mg base CX0 1 f fd ["_law_box_here", "_law_many"] spTake := by
  refine F.ok scTake (fun vs H Q E h => ?_) (fun cdv A outer s H vs Q E hr h => ?_)
  · obtain ⟨p, m, n, rfl, _⟩ := h
    rfl
  · obtain ⟨p, m, n, rfl, ⟨a, b, c, hp, ha, hb, hb2, hc, hc2⟩, hn, hm, hm2, q⟩ := h
    refine ⟨_, PSs.nox (pss_cons (ps_if (pt_cmpR op_gt (pe_ix ix_list (pv 0) pe_int (fun _ _ => rfl)) pe_int (nomark _))
        (pss_cons (ps_set (i := 2) scTake.nd rfl (Or.inl rfl) (pe_op op_mod (pe_ix ix_list (pv 0) pe_int (fun _ _ => rfl)) (pv 1)))
        (pss_cons (ps_asg (pe_op op_fdivW (pe_ix ix_list (pv 0) pe_int (fun _ _ => rfl)) (pv 1)) (pg_sub (pv 0) pe_int set_list))
        (pss_one (ps_ret (pv 2))))) pss_nil)
      (pss_cons (ps_asg (pe_op op_add (pe_ix ix_list (pv 0) pe_int (fun _ _ => rfl)) pe_int) (pg_sub (pv 0) pe_int set_list))
      (pss_cons (ps_set (i := 3) scTake.nd rfl (Or.inl rfl) (pe_op op_mod (pe_op op_pow (pe_op op_add (pe_op op_add (pe_ix ix_list (pv 0) pe_int (fun _ _ => rfl)) (pe_op op_mul pe_int (pe_ix ix_list (pv 0) pe_int (fun _ _ => rfl)))) pe_int) pe_int) pe_int))
      (pss_cons (ps_set (i := 3) scTake.nd rfl (Or.inl rfl) (pe_op op_mod (pe_op op_pow (pe_op op_add (pv 3) (pe_op op_mul pe_int (pe_ix ix_list (pv 0) pe_int (fun _ _ => rfl)))) pe_int) pe_int))
      (pss_one (ps_ret (pe_op op_mod (pe_op op_fdiv (pv 3) pe_int) (pv 1)))))))), ?_⟩
    refine ⟨_, rfl, p, _, _, _, rfl, rfl, SqL.of hp, rfl, _, _, rfl, rfl, _, rfl, ?_⟩
    refine ite2 (fun t => ?_) (fun t => ?_)
    · have t2 : (0 : Int) < a := of_decide_eq_true t
      refine ⟨_, rfl, p, _, _, _, rfl, rfl, SqL.of hp, rfl, _, rfl, _, _, rfl, rfl, hm, ?_⟩
      refine ⟨_, rfl, p, _, _, _, rfl, rfl, SqL.of hp, rfl, _, rfl, _, _, rfl, rfl, cdivW hm hm2, ?_⟩
      refine ⟨_, rfl, p, _, _, _, rfl, rfl, hp, rfl, ?_⟩
      refine ⟨_, rfl, ?_⟩
      refine q _ _ (Int.emod_nonneg _ (by omega)) (Int.emod_lt_of_pos _ hm) ⟨_, _, _, upd_same, Int.ediv_nonneg ha (by omega), hb, hb2, hc, by omega⟩ But.upd
    · refine ⟨_, rfl, p, _, _, _, rfl, rfl, SqL.of hp, rfl, _, _, rfl, rfl, _, rfl, p, _, _, _, rfl, rfl, hp, rfl, ?_⟩
      have s1 : SqL K (upd H p (.lst [.int a, .int b, .int (c + 1)])) p [.int a, .int b, .int (c + 1)] := SqL.of upd_same
      refine ⟨_, rfl, p, _, _, _, rfl, rfl, s1, rfl, _, rfl, p, _, _, _, rfl, rfl, s1, rfl, _, _, rfl, rfl, .inl ⟨by decide, by decide⟩, _, _, rfl, rfl, _, _, rfl, rfl, _, _, rfl, rfl, ⟨by decide, by decide, ?_⟩, _, _, rfl, rfl, (by show (0 : Int) < 2147483647; decide), ?_⟩
      · show (b + 15489421 * (c + 1) + 1667).natAbs < 2 ^ 64
        omega
      have g1 : 0 ≤ (b + 15489421 * (c + 1) + 1667) ^ Int.toNat 5 % 2147483647 := Int.emod_nonneg _ (by decide)
      have g2 : (b + 15489421 * (c + 1) + 1667) ^ Int.toNat 5 % 2147483647 < 2147483647 := Int.emod_lt_of_pos _ (by decide)
      refine ⟨_, rfl, _, rfl, p, _, _, _, rfl, rfl, s1, rfl, _, _, rfl, rfl, .inl ⟨by decide, by decide⟩, _, _, rfl, rfl, _, _, rfl, rfl, ⟨by decide, by decide, ?_⟩, _, _, rfl, rfl, (by show (0 : Int) < 2147483587; decide), ?_⟩
      · show ((b + 15489421 * (c + 1) + 1667) ^ Int.toNat 5 % 2147483647 + 104711 * (c + 1)).natAbs < 2 ^ 64
        omega
      refine ⟨_, rfl, _, _, rfl, rfl, ⟨by decide, by decide⟩, _, rfl, _, _, rfl, rfl, hm, ?_⟩
      exact q _ _ (Int.emod_nonneg _ (by omega)) (Int.emod_lt_of_pos _ hm) ⟨_, _, _, upd_same, ha, hb, hb2, by omega, by omega⟩ But.upd
end

end K35
set_option Elab.async false
set_option linter.all false
set_option maxRecDepth 100000
set_option maxHeartbeats 4000000
namespace Fb
open PySem PySem.W PySem.Calls PyProof.Rows
section
variable {prog : Program} {w : World} {A : Around} {E : Value → Shared → Prop} {s : Shared} {K : Frag} {x C L f : Addr} {h₀ : Heap} {m : Str → Option Value} {ox : Obj} {od : Option Obj} {T : String}
/-- x op b, x an instance with its own def for op, b of a built-in type T (b may be an object) -/
theorem bin_any {op : Operator} {b : Value} {fo ro rc : Option Value} {Q : Value → Shared → Prop}
    (X : K.In s.heap) (I : InstAt s.heap x ox C od) (hb : ∀ M : Model, Looks M s.heap (typeOf b) (.type T)) (hc : selfFirst K C = true)
    (hs : findIn K (.ref C) (PySem.dunder op.info.2) = some (some (.ref f))) (hf : isFn K (.ref f) = true)
    (hr : findIn K (.ref C) (dunderR op.info.2) = some rc) (hp : rc = none ∨ ∃ g : Addr, rc = some (.ref g))
    (h1 : findIn K (.type T) (PySem.dunder op.info.2) = some fo) (h2 : findIn K (.type T) (dunderR op.info.2) = some ro) (hsub : subIn K (.type T) (.ref C) = some false)
    (h : wpAny (model prog w) A (call (.ref f) [.ref x, b]) (W.CmpBack Q) E s) : wpAny (model prog w) A (binaryOp op (.ref x) b) Q E s := by
  obtain ⟨cd, rest, hcd, hm⟩ := ksp_first hc
  rcases hi : op.info with ⟨sym, nm⟩
  rw [hi] at hs hr h1 h2
  dsimp only at hs hr h1 h2
  have one := ksp_try X I hs hf h
  obtain ⟨hh, g, d, tt, os⟩ := s
  have A1 : Looks (model prog w) hh (typeOf (.ref x)) (.ref C) := I.type
  have A2 : Looks (model prog w) hh (typeOf b) (.type T) := hb _
  have A3 : Looks (model prog w) hh (fillsNumberSlot (.ref C) nm) true := fills_K X hcd hm hs
  have A4 := ksp_fillsT (M := model prog w) (nm := nm) (T := T) X h1 h2
  have A5 : Looks (model prog w) hh (isSubtype (.type T) (.ref C)) false := looks_subIn X hsub
  have A6 : Looks (model prog w) hh (numberSlotInPython (.ref C) nm) true := ksp_inPy X hs hr hp
  have A7 : Looks (model prog w) hh (numberSlotInPython (.type T) nm) false := Looks.of_pure rfl
  have A8 : Looks (model prog w) hh (typeLookup (.type T) (dunderR nm)) ro := looks_findIn X h2
  generalize ((fo.isSome && !isSeqSlot fo) || (ro.isSome && !isSeqSlot ro)) = rt at A4
  have ne : (Value.ref C == Value.type T) = false := Bool.eq_false_iff.mpr fun z => by cases beq_iff_eq.mp z
  simp only [binaryOp, hi]
  refine wpAny_holding (wpAny_bind ?_)
  unfold binaryOp1
  refine wpAny_bind (A1.at (wpAny_bind (A2.at (wpAny_bind (A3.at ?_)))))
  simp only [ne, Bool.false_eq_true, if_false]
  cases rt <;>
  · ksp_lk
    refine wpAny_mono one (fun r s' z => ?_) fun _ _ e => e
    obtain ⟨v, rfl, hq⟩ := z
    ksp_lk
    exact hq
end
end Fb
namespace Fb
open PySem PySem.Spec PyProof.Rows L2
/-- an own operator of the class C, at the def f -/
structure OwnOp (K : PySem.W.Frag) (C : Addr) (nm : String) (f : Addr) : Prop where
  sf : PySem.W.selfFirst K C = true
  at_ : PySem.W.findIn K (.ref C) (PySem.dunder nm) = some (some (.ref f))
  fn : PySem.W.isFn K (.ref f) = true
  nr : PySem.W.findIn K (.ref C) (dunderR nm) = some none
/-- a built-in type at the right of it -/
def TyOp (K : PySem.W.Frag) (C : Addr) (nm : String) (T : String) : Prop := ∃ fo ro, PySem.W.findIn K (.type T) (PySem.dunder nm) = some fo ∧ PySem.W.findIn K (.type T) (dunderR nm) = some ro ∧ PySem.W.subIn K (.type T) (.ref C) = some false
/-- what may stand at the right -/
def RK (K : PySem.W.Frag) (C : Addr) (nm : String) (H : Hp) (y : V) : Prop := (∃ q dy gs, y = .ref q ∧ H q = some (.ins C dy gs)) ∨ ∃ T, TyX K H y (.type T) ∧ TyOp K C nm T
def tBinX (K : PySem.W.Frag) (C : Addr) (nm : String) (sp : Sp) (E : L2.St → XK) (ta tb : TE) : TE := fun σ H Q => ta σ H fun x H1 => tb σ H1 fun y H2 => ∃ p dx fs, x = .ref p ∧ H2 p = some (.ins C dx fs) ∧ RK K C nm H2 y ∧ sp [x, y] H2 Q (E σ)
def tUnX (C : Addr) (sp : Sp) (E : L2.St → XK) (ta : TE) : TE := fun σ H Q => ta σ H fun x H1 => ∃ p dx fs, x = .ref p ∧ H1 p = some (.ins C dx fs) ∧ sp [x] H1 Q (E σ)
section
variable {X : Cx} {CX : CXT} {k : Nat} {f C : Addr} {fd : FuncData} {ps : List Str} {sp : Sp} {E : L2.St → XK} {a b : Expr} {ta tb : TE} {pos : Pos}
theorem pe_binX {op : Operator} (W : OwnOp X.K C op.info.2 f) (F : FnOk X.prog X.w X.K X.mg X.base CX k f fd ps sp) (hr : Room k X.A) (hb : Binds X.K fd ps []) (hx : ∀ σ, PassesAt CX X σ (E σ)) (ha : PE X a ta) (hb2 : PE X b tb) :
    PE X (.BinOp a op b pos) (tBinX X.K C op.info.2 sp E ta tb) := by
  refine ⟨fun pins s σ H Q I h => ?_⟩
  refine wpAny_BinOp (bin ha hb2 I h fun v u s2 x y H2 I2 rx ry q => ?_)
  obtain ⟨p, dx, fs, ex, hp, rk, q⟩ := q
  subst ex
  obtain rfl : v = Value.ref p := rx
  obtain ⟨mA, O, _⟩ := ins_get I2.hok hp
  obtain ⟨od, J, _⟩ := O.look
  have go : wpAny (model X.prog X.w) X.A (call (.ref f) [.ref p, u]) (PySem.W.CmpBack (EP X pins σ Q)) X.xe s2 :=
    wpAny_mono (run_fnSD (dvs := []) (ds := []) (us := [.ref p, u]) (vs := [.ref p, y]) F hr hb .nil (hx σ) I2 (.cons rfl (.cons ry .nil)) q) (fun z s' hz => by
      obtain ⟨z', H', I', rz, qz⟩ := hz
      exact SlX.cmpback rz ⟨z', H', I', rz, qz⟩) fun _ _ x => x
  obtain ⟨m, hF⟩ := I2.fr
  rcases rk with ⟨q', dy, gs, ey, hq'⟩ | ⟨T, ty, fo, ro, h1, h2, h3⟩
  · subst ey
    obtain rfl : u = Value.ref q' := ry
    obtain ⟨mB, O', _⟩ := ins_get I2.hok hq'
    obtain ⟨od', J', _⟩ := O'.look
    exact PySem.W.binop_K hF I2.ok.mod.kin J J'.type W.sf W.at_ W.fn go
  · obtain ⟨P, Z, hP, _⟩ := kit_of I2 ry ty
    exact bin_any I2.kIn J (fun M => Z.ty M _ I2.kIn hP) W.sf W.at_ W.fn W.nr (.inl rfl) h1 h2 h3 go
/-- -a -/
theorem pe_negX (at_ : PySem.W.findIn X.K (.ref C) "__neg__" = some (some (.ref f))) (fn : PySem.W.isFn X.K (.ref f) = true) (F : FnOk X.prog X.w X.K X.mg X.base CX k f fd ps sp) (hr : Room k X.A) (hb : Binds X.K fd ps []) (hx : ∀ σ, PassesAt CX X σ (E σ)) (ha : PE X a ta) :
    PE X (.UnaryOp .USub a pos) (tUnX C sp E ta) := by
  refine ⟨fun pins s σ H Q I h => ?_⟩
  refine UnaryOp_ (thn (ha.run pins s σ H _ I h) fun v s1 ⟨x, H1, I1, r1, q1⟩ => ?_)
  obtain ⟨p, dx, fs, ex, hp, q⟩ := q1
  subst ex
  obtain rfl : v = Value.ref p := r1
  obtain ⟨mA, O, _⟩ := ins_get I1.hok hp
  obtain ⟨od, J, _⟩ := O.look
  obtain ⟨m, hF⟩ := I1.fr
  exact PySem.W.ksp_neg hF I1.ok.mod.kin J at_ fn (run_fnSD (dvs := []) (ds := []) (us := [.ref p]) (vs := [.ref p]) F hr hb .nil (hx σ) I1 (.cons rfl .nil) q)
/-- a == b, a an instance -/
theorem pe_eqX (at_ : PySem.W.findIn X.K (.ref C) "__eq__" = some (some (.ref f))) (fn : PySem.W.isFn X.K (.ref f) = true) (F : FnOk X.prog X.w X.K X.mg X.base CX k f fd ps sp) (hr : Room k X.A) (hb : Binds X.K fd ps []) (hx : ∀ σ, PassesAt CX X σ (E σ)) (ha : PE X a ta) (hb2 : PE X b tb) :
    PC X .Eq a b (fun σ H Q => ta σ H fun x H1 => tb σ H1 fun y H2 => ∃ p dx fs, x = .ref p ∧ H2 p = some (.ins C dx fs) ∧ ((∃ q dy gs, y = .ref q ∧ H2 q = some (.ins C dy gs)) ∨ ∃ T, TyX X.K H2 y (.type T) ∧ PySem.W.subIn X.K (.type T) (.ref C) = some false) ∧ sp [x, y] H2 Q (E σ)) := by
  refine ⟨fun pins s σ H Q I h => ?_⟩
  refine bin ha hb2 I h fun v u s2 x y H2 I2 rx ry q => ?_
  obtain ⟨p, dx, fs, ex, hp, rk, q⟩ := q
  subst ex
  obtain rfl : v = Value.ref p := rx
  obtain ⟨mA, O, _⟩ := ins_get I2.hok hp
  obtain ⟨od, J, _⟩ := O.look
  have go : wpAny (model X.prog X.w) X.A (call (.ref f) [.ref p, u]) (PySem.W.CmpBack (EP X pins σ Q)) X.xe s2 :=
    wpAny_mono (run_fnSD (dvs := []) (ds := []) (us := [.ref p, u]) (vs := [.ref p, y]) F hr hb .nil (hx σ) I2 (.cons rfl (.cons ry .nil)) q) (fun z s' hz => by
      obtain ⟨z', H', I', rz, qz⟩ := hz
      exact SlX.cmpback rz ⟨z', H', I', rz, qz⟩) fun _ _ x => x
  obtain ⟨m, hF⟩ := I2.fr
  rcases rk with ⟨q', dy, gs, ey, hq'⟩ | ⟨T, ty, h3⟩
  · subst ey
    obtain rfl : u = Value.ref q' := ry
    obtain ⟨mB, O', _⟩ := ins_get I2.hok hq'
    obtain ⟨od', J', _⟩ := O'.look
    exact PySem.W.cmp_K (op := .Eq) (tb := .ref C) hr.units0 hF I2.ok.mod.kin J J'.type (by simp [PySem.W.notFirst]) at_ fn go
  · obtain ⟨P, Z, hP, _⟩ := kit_of I2 ry ty
    exact PySem.W.cmp_K (op := .Eq) (tb := .type T) hr.units0 hF I2.ok.mod.kin J (fun A Q E s k z => Z.ty _ _ I2.kIn hP A Q E s k z) (by simp [PySem.W.notFirst, h3]) at_ fn go
end
end Fb
set_option Elab.async false
set_option linter.all false
set_option maxRecDepth 100000
set_option maxHeartbeats 4000000
namespace Fb
open PySem PySem.Spec PyProof.Rows L2
section
variable {X : Cx} {CX : CXT} {k : Nat} {f C : Addr} {fd : FuncData} {ps : List Str} {sp : Sp} {E : L2.St → XK} {a b : Expr} {ta tb : TE} {pos p : Pos}
theorem pe_absX (at_ : PySem.W.findIn X.K (.ref C) "__abs__" = some (some (.ref f))) (fn : PySem.W.isFn X.K (.ref f) = true) (F : FnOk X.prog X.w X.K X.mg X.base CX k f fd ps sp) (hr : Room (k + 2) X.A) (hb : Binds X.K fd ps []) (hx : ∀ σ, PassesAt CX X σ (E σ)) (hg : Gl X "abs") (hm : X.mg "abs" = none) (ha : PE X a ta)
    (he : starEach [a] X.env = (false, eval a X.env) :: starEach [] X.env := by rfl) (hpl : (backTo pos (starEach [] X.env)).any (·.1) = false := by rfl) :
    PE X (.Call (.Name "abs" p) [a] [] pos) (tUnX C sp E ta) := by
  refine ⟨fun pins s σ H Q I h => ?_⟩
  refine wpAny_Call_Name_kw (ld_blt I hg hm (by decide +kernel : bootBuiltins "abs" = some (.builtin "abs")) ?_)
  refine PyProof.Rows.callWith_builtin1 ?_ he hpl
  rw [he]
  show wpAny _ _ (spliced ((false, eval a X.env) :: backTo pos (starEach [] X.env))) _ _ s
  refine Calls.spliced_cons (thn (ha.run pins s σ H _ I h) fun v s1 ⟨x, H1, I1, r1, q1⟩ => Calls.spliced_nil ?_)
  obtain ⟨q0, dx, fs, ex, hp, q⟩ := q1
  subst ex
  obtain rfl : v = Value.ref q0 := r1
  obtain ⟨mA, O, _⟩ := ins_get I1.hok hp
  obtain ⟨od, J, _⟩ := O.look
  refine Calls.call_function_entry kind_abs plain_abs entry_abs (args_abs _) ?_
  have hr2 : Room k X.A.in1 := (show Room (k + 1) X.A.in1 from Room.in1 hr).mono (Nat.le_succ _)
  have hl : ([Value.ref q0]).length = ps.length := by
    rw [← F.len _ _ _ _ q]
    rfl
  have go : wpAny (model X.prog X.w) X.A.in1 (call (.ref f) [.ref q0]) (EP X pins σ Q) X.xe s1 := by
    refine wpAny_call (codeAny_mono (F.run X.A.in1 X.stack s1 H1 ⟨[.ref q0], []⟩ [.ref q0] [.ref q0] Q (E σ) hr2 I1.env0.in1 (hb s1 [.ref q0] I1.kIn hl) (.cons rfl .nil) q) fun r s' hq => ?_)
    cases r with
    | error e => exact hx σ pins H1 s1 e s' I1 hq
    | ok fl =>
      cases fl with
      | ret u => exact I1.after hq
      | next => exact False.elim hq
      | brk => exact False.elim hq
      | cont => exact False.elim hq
  unfold Builtin.«abs»
  refine wpAny_bind (m := oneArg "abs" _) (wpAny_pure ?_)
  refine wpAny_bind (m := callSpecial? (.ref q0) (Str.ofString "__abs__")) (PySem.W.special_fn I1.kIn J at_ (beq_iff_eq.mp fn) (wpAny_mono go (fun v' s' hv => ?_) fun _ _ y => y))
  exact wpAny_pure ⟨_, rfl, hv⟩
end
end Fb
set_option maxRecDepth 100000
namespace Am
/-- in lowest terms, the bottom above 0 -/
def Red (t u : Int) : Prop := 0 < u ∧ Nat.gcd t.natAbs u.natAbs = 1
theorem mk (a b : Int) (hb : b ≠ 0) (c : Int) (hc : c = (if b < 0 then -((Nat.gcd a.natAbs b.natAbs : Nat) : Int) else ((Nat.gcd a.natAbs b.natAbs : Nat) : Int))) :
    c ≠ 0 ∧ c.natAbs ≤ b.natAbs ∧ Red (a.fdiv c) (b.fdiv c) ∧ a.fdiv c * b = a * b.fdiv c ∧ (a.fdiv c).natAbs ≤ a.natAbs ∧ (b.fdiv c).natAbs ≤ b.natAbs := by
  have hbp : 0 < b.natAbs := Int.natAbs_pos.mpr hb
  have hg : 0 < Nat.gcd a.natAbs b.natAbs := Nat.gcd_pos_of_pos_right _ hbp
  have hgb : Nat.gcd a.natAbs b.natAbs ≤ b.natAbs := Nat.le_of_dvd hbp (Nat.gcd_dvd_right _ _)
  have hn : c.natAbs = Nat.gcd a.natAbs b.natAbs := by
    rw [hc]
    split <;> omega
  have h0 : c ≠ 0 := by omega
  have da : c ∣ a := Int.natAbs_dvd_natAbs.mp (by rw [hn]; exact Nat.gcd_dvd_left _ _)
  have db : c ∣ b := Int.natAbs_dvd_natAbs.mp (by rw [hn]; exact Nat.gcd_dvd_right _ _)
  obtain ⟨t, ht⟩ := da
  obtain ⟨u, hu⟩ := db
  have ea : a.fdiv c = t := by
    rw [ht]
    exact Int.mul_fdiv_cancel_left _ h0
  have eb : b.fdiv c = u := by
    rw [hu]
    exact Int.mul_fdiv_cancel_left _ h0
  have na : a.natAbs = c.natAbs * t.natAbs := by rw [ht, Int.natAbs_mul]
  have nb : b.natAbs = c.natAbs * u.natAbs := by rw [hu, Int.natAbs_mul]
  have hcp : 0 < c.natAbs := by omega
  have co : Nat.gcd t.natAbs u.natAbs = 1 := by
    have e : c.natAbs = c.natAbs * Nat.gcd t.natAbs u.natAbs := by
      rw [← Nat.gcd_mul_left, ← na, ← nb]
      exact hn
    exact Nat.eq_of_mul_eq_mul_left hcp (by rw [← e, Nat.mul_one])
  rw [ea, eb]
  have up : 0 < u := by
    by_cases h : b < 0
    · have c0 : c < 0 := by
        rw [hc, if_pos h]
        omega
      have : 0 < c * u ∨ ¬ 0 < c * u := Classical.em _
      rcases Int.lt_or_le 0 u with q | q
      · exact q
      · have z : 0 ≤ c * u := Int.mul_nonneg_of_nonpos_of_nonpos (Int.le_of_lt c0) q
        omega
    · have c0 : 0 < c := by
        rw [hc, if_neg h]
        omega
      rcases Int.lt_or_le 0 u with q | q
      · exact q
      · have z : c * u ≤ 0 := Int.mul_nonpos_of_nonneg_of_nonpos (Int.le_of_lt c0) q
        omega
  refine ⟨h0, by omega, ⟨up, co⟩, ?_, ?_, ?_⟩
  · rw [ht, hu]
    rw [Int.mul_left_comm, Int.mul_assoc]
  · rw [na]
    exact Nat.le_mul_of_pos_left _ hcp
  · rw [nb]
    exact Nat.le_mul_of_pos_left _ hcp
theorem uniq {t u n d : Int} (h : Red t u) (h' : Red n d) (e : t * d = n * u) : t = n ∧ u = d := by
  obtain ⟨hu, ht⟩ := h
  obtain ⟨hd, hn⟩ := h'
  have e1 : t.natAbs * d.natAbs = n.natAbs * u.natAbs := by rw [← Int.natAbs_mul, ← Int.natAbs_mul, e]
  have d1 : u.natAbs ∣ d.natAbs := by
    have z : u.natAbs ∣ t.natAbs * d.natAbs := by
      rw [e1]
      exact Nat.dvd_mul_left _ _
    exact (Nat.Coprime.dvd_of_dvd_mul_left (show Nat.Coprime u.natAbs t.natAbs by rw [Nat.coprime_comm]; exact ht) z)
  have d2 : d.natAbs ∣ u.natAbs := by
    have z : d.natAbs ∣ n.natAbs * u.natAbs := by
      rw [← e1]
      exact Nat.dvd_mul_left _ _
    exact (Nat.Coprime.dvd_of_dvd_mul_left (show Nat.Coprime d.natAbs n.natAbs by rw [Nat.coprime_comm]; exact hn) z)
  have e2 : u.natAbs = d.natAbs := Nat.dvd_antisymm d1 d2
  have e3 : u = d := by omega
  subst e3
  exact ⟨Int.eq_of_mul_eq_mul_right (by omega) e, rfl⟩
/-- what a pair of ints is worth: (t, u) in lowest terms and (n, d), d not 0 -/
def Is (t u n d : Int) : Prop := Red t u ∧ d ≠ 0 ∧ t * d = n * u
theorem is_of {t u a b n d : Int} (h : Red t u) (hb : b ≠ 0) (e : t * b = a * u) (hd : d ≠ 0) (e2 : a * d = n * b) : Is t u n d := by
  refine ⟨h, hd, ?_⟩
  have z : (t * d) * b = (n * u) * b := by
    calc (t * d) * b = (t * b) * d := by rw [Int.mul_assoc, Int.mul_comm d b, ← Int.mul_assoc]
      _ = (a * u) * d := by rw [e]
      _ = (a * d) * u := by rw [Int.mul_assoc, Int.mul_comm u d, ← Int.mul_assoc]
      _ = (n * b) * u := by rw [e2]
      _ = (n * u) * b := by rw [Int.mul_assoc, Int.mul_comm b u, ← Int.mul_assoc]
  exact Int.eq_of_mul_eq_mul_right hb z
theorem gcd_step {x y : Nat} (hy : 0 < y) : Nat.gcd y (x % y) = Nat.gcd x y := by
  rw [Nat.gcd_comm y, ← Nat.gcd_rec, Nat.gcd_comm]
end Am
set_option Elab.async false
set_option linter.all false
set_option maxRecDepth 100000
set_option maxHeartbeats 0
namespace Hd
open PySem PySem.Spec PyProof.Rows L2
def hookB (n : Nat) (chk : PySem.W.Frag → Bool) : PySem.W.Hook where
  α := Bool
  obs := fun s => chk (He.frG s.heap.get? (He.asD s.heap.get? n))
  val := fun _ => true
  says := fun _ h => ∃ K : PySem.W.Frag, K.In h ∧ chk K = true
  of := fun _ _ e => ⟨_, He.frG_in, e⟩
  keeps := fun _ _ _ ⟨K, hK, c⟩ k => ⟨K, PySem.W.Frag.In.keeps hK k, c⟩
def obT (n : Nat) (chk : PySem.W.Frag → Bool) (s : PySem.W.SharedT) : Bool := chk (He.frG (HandSHeadRun.getT s) (He.asD (HandSHeadRun.getT s) n))
theorem obT_eq (n : Nat) (chk : PySem.W.Frag → Bool) (s : PySem.W.SharedT) : obT n chk s = (hookB n chk).obs s.abs := by
  have e : HandSHeadRun.getT s = s.abs.heap.get? := funext fun a => HandSHeadRun.getT_eq s a
  unfold obT
  rw [e]
  rfl
end Hd
set_option Elab.async false
set_option linter.all false
set_option maxRecDepth 100000
set_option maxHeartbeats 4000000
/-! The facts that a law leans on, read off the heap behind the top by one run. -/
namespace Hd
open PySem PySem.Spec PyProof.Rows L2
/-- a def of the text: where it stands, and what it is -/
structure Def where
  ad : PySem.W.Frag → Addr
  name : Str
  qual : Str
  st : Stmt
  cl : List Str := []
  dfl : List He.Dv := []
abbrev FnZ : Type := Option (Str × Str × Arguments × FuncBody × Scope × Addr × List Str × Addr)
def obs1 (K : PySem.W.Frag) (f : Addr) : FnZ := match K.lookup f with
  | some ⟨_, _, .func fd, _⟩ => some (fd.name, fd.qualname, fd.params, fd.body, fd.scope, fd.globals, fd.closure.map (·.1), fd.builtins)
  | _ => none
def Def.val (d : Def) : FnZ := some (d.name, d.qual, defArgs d.st, .stmts (defBody d.st), defScope d.st, mainGlobals, d.cl, builtinsNs)
def Def.ok (K : PySem.W.Frag) (d : Def) : Bool := PySem.W.keepIn K (.ref (d.ad K)) && (match K.lookup (d.ad K) with
  | some ⟨_, _, .func fd, _⟩ => PySem.W.codeIn K fd.code d.qual && He.dflB K fd.defaults (d.dfl.map (He.Dv.v K))
  | _ => false)
/-- what is known of one def -/
structure Got (K : PySem.W.Frag) (d : Def) (fd : FuncData) : Prop where
  kp : PySem.W.keepIn K (.ref (d.ad K)) = true
  ex : ∃ (oc : Value) (od : Option Addr) (dV kV doc pm : Value) (an : Option Addr) (cdv ct : Value) (osl : Array (Option Value)) (cl : List (Str × Addr)),
    fd = PySem.W.fnX d.name d.qual (defArgs d.st) (defBody d.st) (defScope d.st) cl dV kV doc pm an cdv ct ∧ K.lookup (d.ad K) = some ⟨oc, od, .func fd, osl⟩ ∧ PySem.W.codeIn K cdv d.qual = true ∧
    DflV K dV (d.dfl.map (He.Dv.v K)) ∧ cl.map (·.1) = d.cl
theorem got {K : PySem.W.Frag} {d : Def} (e : obs1 K (d.ad K) = d.val) (c : d.ok K = true) : ∃ fd, Got K d fd := by
  obtain ⟨kp, c2⟩ := He.ba c
  unfold obs1 at e
  cases q : K.lookup (d.ad K) with
  | none =>
    rw [q] at c2
    cases c2
  | some o =>
    obtain ⟨oc, od, dt, osl⟩ := o
    rw [q] at c2 e
    cases dt with
    | func fd =>
      obtain ⟨n1, n2, n3, n4, n5, n6, n7, n8, n9, n10, n11, n12, n13, n14, n15⟩ := fd
      have e2 : (some (n1, n2, n3, n4, n5, n6, n7.map (·.1), n15) : FnZ) = some (d.name, d.qual, defArgs d.st, .stmts (defBody d.st), defScope d.st, mainGlobals, d.cl, builtinsNs) := e
      simp only [Option.some.injEq, Prod.mk.injEq] at e2
      obtain ⟨h1, h2, h3, h4, h5, h6, h7, h8⟩ := e2
      subst h1 h2 h3 h4 h5 h6 h8
      obtain ⟨k1, k2⟩ := He.ba (show (PySem.W.codeIn K n13 d.qual && He.dflB K n8 (d.dfl.map (He.Dv.v K))) = true from c2)
      exact ⟨_, kp, oc, od, n8, n9, n10, n11, n12, n13, n14, osl, n7, rfl, q, k1, He.dflB_ok k2, h7⟩
    | _ => cases c2
theorem Got.funD {K : PySem.W.Frag} {d : Def} {fd : FuncData} (g : Got K d fd) (h : d.cl = [] := by rfl) : FunD K d.name d.qual (defArgs d.st) (defBody d.st) (defScope d.st) (d.dfl.map (He.Dv.v K)) [] (d.ad K) fd := by
  obtain ⟨oc, od, dV, kV, doc, pm, an, cdv, ct, osl, cl, h1, h2, h3, h4, h5⟩ := g.ex
  rw [h] at h5
  have h6 : cl = [] := List.map_eq_nil_iff.mp h5
  subst h6
  exact ⟨⟨oc, od, dV, kV, doc, pm, an, cdv, ct, osl, h1, h2, h3, h4, .inl rfl⟩, g.kp⟩
/-- all of them, and a further check -/
abbrev Al : Type := List FnZ × Bool × Bool
def obsK (ds : List Def) (chk : PySem.W.Frag → Bool) (K : PySem.W.Frag) : Al := (ds.map fun d => obs1 K (d.ad K), ds.all fun d => d.ok K, chk K)
def valK (ds : List Def) : Al := (ds.map Def.val, true, true)
def grow (g : Addr → Option Obj) : Nat → List Addr
  | 0 => [mainGlobals, cStatics]
  | n + 1 => He.growD g (grow g n)
def hook (n : Nat) (ds : List Def) (chk : PySem.W.Frag → Bool) : PySem.W.Hook where
  α := Al
  obs := fun s => obsK ds chk (He.frG s.heap.get? (grow s.heap.get? n))
  val := fun _ => valK ds
  says := fun _ h => ∃ K : PySem.W.Frag, K.In h ∧ obsK ds chk K = valK ds
  of := fun _ _ e => ⟨_, He.frG_in, e⟩
  keeps := fun _ _ _ ⟨K, hK, c⟩ k => ⟨K, PySem.W.Frag.In.keeps hK k, c⟩
def ob (n : Nat) (ds : List Def) (chk : PySem.W.Frag → Bool) (s : PySem.W.SharedT) : Al := obsK ds chk (He.frG (HandSHeadRun.getT s) (grow (HandSHeadRun.getT s) n))
theorem ob_eq (n : Nat) (ds : List Def) (chk : PySem.W.Frag → Bool) (s : PySem.W.SharedT) : ob n ds chk s = (hook n ds chk).obs s.abs := by
  have e : HandSHeadRun.getT s = s.abs.heap.get? := funext fun a => HandSHeadRun.getT_eq s a
  unfold ob
  rw [e]
  rfl
section
variable {K : PySem.W.Frag} {ds : List Def} {chk : PySem.W.Frag → Bool}
theorem says_def (c : obsK ds chk K = valK ds) (i : Nat) {d : Def} (h : ds[i]? = some d := by rfl) : ∃ fd, Got K d fd := by
  have e : ds.map (fun d => obs1 K (d.ad K)) = ds.map Def.val := congrArg (fun z : Al => z.1) c
  have c2 : (ds.all fun d => d.ok K) = true := congrArg (fun z : Al => z.2.1) c
  have e2 : (ds.map fun d => obs1 K (d.ad K))[i]? = (ds.map Def.val)[i]? := by rw [e]
  rw [List.getElem?_map, List.getElem?_map, h] at e2
  exact got (Option.some.inj e2) (List.all_eq_true.mp c2 d (List.mem_of_getElem? h))
theorem says_chk (c : obsK ds chk K = valK ds) : chk K = true := congrArg (fun z : Al => z.2.2) c
end
/-- a list of checks -/
def allB (l : List Bool) : Bool := l.all id
theorem allB_at {l : List Bool} (h : allB l = true) (i : Nat) {b : Bool} (e : l[i]? = some b := by rfl) : b = true := List.all_eq_true.mp h b (List.mem_of_getElem? e)
/-! ### an exception class -/
def clsVE (K : PySem.W.Frag) (C : Addr) : Bool := match K.lookup C with
  | some ⟨.type t, _, .cls cd, sl⟩ => (match cd.mro, sl.toList with
    | .ref C' :: bm, [_, _, _, _, some (.builtin n), _] => decide (t = "type") && (decide (C' = C) && (decide (n = "ValueError.__new__") && (!cd.hasDel && (cd.hasDict && HandSPX.refsVE bm))))
    | _, _ => false)
  | _ => false
theorem clsVE_ok {K : PySem.W.Frag} {C : Addr} (h : clsVE K C = true) : ∃ nm q' N bs bm sn sub ab col dd k0 k1 k2 k3 k5, K.lookup C = some (excClassObj nm q' C N bs bm true sn sub ab col dd k0 k1 k2 k3 k5 "ValueError.__new__") ∧ HandSPX.refsVE bm = true := by
  unfold clsVE at h
  split at h
  · rename_i t dd cd sl ho
    split at h
    · rename_i C' bm k0 k1 k2 k3 n k5 hm hs
      obtain ⟨h0, h⟩ := He.ba h
      obtain ⟨h1, h⟩ := He.ba h
      obtain ⟨h2, h⟩ := He.ba h
      obtain ⟨h3, h⟩ := He.ba h
      obtain ⟨h4, h5⟩ := He.ba h
      have h0 := of_decide_eq_true h0
      have h1 := of_decide_eq_true h1
      have h2 := of_decide_eq_true h2
      subst h0 h1 h2
      obtain ⟨nm, bs, mro, ns, qn, hd, sn, sub, ab, col, del⟩ := cd
      dsimp only at hm h3 h4
      subst hm h4
      have h3 : del = false := by simpa using h3
      subst h3
      have hsl : sl = #[k0, k1, k2, k3, some (.builtin "ValueError.__new__"), k5] := by
        obtain ⟨l⟩ := sl
        simp only at hs
        rw [hs]
      subst hsl
      exact ⟨_, _, _, _, _, _, _, _, _, _, _, _, _, _, _, ho, h5⟩
    · cases h
  · cases h
def fileB (file : Str) (vs : Array Value) : Bool := match vs[2]? with
  | some (Value.str fl _) => decide (fl = file)
  | _ => false
theorem fileB_ok {file : Str} {vs : Array Value} (h : fileB file vs = true) : ∃ tf, vs[2]? = some (Value.str file tf) := by
  unfold fileB at h
  split at h
  · rename_i fl tf e
    have z := of_decide_eq_true h
    subst z
    exact ⟨tf, e⟩
  · cases h
/-- the further facts of the class x whose one field is F -/
def excB (file : Str) (K : PySem.W.Frag) (x F : Str) : Bool :=
  let C := He.ga K x
  let fI := He.ma K C "__init__"
  allB [He.eqO (PySem.W.nsIn K mainGlobals x) (some (some (.ref C))), clsVE K C, He.eqO (PySem.W.findIn K (.ref C) "__setattr__") (some (some (.builtin "object.__setattr__"))),
    He.eqO (PySem.W.findIn K (.ref C) "__getattribute__") (some (some (.builtin "BaseException.__getattribute__"))), He.eqO (PySem.W.findIn K (.ref C) "__getattr__") (some none), He.eqO (PySem.W.findIn K (.ref C) F) (some none),
    He.eqO (PySem.W.findIn K (.ref C) "__init__") (some (some (.ref fI))), decide (PySem.W.typeIn K (.ref fI) = some (.type "function")), PySem.W.keepIn K (.ref C), decide (PySem.W.subIn K (.ref C) (.type "BaseException") = some true),
    decide (PySem.W.subIn K (.ref C) (.type "ValueError") = some true), decide (PySem.W.typeIn K (.ref C) = some (.type "type")), PySem.W.hasDictIn K C, decide (PySem.W.exmOne K (.ref C) (.ref C) = some true),
    He.eqO (PySem.W.ks_superIn K C C "__init__") (some (some (.builtin "ValueError.__init__"))), decide (PySem.W.mroIn K C (.ref C) = some true), He.eqO (PySem.W.nsIn K mainGlobals "super") (some none), He.eqO (PySem.W.nsIn K cStatics "thirdparty.any") (some none),
    (match K.lookup fI with
      | some ⟨_, _, .func fd, _⟩ => (match fd.code, fd.closure with
        | .ref cda, [(_, cc)] => (match K.lookup cda with
          | some ⟨_, _, .fields vs, _⟩ => fileB file vs
          | _ => false) && (match K.lookup cc with
          | some ⟨_, _, .cell (some (.ref D)), _⟩ => decide (D = C)
          | _ => false)
        | _, _ => false)
      | _ => false)]
/-- the def of its __init__ -/
def excD (x q : Str) (st : Stmt) : Def := { ad := fun K => He.ma K (He.ga K x) "__init__", name := "__init__", qual := q, st := st, cl := ["__class__"] }
theorem exc_txt {file : Str} {K : PySem.W.Frag} {x q F txt : Str} {st : Stmt} {fd : FuncData} (nm : Xb.Nm F) (g : Got K (excD x q st) fd) (c : excB file K x F = true)
    (hst : ∃ (p1 p2 : Pos) (kk : Nat) (q1 q2 q3 q4 q5 q6 q7 q8 q9 q10 : Pos), defArgs st = Xb.arg2 F p1 p2 ∧ defBody st = Xb.bod2 F txt kk q1 q2 q3 q4 q5 q6 q7 q8 q9 q10 ∧ defScope st = Xb.sco2 F ∧ (q3.endLine == q5.line) = true) :
    Xb.Txt file K q F txt (He.ga K x) (He.ma K (He.ga K x) "__init__") := by
  obtain ⟨oc, od, dV, kV, doc, pm, an, cdv, ct, osl, cl, h1, h2, h3, h4, h5⟩ := g.ex
  obtain ⟨p1, p2, kk, q1, q2, q3, q4, q5, q6, q7, q8, q9, q10, s1, s2, s3, s4⟩ := hst
  have hdV : dV = .none := by
    rcases h4 with ⟨_, e⟩ | ⟨e, _⟩
    · exact e
    · exact absurd rfl e
  have last := allB_at c 18
  have lk : K.lookup (He.ma K (He.ga K x) "__init__") = some ⟨oc, od, .func fd, osl⟩ := h2
  rw [lk] at last
  rw [h1] at last
  refine ⟨nm, clsVE_ok (allB_at c 1), He.eqO_ok (allB_at c 2), He.eqO_ok (allB_at c 3), He.eqO_ok (allB_at c 4), He.eqO_ok (allB_at c 5), He.eqO_ok (allB_at c 6), of_decide_eq_true (allB_at c 7), allB_at c 8, of_decide_eq_true (allB_at c 9), of_decide_eq_true (allB_at c 10),
    of_decide_eq_true (allB_at c 11), allB_at c 12, of_decide_eq_true (allB_at c 13), He.eqO_ok (allB_at c 14), of_decide_eq_true (allB_at c 15), He.eqO_ok (allB_at c 16), He.eqO_ok (allB_at c 17), ?_⟩
  cases cdv with
  | ref cda =>
    cases cl with
    | nil => cases h5
    | cons y r =>
      obtain ⟨y1, cc⟩ := y
      cases r with
      | cons _ _ => cases h5
      | nil =>
        have e1 : y1 = ("__class__" : Str) := (List.cons.inj h5).1
        subst e1
        obtain ⟨l1, l2⟩ := He.ba (show ((match K.lookup cda with
          | some ⟨_, _, .fields vs, _⟩ => fileB file vs
          | _ => false) && (match K.lookup cc with
          | some ⟨_, _, .cell (some (.ref D)), _⟩ => decide (D = He.ga K x)
          | _ => false)) = true from last)
        refine ⟨oc, od, kV, doc, pm, an, cda, ct, osl, cc, p1, p2, kk, q1, q2, q3, q4, q5, q6, q7, q8, q9, q10, ?_, h3, s4, ?_, ?_⟩
        · rw [lk, h1, hdV]
          show some (⟨oc, od, .func (PySem.W.fnX "__init__" q (defArgs st) (defBody st) (defScope st) [("__class__", cc)] .none kV doc pm an (.ref cda) ct), osl⟩ : Obj) = _
          rw [s1, s2, s3]
        · split at l1
          · rename_i ccl cdd vs ccs hk
            obtain ⟨tf, e⟩ := fileB_ok l1
            exact ⟨_, _, _, _, tf, hk, e⟩
          · cases l1
        · split at l2
          · rename_i a b D c2 hk
            have e := of_decide_eq_true l2
            subst e
            exact ⟨_, _, _, hk⟩
          · cases l2
  | _ => cases last
end Hd
set_option Elab.async false
set_option linter.all false
set_option maxRecDepth 100000
set_option maxHeartbeats 4000000
namespace K35
open PySem PySem.Spec PyProof.Rows L2 Fa Fb
theorem if_true_of {c : Bool} {A B : Prop} (hc : c = true) (h : A) : if c = true then A else B := by
  rw [if_pos hc]
  exact h
theorem if_false_of {c : Bool} {A B : Prop} (hc : c = false) (h : B) : if c = true then A else B := by
  rw [hc, if_neg Bool.false_ne_true]
  exact h


abbrev CA (K : PySem.W.Frag) : Addr := He.ga K "Amount"
abbrev CI (K : PySem.W.Frag) : Addr := He.ga K "InvalidInteger"
abbrev CV (K : PySem.W.Frag) : Addr := He.ga K "InvalidAmount"
abbrev aI (K : PySem.W.Frag) : Addr := He.ma K (CA K) "__init__"
abbrev sWhole : Stmt := top 23
abbrev sIsA : Stmt := top 35
abbrev sAsA : Stmt := top 36
abbrev sInit : Stmt := inClass (top 34) 0
abbrev sTop : Stmt := inClass (top 34) 1
abbrev sBot : Stmt := inClass (top 34) 2
abbrev sEq : Stmt := inClass (top 34) 3
theorem scWhole : FnScope ["value"] ["value"] (defScope sWhole) := ⟨rfl, rfl, rfl, by decide +kernel, rfl, by decide +kernel, by decide +kernel⟩
theorem scIsA : FnScope ["value"] ["value"] (defScope sIsA) := ⟨rfl, rfl, rfl, by decide +kernel, rfl, by decide +kernel, by decide +kernel⟩
theorem scAsA : FnScope ["value"] ["value"] (defScope sAsA) := ⟨rfl, rfl, rfl, by decide +kernel, rfl, by decide +kernel, by decide +kernel⟩
theorem scInit : FnScope ["self", "top", "bottom", "common"] ["self", "top", "bottom"] (defScope sInit) := ⟨rfl, rfl, rfl, by decide +kernel, rfl, by decide +kernel, by decide +kernel⟩
theorem scTop : FnScope ["self"] ["self"] (defScope sTop) := ⟨rfl, rfl, rfl, by decide +kernel, rfl, by decide +kernel, by decide +kernel⟩
theorem scBot : FnScope ["self"] ["self"] (defScope sBot) := ⟨rfl, rfl, rfl, by decide +kernel, rfl, by decide +kernel, by decide +kernel⟩
theorem scEq : FnScope ["self", "other"] ["self", "other"] (defScope sEq) := ⟨rfl, rfl, rfl, by decide +kernel, rfl, by decide +kernel, by decide +kernel⟩
/-- the fields of an amount -/
def fl (t u : Int) : List (Str × V) := putF "_bottom" (.int u) (putF "_top" (.int t) [])
theorem tb : ¬ (("_top" : Str) = "_bottom") := by decide +kernel
theorem fl_top (t u : Int) : (fl t u).lookup ("_top" : Str) = some (.int t) := by
  unfold fl
  rw [lookup_putF, if_neg tb, lookup_putF, if_pos rfl]
theorem fl_bot (t u : Int) : (fl t u).lookup ("_bottom" : Str) = some (.int u) := by
  unfold fl
  rw [lookup_putF, if_pos rfl]
theorem fl_no (t u : Int) {m : Str} (h1 : ¬ m = "_bottom") (h2 : ¬ m = "_top") : (fl t u).lookup m = none := by
  unfold fl
  rw [lookup_putF, if_neg h1, lookup_putF, if_neg h2]
  rfl
/-- x is an amount, in lowest terms, of less than n bits -/
def IsA (K : PySem.W.Frag) (H : Hp) (x : V) (t u : Int) (n : Nat) : Prop := ∃ p dx, x = .ref p ∧ H p = some (.ins (CA K) dx (fl t u)) ∧ Am.Red t u ∧ t.natAbs < 2 ^ n ∧ u.natAbs < 2 ^ n
theorem IsA.same {K : PySem.W.Frag} {H H' : Hp} {x : V} {t u : Int} {n : Nat} (h : IsA K H x t u n) (s : Same H H') : IsA K H' x t u n := by
  obtain ⟨p, dx, e, h1, h2⟩ := h
  exact ⟨p, dx, e, s _ _ h1, h2⟩
/-- whether a value counts as a whole number -/
def Wh (K : PySem.W.Frag) (H : Hp) (x : V) (b : Bool) : Prop := ∃ t b1 b2, TyX K H x t ∧ PySem.W.kitOne K t (.type "int") = some b1 ∧ PySem.W.kitOne K t (.type "bool") = some b2 ∧ b = (b1 && !b2)
theorem wh_int {K : PySem.W.Frag} {H : Hp} (i : Int) : Wh K H (.int i) true := ⟨_, true, false, .base (.int i), kit_ty (by decide +kernel), kit_ty (by decide +kernel), rfl⟩
def tys : List String := ["int", "bool", "NoneType", "str", "list", "tuple", "dict"]
/-- what the written part says of the class -/
structure AF (K : PySem.W.Frag) (mg : Str → Option Value) : Prop where
  cl : Cls K (CA K)
  noT : NoAttr K (CA K) "_top"
  noB : NoAttr K (CA K) "_bottom"
  mkA : Mk K (CA K) (aI K)
  g : mg "Amount" = some (.ref (CA K))
  isi : mg "isinstance" = none
  int : mg "int" = none
  bool : mg "bool" = none
  gcd : mg "gcd" = some (.builtin "math.gcd")
  gI : mg "InvalidInteger" = some (.ref (CI K))
  gV : mg "InvalidAmount" = some (.ref (CV K))
  kI : PySem.W.kitOne K (.ref (CA K)) (.type "int") = some false
  kB : PySem.W.kitOne K (.ref (CA K)) (.type "bool") = some false
  kS : PySem.W.kitOne K (.ref (CA K)) (.ref (CA K)) = some true
  kT : ∀ T ∈ tys, PySem.W.kitOne K (.type T) (.ref (CA K)) = some false
  ca : PySem.W.findIn K (.ref (CA K)) "__class__" = some (some (.builtin "object.__class__"))
  cn : PySem.W.specialIn K (.builtin "object.__class__") "__get__" = some (some (.builtin "getset_descriptor.__get__"))
  ct : PySem.W.takesIn K (.builtin "object.__class__") = some true
  cm : PySem.W.mroIn K (CA K) (.type "object") = some true
section
variable {K : PySem.W.Frag} {mg : Str → Option Value}
theorem AF.ty (T : AF K mg) {H : Hp} {p dx : Addr} {fs : List (Str × V)} (h : H p = some (.ins (CA K) dx fs)) : TyX K H (.ref p) (.ref (CA K)) := .base (.ins h T.cl T.ca T.cn T.ct T.cm)
theorem AF.wh (T : AF K mg) {H : Hp} {p dx : Addr} {fs : List (Str × V)} (h : H p = some (.ins (CA K) dx fs)) : Wh K H (.ref p) false := ⟨_, false, false, T.ty h, T.kI, T.kB, rfl⟩
end
def spWhole (K : PySem.W.Frag) : Sp := fun vs H Q _ => ∃ x b, vs = [x] ∧ Wh K H x b ∧ Q (.bl b) H
/-- an error of the class at C with the one field value = v -/
def Err (C : Addr) (v : V) (H : Hp) (E : XK) : Prop := ∀ d, H d = none → E (.ref C) (some d) (upd H d (.xd [("value", v)]))
def spInit (K : PySem.W.Frag) : Sp := fun vs H Q E => ∃ (p dx : Addr) (x y : V) (bx bz : Bool), vs = [.ref p, x, y] ∧ H p = some (.ins (CA K) dx []) ∧ Wh K H x bx ∧ Wh K H y bz ∧
  (bx = false → Err (CI K) x H E) ∧ (bx = true → bz = false → Err (CI K) y H E) ∧
  (bx = true → bz = true → ∃ a b : Int, x = .int a ∧ y = .int b ∧ (b = 0 → Err (CI K) y H E) ∧
    (b ≠ 0 → b.natAbs < 2 ^ 8000 ∧ ∀ t u : Int, Am.Red t u → t * b = a * u → t.natAbs ≤ a.natAbs → u.natAbs ≤ b.natAbs → Q .non (upd H p (.ins (CA K) dx (fl t u)))))
section
variable {X : Cx}
theorem op_fdivX : OpR X (binaryOp .FloorDiv) (rI (fun _ j => j ≠ 0 ∧ j.natAbs.log2 < 9000) fun i j => .int (i.fdiv j)) := opI fun _ _ _ _ _ _ _ hc q => floordiv_int hc.1 q (.inl (PyProof.noPylong_of_log2 hc.2))
theorem boot_isi : bootBuiltins "isinstance" = some (.builtin "isinstance") := by decide +kernel
theorem pe_isi {e c : Expr} {te tc : TE} {p pos : Pos} (hm : X.mg "isinstance" = none) (he : PE X e te) (hc : PE X c tc) (hg : Gl X "isinstance" := by rfl)
    (hs : starEach (e :: [c]) X.env = (false, eval e X.env) :: starEach [c] X.env := by rfl) (hs2 : starEach (c :: []) X.env = (false, eval c X.env) :: starEach [] X.env := by rfl) (hpl : (backTo pos (starEach [c] X.env)).any (·.1) = false := by rfl) : PE X (.Call (.Name "isinstance" p) [e, c] [] pos) (tCB (rIsi X.K) (tCons te (tCons tc tNil))) :=
  pe_callB call_isi hg hm boot_isi (pa_cons he (pa_cons hc pa_nil hs2) hs) (by decide) (by decide) hs hpl
theorem pe_ty {x : Str} {n : String} {p : Pos} (hm : X.mg x = none) (hv : bootBuiltins x = some (.type n)) (hg : Gl X x := by rfl) (hn : x ≠ "__name__" := by decide) (hd : (x == ("__debug__" : Str)) = false := by decide) : PE X (.Name x p) (tC (.ty n)) := pe_bltn hg hm hv rfl hn hd
theorem boot_int' : bootBuiltins "int" = some (.type "int") := by decide +kernel
theorem boot_bool' : bootBuiltins "bool" = some (.type "bool") := by decide +kernel
end
section
variable {P : Program} {w : World} {K : PySem.W.Frag} {mg : Str → Option Value} {base : Heap} {f fW : Addr} {fd fdW : FuncData} {F' : Str} {qi ti qv tv : Str} {fI fV : Addr}
theorem ok_whole (F : FnP K "is_whole" sWhole f fd) (T : AF K mg) {CX : CXT} : FnOk P w K mg base CX 1 f fd ["value"] (spWhole K) := by
  refine F.ok scWhole (fun vs H Q E h => ?_) (fun cdv A outer s H vs Q E hr h => ?_)
  · obtain ⟨x, b, rfl, _⟩ := h
    rfl
  · obtain ⟨x, b, rfl, ⟨t, b1, b2, ty, k1, k2, rfl⟩, q⟩ := h
    refine ⟨_, pss_one (ps_ret (pe_and (pe_isi T.isi (pv 0) (pe_ty T.int boot_int')) (pe_one (pe_not (pe_isi T.isi (pv 0) (pe_ty T.bool boot_bool')))))), ?_⟩
    refine ⟨_, rfl, x, _, t, _, b1, rfl, .ty "int", ty, k1, b1, rfl, ?_⟩
    cases b1 with
    | false => exact iteF q
    | true => exact iteT ⟨_, rfl, x, _, t, _, b2, rfl, .ty "bool", ty, k2, b2, rfl, q⟩
theorem ok_init (F : FunD K "__init__" "Amount.__init__" (defArgs sInit) (defBody sInit) (defScope sInit) [.int 1] [] f fd) (T : AF K mg) (FW : FnP K "is_whole" sWhole fW fdW) (gW : mg "is_whole" = some (.ref fW))
    (XI : Xb.Txt P.main.file K qi "value" ti (CI K) fI) (htop : (P.main.scope.names.lookup ("super" : Str)).isSome = false) : FnOk P w K mg base (L2.CX P w) 4 f fd ["self", "top", "bottom"] (spInit K) := by
  have GW : FnOk P w K mg base (L2.CX P w) 1 fW fdW ["value"] (spWhole K) := ok_whole FW T
  have bW : Binds K fdW ["value"] [] := FW.bindsN fun _ _ _ _ _ _ us hl => match us, hl with | [_], _ => rfl
  refine F.ok scInit (fun vs H Q E h => ?_) (fun cdv A outer s H vs Q E hr h => ?_)
  · obtain ⟨p, dx, x, y, bx, bz, rfl, _⟩ := h
    rfl
  · obtain ⟨p, dx, x, y, bx, bz, rfl, hp, wx, wy, e1, e2, e3⟩ := h
    have hr1 := hr.mono (show 1 ≤ 3 by decide)
    refine ⟨_, pss_cons (ps_if (pt_not (pt_val (pe_call GW hr1 rfl gW FW.kp bW .nil passL (pa_cons (pv 1) pa_nil)))) (pss_one (Xb.ps_raiseX (W := fun cls d _ H => E cls d H) rfl XI T.gI htop hr1 (takes_of rfl rfl rfl rfl) (pa_cons (pv 1) pa_nil))) pss_nil)
      (pss_cons (ps_if (PW.pt (pw_or (pt_not (pt_val (pe_call GW hr1 rfl gW FW.kp bW .nil passL (pa_cons (pv 2) pa_nil)))) (pw_or1 (pt_cmpR op_eq (pv 2) pe_int (nomark _)))))
        (pss_one (Xb.ps_raiseX (W := fun cls d _ H => E cls d H) rfl XI T.gI htop hr1 (takes_of rfl rfl rfl rfl) (pa_cons (pv 2) pa_nil))) pss_nil)
      (pss_cons (ps_set (i := 3) scInit.nd rfl (Or.inl rfl) (pe_callBfun cr_gcd rfl T.gcd (pa_cons (pv 1) (pa_cons (pv 2) pa_nil))))
      (pss_cons (ps_if (pt_cmpR op_lt (pv 2) pe_int (nomark _)) (pss_one (ps_set (i := 3) scInit.nd rfl (Or.inl rfl) (pe_un un_neg (pv 3)))) pss_nil)
      (pss_cons (ps_fld (pv 0) (pe_op op_fdivX (pv 1) (pv 3)) rfl)
      (pss_one (ps_fld (pv 0) (pe_op op_fdivX (pv 2) (pv 3)) rfl)))))), ?_⟩
    refine ⟨_, rfl, x, bx, rfl, wx, bx, rfl, ?_⟩
    cases bx with
    | false => exact iteT ⟨_, rfl, _, rfl, e1 rfl⟩
    | true =>
      refine iteF ⟨_, rfl, y, bz, rfl, wy, bz, rfl, ?_⟩
      cases bz with
      | false => exact iteT (iteT ⟨_, rfl, _, rfl, e2 rfl rfl⟩)
      | true =>
        obtain ⟨a, b, rfl, rfl, e4, e5⟩ := e3 rfl rfl
        refine iteF ⟨_, rfl, rfl, _, rfl, ?_⟩
        by_cases hb : b = 0
        · subst hb
          refine if_true_of (decide_eq_true rfl) ⟨_, rfl, _, rfl, e4 rfl⟩
        · refine if_false_of (decide_eq_false fun z => hb (V.int.inj z)) ?_
          obtain ⟨e6, e7⟩ := e5 hb
          obtain ⟨m1, m2, m3, m4, m5, m6⟩ := Am.mk a b hb _ rfl
          refine ⟨_, rfl, _, rfl, a, b, rfl, ?_⟩
          have fin : ∀ c : Int, c = (if b < 0 then -((Nat.gcd a.natAbs b.natAbs : Nat) : Int) else ((Nat.gcd a.natAbs b.natAbs : Nat) : Int)) →
              tSeq (sFld K (tVar 0) (tOp (rI (fun _ j => j ≠ 0 ∧ j.natAbs.log2 < 9000) fun i j => .int (i.fdiv j)) (tVar 1) (tVar 3)) "_top") (sFld K (tVar 0) (tOp (rI (fun _ j => j ≠ 0 ∧ j.natAbs.log2 < 9000) fun i j => .int (i.fdiv j)) (tVar 2) (tVar 3)) "_bottom")
                { nx := fun _ H' => Q .non H', rt := Q } [some (.ref p), some (.int a), some (.int b), some (.int c)] H := fun c hc => by
            rw [← hc] at m1 m2 m3 m4 m5 m6
            have lg : c.natAbs.log2 < 9000 := Nat.lt_trans ((Nat.log2_lt (by omega)).mpr (Nat.lt_of_le_of_lt m2 e6)) (by decide)
            refine ⟨_, rfl, _, rfl, _, _, rfl, rfl, ⟨m1, lg⟩, _, rfl, p, CA K, dx, [], rfl, hp, T.cl, T.noT, (by show 0 < 1000; decide), ?_⟩
            refine ⟨_, rfl, _, rfl, _, _, rfl, rfl, ⟨m1, lg⟩, _, rfl, p, CA K, dx, _, rfl, upd_same, T.cl, T.noB, (by show 1 < 1000; decide), ?_⟩
            rw [upd_upd]
            exact e7 _ _ m3 m4 m5 m6
          refine ⟨_, rfl, _, _, rfl, rfl, _, rfl, ?_⟩
          refine ite2 (fun c => ?_) (fun c => ?_)
          · have c2 : b < 0 := of_decide_eq_true c
            refine ⟨_, rfl, _, rfl, ?_⟩
            exact fin _ (by rw [if_pos c2])
          · have c2 : ¬ b < 0 := fun z => c (decide_eq_true z)
            exact fin _ (by rw [if_neg c2])
end

end K35
set_option Elab.async false
set_option linter.all false
set_option maxRecDepth 100000
set_option maxHeartbeats 4000000
namespace K35
open PySem PySem.Spec PyProof.Rows L2 Fa Fb


/-- an argument that counts as an amount -/
def Arg (K : PySem.W.Frag) (H : Hp) (x : V) (t u : Int) (n : Nat) : Prop := IsA K H x t u n ∨ (x = .int t ∧ u = 1 ∧ t.natAbs < 2 ^ n ∧ 1 ≤ n)
/-- one that doesn't -/
def Bad (K : PySem.W.Frag) (H : Hp) (x : V) : Prop := ∃ T, T ∈ tys ∧ TyX K H x (.type T) ∧ Wh K H x false
def spIsA (K : PySem.W.Frag) : Sp := fun vs H Q _ => ∃ x t b1 b2, vs = [x] ∧ TyX K H x t ∧ PySem.W.kitOne K t (.ref (CA K)) = some b1 ∧ Wh K H x b2 ∧ Q (.bl (b1 || b2)) H
def spAs (K : PySem.W.Frag) : Sp := fun vs H Q E => ∃ x, vs = [x] ∧ ((Bad K H x ∧ Err (CV K) x H E) ∨ ∃ t u n, Arg K H x t u n ∧ ∀ y H', Same H H' → IsA K H' y t u n → Q y H')
def spEq (K : PySem.W.Frag) : Sp := fun vs H Q _ => ∃ x y t u n, vs = [x, y] ∧ IsA K H x t u n ∧ ((∃ t2 u2 m, IsA K H y t2 u2 m ∧ Q (.bl (decide (t = t2) && decide (u = u2))) H) ∨ (∃ T, TyX K H y (.type T) ∧ PySem.W.kitOne K (.type T) (.ref (CA K)) = some false ∧ Q (.bl false) H))
section
variable {K : PySem.W.Frag} {mg : Str → Option Value}
theorem make_read (T : AF K mg) {H : Hp} {Q : VK} {E : XK} {a b : Int} {n : Nat} (hb : b ≠ 0) (hs : n ≤ 8000) (ha : a.natAbs < 2 ^ n) (hbn : b.natAbs < 2 ^ n)
    (k : ∀ y H' t u, Same H H' → IsA K H' y t u n → t * b = a * u → Q y H') : ∀ x dx, H x = none → H dx = none → dx ≠ x →
    spInit K [.ref x, .int a, .int b] (upd (upd H dx (.own x)) x (.ins (CA K) dx [])) (fun v H2 => v = .non ∧ Q (.ref x) H2) E := by
  intro x dx hx hdx hne
  refine ⟨x, dx, .int a, .int b, true, true, rfl, upd_same, wh_int _, wh_int _, (fun z => by cases z), (fun _ z => by cases z), fun _ _ => ⟨a, b, rfl, rfl, fun z => absurd z hb, fun _ => ⟨?_, fun t u r e h1 h2 => ⟨rfl, ?_⟩⟩⟩⟩
  · exact Nat.lt_of_lt_of_le hbn (Nat.pow_le_pow_right (by decide) hs)
  · refine k _ _ t u (fun c o z => ?_) ⟨x, dx, rfl, upd_same, r, Nat.lt_of_le_of_lt h1 ha, Nat.lt_of_le_of_lt h2 hbn⟩ e
    rw [upd_upd, upd_ne (ne_of_none z hx), upd_ne (ne_of_none z hdx)]
    exact z
theorem spInit_imp {vs : List V} {H : Hp} {Q Q' : VK} {E : XK} (h : spInit K vs H Q E) (k : ∀ v H2, Q v H2 → Q' v H2) : spInit K vs H Q' E := by
  obtain ⟨p, dx, x, y, bx, bz, e, hp, wx, wy, e1, e2, e3⟩ := h
  refine ⟨p, dx, x, y, bx, bz, e, hp, wx, wy, e1, e2, fun h1 h2 => ?_⟩
  obtain ⟨a, b, ea, eb, f1, f2⟩ := e3 h1 h2
  exact ⟨a, b, ea, eb, f1, fun hb => ⟨(f2 hb).1, fun t u r e4 e5 e6 => k _ _ ((f2 hb).2 t u r e4 e5 e6)⟩⟩
def MadeA (K : PySem.W.Frag) (H H2 : Hp) (x : Addr) (a b : Int) (n : Nat) : Prop := ∃ t u, Same H H2 ∧ IsA K H2 (.ref x) t u n ∧ t * b = a * u
theorem make_fact (T : AF K mg) {H : Hp} {E : XK} {a b : Int} {n : Nat} (hb : b ≠ 0) (hs : n ≤ 8000) (ha : a.natAbs < 2 ^ n) (hbn : b.natAbs < 2 ^ n) {x dx : Addr} (hx : H x = none) (hdx : H dx = none) (hne : dx ≠ x) :
    spInit K [.ref x, .int a, .int b] (upd (upd H dx (.own x)) x (.ins (CA K) dx [])) (fun v H2 => v = .non ∧ MadeA K H H2 x a b n) E := by
  refine ⟨x, dx, .int a, .int b, true, true, rfl, upd_same, wh_int _, wh_int _, (fun z => by cases z), (fun _ z => by cases z), fun _ _ => ⟨a, b, rfl, rfl, fun z => absurd z hb, fun _ => ⟨?_, fun t u r e h1 h2 => ⟨rfl, t, u, fun c o z => ?_, ⟨x, dx, rfl, upd_same, r, Nat.lt_of_le_of_lt h1 ha, Nat.lt_of_le_of_lt h2 hbn⟩, e⟩⟩⟩⟩
  · exact Nat.lt_of_lt_of_le hbn (Nat.pow_le_pow_right (by decide) hs)
  · rw [upd_upd, upd_ne (ne_of_none z hx), upd_ne (ne_of_none z hdx)]
    exact z
theorem one_pow {n : Nat} (h : 1 ≤ n) : (1 : Nat) < 2 ^ n := Nat.one_lt_two_pow (by omega)
theorem lt_pow_mul {a b n m : Nat} (h1 : a < 2 ^ n) (h2 : b < 2 ^ m) : a * b < 2 ^ (n + m) := by
  rw [Nat.pow_add]
  exact Nat.mul_lt_mul'' h1 h2
theorem mulW_of {i j : Int} {n m : Nat} (h1 : i.natAbs < 2 ^ n) (h2 : j.natAbs < 2 ^ m) (h : n + m < 900000) : CMulW i j := by
  have l : ∀ (x : Int) (k : Nat), x.natAbs < 2 ^ k → x.natAbs.log2 ≤ k := fun x k hx => by
    by_cases z : x.natAbs = 0
    · rw [z]
      exact Nat.zero_le _
    · exact Nat.le_of_lt ((Nat.log2_lt z).mpr hx)
  have a1 := l i n h1
  have a2 := l j m h2
  show i.natAbs.log2 + j.natAbs.log2 < 1000000
  omega
theorem abs_mul_lt {i j : Int} {n m : Nat} (h1 : i.natAbs < 2 ^ n) (h2 : j.natAbs < 2 ^ m) : (i * j).natAbs < 2 ^ (n + m) := by
  rw [Int.natAbs_mul]
  exact lt_pow_mul h1 h2
theorem abs_add_lt {i j : Int} {n : Nat} (h1 : i.natAbs < 2 ^ n) (h2 : j.natAbs < 2 ^ n) : (i + j).natAbs < 2 ^ (n + 1) := by
  have := Int.natAbs_add_le i j
  rw [Nat.pow_succ]
  omega
theorem abs_sub_lt {i j : Int} {n : Nat} (h1 : i.natAbs < 2 ^ n) (h2 : j.natAbs < 2 ^ n) : (i - j).natAbs < 2 ^ (n + 1) := by
  have := Int.natAbs_sub_le i j
  rw [Nat.pow_succ]
  omega
theorem pow_step {a n m : Nat} (h : a < 2 ^ n) (hm : n ≤ m) : a < 2 ^ m := Nat.lt_of_lt_of_le h (Nat.pow_le_pow_right (by decide) hm)
theorem IsA.one (h : IsA K H x t u n) : 1 ≤ n := by
  obtain ⟨p, dx, _, _, ⟨h1, _⟩, _, h2⟩ := h
  rcases Nat.eq_zero_or_pos n with z | z
  · subst z
    have : u.natAbs < 1 := h2
    omega
  · exact z
end
section
variable {P : Program} {w : World} {K : PySem.W.Frag} {mg : Str → Option Value} {base : Heap} {f fW : Addr} {fd fdW fdI fdA : FuncData} {qi ti qv tv : Str} {fI fV fAs : Addr}
theorem ok_top (F : FunD K "top" "Amount.top" (defArgs sTop) (defBody sTop) (defScope sTop) [] [] f fd) (T : AF K mg) {CX : CXT} : FnOk P w K mg base CX 1 f fd ["self"] (getSp (CA K) "_top") := by
  refine F.ok scTop (fun vs H Q E h => ?_) (fun cdv A outer s H vs Q E hr h => ?_)
  · obtain ⟨a, dx, fs, v, rfl, _⟩ := h
    rfl
  · obtain ⟨a, dx, fs, v, rfl, h1, h2, q⟩ := h
    exact ⟨_, pss_one (ps_ret (pe_fld (pv 0) rfl)), .ref a, rfl, a, CA K, dx, fs, v, rfl, h1, T.cl, T.noT, h2, q⟩
theorem ok_bot (F : FunD K "bottom" "Amount.bottom" (defArgs sBot) (defBody sBot) (defScope sBot) [] [] f fd) (T : AF K mg) {CX : CXT} : FnOk P w K mg base CX 1 f fd ["self"] (getSp (CA K) "_bottom") := by
  refine F.ok scBot (fun vs H Q E h => ?_) (fun cdv A outer s H vs Q E hr h => ?_)
  · obtain ⟨a, dx, fs, v, rfl, _⟩ := h
    rfl
  · obtain ⟨a, dx, fs, v, rfl, h1, h2, q⟩ := h
    exact ⟨_, pss_one (ps_ret (pe_fld (pv 0) rfl)), .ref a, rfl, a, CA K, dx, fs, v, rfl, h1, T.cl, T.noB, h2, q⟩
theorem ok_eq (F : FunD K "__eq__" "Amount.__eq__" (defArgs sEq) (defBody sEq) (defScope sEq) [] [] f fd) (T : AF K mg) {CX : CXT} : FnOk P w K mg base CX 1 f fd ["self", "other"] (spEq K) := by
  refine F.ok scEq (fun vs H Q E h => ?_) (fun cdv A outer s H vs Q E hr h => ?_)
  · obtain ⟨x, y, t, u, n, rfl, _⟩ := h
    rfl
  · obtain ⟨x, y, t, u, n, rfl, ⟨p, dx, rfl, hp, _⟩, q⟩ := h
    refine ⟨_, pss_one (ps_ret (pe_and (pe_isi T.isi (pv 1) (pe_glob (v := .ref (CA K)) rfl T.g rfl)) (pe_and (pe_cmpR op_eq (pe_fld (pv 0) rfl) (pe_fld (pv 1) rfl) (nomark _)) (pe_one (pe_cmpR op_eq (pe_fld (pv 0) rfl) (pe_fld (pv 1) rfl) (nomark _)))))), ?_⟩
    rcases q with ⟨t2, u2, m, ⟨p2, dx2, rfl, hp2, _⟩, q⟩ | ⟨Ty, ty, hk, q⟩
    · refine ⟨_, rfl, .ref p2, _, _, _, true, rfl, .own _, T.ty hp2, T.kS, true, rfl, iteT ?_⟩
      refine ⟨_, rfl, p, CA K, dx, _, _, rfl, hp, T.cl, T.noT, fl_top _ _, _, rfl, p2, CA K, dx2, _, _, rfl, hp2, T.cl, T.noT, fl_top _ _, rfl, decide (V.int t = V.int t2), rfl, ?_⟩
      by_cases e : t = t2
      · subst e
        refine if_true_of (decide_eq_true rfl) ?_
        refine ⟨_, rfl, p, CA K, dx, _, _, rfl, hp, T.cl, T.noB, fl_bot _ _, _, rfl, p2, CA K, dx2, _, _, rfl, hp2, T.cl, T.noB, fl_bot _ _, rfl, ?_⟩
        rw [decide_eq_true rfl, Bool.true_and] at q
        by_cases e2 : u = u2
        · subst e2
          rw [decide_eq_true rfl] at q
          show Q (.bl (decide (V.int u = V.int u))) H
          rw [decide_eq_true rfl]
          exact q
        · rw [decide_eq_false e2] at q
          show Q (.bl (decide (V.int u = V.int u2))) H
          rw [decide_eq_false fun z => e2 (V.int.inj z)]
          exact q
      · refine if_false_of (decide_eq_false fun z => e (V.int.inj z)) ?_
        rw [decide_eq_false e, Bool.false_and] at q
        exact q
    · exact ⟨_, rfl, y, _, _, _, false, rfl, .own _, ty, hk, false, rfl, iteF q⟩
theorem ok_isA (F : FnP K "is_amount" sIsA f fd) (T : AF K mg) (FW : FnP K "is_whole" sWhole fW fdW) (gW : mg "is_whole" = some (.ref fW)) : FnOk P w K mg base (L2.CX P w) 2 f fd ["value"] (spIsA K) := by
  have GW : FnOk P w K mg base (L2.CX P w) 1 fW fdW ["value"] (spWhole K) := ok_whole FW T
  have bW : Binds K fdW ["value"] [] := FW.bindsN fun _ _ _ _ _ _ us hl => match us, hl with | [_], _ => rfl
  refine F.ok scIsA (fun vs H Q E h => ?_) (fun cdv A outer s H vs Q E hr h => ?_)
  · obtain ⟨x, t, b1, b2, rfl, _⟩ := h
    rfl
  · obtain ⟨x, t, b1, b2, rfl, ty, k1, wh, q⟩ := h
    refine ⟨_, pss_one (ps_ret (pe_or (pe_isi T.isi (pv 0) (pe_glob (v := .ref (CA K)) rfl T.g rfl)) (pe_one (pe_call GW hr rfl gW FW.kp bW .nil passL (pa_cons (pv 0) pa_nil))))), ?_⟩
    refine ⟨_, rfl, x, _, t, _, b1, rfl, .own _, ty, k1, b1, rfl, ?_⟩
    cases b1 with
    | true => exact iteT q
    | false => exact iteF ⟨_, rfl, x, b2, rfl, wh, q⟩
theorem ok_as (F : FnP K "as_amount" sAsA f fd) (T : AF K mg) (FW : FnP K "is_whole" sWhole fW fdW) (gW : mg "is_whole" = some (.ref fW)) (FA : FnP K "is_amount" sIsA fAs fdA) (gA : mg "is_amount" = some (.ref fAs))
    (FI : FunD K "__init__" "Amount.__init__" (defArgs sInit) (defBody sInit) (defScope sInit) [.int 1] [] (aI K) fdI)
    (XI : Xb.Txt P.main.file K qi "value" ti (CI K) fI) (XV : Xb.Txt P.main.file K qv "value" tv (CV K) fV) (htop : (P.main.scope.names.lookup ("super" : Str)).isSome = false) : FnOk P w K mg base (L2.CX P w) 6 f fd ["value"] (spAs K) := by
  have GA : FnOk P w K mg base (L2.CX P w) 2 fAs fdA ["value"] (spIsA K) := ok_isA FA T FW gW
  have bA : Binds K fdA ["value"] [] := FA.bindsN fun _ _ _ _ _ _ us hl => match us, hl with | [_], _ => rfl
  have GI : FnOk P w K mg base (L2.CX P w) 4 (aI K) fdI ["self", "top", "bottom"] (spInit K) := ok_init FI T FW gW XI htop
  obtain ⟨ds, hds, bI⟩ := FI.binds1 (ps := ["self", "top", "bottom"]) 2 0 (by simp) rfl (fun _ _ _ _ _ _ _ us its hu hi => match us, its, hu, hi with | [_, _], [_], _, _ => ⟨_, rfl, rfl⟩)
  refine F.ok scAsA (fun vs H Q E h => ?_) (fun cdv A outer s H vs Q E hr h => ?_)
  · obtain ⟨x, rfl, _⟩ := h
    rfl
  · obtain ⟨x, rfl, q⟩ := h
    have hr1 := hr.mono (show 2 ≤ 5 by decide)
    refine ⟨_, pss_cons (ps_if (pt_not (pt_val (pe_call GA hr1 rfl gA FA.kp bA .nil passL (pa_cons (pv 0) pa_nil)))) (pss_one (Xb.ps_raiseX (W := fun cls d _ H => E cls d H) rfl XV T.gV htop hr1 (takes_of rfl rfl rfl rfl) (pa_cons (pv 0) pa_nil))) pss_nil)
      (pss_one (ps_ret (pe_ifExp (pt_val (pe_isi T.isi (pv 0) (pe_glob (v := .ref (CA K)) rfl T.g rfl))) (pv 0) (pe_make T.mkA GI hr rfl T.g bI hds passL (pa_cons (pv 0) pa_nil))))), ?_⟩
    rcases q with ⟨⟨Ty, hT, ty, wh⟩, er⟩ | ⟨t, u, n, ar, q⟩
    · refine ⟨_, rfl, x, _, false, false, rfl, ty, T.kT Ty hT, wh, false, rfl, iteT ⟨_, rfl, _, rfl, er⟩⟩
    · rcases ar with ia | ⟨rfl, rfl, hn, h1⟩
      · obtain ⟨p, dx, rfl, hp, r⟩ := id ia
        refine ⟨_, rfl, .ref p, _, true, false, rfl, T.ty hp, T.kS, T.wh hp, true, rfl, iteF ?_⟩
        exact ⟨_, rfl, .ref p, _, _, _, true, rfl, .own _, T.ty hp, T.kS, true, rfl, iteT ⟨_, rfl, q _ _ (Same.refl _) ia⟩⟩
      · have kI := T.kT "int" (by simp [tys])
        refine ⟨_, rfl, .int t, _, false, true, rfl, .base (.int t), kI, wh_int t, true, rfl, iteF ?_⟩
        refine ⟨_, rfl, .int t, _, _, _, false, rfl, .own _, .base (.int t), kI, false, rfl, iteF ⟨_, rfl, ?_⟩⟩
        intro y dy hy hdy hne
        refine ⟨y, dy, .int t, .int 1, true, true, rfl, upd_same, wh_int _, wh_int _, (fun z => by cases z), (fun _ z => by cases z), fun _ _ => ⟨t, 1, rfl, rfl, (fun z => by cases z), fun _ => ⟨by decide, fun t' u' r e h2 h3 => ⟨rfl, ?_⟩⟩⟩⟩
        have eu : u' = 1 := by
          have r0 := r.1
          have : u'.natAbs ≤ 1 := h3
          omega
        subst eu
        have et : t' = t := by omega
        subst et
        refine q _ _ (fun c o z => ?_) ⟨y, dy, rfl, upd_same, r, hn, by show (1 : Nat) < _; exact one_pow h1⟩
        rw [upd_upd, upd_ne (ne_of_none z hy), upd_ne (ne_of_none z hdy)]
        exact z
end

end K35
set_option Elab.async false
set_option linter.all false
set_option maxRecDepth 100000
set_option maxHeartbeats 4000000
set_option exponentiation.threshold 100000
namespace K35
open PySem PySem.Spec PyProof.Rows L2 Fa Fb
theorem Same.upd {H : Hp} {p : Addr} {o : HO} (h : H p = none) : Same H (upd H p o) := fun c u z => by
  rw [upd_ne (ne_of_none z h)]
  exact z
theorem same_put {H H' : Hp} {D : Addr} {o : HO} (s : Same H H') (h : H D = none) : Same H (upd H' D o) := fun c u z => by
  rw [upd_ne (ne_of_none z h)]
  exact s c u z
/-- a comprehension over a text's signs -/
theorem lc_signs {z : Str} {g : TG} {tt : TT} {te : TE} {vs : List Nat} {σ : L2.St} {H1 : Hp} {D : Addr} {Qd : Hp → Prop} (Pv : Nat → Hp → Prop) (h0 : Pv 0 (upd H1 D (.lst [])))
    (hs : ∀ i c H, z.cps[i]? = some c → Pv i H → g (.str ⟨#[c]⟩) (wipe σ vs) H fun σ2 H2 => wipe σ2 vs = wipe σ vs ∧ tt σ2 H2 fun b H3 =>
      if b = true then te σ2 H3 fun y H4 => ∃ acc, H4 D = some (.lst acc) ∧ acc.length < sizeLine ∧ Pv (i + 1) (upd H4 D (.lst (acc ++ [y]))) else Pv (i + 1) H3) (hd : ∀ H, Pv z.cps.size H → Qd H) :
    ∃ W : Nat → Nat → Hp → Prop, (∃ m, W 0 m (upd H1 D (.lst []))) ∧ ∀ i m H, W i m H →
      ((Its z).stop i H ∧ Qd H) ∨ ((Its z).go i H ∧ ∃ Nx : Hp → Prop, (∀ H', Nx H' → ∃ m', m' < m ∧ W (i + 1) m' H') ∧ ∀ x H', (Its z).yld i H x H' → g x (wipe σ vs) H' fun σ2 H2 => wipe σ2 vs = wipe σ vs ∧ tt σ2 H2 fun b H3 =>
        if b = true then te σ2 H3 fun y H4 => ∃ acc, H4 D = some (.lst acc) ∧ acc.length < sizeLine ∧ Nx (upd H4 D (.lst (acc ++ [y]))) else Nx H3) := by
  refine ⟨fun i m H => m + i = z.cps.size ∧ Pv i H, ⟨z.cps.size, rfl, h0⟩, fun i m H ⟨hm, p⟩ => ?_⟩
  rcases Nat.lt_or_ge i z.cps.size with c | c
  · refine .inr ⟨c, Pv (i + 1), fun H' p' => ⟨m - 1, by omega, by omega, p'⟩, fun x H' q => ?_⟩
    obtain ⟨eH, ch, hc, rfl⟩ := q
    cases eH
    exact hs i ch _ hc p
  · have e : i = z.cps.size := by omega
    rw [e] at p
    exact .inl ⟨c, hd H p⟩
/-- whether a value is a text -/
def Tx (K : PySem.W.Frag) (H : Hp) (x : V) (b : Bool) : Prop := ∃ t, TyX K H x t ∧ PySem.W.kitOne K t (.type "str") = some b
abbrev sHas : Stmt := top 27
abbrev sName : Stmt := top 26
abbrev sUnit : Stmt := top 28
abbrev sChk : Stmt := top 29
theorem scHas : FnScope ["text", "characters", "character"] ["text", "characters"] (defScope sHas) := ⟨rfl, rfl, rfl, by decide +kernel, rfl, by decide +kernel, by decide +kernel⟩
theorem scName : FnScope ["value"] ["value"] (defScope sName) := ⟨rfl, rfl, rfl, by decide +kernel, rfl, by decide +kernel, by decide +kernel⟩
theorem scUnit : FnScope ["value"] ["value"] (defScope sUnit) := ⟨rfl, rfl, rfl, by decide +kernel, rfl, by decide +kernel, by decide +kernel⟩
theorem scChk : FnScope ["unit"] ["unit"] (defScope sChk) := ⟨rfl, rfl, rfl, by decide +kernel, rfl, by decide +kernel, by decide +kernel⟩
/-- all signs of z stand in c -/
def only (z c : Str) : Bool := z.cps.toList.all fun x => decide (x ∈ c.cps.toList)
def spHas : Sp := fun vs H Q _ => ∃ z c : Str, vs = [.str z, .str c] ∧ z.cps.size ≤ 100000 ∧ ∀ H', Same H H' → Q (.bl (only z c)) H'
theorem boot_all : bootBuiltins "all" = some (.builtin "all") := by decide +kernel
section
variable {P : Program} {w : World} {K : PySem.W.Frag} {mg : Str → Option Value} {base : Heap} {f fW : Addr} {fd fdW : FuncData}
theorem ok_has (F : FnP K "has_only" sHas f fd) (mA : mg "all" = none) : FnOk P w K mg base (L2.CX P w) 1 f fd ["text", "characters"] spHas := by
  refine F.ok scHas (fun vs H Q E h => ?_) (fun cdv A outer s H vs Q E hr h => ?_)
  · obtain ⟨z, c, rfl, _⟩ := h
    rfl
  · obtain ⟨z, c, rfl, hz, q⟩ := h
    refine ⟨_, pss_one (ps_ret (pe_callB (cr_all rfl) rfl mA boot_all (pa_cons (pe_lc (own := [("character", 2)]) (g := gName 2) (te := tOp (fun x y H Q => ∃ (c : Nat) (z : Str), x = .str ⟨#[c]⟩ ∧ y = .str z ∧ Q (.bl (decide (c ∈ z.cps.toList))) H) (tVar 2) (tVar 1)) (by rfl) scHas.nd (pi_str (pv 0))
      (blkOk_by (own := [("character", 2)]) (N := ["text", "characters", "character"]) (sc := defScope sHas) (by decide +kernel)) (fun _ _ _ _ _ => pg_name (i := 2) scHas.nd rfl (Or.inl rfl)) (fun _ _ _ _ _ => pts_nil) (fun _ _ _ _ _ => pe_cmpR op_in_sign (pv 2) (pv 1) (by rfl))) pa_nil))), ?_⟩
    refine ⟨_, rfl, z, rfl, fun D hD => ?_⟩
    refine lc_signs (fun i H' => Same H H' ∧ H' D = some (.lst (((z.cps.toList.take i).map fun x => decide (x ∈ c.cps.toList)).map V.bl))) ⟨Same.upd hD, upd_same⟩ ?_ ?_
    · rintro i ch H1 hc ⟨s1, hl⟩
      refine ⟨rfl, _, rfl, _, rfl, ch, c, rfl, rfl, _, hl, ?_, same_put s1 hD, ?_⟩
      · have := (Array.getElem?_eq_some_iff.mp hc).1
        simp only [List.length_map, List.length_take]
        exact Nat.lt_of_le_of_lt (Nat.min_le_left _ _) (Nat.lt_of_lt_of_le this (Nat.le_trans hz (by decide)))
      · have hc2 : z.cps.toList[i]? = some ch := by rw [Array.getElem?_toList]; exact hc
        rw [upd_same, List.take_add_one, hc2]
        simp
    · rintro H1 ⟨s1, hl⟩
      have e : z.cps.toList.take z.cps.size = z.cps.toList := List.take_of_length_le (by simp)
      rw [e] at hl
      refine ⟨D, _, rfl, SqL.of hl, ?_⟩
      rw [List.all_map]
      exact q H1 s1
end
end K35

set_option Elab.async false
set_option linter.all false
set_option maxRecDepth 100000
set_option maxHeartbeats 4000000
set_option exponentiation.threshold 100000
namespace K35
open PySem PySem.Spec PyProof.Rows L2 Fa Fb
abbrev LET : Str := "abcdefghijklmnopqrstuvwxyz"
abbrev DIG : Str := "0123456789"
abbrev CU (K : PySem.W.Frag) : Addr := He.ga K "InvalidUnit"
/-- what the written part says of validation's names -/
structure VF (K : PySem.W.Frag) (mg : Str → Option Value) (aU : Addr) : Prop where
  str : mg "str" = none
  len : mg "len" = none
  all : mg "all" = none
  letters : ∃ t, mg "LETTERS" = some (.str LET t)
  digits : ∃ t, mg "DIGITS" = some (.str DIG t)
  longest : ∃ t, mg "LONGEST_NAME" = some (.int 8 t)
  units : mg "UNITS" = some (.ref aU)
  unitsT : ∀ H, SqT K H aU [.str "beats", .str "seconds"]
def isName (z : Str) : Bool := (decide (1 ≤ z.length) && decide (z.length ≤ 8)) && ((match z.cps.toList.head? with | some c => decide (c ∈ LET.cps.toList) | none => false) && only z (LET ++ DIG))
def spName (K : PySem.W.Frag) : Sp := fun vs H Q _ => ∃ x, vs = [x] ∧ ((Tx K H x false ∧ Q (.bl false) H) ∨ ∃ z : Str, x = .str z ∧ z.length ≤ 100000 ∧ ∀ H', Same H H' → Q (.bl (isName z)) H')
def isUnit (z : Str) : Bool := decide (z = "beats") || decide (z = "seconds")
def spText (K : PySem.W.Frag) (g : Str → Bool) : Sp := fun vs H Q _ => ∃ x, vs = [x] ∧ ((Tx K H x false ∧ Q (.bl false) H) ∨ ∃ z : Str, x = .str z ∧ Q (.bl (g z)) H)
theorem boot_str : bootBuiltins "str" = some (.type "str") := by decide +kernel
theorem tx_str {K : PySem.W.Frag} : PySem.W.kitOne K (.type "str") (.type "str") = some true := kit_ty (by decide +kernel)
section
variable {P : Program} {w : World} {K : PySem.W.Frag} {mg : Str → Option Value} {base : Heap} {f fW fH : Addr} {fd fdW fdH : FuncData} {aU : Addr}
theorem ok_name (F : FnP K "is_name" sName f fd) (T : AF K mg) (V : VF K mg aU) (GH : FnOk P w K mg base (L2.CX P w) 1 fH fdH ["text", "characters"] spHas) (gH : mg "has_only" = some (.ref fH)) (kH : PySem.W.keepIn K (.ref fH) = true) (bH : Binds K fdH ["text", "characters"] []) :
    FnOk P w K mg base (L2.CX P w) 2 f fd ["value"] (spName K) := by
  obtain ⟨t1, hL⟩ := V.letters
  obtain ⟨t2, hD⟩ := V.digits
  obtain ⟨t3, hN⟩ := V.longest
  refine F.ok scName (fun vs H Q E h => ?_) (fun cdv A outer s H vs Q E hr h => ?_)
  · obtain ⟨x, rfl, _⟩ := h
    rfl
  · obtain ⟨x, rfl, q⟩ := h
    refine ⟨_, pss_cons (ps_if (PW.pt (pw_or (pt_not (pt_val (pe_isi T.isi (pv 0) (pe_ty V.str boot_str)))) (pw_or1 (pt_not (pt_chain op_le op_le pe_int (pe_callB call_len_str rfl V.len PySem.boot_len (pa_cons (pv 0) pa_nil)) (pe_glob (v := .int 8) rfl hN ⟨t3, rfl⟩)))))) (pss_one (ps_ret pe_bl)) pss_nil)
      (pss_one (ps_ret (pe_and (pe_cmpR op_in_sign (pe_ix ix_str (pv 0) pe_int (fun _ _ => rfl)) (pe_glob (v := .str LET) rfl hL ⟨t1, rfl⟩) (by rfl)) (pe_one (pe_call GH hr rfl gH kH bH .nil passL (pa_cons (pv 0) (pa_cons (pe_op op_add_str (pe_glob (v := .str LET) rfl hL ⟨t1, rfl⟩) (pe_glob (v := .str DIG) rfl hD ⟨t2, rfl⟩)) pa_nil))))))), ?_⟩
    rcases q with ⟨⟨ty, h1, h2⟩, q⟩ | ⟨z, rfl, hz, q⟩
    · exact ⟨_, rfl, x, _, ty, _, false, rfl, .ty "str", h1, h2, false, rfl, iteT q⟩
    · refine ⟨_, rfl, .str z, _, _, _, true, rfl, .ty "str", TyX.base (.str z), tx_str, true, rfl, iteF ?_⟩
      have hz2 : z.length ≤ sizeLine := Nat.le_trans hz (by decide)
      refine ⟨_, rfl, z, rfl, hz2, _, _, rfl, rfl, _, rfl, ?_⟩
      by_cases c1 : 1 ≤ z.length
      · refine if_true_of (decide_eq_true (by omega)) ⟨_, _, rfl, rfl, _, rfl, ?_⟩
        by_cases c2 : z.length ≤ 8
        · rw [decide_eq_true (show (z.length : Int) ≤ 8 by omega)]
          refine iteF ?_
          have h0 : 0 < z.cps.toList.length := by
            have : z.cps.toList.length = z.length := by simp [Str.length]
            omega
          have hh : z.cps.toList.head? = some z.cps.toList[0] := by rw [List.head?_eq_getElem?, List.getElem?_eq_getElem h0]
          refine ⟨_, rfl, z, _, _, rfl, rfl, hz2, atI_nat (j := 0) (List.getElem?_eq_getElem h0), _, _, rfl, rfl, _, rfl, ?_⟩
          unfold isName at q
          rw [decide_eq_true c1, decide_eq_true c2, hh] at q
          by_cases c3 : z.cps.toList[0] ∈ LET.cps.toList
          · refine if_true_of (decide_eq_true c3) ⟨_, rfl, LET, DIG, rfl, rfl, by decide +kernel, z, LET ++ DIG, rfl, hz, fun H' s' => ?_⟩
            have q' := q H' s'
            simp only [decide_eq_true c3, Bool.true_and] at q'
            exact q'
          · refine if_false_of (decide_eq_false c3) ?_
            have q' := q H (Same.refl _)
            simp only [decide_eq_false c3, Bool.false_and, Bool.and_false] at q'
            exact q'
        · rw [decide_eq_false (show ¬ (z.length : Int) ≤ 8 by omega)]
          refine iteT ?_
          have q' := q H (Same.refl _)
          unfold isName at q'
          rw [decide_eq_false c2, Bool.and_false, Bool.false_and] at q'
          exact q'
      · refine if_false_of (decide_eq_false (by omega)) ⟨_, rfl, iteT ?_⟩
        have q' := q H (Same.refl _)
        unfold isName at q'
        rw [decide_eq_false c1, Bool.false_and, Bool.false_and] at q'
        exact q'
theorem sbeq (a z : Str) : (a == z) = decide (z = a) := by
  rw [Bool.eq_iff_iff, beq_iff_eq, decide_eq_true_iff]
  exact eq_comm
theorem inV_unit (z : Str) : inV (.str z) [.str "beats", .str "seconds"] = isUnit z := by
  unfold inV isUnit
  simp only [List.any_cons, List.any_nil, eqV, Bool.or_false, sbeq]
theorem ok_unit (F : FnP K "is_unit" sUnit f fd) (T : AF K mg) (V : VF K mg aU) : FnOk P w K mg base (L2.CX P w) 1 f fd ["value"] (spText K isUnit) := by
  refine F.ok scUnit (fun vs H Q E h => ?_) (fun cdv A outer s H vs Q E hr h => ?_)
  · obtain ⟨x, rfl, _⟩ := h
    rfl
  · obtain ⟨x, rfl, q⟩ := h
    refine ⟨_, pss_one (ps_ret (pe_and (pe_isi T.isi (pv 0) (pe_ty V.str boot_str)) (pe_one (pe_cmpR op_in_seq (pv 0) (pe_glob (v := .ref aU) rfl V.units rfl) (by rfl))))), ?_⟩
    rcases q with ⟨⟨ty, h1, h2⟩, q⟩ | ⟨z, rfl, q⟩
    · exact ⟨_, rfl, x, _, ty, _, false, rfl, .ty "str", h1, h2, false, rfl, iteF q⟩
    · refine ⟨_, rfl, .str z, _, _, _, true, rfl, .ty "str", TyX.base (.str z), tx_str, true, rfl, iteT ⟨_, rfl, aU, _, rfl, .inr (V.unitsT H), rfl, rfl, ?_⟩⟩
      rw [if_neg (by decide), inV_unit]
      exact q
/-- a unit passes; else an error -/
def spChk (K : PySem.W.Frag) : Sp := fun vs H Q E => ∃ x, vs = [x] ∧ ((Tx K H x false ∧ Err (CU K) x H E) ∨ ∃ z : Str, x = .str z ∧ (isUnit z = false → Err (CU K) x H E) ∧ (isUnit z = true → Q .non H))
theorem ok_chk {fU fI : Addr} {fdU : FuncData} {qu tu : Str} (F : FnP K "check_unit" sChk f fd) (GU : FnOk P w K mg base (L2.CX P w) 1 fU fdU ["value"] (spText K isUnit)) (gU : mg "is_unit" = some (.ref fU)) (kU : PySem.W.keepIn K (.ref fU) = true) (bU : Binds K fdU ["value"] [])
    (gE : mg "InvalidUnit" = some (.ref (CU K))) (XU : Xb.Txt P.main.file K qu "value" tu (CU K) fI) (htop : (P.main.scope.names.lookup ("super" : Str)).isSome = false) : FnOk P w K mg base (L2.CX P w) 2 f fd ["unit"] (spChk K) := by
  refine F.ok scChk (fun vs H Q E h => ?_) (fun cdv A outer s H vs Q E hr h => ?_)
  · obtain ⟨x, rfl, _⟩ := h
    rfl
  · obtain ⟨x, rfl, q⟩ := h
    refine ⟨_, pss_one (ps_if (pt_not (pt_val (pe_call GU hr rfl gU kU bU .nil passL (pa_cons (pv 0) pa_nil)))) (pss_one (Xb.ps_raiseX (W := fun cls d _ H => E cls d H) rfl XU gE htop hr (takes_of rfl rfl rfl rfl) (pa_cons (pv 0) pa_nil))) pss_nil), ?_⟩
    rcases q with ⟨tx, er⟩ | ⟨z, rfl, er, q⟩
    · exact ⟨_, rfl, x, rfl, .inl ⟨tx, false, rfl, iteT ⟨_, rfl, _, rfl, er⟩⟩⟩
    · refine ⟨_, rfl, .str z, rfl, .inr ⟨z, rfl, isUnit z, rfl, ?_⟩⟩
      cases g : isUnit z with
      | false => exact iteT ⟨_, rfl, _, rfl, er g⟩
      | true => exact iteF (q g)
end
end K35

set_option Elab.async false
set_option linter.all false
set_option maxRecDepth 100000
set_option maxHeartbeats 4000000
/-! Defs that show lists: the guards of repr stand empty around them. -/
namespace Fg
open PySem PySem.Spec PyProof.Rows L2
/-- a def's promise where no repr is under way -/
structure FnG (P : Program) (w : World) (K : PySem.W.Frag) (mg : Str → Option Value) (base : Heap) (CX : CXT) (k : Nat) (f : Addr) (fd : FuncData) (ps : List Str) (sp : Sp) : Prop where
  len : ∀ vs H Q E, sp vs H Q E → vs.length = ps.length
  run : ∀ (A : Around) (ou : List Env) (s : Shared) (H : Hp) (ar : Args) (us : List Value) (vs : List V) (Q : VK) (E : XK), A.guards = some [] → Room k A → Env0 P w K mg base A ou s H → BindsTo s fd ar (ps.zip us) →
    Vals vs us → sp vs H Q E → codeAny (model P w) A (.call (.ref f) ar) (CR CX ou P w H s Q E) s
section
variable {CX : CXT} {P : Program} {w : World} {K : PySem.W.Frag} {mg : Str → Option Value} {base : Heap} {k : Nat} {f : Addr} {fd : FuncData} {x qual : Str} {params : Arguments} {body : List Stmt} {scope : Scope} {dvs : List V} {kws : List (Str × V)} {N ps : List Str} {sp : Sp}
theorem okG (F : FunD K x qual params body scope dvs kws f fd) (S : FnScope N ps scope) (len : ∀ vs H Q E, sp vs H Q E → vs.length = ps.length)
    (hb : ∀ (cdv : Value) (A : Around) (ou : List Env) (s : Shared) (H : Hp) (vs : List V) (Q : VK) (E : XK), A.guards = some [] → Room k (A.deeper (envOfC qual scope s.heap.objs.size f cdv)) → sp vs H Q E →
      ∃ t, PSs (cxOf CX P w K mg base N qual scope f cdv A ou s H E) body t ∧ t { nx := fun _ H' => Q .non H', rt := Q } (start N vs) H) : FnG P w K mg base CX (k + 1) f fd ps sp := by
  obtain ⟨oc, od, dV, kV, doc, pm, an, cdv, ct, osl, rfl, lk, hcd, _, _⟩ := F.ex
  constructor
  · exact len
  intro A ou s H ar us vs Q E hg hr e0 bi rv hsp
  have keep : ∀ b o, base.get? b = some o → s.heap.get? b = some o := fun b o e => (e0.bs b o e).1
  have inK : K.In s.heap := e0.mod.kin.keeps keep
  have noL : s.heap.NoLimit := e0.mod.nolimit.keeps keep
  have kinds : ∀ y ∈ ps.zip us, scope.names.lookup y.1 = some .local ∨ (scope.names.lookup y.1 = some .cell ∧ ((cellsFrom (s.heap.objs.size + 1) scope.names []).lookup y.1).isSome = true) := by
    rintro ⟨n, v⟩ hy
    exact (S.par n (List.of_mem_zip hy).1).imp id fun q => ⟨q, PySem.W.cellsFrom_some _ _ _ (.inl q)⟩
  refine codeAny_call_function hr.depth (inK _ _ lk) rfl S.co S.gen rfl (PySem.W.codeRec_of inK hcd) (bi _ _ _ _ ?_)
  refine wpAny_newFunctionEnv_cells S.kind kinds fun env he s1 ic => ?_
  cases he
  refine ⟨noL.keeps ic.toInCall.keep, codeAny_func ?_⟩
  obtain ⟨t, pt, tq⟩ := hb cdv A ou s H vs Q E hg (hr.deeper _) hsp
  have J : Inv (cxOf CX P w K mg base N qual scope f cdv A ou s H E) [] (start N vs) H s1 := inv_start S hr.hd e0 (len _ _ _ _ hsp) rv ic
  refine wpAny_mono (pt.run [] s1 (start N vs) H _ J tq) (fun fl s2 h2 => ?_) fun _ _ h2 => h2
  match fl, h2 with
  | .ret u, h2 =>
    obtain ⟨v, σ2, H2, J2, ru, q2⟩ := h2
    exact ⟨v, H2, J2.os, J2.bare, J2.base, J2.hok, ru, q2⟩
  | .next, h2 =>
    obtain ⟨σ2, H2, J2, q2⟩ := h2
    exact ⟨V.non, H2, J2.os, J2.bare, J2.base, J2.hok, rfl, q2⟩
  | .brk, h2 => exact (let ⟨_, _, _, z⟩ := h2; False.elim z)
  | .cont, h2 => exact (let ⟨_, _, _, z⟩ := h2; False.elim z)
end
section
variable {X : Cx} {CX : CXT} {k : Nat} {f : Addr} {fd : FuncData} {ps : List Str} {sp : Sp} {E : L2.St → XK} {x : Str} {p pos : Pos} {e : Expr} {es : List Expr} {t : TA}
theorem run_G {pn : List (Addr × Obj)} {σ : L2.St} {H : Hp} {s : Shared} {Q : VK} {us : List Value} {vs : List V} (G : X.A.guards = some []) (F : FnG X.prog X.w X.K X.mg X.base CX k f fd ps sp) (hr : Room k X.A) (hb : Binds X.K fd ps []) (px : PassesAt CX X σ (E σ))
    (I : Inv X pn σ H s) (r : Vals vs us) (h : sp vs H Q (E σ)) : wpAny (model X.prog X.w) X.A (call (.ref f) us) (EP X pn σ Q) X.xe s := by
  have bi := hb s us I.kIn (by rw [List.append_nil, ← r.length]; exact F.len _ _ _ _ h)
  rw [List.append_nil] at bi
  refine wpAny_call (codeAny_mono (F.run X.A X.stack s H ⟨us, []⟩ us vs Q (E σ) G hr I.env0 bi r h) fun res s2 out => ?_)
  match res, out with
  | .error er, out => exact px pn H s er s2 I out
  | .ok (.ret u), out => exact I.after out
  | .ok .next, out => exact out.elim
  | .ok .brk, out => exact out.elim
  | .ok .cont, out => exact out.elim
theorem pe_callG (G : X.A.guards = some []) (F : FnG X.prog X.w X.K X.mg X.base CX k f fd ps sp) (hr : Room k X.A) (hg : Gl X x) (hm : X.mg x = some (.ref f)) (hk : PySem.W.keepIn X.K (.ref f) = true) (hb : Binds X.K fd ps []) (px : ∀ σ, PassesAt CX X σ (E σ))
    (ha : PA X (e :: es) t) (nd : (x == ("__debug__" : Str)) = false := by decide) (he : starEach (e :: es) X.env = (false, eval e X.env) :: starEach es X.env := by rfl) (hpl : (backTo pos (starEach es X.env)).any (·.1) = false := by rfl) :
    PE X (.Call (.Name x p) (e :: es) [] pos) (tCallS sp E t) := by
  constructor
  intro pn s σ H Q I h
  refine wpAny_Call_Name_kw (ld_glob I hg hm ?_ nd)
  refine PySem.W.callWith_K (h₀ := X.base) I.ok.mod.kin hk (thn (ha.run pos pn s σ H _ I h) ?_) he hpl
  rintro us s1 ⟨vs, H1, I1, r, q⟩
  exact ⟨I1.kIn, run_G G F hr hb (px σ) I1 r q⟩
theorem pe_callG0 (G : X.A.guards = some []) (F : FnG X.prog X.w X.K X.mg X.base CX k f fd ps sp) (hr : Room k X.A) (hg : Gl X x) (hm : X.mg x = some (.ref f)) (hk : PySem.W.keepIn X.K (.ref f) = true) (hb : Binds X.K fd ps []) (px : ∀ σ, PassesAt CX X σ (E σ))
    (nd : (x == ("__debug__" : Str)) = false := by decide) : PE X (.Call (.Name x p) [] [] pos) (tCallS sp E tNil) := by
  constructor
  intro pn s σ H Q I h
  exact wpAny_Call_Name_kw (ld_glob I hg hm (PySem.W.callWith_K0 I.kIn hk (run_G (us := []) G F hr hb (px σ) I .nil h)) nd)
end
/-! ### repr of what is tracked -/
/-- the object of sys.modules is a dict of the written part -/
def SysD (K : PySem.W.Frag) : Prop := ∃ c dd es ep sl, K.lookup sysModules = some ⟨c, dd, .dict es ep, sl⟩
def Sh (X : Cx) (H : Hp) (v : V) (d : PyData) : Prop := ∀ (pn : List (Addr × Obj)) (σ : L2.St) (s : Shared) (u : Value), Inv X pn σ H s → RelV v u → ∃ as, Reads s.heap u d as ∧ sysModules ∉ as
inductive ShA (X : Cx) (H : Hp) : List V → List PyData → Prop
  | nil : ShA X H [] []
  | cons {v : V} {vs : List V} {d : PyData} {ds : List PyData} : Sh X H v d → ShA X H vs ds → ShA X H (v :: vs) (d :: ds)
section
variable {X : Cx} {H : Hp}
theorem ShA.reads {pn : List (Addr × Obj)} {σ : L2.St} {s : Shared} (I : Inv X pn σ H s) : ∀ {vs : List V} {ds : List PyData} {us : List Value}, ShA X H vs ds → Vals vs us → ∃ as, ReadsAll s.heap us ds as ∧ sysModules ∉ as
  | _, _, _, .nil, .nil => ⟨[], .nil, by simp⟩
  | _, _, _, .cons h hs, .cons r rs => by
    obtain ⟨as, a1, a2⟩ := h _ _ _ _ I r
    obtain ⟨bs, b1, b2⟩ := ShA.reads I hs rs
    exact ⟨as ++ bs, .cons a1 b1, by simp [a2, b2]⟩
theorem sh_non : Sh X H .non .none := fun _ _ _ u _ r => by
  cases r
  exact ⟨[], .none, by simp⟩
theorem sh_bl (b : Bool) : Sh X H (.bl b) (.bool b) := fun _ _ _ u _ r => by
  cases r
  exact ⟨[], .bool b, by simp⟩
theorem sh_int (i : Int) : Sh X H (.int i) (.int i) := fun _ _ _ u _ ⟨t, e⟩ => by
  cases e
  exact ⟨[], .int i t, by simp⟩
theorem sh_str (x : Str) : Sh X H (.str x) (.str x) := fun _ _ _ u _ ⟨t, e⟩ => by
  cases e
  exact ⟨[], .str x t, by simp⟩
theorem sh_lst (S : SysD X.K) {a : Addr} {xs : List V} {ds : List PyData} (h : H a = some (.lst xs)) (hs : ShA X H xs ds) : Sh X H (.ref a) (.list ds) := fun pn σ s u I r => by
  cases r
  obtain ⟨its, rv, ⟨o, n, ho, hc, _, hd⟩, _⟩ := I.list (SqL.of (K := X.K) h)
  obtain ⟨as, a1, a2⟩ := hs.reads I rv
  refine ⟨a :: as, .list ho hc hd a1, fun z => ?_⟩
  rcases List.mem_cons.mp z with z | z
  · obtain ⟨c, dd, es, ep, sl, hk⟩ := S
    have h2 := I.kIn _ _ hk
    rw [z, ho] at h2
    cases h2
    cases hd
  · exact a2 z
theorem sh_tup {a : Addr} {xs : List V} {ds : List PyData} (h : H a = some (.tup xs)) (hs : ShA X H xs ds) : Sh X H (.ref a) (.tuple ds) := fun pn σ s u I r => by
  cases r
  obtain ⟨its, rv, ⟨o, ho, hc, n, hd⟩, _⟩ := I.tuple (SqT.of (K := X.K) h)
  obtain ⟨as, a1, a2⟩ := hs.reads I rv
  exact ⟨as, .tuple ho hc hd a1, a2⟩
theorem sh_dict0 {a : Addr} (h : H a = some (.dK [])) : Sh X H (.ref a) (.dict []) := fun pn σ s u I r => by
  cases r
  obtain ⟨_, h1, vs, kv, hd⟩ := dk_of I.hok h
  obtain ⟨o, es, ep, ho, hc, hdat, _, hp, _⟩ := hd
  cases kv
  have el : es.toList = [] := List.eq_nil_of_length_eq_zero hp.length
  refine ⟨a :: [] ++ [], Reads.dict ho hc.1 hdat (by rw [el]; exact .nil) (by rw [el]; exact .nil), fun z => ?_⟩
  have z2 : sysModules = a := by simpa using z
  rw [← z2] at h1
  simp at h1
mutual
/-- what is shown of a value, by the tracked heap alone -/
inductive Sv (H : Hp) : V → PyData → Prop
  | non : Sv H .non .none
  | bl (b : Bool) : Sv H (.bl b) (.bool b)
  | int (i : Int) : Sv H (.int i) (.int i)
  | str (x : Str) : Sv H (.str x) (.str x)
  | lst {a : Addr} {xs : List V} {ds : List PyData} : H a = some (.lst xs) → SvA H xs ds → Sv H (.ref a) (.list ds)
  | tup {a : Addr} {xs : List V} {ds : List PyData} : H a = some (.tup xs) → SvA H xs ds → Sv H (.ref a) (.tuple ds)
  | dic {a : Addr} : H a = some (.dK []) → Sv H (.ref a) (.dict [])
inductive SvA (H : Hp) : List V → List PyData → Prop
  | nil : SvA H [] []
  | cons {v : V} {vs : List V} {d : PyData} {ds : List PyData} : Sv H v d → SvA H vs ds → SvA H (v :: vs) (d :: ds)
end
mutual
theorem Sv.sh (S : SysD X.K) : ∀ {d : PyData} {v : V}, Sv H v d → Sh X H v d
  | _, _, .non => sh_non
  | _, _, .bl b => sh_bl b
  | _, _, .int i => sh_int i
  | _, _, .str x => sh_str x
  | _, _, .lst h hs => sh_lst S h (SvA.sh S hs)
  | _, _, .tup h hs => sh_tup h (SvA.sh S hs)
  | _, _, .dic h => sh_dict0 h
theorem SvA.sh (S : SysD X.K) : ∀ {ds : List PyData} {vs : List V}, SvA H vs ds → ShA X H vs ds
  | _, _, .nil => .nil
  | _, _, .cons h hs => .cons (Sv.sh S h) (SvA.sh S hs)
end
mutual
theorem Sv.same {H' : Hp} (s : ∀ a o, H a = some o → H' a = some o) : ∀ {d : PyData} {v : V}, Sv H v d → Sv H' v d
  | _, _, .non => .non
  | _, _, .bl b => .bl b
  | _, _, .int i => .int i
  | _, _, .str x => .str x
  | _, _, .lst h hs => .lst (s _ _ h) (SvA.same s hs)
  | _, _, .tup h hs => .tup (s _ _ h) (SvA.same s hs)
  | _, _, .dic h => .dic (s _ _ h)
theorem SvA.same {H' : Hp} (s : ∀ a o, H a = some o → H' a = some o) : ∀ {ds : List PyData} {vs : List V}, SvA H vs ds → SvA H' vs ds
  | _, _, .nil => .nil
  | _, _, .cons h hs => .cons (Sv.same s h) (SvA.same s hs)
end
theorem call_reprD (S : SysD X.K) (G : X.A.guards = some []) (hu : X.A.units + 64 < cLine) : CallR X (.builtin "repr") (fun xs H Q => ∃ a d, xs = [.ref a] ∧ Sv H (.ref a) d ∧ d.showable = true ∧ d.depth ≤ 20 ∧ d.shown.length ≤ sizeLine ∧ Q (.str d.shown) H) := by
  intro pn s σ H xs us Q I r h
  obtain ⟨a, d, rfl, sv, h1, h2, h3, q⟩ := h
  obtain ⟨u, rfl, r1⟩ := vals1 r
  obtain rfl : u = Value.ref a := r1
  obtain ⟨as, rd, ns⟩ := sv.sh S _ _ _ _ I rfl
  exact repr_of_reads' rd h1 (fun _ => ns) G (by omega) (fun _ _ e => e) (fun h' u tk hk => ⟨.str d.shown, H, I.kept (t' := tk) hk, ⟨u, rfl⟩, q⟩) h3
end
theorem deeper_guards {A : Around} {env : Env} : (A.deeper env).guards = A.guards := rfl
end Fg
set_option Elab.async false
set_option linter.all false
set_option maxRecDepth 100000
set_option maxHeartbeats 4000000
/-! A law's end where its def shows lists: no repr is under way when it is called. -/
namespace Fg
open PySem PySem.Spec PyProof.Rows L2
section
variable {P : Program} {w : World} {K : PySem.W.Frag} {mg mb : Str → Option Value} {CX : CXT} {k : Nat} {fa a : Addr} {fd : FuncData} {x : Str} {sp : Sp} {s₁ : Shared} {vs : List Value} {ns : List Int}
/-- from a heap H that tracks the script at the most -/
theorem call_from (KX : K.In s₁.heap) (hns : s₁.heap.Ns mainGlobals mg) (hb : s₁.heap.Ns builtinsNs mb) (hbb : ∀ x : Str, x ≠ "__name__" → mb x = bootBuiltins x) (hlim : s₁.heap.NoLimit) (hg : s₁.gens = #[])
    (obj : s₁.heap.get? a = some { cls := .type "list", data := .seq vs.toArray }) (hr : Room k callerA) (F : ∀ base : Heap, K.In base → base.Ns mainGlobals mg → FnG P w K mg base CX k fa fd [x] sp)
    (bind : ∀ (s : Shared) (u : Value), BindsTo s fd ⟨[u], []⟩ [(x, u)]) (noX : ∀ H e s', CX [] H s₁ (fun _ _ _ => False) e s' → False) {H : Hp} (only : Only H) (hsp : sp [.ref a] H (fun v _ => v = .bl true) fun _ _ _ => False)
    (hok : HOk P w H s₁.heap) (at_ : ∀ b, H b ≠ none → b = a) (own : H a ≠ none → K.lookup a = none) :
    codeAny (model P w) callerA (.call (.ref fa) ⟨[.ref a], []⟩) (fun r s' => r = .ok (.ret (.bool true)) ∧ OldK s₁.heap s'.heap ∧ s'.os = s₁.os ∧ AllBare s'.gens) s₁ := by
  have free : ∀ {b : Addr} {o : Obj}, s₁.heap.get? b = some o → (b = a → o ≠ { cls := .type "list", data := .seq vs.toArray }) → H b = none := by
    intro b o e ne
    cases q : H b with
    | none => rfl
    | some u =>
      have eb := at_ b (by rw [q]; exact fun z => nomatch z)
      rw [eb, obj] at e
      exact absurd (Option.some.inj e).symm (ne eb)
  have hid : ∀ {b : Addr} {o : Obj}, s₁.heap.get? b = some o → H b = none → (hidT s₁.heap H).get? b = some o := fun e n => hidT_get e n
  have nsp : ∀ {b : Addr} {m : Str → Option Value}, s₁.heap.Ns b m → (hidT s₁.heap H).Ns b m := by
    rintro b m ⟨o, es, ep, e, d, r⟩
    refine ⟨o, es, ep, hid e (free e fun _ z => ?_), d, r⟩
    rw [z] at d
    cases d
  have inB : K.In (hidT s₁.heap H) := fun b o e => hid (KX b o e) (by
    cases q : H b with
    | none => rfl
    | some u =>
      have eb := at_ b (by rw [q]; exact fun z => nomatch z)
      rw [eb] at q e
      rw [own (by rw [q]; exact fun z => nomatch z)] at e
      cases e)
  have M : Mod K mg (hidT s₁.heap H) := ⟨inB, nsp hns, ⟨mb, nsp hb, hbb⟩, hlim.imp fun _ h => ⟨nsp h.1, h.2⟩⟩
  have e0 : Env0 P w K mg (hidT s₁.heap H) callerA [] s₁ H := by
    refine ⟨rfl, M, fun b o e => of_hidT e, Nat.le_of_eq (hidT_size _ _), trivial, fun b hb => ?_, hok, .of_eq hg⟩
    exact (List.not_mem_nil hb).elim
  refine codeAny_mono ((F _ inB (nsp hns)).run callerA [] s₁ H ⟨[.ref a], []⟩ [.ref a] [.ref a] _ _ rfl hr e0 (bind s₁ (.ref a)) (.cons rfl .nil) hsp) fun res s2 out => ?_
  match res, out with
  | .error er, out => exact (noX H er s2 out).elim
  | .ok .next, out => exact out.elim
  | .ok .brk, out => exact out.elim
  | .ok .cont, out => exact out.elim
  | .ok (.ret u), out =>
    obtain ⟨v, H2, os, bare, un, hok2, ru, qv⟩ := out
    cases (show v = V.bl true from qv)
    cases ru
    refine ⟨rfl, OldK.of_keep fun b o e => ?_, os, bare⟩
    rcases only b with n | ⟨ob, xs, z⟩
    · exact un.keep b o e n (fun m => (List.not_mem_nil m).elim) (by simp)
    · obtain ⟨g1, _⟩ := hok b _ z
      obtain ⟨g2, _⟩ := hok2 b _ (un.frzs b ob _ z)
      rw [g1] at e
      rw [g2]
      exact e
theorem law_callG (KX : K.In s₁.heap) (hns : s₁.heap.Ns mainGlobals mg) (hb : s₁.heap.Ns builtinsNs mb) (hbb : ∀ x : Str, x ≠ "__name__" → mb x = bootBuiltins x) (hlim : s₁.heap.NoLimit) (hg : s₁.gens = #[])
    (obj : s₁.heap.get? a = some { cls := .type "list", data := .seq vs.toArray }) (hi : IntsAre vs ns) (hl : ns.length ≤ sizeLine) (hr : Room k callerA) (F : ∀ base : Heap, K.In base → base.Ns mainGlobals mg → FnG P w K mg base CX k fa fd [x] sp)
    (bind : ∀ (s : Shared) (u : Value), BindsTo s fd ⟨[u], []⟩ [(x, u)]) (hsp : ∀ H : Hp, Only H → SqL K H a (ns.map V.int) → sp [.ref a] H (fun v _ => v = .bl true) fun _ _ _ => False)
    (noX : ∀ H e s', CX [] H s₁ (fun _ _ _ => False) e s' → False) :
    codeAny (model P w) callerA (.call (.ref fa) ⟨[.ref a], []⟩) (fun r s' => r = .ok (.ret (.bool true)) ∧ OldK s₁.heap s'.heap ∧ s'.os = s₁.os ∧ AllBare s'.gens) s₁ := by
  have rv := vals_ints hi
  cases hk : K.lookup a with
  | some o =>
    -- the script is an object of the written part
    have e : o = { cls := .type "list", data := .seq vs.toArray } := by
      have z := KX a o hk
      rw [obj] at z
      exact (Option.some.inj z).symm
    subst e
    have sq : SqL K (fun _ => none) a (ns.map V.int) := .inr ⟨_, vs.toArray, _, hk, rfl, rfl, rfl, by rw [List.size_toArray, hi.length]; exact hl, by simpa using rv⟩
    exact call_from KX hns hb hbb hlim hg obj hr F bind noX (H := fun _ => none) (fun _ => .inl rfl) (hsp _ (fun _ => .inl rfl) sq) (fun b u z => nomatch z) (fun b z => absurd rfl z) (fun z => absurd rfl z)
  | none =>
    let H : Hp := fun b => if b = a then some (.frz { cls := .type "list", data := .seq vs.toArray } (.lst (ns.map V.int))) else none
    have ha : H a = some (.frz { cls := .type "list", data := .seq vs.toArray } (.lst (ns.map V.int))) := if_pos rfl
    have hn : ∀ {b}, b ≠ a → H b = none := fun z => if_neg z
    have only : Only H := fun b => by
      by_cases z : b = a
      · subst z
        exact .inr ⟨_, _, ha⟩
      · exact .inl (hn z)
    refine call_from KX hns hb hbb hlim hg obj hr F bind noX (H := H) only (hsp H only (.inl (.inr ⟨_, ha⟩))) (fun b u z => ?_) (fun b z => ?_) (fun _ => hk)
    · by_cases eb : b = a
      · subst eb
        cases ha.symm.trans z
        exact ⟨obj, by rw [List.length_map]; exact hl, vs, _, rv, obj⟩
      · cases (hn eb).symm.trans z
    · by_cases eb : b = a
      · exact eb
      · exact absurd (hn eb) z
end
theorem walk_ofG {l : PySem.W.OpenLaw} {n k : Nat} {q : Program} {loose : List Str} {XP : (Str → Option Value) → Heap → Prop} {YP : World → Heap → Prop} {d : DefRec} {CX : World → CXT} {x : Str}
    (hn : l.most = some n) (small : n ≤ sizeLine) (hdf : d.params.defaults = []) (hr : Room k callerA)
    (F : ∀ (w : World) (mg : Str → Option Value) (fa : Addr) (h : Heap), YP w h → h.Ns mainGlobals mg → mg d.name = some (.ref fa) → ∃ (K : PySem.W.Frag) (fd : FuncData) (sp : Sp), K.In h ∧ (∀ (s : Shared) (u : Value), BindsTo s fd ⟨[u], []⟩ [(x, u)]) ∧
        (∀ (H : Hp) (a : Addr) (ns : List Int), ns.length ≤ n → Only H → SqL K H a (ns.map V.int) → sp [.ref a] H (fun v _ => v = .bl true) fun _ _ _ => False) ∧ ∀ base : Heap, K.In base → base.Ns mainGlobals mg → FnG l.prog w K mg base (CX w) k fa fd [x] sp)
    (noX : ∀ (w : World) (H : Hp) (s : Shared) (e : Value) (s' : Shared), CX w [] H s (fun _ _ _ => False) e s' → False) : PySem.W.WalkO q loose XP YP l.row.toRowW d [] (fun f vs => PySem.call f vs) := by
  refine Att.attach_call hn hdf ?_
  intro w s₀ s₁ mg mb fa o pm cd doc a vs ns G Y ho hd hcd hmg obj hints len hg
  obtain ⟨K, fd, sp, KX, bi, hsp, hF⟩ := F w mg fa _ Y G.T.g hmg
  refine law_callG KX G.T.g G.T.b G.T.builtins G.T.nolimit hg obj hints (Nat.le_trans len small) hr hF bi ?_ (fun H e s' => noX w H s₁ e s')
  exact fun H hO hS => hsp H a ns len hO hS
end Fg
set_option Elab.async false
set_option linter.all false
set_option maxRecDepth 100000
set_option maxHeartbeats 4000000
/-! Exception classes above KeyError whose __init__ says super().__init__(a text) and stores its one argument. -/
namespace Xk
open PySem PySem.W PySem.Calls PyProof.Rows
open Xb (Nm arg2 bod2 sco2 mcall1 Done Made)
open Builtin Builtin.ObjectAttr
abbrev keTail : List Value := [.type "KeyError", .type "LookupError", .type "Exception", .type "BaseException", .type "object"]
/-- classes of one's own, then those above KeyError -/
def tailKE (l : List Value) : Bool := match l with
  | .ref _ :: r => tailKE r
  | l => l == keTail
theorem tailKE_or (l : List Value) (e : tailKE l = true) : (∃ c r, l = .ref c :: r ∧ tailKE r = true) ∨ l = keTail := by
  unfold tailKE at e
  split at e
  · exact .inl ⟨_, _, rfl, e⟩
  · exact .inr (beq_iff_eq.mp e)
theorem pass_KE (self : Value) : refuseLoop self "__setattr__" keTail = pure () := by kernel_rfl
theorem tailKE_all (self : Value) : ∀ l : List Value, tailKE l = true → refuseLoop self "__setattr__" l = pure () ∧ (∀ X : String, l.contains (.type X) = keTail.contains (.type X)) ∧ l.isEmpty = false
  | [], e => by cases e
  | a :: r, e => by
    rcases tailKE_or _ e with ⟨c, r', q, h⟩ | q
    · obtain ⟨rfl, rfl⟩ := List.cons.inj q
      obtain ⟨h1, h2, _⟩ := tailKE_all self _ h
      exact ⟨by rw [PySem.refuseLoop_ref]; exact h1, fun X => by rw [List.contains_cons, h2 X]; rfl, rfl⟩
    · rw [q]
      exact ⟨pass_KE self, fun _ => rfl, rfl⟩
theorem slot_KE : Slot "KeyError" "__init__" "KeyError.__init__" := .of (owner := "KeyError") (n := "__init__") (by rw [typeLookup_type, builtinLookup_eq_fast]; kernel_rfl) (by decide +kernel) (by decide +kernel) (by decide +kernel)
    (by first
      | exact .inl (by decide +kernel)
      | exact .inr (by decide +kernel)) (by rw [isSubtype_type]; kernel_rfl)
theorem entry_KE : entryFor table "KeyError.__init__" = some Builtin.«BaseException.__init__» := by
  refine entryFor_alias (id' := "BaseException.__init__") ?_ ?_ ?_ ?_
  · rw [fastTable_eq_tree]; kernel_rfl
  · first
    | rfl
    | decide +kernel
  · decide +kernel
  · rw [fastTable_eq_tree]; kernel_rfl
theorem kind_KE : builtinKind "KeyError.__init__" = some .slot := by kernel_rfl
theorem row_KE : Manifest.signature? "KeyError.__init__" = some ⟨.positional, "*", "KeyError", .self, [⟨"args", .varPos, false⟩]⟩ := by kernel_rfl
theorem kxs_KE : KxsFacts "KeyError" "KeyError.__init__" := by
  refine ⟨?_, ?_⟩
  · show builtinType _ = _
    rw [builtinType_eq_fast]; kernel_rfl
  · first
    | kernel_rfl
    | rfl
/-! ### the class is called: LookupError's new, then the own init -/
section
variable {prog : Program} {w : World} {A : Around} {hp : Heap} {g : Array GenState} {dr : Drawn} {tk : Nat} {os : OsState}
variable {n₁ n₂ : Str} {C nsA : Addr} {bs bm : List Value} {hdct : Bool} {sl₁ : List Str} {sb : List Value} {ab : Bool} {col : Option Bool} {dd : Option Addr} {k0 k1 k2 k3 k5 : Option Value}
abbrev Cls0 (hp : Heap) (n₁ n₂ : Str) (C nsA : Addr) (bs bm : List Value) (hdct : Bool) (sl₁ : List Str) (sb : List Value) (ab : Bool) (col : Option Bool) (dd : Option Addr) (k0 k1 k2 k3 k5 : Option Value) : Prop :=
  hp.get? C = some (excClassObj n₁ n₂ C nsA bs bm hdct sl₁ sb ab col dd k0 k1 k2 k3 k5 "LookupError.__new__")
abbrev bare (C t : Addr) : Obj := { cls := .ref C, data := .fields #[.ref t, .none, .none, .none, .bool false, .none] }
theorem has (hb : tailKE bm = true) (X : String) (b : Bool) (h : keTail.contains (.type X) = b) : (Value.ref C :: bm).contains (.type X) = b := by
  rw [List.contains_cons, (tailKE_all .none bm hb).2.1 X, h]
  cases b <;> rfl
theorem new_check (hC : Cls0 hp n₁ n₂ C nsA bs bm hdct sl₁ sb ab col dd k0 k1 k2 k3 k5) (hb : tailKE bm = true) {M : Model} {E : Value → Shared → Prop} {more : List Value} {Q : Unit → Shared → Prop} (q : Q () ⟨hp, g, dr, tk, os⟩) :
    wpAny M A (checkBuiltinCall "LookupError.__new__" ⟨.ref C :: more, []⟩) Q E ⟨hp, g, dr, tk, os⟩ := by
  have FL := _root_.PySem.F.excBase_LookupError
  have c1 : (Value.ref C :: bm).contains (.type "LookupError") = true := has hb _ _ (by decide +kernel)
  have star := FL.noStar
  simp only [checkBuiltinCall, FL.newKind, FL.newSplit, FL.newRow]
  repeat (first
    | refine wpAny_loadPart_at hC ?_
    | (refine wpAny_isSubtype_exc hC ?_; rw [c1])
    | refine wpAny_staticBase_exc hC ?_
    | refine wpAny_madeBy_exc hC ?_
    | simp only [bne_self_eq_false, Bool.false_eq_true, if_false]
    | wp_step)
  exact q
theorem new_run {R : Result → Shared → Prop} (hC : Cls0 hp n₁ n₂ C nsA bs bm hdct sl₁ sb ab col dd k0 k1 k2 k3 k5) (hb : tailKE bm = true) {more : List Value} (hz : more.length ≤ sizeLine)
    (q : R (.ok (.ret (.ref (hp.objs.size + 1)))) ⟨(hp.push (kdv_tup more)).push (bare C hp.objs.size), g, dr, tk, os⟩) :
    codeAny (model prog w) A (.builtin "LookupError.__new__" ⟨.ref C :: more, []⟩) R ⟨hp, g, dr, tk, os⟩ := by
  have FL := _root_.PySem.F.excBase_LookupError
  have ends := FL.ends
  have c1 : (Value.ref C :: bm).contains (.type "LookupError") = true := has hb _ _ (by decide +kernel)
  have c2 : (Value.ref C :: bm).contains (.type "AttributeError") = false := has hb _ _ (by decide +kernel)
  have c3 : (Value.ref C :: bm).contains (.type "NameError") = false := has hb _ _ (by decide +kernel)
  refine codeAny_builtinAt FL.entry (_root_.PySem.wpAt_bind ?_)
  show _root_.PySem.wpAt _ _ _ (stack >>= _) _ _ _
  refine _root_.PySem.wpAt_bind (_root_.PySem.wpAt_stack fun p below => _root_.PySem.wpAt_of_wpAny ?_)
  wp_walk
  refine _root_.PySem.wpAt_of_wpAny ?_
  rw [FL.owner]
  repeat (first
    | with_reducible refine wpAny_madeHere_exc FL.canon hC ?_
    | with_reducible refine wpAny_loadPart_at hC ?_
    | (with_reducible refine wpAny_isSubtype_exc hC ?_; rw [c1])
    | (with_reducible refine wpAny_isSubtype_exc hC ?_; rw [c2])
    | (with_reducible refine wpAny_isSubtype_exc hC ?_; rw [c3])
    | wp_step)
  show R _ _
  rw [Heap.size_push]
  exact q
theorem type_run {E : Value → Shared → Prop} (hC : Cls0 hp n₁ n₂ C nsA bs bm hdct sl₁ sb ab col dd k0 k1 k2 k3 k5) (hb : tailKE bm = true) {more : List Value} {own : Addr} {Q : Fin → Shared → Prop}
    (h1 : Looks (model prog w) hp (typeLookup (.ref C) "__init__") (some (.ref own))) (h2 : ∀ x, Looks (model prog w) hp (bindSpecial (.ref own) x) (.ref own, [x])) (hz : more.length ≤ sizeLine)
    (q : codeAny (model prog w) A (.call (.ref own) ⟨.ref (hp.objs.size + 1) :: more, []⟩)
      (fun r s' => match r with
        | .ok (.ret v) => v = .none ∧ Q (.done (.ret (.ref (hp.objs.size + 1)))) s'
        | .ok _ => False
        | .error e => E e s') ⟨(hp.push (kdv_tup more)).push (bare C hp.objs.size), g, dr, tk, os⟩) :
    wpAny (model prog w) A (Builtin.«type.__call__» ⟨.ref C :: more, []⟩) Q E ⟨hp, g, dr, tk, os⟩ := by
  have FL := _root_.PySem.F.excBase_LookupError
  repeat (first
    | with_reducible refine wpAny_loadPart_at hC ?_
    | with_reducible refine wpAny_madeBy_exc hC ?_
    | wp_step)
  refine codeAny_call_builtin_code (Code.quiet_builtin _ FL.quiet) (new_check hC hb (new_run hC hb hz ?_))
  show wpAny _ _ _ _ _ _
  have kp : ∀ b o, hp.get? b = some o → ((hp.push (kdv_tup more)).push (bare C hp.objs.size)).get? b = some o := fun b o e => Heap.get?_push_of_some _ (Heap.get?_push_of_some _ e)
  have gC := kp _ _ hC
  have gx : ((hp.push (kdv_tup more)).push (bare C hp.objs.size)).get? (hp.objs.size + 1) = some (bare C hp.objs.size) := by heap_get
  have cc : (Value.ref C :: bm).contains (.ref C) = true := by simp
  have j1 := h1.keeps kp
  have j2 := (h2 (.ref (hp.objs.size + 1))).keeps kp
  unfold isInstance
  repeat (first
    | with_reducible refine wpAny_loadPart_at gx ?_
    | (with_reducible refine wpAny_isSubtype_exc gC ?_; rw [cc])
    | wp_step)
  show wpAny _ _ (typeLookup (.ref C) _) _ _ _
  refine j1.at (wpAny_holding (wpAny_bind (j2.at (wpAny_bind (wpAny_call (codeAny_mono q fun r s' z => ?_))))))
  rcases r with e | (v | _ | _ | _) <;> first
    | exact z
    | exact z.elim
    | skip
  obtain ⟨rfl, z⟩ := z
  first
    | exact wpAny_pure (wpAny_pure z)
    | (wp_walk; exact z)
theorem call_run {R : Result → Shared → Prop} (hC : Cls0 hp n₁ n₂ C nsA bs bm hdct sl₁ sb ab col dd k0 k1 k2 k3 k5) (hb : tailKE bm = true) {more : List Value} {own : Addr}
    (h1 : Looks (model prog w) hp (typeLookup (.ref C) "__init__") (some (.ref own))) (h2 : ∀ x, Looks (model prog w) hp (bindSpecial (.ref own) x) (.ref own, [x])) (hz : more.length ≤ sizeLine)
    (q : codeAny (model prog w) (A.under (.builtin "type.__call__" ⟨.ref C :: more, []⟩)) (.call (.ref own) ⟨.ref (hp.objs.size + 1) :: more, []⟩) (InitBack (hp.objs.size + 1) R) ⟨(hp.push (kdv_tup more)).push (bare C hp.objs.size), g, dr, tk, os⟩) :
    codeAny (model prog w) A (.call (.ref C) ⟨more, []⟩) R ⟨hp, g, dr, tk, os⟩ := by
  have a1 := tc_lookup
  have a2 := tc_bind (.ref C)
  have ty : (⟨hp, g, dr, tk, os⟩ : Shared).TypeIs (.ref C) "type" := ⟨_, hC, rfl⟩
  refine codeAny_of_tree ?_
  show wpAny _ _ (callAny (.ref C) _) _ _ _
  repeat (any_goals (first
    | assumption
    | with_reducible refine wpAny_loadPart_at hC ?_
    | wp_step))
  refine ⟨rfl, codeAny_call_builtin_at (Code.quiet_builtin _ (by decide +kernel)) entry_typeCall (wpAny_check_type_call_sub hC (type_run hC hb h1 h2 hz ?_))⟩
  refine codeAny_mono q fun r s' z => ?_
  rcases r with e | (v | _ | _ | _) <;> exact z
/-- self.name = v, no dict yet -/
theorem set_new {R : Result → Shared → Prop} {K : Frag} {name : Str} {tn : Tok} {v : Value} {x : Addr} {fv : Array Value} {cd : ClassData} (X : K.In hp) (hx : hp.get? x = some { cls := .ref C, data := .fields fv }) (hcd : clsIn K C = some cd) (hm : tailKE cd.mro = true)
    (hh : cd.hasDict = true) (ha : findIn K (.ref C) name = some none)
    (q : ∀ h' tk' dx, (∀ b o, b ≠ x → hp.get? b = some o → h'.get? b = some o) → hp.objs.size ≤ dx → dx ≠ x → h'.get? x = some { cls := .ref C, dict := some dx, data := .fields fv } → h'.Ns1 dx (fun y => if y = name then some v else none) → R (.ok (.ret .none)) ⟨h', g, dr, tk', os⟩) :
    codeAny (model prog w) A (.call (.builtin "object.__setattr__") ⟨[.ref x, .str name tn, v], []⟩) R ⟨hp, g, dr, tk, os⟩ := by
  obtain ⟨pass, cont, ne⟩ := tailKE_all (.ref x) _ hm
  have J : InstAt hp x { cls := .ref C, data := .fields fv } C none := ⟨hx, rfl, rfl, trivial⟩
  have SO := _root_.PySem.F.store_object
  have c0 : cd.mro.contains (.type "object") = true := (cont "object").trans (by decide +kernel)
  have nx : x ≠ hp.objs.size := Nat.ne_of_lt (Heap.lt_size hx)
  have io : Looks (model prog w) hp (isInstance (.ref x) (.type "object")) true := by
    refine J.type.andThen (looks_mroIn X ?_)
    unfold mroIn
    rw [hcd, Option.bind_some, if_neg (by rw [ne]; decide), c0]
  refine codeAny_call_builtin SO.slot.plain SO.entry (@check_slot (model prog w) _ _ ⟨hp, g, dr, tk, os⟩ "object.__setattr__" "object" "__setattr__" (.ref x) [.str name tn, v] [] _ SO.kind SO.split io (SO.args (.ref x) (.str name tn) v) ?_)
  have m1 : Looks (model prog w) hp (mroOf (.ref C)) cd.mro := (looks_clsIn X hcd).andThen .now
  have m2 : Looks (model prog w) hp (storeTaker? none) none := .now
  have m3 : Looks (model prog w) hp (classData C) cd := looks_clsIn X hcd
  rw [osa_eq, refuse_eq]
  refine wpAny_bind (wpAny_bind (J.type.at (wpAny_bind (m1.at ?_))))
  rw [pass]
  refine wpAny_pure (wpAny_bind (J.type.at (wpAny_bind ((looks_findIn X ha).at (wpAny_bind (m2.at ?_))))))
  show wpAny _ _ (storeInOwnDict (.ref x) (.ref C) (.str name tn) name v false) _ _ _
  obtain ⟨y1, y2, y3, y4, y5, y6, y7, y8, y9, y10, y11⟩ := cd
  dsimp only at hh
  subst hh
  unfold storeInOwnDict ownDictForStores
  repeat (first
    | with_reducible refine HandSPX.store_in_new ?_ ?_
    | with_reducible refine wpAny_loadPart_at hx ?_
    | with_reducible refine m3.at ?_
    | wp_step)
  · have fresh := Heap.get?_push_at (h := hp) (o := { cls := .type "dict", data := .dict #[] }) rfl rfl
    exact ⟨_, #[], _, (Heap.get?_update_ne _ _ _ _ nx.symm).trans fresh, rfl, fun e he => absurd he (by simp), fun _ => rfl⟩
  · intro h' tk' hn' hs
    have px : (hp.push { cls := .type "dict", data := .dict #[] }).get? x = some { cls := .ref C, data := .fields fv } := Heap.get?_push_of_some _ hx
    refine q h' tk' hp.objs.size (fun b o hb ho => ?_) (Nat.le_refl _) nx.symm ((hs.2 x nx).trans (Heap.get?_update_self _ px rfl)) hn'
    refine (hs.2 b (Nat.ne_of_lt (Heap.lt_size ho))).trans ?_
    exact (Heap.get?_update_ne _ _ _ _ hb).trans (Heap.get?_push_of_some _ ho)
end
/-- what the written part says of the class at C and of its __init__ at fI -/
structure Txt (file : Str) (K : Frag) (q F txt : Str) (C fI : Addr) : Prop where
  nm : Nm F
  cls : ∃ nm q' N bs bm sn sub ab col dd k0 k1 k2 k3 k5, K.lookup C = some (excClassObj nm q' C N bs bm true sn sub ab col dd k0 k1 k2 k3 k5 "LookupError.__new__") ∧ tailKE bm = true
  sa : findIn K (.ref C) "__setattr__" = some (some (.builtin "object.__setattr__"))
  ga : findIn K (.ref C) "__getattribute__" = some (some (.builtin "BaseException.__getattribute__"))
  gg : findIn K (.ref C) "__getattr__" = some none
  noF : findIn K (.ref C) F = some none
  iC : findIn K (.ref C) "__init__" = some (some (.ref fI))
  tC : typeIn K (.ref fI) = some (.type "function")
  kC : keepIn K (.ref C) = true
  exC : subIn K (.ref C) (.type "BaseException") = some true
  keC : subIn K (.ref C) (.type "KeyError") = some true
  tyC : typeIn K (.ref C) = some (.type "type")
  hdC : hasDictIn K C = true
  te : exmOne K (.ref C) (.ref C) = some true
  sup : ks_superIn K C C "__init__" = some (some (.builtin "KeyError.__init__"))
  slf : mroIn K C (.ref C) = some true
  gs : nsIn K mainGlobals "super" = some none
  tp : nsIn K cStatics "thirdparty.any" = some none
  fn : ∃ (oc : Value) (od : Option Addr) (kV doc pm : Value) (an : Option Addr) (cda : Addr) (ct : Value) (osl : Array (Option Value)) (cc : Addr) (p1 p2 : Pos) (kk : Nat) (q1 q2 q3 q4 q5 q6 q7 q8 q9 q10 : Pos),
    K.lookup fI = some ⟨oc, od, .func (ksFn "__init__" q (arg2 F p1 p2) (bod2 F txt kk q1 q2 q3 q4 q5 q6 q7 q8 q9 q10) (sco2 F) .none kV doc pm an (.ref cda) ct cc), osl⟩ ∧ codeIn K (.ref cda) q = true ∧ (q3.endLine == q5.line) = true ∧
    (∃ ccl cdd vs ccs tf, K.lookup cda = some ⟨ccl, cdd, .fields vs, ccs⟩ ∧ vs[2]? = some (.str file tf)) ∧ (∃ cl cld csl, K.lookup cc = some ⟨cl, cld, .cell (some (.ref C)), csl⟩)
section
variable {M : Model} {A : Around} {E : Value → Shared → Prop} {hp : Heap} {g : Array GenState} {dr : Drawn} {tk : Nat} {os : OsState}
variable {n₁ n₂ : Str} {C nsA : Addr} {bs bm : List Value} {hdct : Bool} {sl₁ : List Str} {sb : List Value} {ab : Bool} {col : Option Bool} {dd : Option Addr} {k0 k1 k2 k3 k5 : Option Value}
theorem init_check {e : Addr} {oe : Obj} {more : List Value} {Q : Unit → Shared → Prop} (hC : Cls0 hp n₁ n₂ C nsA bs bm hdct sl₁ sb ab col dd k0 k1 k2 k3 k5) (he : hp.get? e = some oe) (hc : oe.cls = .ref C) (q : Q () ⟨hp, g, dr, tk, os⟩) :
    wpAny M A (checkBoundCall "KeyError.__init__" ⟨.ref e :: more, []⟩) Q E ⟨hp, g, dr, tk, os⟩ := by
  have star : ("KeyError" != "*") = true := by decide +kernel
  simp only [checkBoundCall, kind_KE, row_KE]
  repeat (first
    | (with_reducible refine wpAny_loadPart_at he ?_; rw [hc])
    | with_reducible refine wpAny_loadPart_at hC ?_
    | wp_step)
  refine wpAny_onRaise ?_
  have z : ∀ (a b : String) (n : Nat), Bind.check ⟨.positional, "*", "KeyError", .self, [⟨"args", .varPos, false⟩]⟩ a b n (List.map (fun x => x.fst) ({ pos := Value.ref e :: more } : Args).kw) = pure () := fun _ _ _ => check_star_args _ _ _ _ _ _
  rw [z]
  exact wpAny_pure q
end
section
variable {prog : Program} {w : World} {A : Around} {E : Value → Shared → Prop} {h : Heap} {g : Array GenState} {d : Drawn} {t : Nat} {os : OsState}
variable {nm q : Str} {C N : Addr} {bs bm : List Value} {hdct : Bool} {sn : List Str} {sub : List Value} {ab : Bool} {col : Option Bool} {dd : Option Addr} {k0 k1 k2 k3 k5 : Option Value}
/-- the bound built-in __init__ is called -/
theorem mw_call {u e t0 : Addr} {rest : List Value} {Q : Value → Shared → Prop}
    (hC : h.get? C = some (excClassObj nm q C N bs bm hdct sn sub ab col dd k0 k1 k2 k3 k5 "LookupError.__new__")) (he : h.get? e = some (HandSPX.excO C t0))
    (hu : h.get? u = some (kxs_mw "KeyError.__init__" e)) (hz : rest.length ≤ sizeLine)
    (hq : ∀ h' t1, (∀ b o, b ≠ e → h.get? b = some o → h'.get? b = some o) → h'.get? e = some (HandSPX.excO C t1) → Q .none ⟨h', g, d, t, os⟩) :
    wpAny (model prog w) A (call (.ref u) rest) Q E ⟨h, g, d, t, os⟩ := by
  have c1 : (Value.type "method-wrapper" == Value.type "method" || Value.type "method-wrapper" == Value.type "builtin_function_or_method" || Value.type "method-wrapper" == Value.type "method-wrapper") = true := by decide
  refine wpAny_call (codeAny_of_tree ?_)
  show wpAny _ A.in1 (callAny (.ref u) ⟨rest, []⟩) _ _ _
  simp only [callAny]
  refine wpAny_bind (wpAny_load hu ?_)
  simp only [kxs_mw, c1, if_true]
  refine KFB.if_so (by decide) ?_
  refine wpAny_bind (init_check hC he rfl ?_)
  refine wpAny_bind (wpAny_pure (wpAny_pure ?_))
  refine ⟨plainId_quiet slot_KE.plain _, codeAny_builtin entry_KE ?_⟩
  refine exc_init_tree (cls := .ref C) (t0 := t0) (dv := none) (c2 := .none) (c3 := .none) (b4 := .bool false) he hz fun h' k e' _ => ?_
  exact hq h' _ k e'
end
section
variable {prog : Program} {w : World} {A : Around} {E : Value → Shared → Prop} {R : Result → Shared → Prop} {s : Shared} {K : Frag} {q F txt : Str} {C fI : Addr} {mg mb : Str → Option Value}
theorem initX (T : Txt prog.main.file K q F txt C fI) {x t0 : Addr} {v : Value} (X : K.In s.heap) (hlim : s.heap.NoLimit) (hg : s.heap.Ns mainGlobals mg) (hb : s.heap.Ns builtinsNs mb) (hbs : mb "super" = some (.type "super"))
    (htop : (prog.main.scope.names.lookup ("super" : Str)).isSome = false) (hx : s.heap.get? x = some (HandSPX.excO C t0)) (hnx : K.lookup x = none) (hroom : A.depth < recursionLimit)
    (hq : ∀ h' tk dx t1, Done s.heap h' x C dx t1 F v → R (.ok (.ret .none)) { s with heap := h', toks := tk }) :
    codeAny (model prog w) A (.call (.ref fI) ⟨[.ref x, v], []⟩) R s := by
  obtain ⟨oc, od, kV, doc, pm, an, cda, ct, osl, cc, p1, p2, kk, q1, q2, q3, q4, q5, q6, q7, q8, q9, q10, ho, hcd, hpl, ⟨ccl, cdd, vs, ccs, tf, hcode, hvs⟩, cl, cld, csl, hcell⟩ := T.fn
  obtain ⟨nm, q', N, bs, bm, sn, sub, ab, col, dd, k0, k1, k2, k3, k5, hC, hbm⟩ := T.cls
  have hcl : clsIn K C = some { name := nm, bases := bs, mro := .ref C :: bm, ns := N, qualname := q', hasDict := true, slotNames := sn, subclasses := sub, abstract := ab, collection := col, hasDel := false } := by unfold clsIn; rw [hC] <;> rfl
  refine ks_codeAny_call_defAt (fd := ksFn "__init__" q (arg2 F p1 p2) (bod2 F txt kk q1 q2 q3 q4 q5 q6 q7 q8 q9 q10) (sco2 F) .none kV doc pm an (.ref cda) ct cc) (binds := [("self", .ref x), (F, v)]) hroom (X _ _ ho) rfl hlim (codeRec_of X hcd) rfl
    (BindsTo.of_eq (T.nm.b _ _ _ _ _ _ _ _ _ _ _ _ _)) (fun y hy => ?_) (fun y hy => ?_) (fun h₁ hns hk => ?_)
  · simp only [List.mem_cons, List.not_mem_nil, or_false] at hy
    rcases hy with rfl | rfl | rfl | rfl <;> (intro z; cases z)
  · simp only [List.mem_cons, List.not_mem_nil, or_false] at hy
    rcases hy with rfl | rfl
    · exact T.nm.l
    · exact T.nm.f
  have X1 : K.In h₁ := X.keeps hk
  have g1 : h₁.Ns mainGlobals mg := hg.keeps hk
  have b1 : h₁.Ns builtinsNs mb := hb.keeps hk
  have x1 := hk _ _ hx
  have vS : ([(PySem.Str.ofString "self", Value.ref x), (F, v)] : List (Str × Value)).reverse.lookup ("self" : Str) = some (.ref x) := by
    show List.lookup ("self" : Str) [(F, v), (("self" : Str), Value.ref x)] = _
    simp [List.lookup, T.nm.en]
  have vF : ([(PySem.Str.ofString "self", Value.ref x), (F, v)] : List (Str × Value)).reverse.lookup F = some v := by
    show List.lookup F [(F, v), (("self" : Str), Value.ref x)] = _
    simp [List.lookup]
  show _root_.PySem.wpAt _ _ _ (execs (_ :: _) _) _ _ _
  refine ks_wpAt_execs_cons (ks_wpAt_Expr_any (ks_wpAt_MethodCall ?_ (mcall1 hpl)))
  obtain ⟨oD, hD1, hD2⟩ : ∃ oD, h₁.get? C = some oD ∧ oD.data = .cls { name := nm, bases := bs, mro := .ref C :: bm, ns := N, qualname := q', hasDict := true, slotNames := sn, subclasses := sub, abstract := ab, collection := col, hasDel := false } := ⟨_, X1 _ _ hC, rfl⟩
  have I1 : InstAt h₁ x (HandSPX.excO C t0) C none := ⟨x1, rfl, rfl, trivial⟩
  refine ks_wpAt_super_base T.nm.s T.nm.c (by decide) rfl (X1 _ _ ho) rfl rfl rfl (X1 _ _ hcode) rfl hvs (beq_self_eq_true _) htop ?_
  refine ks_loadName_global rfl T.nm.s (loadGlobal_builtin g1 (mg_none_of X1 g1 T.gs) b1 hbs ⟨rfl, ?_⟩)
  refine wpAny_loadName_free rfl T.nm.c (by rfl) ⟨_, X1 _ _ hcell, rfl⟩ ?_
  refine wpAny_loadName_local rfl T.nm.l hns vS ?_
  refine ks_wpAny_isType_cls hD1 hD2 ⟨rfl, ?_⟩
  refine ks_wpAny_call_super hD1 hD2 x1 rfl (fun c e => by cases e) (looks_mroIn X1 T.slf) (fun h₂ e2 k2' => ?_)
  have X2 : K.In h₂ := X1.keeps k2'
  have x2 := k2' _ _ x1
  have n2 : h₂.Ns s.heap.objs.size (fun y => ([(PySem.Str.ofString "self", Value.ref x), (F, v)] : List (Str × Value)).reverse.lookup y) := hns.keeps k2'
  have I2 : InstAt h₂ x (HandSPX.excO C t0) C none := ⟨x2, rfl, rfl, trivial⟩
  have hxC : x ≠ C := ks_ne X2 I2 hcl
  have hsup := T.sup
  unfold ks_superIn at hsup
  rw [hcl] at hsup
  have hI : Looks (model prog w) h₂ (isInstance (.ref x) (.type "KeyError")) true := I2.type.andThen (looks_subIn X2 T.keC)
  show wpAny _ _ (getMethod (.ref h₁.objs.size) "__init__" _) _ _ _
  refine kxs_getMethod kxs_KE e2 (looks_opaque X2 T.tp) (l₀ := .ref C :: bm) (fun A Q E s k z => wpAny_bind ((looks_clsIn X2 hcl) A _ E s k (wpAny_pure z))) rfl X2 hsup hI hxC (by decide) ?_
  have k3' : ∀ b o, h₂.get? b = some o → (h₂.push (kxs_mw "KeyError.__init__" x)).get? b = some o := fun b o e => Heap.get?_push_of_some _ e
  have u3 : (h₂.push (kxs_mw "KeyError.__init__" x)).get? h₂.objs.size = some (kxs_mw "KeyError.__init__" x) := Heap.get?_push_size _ rfl
  refine kxs_callWith (i := "KeyError.__init__") (x := x) rfl (evalArgs_plain (spliced_cons (Constant_str (k := kk) (pos := q4) (spliced_nil ⟨u3, ?_⟩))))
  refine mw_call (k3' _ _ (X2 _ _ hC)) (k3' _ _ x2) u3 (by show 1 ≤ sizeLine; rw [sizeLine_eq]; omega) fun h₄ t1 k4 x4 => ?_
  have X4 : K.In h₄ := fun a o e => k4 a o (fun z => by rw [z, hnx] at e; cases e) (k3' _ _ (X2 _ _ e))
  have hxL : s.heap.objs.size ≠ x := Nat.ne_of_gt (Heap.lt_size hx)
  have n4 : h₄.Ns s.heap.objs.size (fun y => ([(PySem.Str.ofString "self", Value.ref x), (F, v)] : List (Str × Value)).reverse.lookup y) := by
    obtain ⟨o, es, ep, e, r⟩ := n2
    exact ⟨o, es, ep, k4 _ _ hxL (k3' _ _ e), r⟩
  show _root_.PySem.wpAt _ _ _ (execs (_ :: _) _) _ _ _
  refine wpAt_of_wpAny (wpAny_execs_cons (plainObj_wpAny_Assign_Attribute ?_))
  refine wpAny_Name (wpAny_loadName_local rfl T.nm.f n4 vF ?_) T.nm.db
  refine wpAny_Name (wpAny_loadName_local rfl T.nm.l n4 vS ?_) (by decide)
  refine set_plain X4 (ox := HandSPX.excO C t1) (od := none) ⟨x4, rfl, rfl, trivial⟩ T.sa ?_
  refine set_new X4 x4 hcl (show tailKE (.ref C :: bm) = true from hbm) rfl T.noF (fun h₅ tk₅ dx k₅ dn dne hx₅ hn₅ => ?_)
  show wpAny _ _ (execs _ _) _ _ _
  have z4 : ∀ b o, b ≠ x → s.heap.get? b = some o → h₄.get? b = some o := fun b o hb e => k4 b o hb (k3' _ _ (k2' _ _ (hk _ _ e)))
  refine wpAny_execs_nil (hq h₅ tk₅ dx t1 ⟨fun b o hb e => k₅ b o hb (z4 b o hb e), hx₅, ?_, dne, hn₅⟩)
  obtain ⟨o4, es4, ep4, e4, _⟩ := n4
  exact Nat.le_of_lt (Nat.lt_of_lt_of_le (Heap.lt_size e4) dn)

theorem madeX (T : Txt prog.main.file K q F txt C fI) {v : Value} (X : K.In s.heap) (hlim : s.heap.NoLimit) (hg : s.heap.Ns mainGlobals mg) (hb : s.heap.Ns builtinsNs mb) (hbs : mb "super" = some (.type "super"))
    (htop : (prog.main.scope.names.lookup ("super" : Str)).isSome = false) (hroom : A.depth + 1 < recursionLimit)
    (hq : ∀ h' tk e d, Made s.heap h' e C d F v → R (.ok (.ret (.ref e))) { s with heap := h', toks := tk }) :
    codeAny (model prog w) A (.call (.ref C) ⟨[v], []⟩) R s := by
  obtain ⟨nm, q', N, bs, bm, sn, sub, ab, col, dd, k0, k1, k2, k3, k5, hC, hbm⟩ := T.cls
  obtain ⟨hp, g, dr, tk, os⟩ := s
  have k : ∀ b o, hp.get? b = some o → ((hp.push (kdv_tup [v])).push (HandSPX.excO C hp.objs.size)).get? b = some o := fun b o e => Heap.get?_push_of_some _ (Heap.get?_push_of_some _ e)
  have hget : ((hp.push (kdv_tup [v])).push (HandSPX.excO C hp.objs.size)).get? (hp.objs.size + 1) = some (HandSPX.excO C hp.objs.size) := by heap_get
  have hnx : K.lookup (hp.objs.size + 1) = none := by
    cases e : K.lookup (hp.objs.size + 1) with
    | none => rfl
    | some o =>
      have z : hp.get? (hp.objs.size + 1) = some o := X _ _ e
      exact absurd (Nat.lt_of_succ_lt (Heap.lt_size z)) (Nat.lt_irrefl _)
  refine call_run (X _ _ hC) hbm (looks_findIn X T.iC) (fun self => bind_fn X self T.tC) (by show 1 ≤ sizeLine; rw [sizeLine_eq]; omega) ?_
  refine initX (s := ⟨(hp.push (kdv_tup [v])).push (HandSPX.excO C hp.objs.size), g, dr, tk, os⟩) T (X.keeps k) (hlim.keeps k) (hg.keeps k) (hb.keeps k) hbs htop hget hnx ?_ fun h' tk' dx t1 D => ?_
  · show A.depth + 1 < recursionLimit
    exact hroom
  · have old : ∀ b o, hp.get? b = some o → h'.get? b = some o := fun b o e => D.keep b o (Nat.ne_of_lt (Nat.lt_succ_of_lt (Heap.lt_size e))) (k b o e)
    have z : hp.objs.size + 1 + 1 ≤ dx := by
      have q := D.dbig
      simp only [Heap.size_push] at q
      exact q
    exact ⟨rfl, hq h' tk' (hp.objs.size + 1) dx ⟨old, Nat.le_succ _, ⟨_, D.obj⟩, Nat.le_trans (Nat.le_trans (Nat.le_succ _) (Nat.le_succ _)) z, D.dne, D.ns⟩⟩
end

end Xk
namespace Xk
open PySem PySem.Spec PyProof.Rows L2
open Xb (boot_super relO_one tMkX tRaiseX tByX Made)
section
variable {X : Cx} {C fI : Addr} {q F txt : Str}
theorem pmk_x {x : Str} {a : Expr} {ta : TA} {p pos : Pos} {k : Nat} (T : Txt X.prog.main.file X.K q F txt C fI) (hm : X.mg x = some (.ref C)) (htop : (X.prog.main.scope.names.lookup ("super" : Str)).isSome = false) (hr : Room k X.A) (ha : PA X [a] ta) (hg : Gl X x := by rfl)
    (hdb : (x == ("__debug__" : Str)) = false := by decide)
    (he : starEach (a :: []) X.env = (false, eval a X.env) :: starEach [] X.env := by rfl) (hpl : (backTo pos (starEach [] X.env)).any (·.1) = false := by rfl) :
    PMk X (.Call (.Name x p) [a] [] pos) (tMkX C F ta) := by
  intro pins s σ H Q I h
  refine wpAny_Call_Name_kw (ld_glob I hg hm ?_ hdb)
  refine PySem.W.callWith_K (h₀ := X.base) I.ok.mod.kin T.kC (thn (ha.run pos pins s σ H _ I h) fun us s1 hh => ?_) he hpl
  obtain ⟨vs, H1, I1, r1, v, ev, q1⟩ := hh
  subst ev
  refine ⟨I1.kIn, ?_⟩
  cases r1 with
  | cons rv rn =>
    rename_i v' us'
    cases rn
    show wpAny _ _ (call (.ref C) [v']) _ _ _
    have hlim := I1.nolimit
    have M := I1.mod
    have hns : s1.heap.Ns mainGlobals X.mg := M.glob.keeps I1.bk
    obtain ⟨mb, hb, hbb⟩ := M.blt
    have hb1 : s1.heap.Ns builtinsNs mb := hb.keeps I1.bk
    have hbs : mb "super" = some (.type "super") := (hbb _ (by decide)).trans boot_super
    obtain ⟨hp, g, dr, tk, os⟩ := s1
    refine wpAny_call (madeX T I1.kIn hlim hns hb1 hbs htop (by have := hr.dp; omega) fun h' tk' e d M => ?_)
    show MkP X pins σ Q (.ref e) ⟨h', g, dr, tk', os⟩
    obtain ⟨t1, hoe⟩ := M.obj
    obtain ⟨G', g1, g2⟩ := restrict h' fun b => decide (b ≠ e)
    have gk : ∀ b, b ≠ e → G'.get? b = h'.get? b := fun b hb => g1 b (decide_eq_true hb)
    have ge : G'.get? e = none := g2 e (by simp)
    have old : ∀ b o, hp.get? b = some o → G'.get? b = some o := fun b o q => (gk b (Nat.ne_of_lt (Nat.lt_of_lt_of_le (Heap.lt_size q) M.new))).trans (M.keep b o q)
    have ob : ObjOk X.prog X.w (upd H1 d (.xd [(F, v)])) G' d (.xd [(F, v)]) :=
      ⟨_, M.ns.at (fun o q => (gk d M.dne).trans q), fun f => relO_one rv f⟩
    have J : Inv X pins σ (upd H1 d (.xd [(F, v)])) ⟨G', g, dr, tk', os⟩ := I1.laid (t' := tk') old M.dbig ob
    refine ⟨e, _, _, ⟨G', g, dr, tk', os⟩, _, .ref C, some d, rfl, J, fun b o q => ?_, ge, hoe, ⟨rfl, rfl⟩, rfl, rfl, ?_, rfl, I1.bare, raises_own T.exC T.tyC, q1 d (I1.hok.fresh M.dbig)⟩
    · by_cases hb : b = e
      · have q' : G'.get? b = some o := q
        rw [hb, ge] at q'; cases q'
      · exact (gk b hb).symm.trans q
    · rw [upd_ne (Ne.symm M.dne)]
      exact I1.hok.fresh M.new
theorem ps_raiseX {x : Str} {a : Expr} {ta : TA} {W : WX} {p pos pos2 : Pos} {k : Nat} (hc : X.calm = true) (T : Txt X.prog.main.file X.K q F txt C fI) (hm : X.mg x = some (.ref C)) (htop : (X.prog.main.scope.names.lookup ("super" : Str)).isSome = false) (hr : Room k X.A) (tk : Takes X W) (ha : PA X [a] ta) (hg : Gl X x := by rfl)
    (hdb : (x == ("__debug__" : Str)) = false := by decide)
    (he : starEach (a :: []) X.env = (false, eval a X.env) :: starEach [] X.env := by rfl) (hpl : (backTo pos (starEach [] X.env)).any (·.1) = false := by rfl) :
    PS X (.Raise (some (.Call (.Name x p) [a] [] pos)) none pos2) (tRaiseX C F W ta) := ps_raise hc tk (pmk_x T hm htop hr ha hg hdb he hpl)
theorem pe_byX {a : Addr} {oe : Obj} {cls : Value} {d : Option Addr} {pn : List (Addr × Obj)} {e : Expr} {te : TE} {pos : Pos} (T : Txt X.prog.main.file X.K q F txt C fI) (hz : Zc cls d oe) (hf : ∃ vs, oe.data = .fields vs) (he : PE (X.suite a ((a, oe) :: pn)) e te)
    (hb : attributeBase e F X.env (eval e X.env) = eval e X.env := by rfl) :
    PE (X.suite a ((a, oe) :: pn)) (.Attribute e F pos) (tByX C F a cls d te) := by
  refine ⟨fun pins s σ H Q I h => ?_⟩
  refine attr_of hb (thn (he.run pins s σ H _ I h) fun u s1 hh => ?_)
  obtain ⟨x, H1, I1, rx, ex, ec, dd, v, ed, ea, q⟩ := hh
  subst ex
  obtain rfl : u = Value.ref a := rx
  subst ec
  subst ed
  obtain ⟨ha, _⟩ := I1.pin (a, oe) (List.mem_append_left _ List.mem_cons_self)
  obtain ⟨vs, hd⟩ := hf
  have hx : ObjOk X.prog X.w H1 s1.heap dd (.xd [(F, v)]) := I1.hok dd _ ea
  obtain ⟨mA, hns, hr⟩ := hx
  obtain ⟨od, ho, hl⟩ := lookIn_ns hns
  have l : List.lookup F [(F, v)] = some v := by simp [List.lookup]
  obtain ⟨u, hu, ru⟩ := RelO.some_of (v := v) (o := mA F) (by rw [← l]; exact hr F)
  have J : PySem.W.InstAt s1.heap a oe C (some od) := ⟨ha, hz.1, by unfold PySem.W.notCls; rw [hd] <;> rfl, by rw [hz.2]; exact ho⟩
  exact HandSPX.exc_get I1.kIn J T.ga T.gg T.exC (PySem.W.findObj_own T.hdC T.noF rfl (by rw [hl, hu])) (handed_of ru) ⟨v, H1, I1.tok _, ru, q⟩
end
end Xk
set_option Elab.async false
set_option linter.all false
set_option maxRecDepth 100000
set_option maxHeartbeats 4000000
namespace Hd
open PySem PySem.Spec PyProof.Rows L2
def clsKE (K : PySem.W.Frag) (C : Addr) : Bool := match K.lookup C with
  | some ⟨.type t, _, .cls cd, sl⟩ => (match cd.mro, sl.toList with
    | .ref C' :: bm, [_, _, _, _, some (.builtin n), _] => decide (t = "type") && (decide (C' = C) && (decide (n = "LookupError.__new__") && (!cd.hasDel && (cd.hasDict && Xk.tailKE bm))))
    | _, _ => false)
  | _ => false
theorem clsKE_ok {K : PySem.W.Frag} {C : Addr} (h : clsKE K C = true) : ∃ nm q' N bs bm sn sub ab col dd k0 k1 k2 k3 k5, K.lookup C = some (excClassObj nm q' C N bs bm true sn sub ab col dd k0 k1 k2 k3 k5 "LookupError.__new__") ∧ Xk.tailKE bm = true := by
  unfold clsKE at h
  split at h
  · rename_i t dd cd sl ho
    split at h
    · rename_i C' bm k0 k1 k2 k3 n k5 hm hs
      obtain ⟨h0, h⟩ := He.ba h
      obtain ⟨h1, h⟩ := He.ba h
      obtain ⟨h2, h⟩ := He.ba h
      obtain ⟨h3, h⟩ := He.ba h
      obtain ⟨h4, h5⟩ := He.ba h
      have h0 := of_decide_eq_true h0
      have h1 := of_decide_eq_true h1
      have h2 := of_decide_eq_true h2
      subst h0 h1 h2
      obtain ⟨nm, bs, mro, ns, qn, hd, sn, sub, ab, col, del⟩ := cd
      dsimp only at hm h3 h4
      subst hm h4
      have h3 : del = false := by simpa using h3
      subst h3
      have hsl : sl = #[k0, k1, k2, k3, some (.builtin "LookupError.__new__"), k5] := by
        obtain ⟨l⟩ := sl
        simp only at hs
        rw [hs]
      subst hsl
      exact ⟨_, _, _, _, _, _, _, _, _, _, _, _, _, _, _, ho, h5⟩
    · cases h
  · cases h
/-- the further facts of the class x whose one field is F -/
def excKB (file : Str) (K : PySem.W.Frag) (x F : Str) : Bool :=
  let C := He.ga K x
  let fI := He.ma K C "__init__"
  allB [He.eqO (PySem.W.nsIn K mainGlobals x) (some (some (.ref C))), clsKE K C, He.eqO (PySem.W.findIn K (.ref C) "__setattr__") (some (some (.builtin "object.__setattr__"))),
    He.eqO (PySem.W.findIn K (.ref C) "__getattribute__") (some (some (.builtin "BaseException.__getattribute__"))), He.eqO (PySem.W.findIn K (.ref C) "__getattr__") (some none), He.eqO (PySem.W.findIn K (.ref C) F) (some none),
    He.eqO (PySem.W.findIn K (.ref C) "__init__") (some (some (.ref fI))), decide (PySem.W.typeIn K (.ref fI) = some (.type "function")), PySem.W.keepIn K (.ref C), decide (PySem.W.subIn K (.ref C) (.type "BaseException") = some true),
    decide (PySem.W.subIn K (.ref C) (.type "KeyError") = some true), decide (PySem.W.typeIn K (.ref C) = some (.type "type")), PySem.W.hasDictIn K C, decide (PySem.W.exmOne K (.ref C) (.ref C) = some true),
    He.eqO (PySem.W.ks_superIn K C C "__init__") (some (some (.builtin "KeyError.__init__"))), decide (PySem.W.mroIn K C (.ref C) = some true), He.eqO (PySem.W.nsIn K mainGlobals "super") (some none), He.eqO (PySem.W.nsIn K cStatics "thirdparty.any") (some none),
    (match K.lookup fI with
      | some ⟨_, _, .func fd, _⟩ => (match fd.code, fd.closure with
        | .ref cda, [(_, cc)] => (match K.lookup cda with
          | some ⟨_, _, .fields vs, _⟩ => fileB file vs
          | _ => false) && (match K.lookup cc with
          | some ⟨_, _, .cell (some (.ref D)), _⟩ => decide (D = C)
          | _ => false)
        | _, _ => false)
      | _ => false)]
theorem exc_txtK {file : Str} {K : PySem.W.Frag} {x q F txt : Str} {st : Stmt} {fd : FuncData} (nm : Xb.Nm F) (g : Got K (excD x q st) fd) (c : excKB file K x F = true)
    (hst : ∃ (p1 p2 : Pos) (kk : Nat) (q1 q2 q3 q4 q5 q6 q7 q8 q9 q10 : Pos), defArgs st = Xb.arg2 F p1 p2 ∧ defBody st = Xb.bod2 F txt kk q1 q2 q3 q4 q5 q6 q7 q8 q9 q10 ∧ defScope st = Xb.sco2 F ∧ (q3.endLine == q5.line) = true) :
    Xk.Txt file K q F txt (He.ga K x) (He.ma K (He.ga K x) "__init__") := by
  obtain ⟨oc, od, dV, kV, doc, pm, an, cdv, ct, osl, cl, h1, h2, h3, h4, h5⟩ := g.ex
  obtain ⟨p1, p2, kk, q1, q2, q3, q4, q5, q6, q7, q8, q9, q10, s1, s2, s3, s4⟩ := hst
  have hdV : dV = .none := by
    rcases h4 with ⟨_, e⟩ | ⟨e, _⟩
    · exact e
    · exact absurd rfl e
  have last := allB_at c 18
  have lk : K.lookup (He.ma K (He.ga K x) "__init__") = some ⟨oc, od, .func fd, osl⟩ := h2
  rw [lk] at last
  rw [h1] at last
  refine ⟨nm, clsKE_ok (allB_at c 1), He.eqO_ok (allB_at c 2), He.eqO_ok (allB_at c 3), He.eqO_ok (allB_at c 4), He.eqO_ok (allB_at c 5), He.eqO_ok (allB_at c 6), of_decide_eq_true (allB_at c 7), allB_at c 8, of_decide_eq_true (allB_at c 9), of_decide_eq_true (allB_at c 10),
    of_decide_eq_true (allB_at c 11), allB_at c 12, of_decide_eq_true (allB_at c 13), He.eqO_ok (allB_at c 14), of_decide_eq_true (allB_at c 15), He.eqO_ok (allB_at c 16), He.eqO_ok (allB_at c 17), ?_⟩
  cases cdv with
  | ref cda =>
    cases cl with
    | nil => cases h5
    | cons y r =>
      obtain ⟨y1, cc⟩ := y
      cases r with
      | cons _ _ => cases h5
      | nil =>
        have e1 : y1 = ("__class__" : Str) := (List.cons.inj h5).1
        subst e1
        obtain ⟨l1, l2⟩ := He.ba (show ((match K.lookup cda with
          | some ⟨_, _, .fields vs, _⟩ => fileB file vs
          | _ => false) && (match K.lookup cc with
          | some ⟨_, _, .cell (some (.ref D)), _⟩ => decide (D = He.ga K x)
          | _ => false)) = true from last)
        refine ⟨oc, od, kV, doc, pm, an, cda, ct, osl, cc, p1, p2, kk, q1, q2, q3, q4, q5, q6, q7, q8, q9, q10, ?_, h3, s4, ?_, ?_⟩
        · rw [lk, h1, hdV]
          show some (⟨oc, od, .func (PySem.W.fnX "__init__" q (defArgs st) (defBody st) (defScope st) [("__class__", cc)] .none kV doc pm an (.ref cda) ct), osl⟩ : Obj) = _
          rw [s1, s2, s3]
        · split at l1
          · rename_i ccl cdd vs ccs hk
            obtain ⟨tf, e⟩ := fileB_ok l1
            exact ⟨_, _, _, _, tf, hk, e⟩
          · cases l1
        · split at l2
          · rename_i a b D c2 hk
            have e := of_decide_eq_true l2
            subst e
            exact ⟨_, _, _, hk⟩
          · cases l2
  | _ => cases last
end Hd
set_option Elab.async false
set_option linter.all false
set_option maxRecDepth 100000
set_option maxHeartbeats 4000000
/-! Exception classes right above LookupError whose __init__ says super().__init__(a text) and stores its one argument. -/
namespace Xl
open PySem PySem.W PySem.Calls PyProof.Rows
open Xb (Nm arg2 bod2 sco2 mcall1 Done Made)
open Builtin Builtin.ObjectAttr
abbrev keTail : List Value := [.type "LookupError", .type "Exception", .type "BaseException", .type "object"]
/-- classes of one's own, then those right above LookupError -/
def tailKE (l : List Value) : Bool := match l with
  | .ref _ :: r => tailKE r
  | l => l == keTail
theorem tailKE_or (l : List Value) (e : tailKE l = true) : (∃ c r, l = .ref c :: r ∧ tailKE r = true) ∨ l = keTail := by
  unfold tailKE at e
  split at e
  · exact .inl ⟨_, _, rfl, e⟩
  · exact .inr (beq_iff_eq.mp e)
theorem pass_KE (self : Value) : refuseLoop self "__setattr__" keTail = pure () := by kernel_rfl
theorem tailKE_all (self : Value) : ∀ l : List Value, tailKE l = true → refuseLoop self "__setattr__" l = pure () ∧ (∀ X : String, l.contains (.type X) = keTail.contains (.type X)) ∧ l.isEmpty = false
  | [], e => by cases e
  | a :: r, e => by
    rcases tailKE_or _ e with ⟨c, r', q, h⟩ | q
    · obtain ⟨rfl, rfl⟩ := List.cons.inj q
      obtain ⟨h1, h2, _⟩ := tailKE_all self _ h
      exact ⟨by rw [PySem.refuseLoop_ref]; exact h1, fun X => by rw [List.contains_cons, h2 X]; rfl, rfl⟩
    · rw [q]
      exact ⟨pass_KE self, fun _ => rfl, rfl⟩
theorem slot_KE : Slot "LookupError" "__init__" "LookupError.__init__" := .of (owner := "LookupError") (n := "__init__") (by rw [typeLookup_type, builtinLookup_eq_fast]; kernel_rfl) (by decide +kernel) (by decide +kernel) (by decide +kernel)
    (by first
      | exact .inl (by decide +kernel)
      | exact .inr (by decide +kernel)) (by rw [isSubtype_type]; kernel_rfl)
theorem entry_KE : entryFor table "LookupError.__init__" = some Builtin.«BaseException.__init__» := by
  refine entryFor_alias (id' := "BaseException.__init__") ?_ ?_ ?_ ?_
  · rw [fastTable_eq_tree]; kernel_rfl
  · first
    | rfl
    | decide +kernel
  · decide +kernel
  · rw [fastTable_eq_tree]; kernel_rfl
theorem kind_KE : builtinKind "LookupError.__init__" = some .slot := by kernel_rfl
theorem row_KE : Manifest.signature? "LookupError.__init__" = some ⟨.positional, "*", "LookupError", .self, [⟨"args", .varPos, false⟩]⟩ := by kernel_rfl
theorem kxs_KE : KxsFacts "LookupError" "LookupError.__init__" := by
  refine ⟨?_, ?_⟩
  · show builtinType _ = _
    rw [builtinType_eq_fast]; kernel_rfl
  · first
    | kernel_rfl
    | rfl
/-! ### the class is called: LookupError's new, then the own init -/
section
variable {prog : Program} {w : World} {A : Around} {hp : Heap} {g : Array GenState} {dr : Drawn} {tk : Nat} {os : OsState}
variable {n₁ n₂ : Str} {C nsA : Addr} {bs bm : List Value} {hdct : Bool} {sl₁ : List Str} {sb : List Value} {ab : Bool} {col : Option Bool} {dd : Option Addr} {k0 k1 k2 k3 k5 : Option Value}
abbrev Cls0 (hp : Heap) (n₁ n₂ : Str) (C nsA : Addr) (bs bm : List Value) (hdct : Bool) (sl₁ : List Str) (sb : List Value) (ab : Bool) (col : Option Bool) (dd : Option Addr) (k0 k1 k2 k3 k5 : Option Value) : Prop :=
  hp.get? C = some (excClassObj n₁ n₂ C nsA bs bm hdct sl₁ sb ab col dd k0 k1 k2 k3 k5 "LookupError.__new__")
abbrev bare (C t : Addr) : Obj := { cls := .ref C, data := .fields #[.ref t, .none, .none, .none, .bool false, .none] }
theorem has (hb : tailKE bm = true) (X : String) (b : Bool) (h : keTail.contains (.type X) = b) : (Value.ref C :: bm).contains (.type X) = b := by
  rw [List.contains_cons, (tailKE_all .none bm hb).2.1 X, h]
  cases b <;> rfl
theorem new_check (hC : Cls0 hp n₁ n₂ C nsA bs bm hdct sl₁ sb ab col dd k0 k1 k2 k3 k5) (hb : tailKE bm = true) {M : Model} {E : Value → Shared → Prop} {more : List Value} {Q : Unit → Shared → Prop} (q : Q () ⟨hp, g, dr, tk, os⟩) :
    wpAny M A (checkBuiltinCall "LookupError.__new__" ⟨.ref C :: more, []⟩) Q E ⟨hp, g, dr, tk, os⟩ := by
  have FL := _root_.PySem.F.excBase_LookupError
  have c1 : (Value.ref C :: bm).contains (.type "LookupError") = true := has hb _ _ (by decide +kernel)
  have star := FL.noStar
  simp only [checkBuiltinCall, FL.newKind, FL.newSplit, FL.newRow]
  repeat (first
    | refine wpAny_loadPart_at hC ?_
    | (refine wpAny_isSubtype_exc hC ?_; rw [c1])
    | refine wpAny_staticBase_exc hC ?_
    | refine wpAny_madeBy_exc hC ?_
    | simp only [bne_self_eq_false, Bool.false_eq_true, if_false]
    | wp_step)
  exact q
theorem new_run {R : Result → Shared → Prop} (hC : Cls0 hp n₁ n₂ C nsA bs bm hdct sl₁ sb ab col dd k0 k1 k2 k3 k5) (hb : tailKE bm = true) {more : List Value} (hz : more.length ≤ sizeLine)
    (q : R (.ok (.ret (.ref (hp.objs.size + 1)))) ⟨(hp.push (kdv_tup more)).push (bare C hp.objs.size), g, dr, tk, os⟩) :
    codeAny (model prog w) A (.builtin "LookupError.__new__" ⟨.ref C :: more, []⟩) R ⟨hp, g, dr, tk, os⟩ := by
  have FL := _root_.PySem.F.excBase_LookupError
  have ends := FL.ends
  have c1 : (Value.ref C :: bm).contains (.type "LookupError") = true := has hb _ _ (by decide +kernel)
  have c2 : (Value.ref C :: bm).contains (.type "AttributeError") = false := has hb _ _ (by decide +kernel)
  have c3 : (Value.ref C :: bm).contains (.type "NameError") = false := has hb _ _ (by decide +kernel)
  refine codeAny_builtinAt FL.entry (_root_.PySem.wpAt_bind ?_)
  show _root_.PySem.wpAt _ _ _ (stack >>= _) _ _ _
  refine _root_.PySem.wpAt_bind (_root_.PySem.wpAt_stack fun p below => _root_.PySem.wpAt_of_wpAny ?_)
  wp_walk
  refine _root_.PySem.wpAt_of_wpAny ?_
  rw [FL.owner]
  repeat (first
    | with_reducible refine wpAny_madeHere_exc FL.canon hC ?_
    | with_reducible refine wpAny_loadPart_at hC ?_
    | (with_reducible refine wpAny_isSubtype_exc hC ?_; rw [c1])
    | (with_reducible refine wpAny_isSubtype_exc hC ?_; rw [c2])
    | (with_reducible refine wpAny_isSubtype_exc hC ?_; rw [c3])
    | wp_step)
  show R _ _
  rw [Heap.size_push]
  exact q
theorem type_run {E : Value → Shared → Prop} (hC : Cls0 hp n₁ n₂ C nsA bs bm hdct sl₁ sb ab col dd k0 k1 k2 k3 k5) (hb : tailKE bm = true) {more : List Value} {own : Addr} {Q : Fin → Shared → Prop}
    (h1 : Looks (model prog w) hp (typeLookup (.ref C) "__init__") (some (.ref own))) (h2 : ∀ x, Looks (model prog w) hp (bindSpecial (.ref own) x) (.ref own, [x])) (hz : more.length ≤ sizeLine)
    (q : codeAny (model prog w) A (.call (.ref own) ⟨.ref (hp.objs.size + 1) :: more, []⟩)
      (fun r s' => match r with
        | .ok (.ret v) => v = .none ∧ Q (.done (.ret (.ref (hp.objs.size + 1)))) s'
        | .ok _ => False
        | .error e => E e s') ⟨(hp.push (kdv_tup more)).push (bare C hp.objs.size), g, dr, tk, os⟩) :
    wpAny (model prog w) A (Builtin.«type.__call__» ⟨.ref C :: more, []⟩) Q E ⟨hp, g, dr, tk, os⟩ := by
  have FL := _root_.PySem.F.excBase_LookupError
  repeat (first
    | with_reducible refine wpAny_loadPart_at hC ?_
    | with_reducible refine wpAny_madeBy_exc hC ?_
    | wp_step)
  refine codeAny_call_builtin_code (Code.quiet_builtin _ FL.quiet) (new_check hC hb (new_run hC hb hz ?_))
  show wpAny _ _ _ _ _ _
  have kp : ∀ b o, hp.get? b = some o → ((hp.push (kdv_tup more)).push (bare C hp.objs.size)).get? b = some o := fun b o e => Heap.get?_push_of_some _ (Heap.get?_push_of_some _ e)
  have gC := kp _ _ hC
  have gx : ((hp.push (kdv_tup more)).push (bare C hp.objs.size)).get? (hp.objs.size + 1) = some (bare C hp.objs.size) := by heap_get
  have cc : (Value.ref C :: bm).contains (.ref C) = true := by simp
  have j1 := h1.keeps kp
  have j2 := (h2 (.ref (hp.objs.size + 1))).keeps kp
  unfold isInstance
  repeat (first
    | with_reducible refine wpAny_loadPart_at gx ?_
    | (with_reducible refine wpAny_isSubtype_exc gC ?_; rw [cc])
    | wp_step)
  show wpAny _ _ (typeLookup (.ref C) _) _ _ _
  refine j1.at (wpAny_holding (wpAny_bind (j2.at (wpAny_bind (wpAny_call (codeAny_mono q fun r s' z => ?_))))))
  rcases r with e | (v | _ | _ | _) <;> first
    | exact z
    | exact z.elim
    | skip
  obtain ⟨rfl, z⟩ := z
  first
    | exact wpAny_pure (wpAny_pure z)
    | (wp_walk; exact z)
theorem call_run {R : Result → Shared → Prop} (hC : Cls0 hp n₁ n₂ C nsA bs bm hdct sl₁ sb ab col dd k0 k1 k2 k3 k5) (hb : tailKE bm = true) {more : List Value} {own : Addr}
    (h1 : Looks (model prog w) hp (typeLookup (.ref C) "__init__") (some (.ref own))) (h2 : ∀ x, Looks (model prog w) hp (bindSpecial (.ref own) x) (.ref own, [x])) (hz : more.length ≤ sizeLine)
    (q : codeAny (model prog w) (A.under (.builtin "type.__call__" ⟨.ref C :: more, []⟩)) (.call (.ref own) ⟨.ref (hp.objs.size + 1) :: more, []⟩) (InitBack (hp.objs.size + 1) R) ⟨(hp.push (kdv_tup more)).push (bare C hp.objs.size), g, dr, tk, os⟩) :
    codeAny (model prog w) A (.call (.ref C) ⟨more, []⟩) R ⟨hp, g, dr, tk, os⟩ := by
  have a1 := tc_lookup
  have a2 := tc_bind (.ref C)
  have ty : (⟨hp, g, dr, tk, os⟩ : Shared).TypeIs (.ref C) "type" := ⟨_, hC, rfl⟩
  refine codeAny_of_tree ?_
  show wpAny _ _ (callAny (.ref C) _) _ _ _
  repeat (any_goals (first
    | assumption
    | with_reducible refine wpAny_loadPart_at hC ?_
    | wp_step))
  refine ⟨rfl, codeAny_call_builtin_at (Code.quiet_builtin _ (by decide +kernel)) entry_typeCall (wpAny_check_type_call_sub hC (type_run hC hb h1 h2 hz ?_))⟩
  refine codeAny_mono q fun r s' z => ?_
  rcases r with e | (v | _ | _ | _) <;> exact z
/-- self.name = v, no dict yet -/
theorem set_new {R : Result → Shared → Prop} {K : Frag} {name : Str} {tn : Tok} {v : Value} {x : Addr} {fv : Array Value} {cd : ClassData} (X : K.In hp) (hx : hp.get? x = some { cls := .ref C, data := .fields fv }) (hcd : clsIn K C = some cd) (hm : tailKE cd.mro = true)
    (hh : cd.hasDict = true) (ha : findIn K (.ref C) name = some none)
    (q : ∀ h' tk' dx, (∀ b o, b ≠ x → hp.get? b = some o → h'.get? b = some o) → hp.objs.size ≤ dx → dx ≠ x → h'.get? x = some { cls := .ref C, dict := some dx, data := .fields fv } → h'.Ns1 dx (fun y => if y = name then some v else none) → R (.ok (.ret .none)) ⟨h', g, dr, tk', os⟩) :
    codeAny (model prog w) A (.call (.builtin "object.__setattr__") ⟨[.ref x, .str name tn, v], []⟩) R ⟨hp, g, dr, tk, os⟩ := by
  obtain ⟨pass, cont, ne⟩ := tailKE_all (.ref x) _ hm
  have J : InstAt hp x { cls := .ref C, data := .fields fv } C none := ⟨hx, rfl, rfl, trivial⟩
  have SO := _root_.PySem.F.store_object
  have c0 : cd.mro.contains (.type "object") = true := (cont "object").trans (by decide +kernel)
  have nx : x ≠ hp.objs.size := Nat.ne_of_lt (Heap.lt_size hx)
  have io : Looks (model prog w) hp (isInstance (.ref x) (.type "object")) true := by
    refine J.type.andThen (looks_mroIn X ?_)
    unfold mroIn
    rw [hcd, Option.bind_some, if_neg (by rw [ne]; decide), c0]
  refine codeAny_call_builtin SO.slot.plain SO.entry (@check_slot (model prog w) _ _ ⟨hp, g, dr, tk, os⟩ "object.__setattr__" "object" "__setattr__" (.ref x) [.str name tn, v] [] _ SO.kind SO.split io (SO.args (.ref x) (.str name tn) v) ?_)
  have m1 : Looks (model prog w) hp (mroOf (.ref C)) cd.mro := (looks_clsIn X hcd).andThen .now
  have m2 : Looks (model prog w) hp (storeTaker? none) none := .now
  have m3 : Looks (model prog w) hp (classData C) cd := looks_clsIn X hcd
  rw [osa_eq, refuse_eq]
  refine wpAny_bind (wpAny_bind (J.type.at (wpAny_bind (m1.at ?_))))
  rw [pass]
  refine wpAny_pure (wpAny_bind (J.type.at (wpAny_bind ((looks_findIn X ha).at (wpAny_bind (m2.at ?_))))))
  show wpAny _ _ (storeInOwnDict (.ref x) (.ref C) (.str name tn) name v false) _ _ _
  obtain ⟨y1, y2, y3, y4, y5, y6, y7, y8, y9, y10, y11⟩ := cd
  dsimp only at hh
  subst hh
  unfold storeInOwnDict ownDictForStores
  repeat (first
    | with_reducible refine HandSPX.store_in_new ?_ ?_
    | with_reducible refine wpAny_loadPart_at hx ?_
    | with_reducible refine m3.at ?_
    | wp_step)
  · have fresh := Heap.get?_push_at (h := hp) (o := { cls := .type "dict", data := .dict #[] }) rfl rfl
    exact ⟨_, #[], _, (Heap.get?_update_ne _ _ _ _ nx.symm).trans fresh, rfl, fun e he => absurd he (by simp), fun _ => rfl⟩
  · intro h' tk' hn' hs
    have px : (hp.push { cls := .type "dict", data := .dict #[] }).get? x = some { cls := .ref C, data := .fields fv } := Heap.get?_push_of_some _ hx
    refine q h' tk' hp.objs.size (fun b o hb ho => ?_) (Nat.le_refl _) nx.symm ((hs.2 x nx).trans (Heap.get?_update_self _ px rfl)) hn'
    refine (hs.2 b (Nat.ne_of_lt (Heap.lt_size ho))).trans ?_
    exact (Heap.get?_update_ne _ _ _ _ hb).trans (Heap.get?_push_of_some _ ho)
end
/-- what the written part says of the class at C and of its __init__ at fI -/
structure Txt (file : Str) (K : Frag) (q F txt : Str) (C fI : Addr) : Prop where
  nm : Nm F
  cls : ∃ nm q' N bs bm sn sub ab col dd k0 k1 k2 k3 k5, K.lookup C = some (excClassObj nm q' C N bs bm true sn sub ab col dd k0 k1 k2 k3 k5 "LookupError.__new__") ∧ tailKE bm = true
  sa : findIn K (.ref C) "__setattr__" = some (some (.builtin "object.__setattr__"))
  ga : findIn K (.ref C) "__getattribute__" = some (some (.builtin "BaseException.__getattribute__"))
  gg : findIn K (.ref C) "__getattr__" = some none
  noF : findIn K (.ref C) F = some none
  iC : findIn K (.ref C) "__init__" = some (some (.ref fI))
  tC : typeIn K (.ref fI) = some (.type "function")
  kC : keepIn K (.ref C) = true
  exC : subIn K (.ref C) (.type "BaseException") = some true
  keC : subIn K (.ref C) (.type "LookupError") = some true
  tyC : typeIn K (.ref C) = some (.type "type")
  hdC : hasDictIn K C = true
  te : exmOne K (.ref C) (.ref C) = some true
  sup : ks_superIn K C C "__init__" = some (some (.builtin "LookupError.__init__"))
  slf : mroIn K C (.ref C) = some true
  gs : nsIn K mainGlobals "super" = some none
  tp : nsIn K cStatics "thirdparty.any" = some none
  fn : ∃ (oc : Value) (od : Option Addr) (kV doc pm : Value) (an : Option Addr) (cda : Addr) (ct : Value) (osl : Array (Option Value)) (cc : Addr) (p1 p2 : Pos) (kk : Nat) (q1 q2 q3 q4 q5 q6 q7 q8 q9 q10 : Pos),
    K.lookup fI = some ⟨oc, od, .func (ksFn "__init__" q (arg2 F p1 p2) (bod2 F txt kk q1 q2 q3 q4 q5 q6 q7 q8 q9 q10) (sco2 F) .none kV doc pm an (.ref cda) ct cc), osl⟩ ∧ codeIn K (.ref cda) q = true ∧ (q3.endLine == q5.line) = true ∧
    (∃ ccl cdd vs ccs tf, K.lookup cda = some ⟨ccl, cdd, .fields vs, ccs⟩ ∧ vs[2]? = some (.str file tf)) ∧ (∃ cl cld csl, K.lookup cc = some ⟨cl, cld, .cell (some (.ref C)), csl⟩)
section
variable {M : Model} {A : Around} {E : Value → Shared → Prop} {hp : Heap} {g : Array GenState} {dr : Drawn} {tk : Nat} {os : OsState}
variable {n₁ n₂ : Str} {C nsA : Addr} {bs bm : List Value} {hdct : Bool} {sl₁ : List Str} {sb : List Value} {ab : Bool} {col : Option Bool} {dd : Option Addr} {k0 k1 k2 k3 k5 : Option Value}
theorem init_check {e : Addr} {oe : Obj} {more : List Value} {Q : Unit → Shared → Prop} (hC : Cls0 hp n₁ n₂ C nsA bs bm hdct sl₁ sb ab col dd k0 k1 k2 k3 k5) (he : hp.get? e = some oe) (hc : oe.cls = .ref C) (q : Q () ⟨hp, g, dr, tk, os⟩) :
    wpAny M A (checkBoundCall "LookupError.__init__" ⟨.ref e :: more, []⟩) Q E ⟨hp, g, dr, tk, os⟩ := by
  have star : ("LookupError" != "*") = true := by decide +kernel
  simp only [checkBoundCall, kind_KE, row_KE]
  repeat (first
    | (with_reducible refine wpAny_loadPart_at he ?_; rw [hc])
    | with_reducible refine wpAny_loadPart_at hC ?_
    | wp_step)
  refine wpAny_onRaise ?_
  have z : ∀ (a b : String) (n : Nat), Bind.check ⟨.positional, "*", "LookupError", .self, [⟨"args", .varPos, false⟩]⟩ a b n (List.map (fun x => x.fst) ({ pos := Value.ref e :: more } : Args).kw) = pure () := fun _ _ _ => check_star_args _ _ _ _ _ _
  rw [z]
  exact wpAny_pure q
end
section
variable {prog : Program} {w : World} {A : Around} {E : Value → Shared → Prop} {h : Heap} {g : Array GenState} {d : Drawn} {t : Nat} {os : OsState}
variable {nm q : Str} {C N : Addr} {bs bm : List Value} {hdct : Bool} {sn : List Str} {sub : List Value} {ab : Bool} {col : Option Bool} {dd : Option Addr} {k0 k1 k2 k3 k5 : Option Value}
/-- the bound built-in __init__ is called -/
theorem mw_call {u e t0 : Addr} {rest : List Value} {Q : Value → Shared → Prop}
    (hC : h.get? C = some (excClassObj nm q C N bs bm hdct sn sub ab col dd k0 k1 k2 k3 k5 "LookupError.__new__")) (he : h.get? e = some (HandSPX.excO C t0))
    (hu : h.get? u = some (kxs_mw "LookupError.__init__" e)) (hz : rest.length ≤ sizeLine)
    (hq : ∀ h' t1, (∀ b o, b ≠ e → h.get? b = some o → h'.get? b = some o) → h'.get? e = some (HandSPX.excO C t1) → Q .none ⟨h', g, d, t, os⟩) :
    wpAny (model prog w) A (call (.ref u) rest) Q E ⟨h, g, d, t, os⟩ := by
  have c1 : (Value.type "method-wrapper" == Value.type "method" || Value.type "method-wrapper" == Value.type "builtin_function_or_method" || Value.type "method-wrapper" == Value.type "method-wrapper") = true := by decide
  refine wpAny_call (codeAny_of_tree ?_)
  show wpAny _ A.in1 (callAny (.ref u) ⟨rest, []⟩) _ _ _
  simp only [callAny]
  refine wpAny_bind (wpAny_load hu ?_)
  simp only [kxs_mw, c1, if_true]
  refine KFB.if_so (by decide) ?_
  refine wpAny_bind (init_check hC he rfl ?_)
  refine wpAny_bind (wpAny_pure (wpAny_pure ?_))
  refine ⟨plainId_quiet slot_KE.plain _, codeAny_builtin entry_KE ?_⟩
  refine exc_init_tree (cls := .ref C) (t0 := t0) (dv := none) (c2 := .none) (c3 := .none) (b4 := .bool false) he hz fun h' k e' _ => ?_
  exact hq h' _ k e'
end
section
variable {prog : Program} {w : World} {A : Around} {E : Value → Shared → Prop} {R : Result → Shared → Prop} {s : Shared} {K : Frag} {q F txt : Str} {C fI : Addr} {mg mb : Str → Option Value}
theorem initX (T : Txt prog.main.file K q F txt C fI) {x t0 : Addr} {v : Value} (X : K.In s.heap) (hlim : s.heap.NoLimit) (hg : s.heap.Ns mainGlobals mg) (hb : s.heap.Ns builtinsNs mb) (hbs : mb "super" = some (.type "super"))
    (htop : (prog.main.scope.names.lookup ("super" : Str)).isSome = false) (hx : s.heap.get? x = some (HandSPX.excO C t0)) (hnx : K.lookup x = none) (hroom : A.depth < recursionLimit)
    (hq : ∀ h' tk dx t1, Done s.heap h' x C dx t1 F v → R (.ok (.ret .none)) { s with heap := h', toks := tk }) :
    codeAny (model prog w) A (.call (.ref fI) ⟨[.ref x, v], []⟩) R s := by
  obtain ⟨oc, od, kV, doc, pm, an, cda, ct, osl, cc, p1, p2, kk, q1, q2, q3, q4, q5, q6, q7, q8, q9, q10, ho, hcd, hpl, ⟨ccl, cdd, vs, ccs, tf, hcode, hvs⟩, cl, cld, csl, hcell⟩ := T.fn
  obtain ⟨nm, q', N, bs, bm, sn, sub, ab, col, dd, k0, k1, k2, k3, k5, hC, hbm⟩ := T.cls
  have hcl : clsIn K C = some { name := nm, bases := bs, mro := .ref C :: bm, ns := N, qualname := q', hasDict := true, slotNames := sn, subclasses := sub, abstract := ab, collection := col, hasDel := false } := by unfold clsIn; rw [hC] <;> rfl
  refine ks_codeAny_call_defAt (fd := ksFn "__init__" q (arg2 F p1 p2) (bod2 F txt kk q1 q2 q3 q4 q5 q6 q7 q8 q9 q10) (sco2 F) .none kV doc pm an (.ref cda) ct cc) (binds := [("self", .ref x), (F, v)]) hroom (X _ _ ho) rfl hlim (codeRec_of X hcd) rfl
    (BindsTo.of_eq (T.nm.b _ _ _ _ _ _ _ _ _ _ _ _ _)) (fun y hy => ?_) (fun y hy => ?_) (fun h₁ hns hk => ?_)
  · simp only [List.mem_cons, List.not_mem_nil, or_false] at hy
    rcases hy with rfl | rfl | rfl | rfl <;> (intro z; cases z)
  · simp only [List.mem_cons, List.not_mem_nil, or_false] at hy
    rcases hy with rfl | rfl
    · exact T.nm.l
    · exact T.nm.f
  have X1 : K.In h₁ := X.keeps hk
  have g1 : h₁.Ns mainGlobals mg := hg.keeps hk
  have b1 : h₁.Ns builtinsNs mb := hb.keeps hk
  have x1 := hk _ _ hx
  have vS : ([(PySem.Str.ofString "self", Value.ref x), (F, v)] : List (Str × Value)).reverse.lookup ("self" : Str) = some (.ref x) := by
    show List.lookup ("self" : Str) [(F, v), (("self" : Str), Value.ref x)] = _
    simp [List.lookup, T.nm.en]
  have vF : ([(PySem.Str.ofString "self", Value.ref x), (F, v)] : List (Str × Value)).reverse.lookup F = some v := by
    show List.lookup F [(F, v), (("self" : Str), Value.ref x)] = _
    simp [List.lookup]
  show _root_.PySem.wpAt _ _ _ (execs (_ :: _) _) _ _ _
  refine ks_wpAt_execs_cons (ks_wpAt_Expr_any (ks_wpAt_MethodCall ?_ (mcall1 hpl)))
  obtain ⟨oD, hD1, hD2⟩ : ∃ oD, h₁.get? C = some oD ∧ oD.data = .cls { name := nm, bases := bs, mro := .ref C :: bm, ns := N, qualname := q', hasDict := true, slotNames := sn, subclasses := sub, abstract := ab, collection := col, hasDel := false } := ⟨_, X1 _ _ hC, rfl⟩
  have I1 : InstAt h₁ x (HandSPX.excO C t0) C none := ⟨x1, rfl, rfl, trivial⟩
  refine ks_wpAt_super_base T.nm.s T.nm.c (by decide) rfl (X1 _ _ ho) rfl rfl rfl (X1 _ _ hcode) rfl hvs (beq_self_eq_true _) htop ?_
  refine ks_loadName_global rfl T.nm.s (loadGlobal_builtin g1 (mg_none_of X1 g1 T.gs) b1 hbs ⟨rfl, ?_⟩)
  refine wpAny_loadName_free rfl T.nm.c (by rfl) ⟨_, X1 _ _ hcell, rfl⟩ ?_
  refine wpAny_loadName_local rfl T.nm.l hns vS ?_
  refine ks_wpAny_isType_cls hD1 hD2 ⟨rfl, ?_⟩
  refine ks_wpAny_call_super hD1 hD2 x1 rfl (fun c e => by cases e) (looks_mroIn X1 T.slf) (fun h₂ e2 k2' => ?_)
  have X2 : K.In h₂ := X1.keeps k2'
  have x2 := k2' _ _ x1
  have n2 : h₂.Ns s.heap.objs.size (fun y => ([(PySem.Str.ofString "self", Value.ref x), (F, v)] : List (Str × Value)).reverse.lookup y) := hns.keeps k2'
  have I2 : InstAt h₂ x (HandSPX.excO C t0) C none := ⟨x2, rfl, rfl, trivial⟩
  have hxC : x ≠ C := ks_ne X2 I2 hcl
  have hsup := T.sup
  unfold ks_superIn at hsup
  rw [hcl] at hsup
  have hI : Looks (model prog w) h₂ (isInstance (.ref x) (.type "LookupError")) true := I2.type.andThen (looks_subIn X2 T.keC)
  show wpAny _ _ (getMethod (.ref h₁.objs.size) "__init__" _) _ _ _
  refine kxs_getMethod kxs_KE e2 (looks_opaque X2 T.tp) (l₀ := .ref C :: bm) (fun A Q E s k z => wpAny_bind ((looks_clsIn X2 hcl) A _ E s k (wpAny_pure z))) rfl X2 hsup hI hxC (by decide) ?_
  have k3' : ∀ b o, h₂.get? b = some o → (h₂.push (kxs_mw "LookupError.__init__" x)).get? b = some o := fun b o e => Heap.get?_push_of_some _ e
  have u3 : (h₂.push (kxs_mw "LookupError.__init__" x)).get? h₂.objs.size = some (kxs_mw "LookupError.__init__" x) := Heap.get?_push_size _ rfl
  refine kxs_callWith (i := "LookupError.__init__") (x := x) rfl (evalArgs_plain (spliced_cons (Constant_str (k := kk) (pos := q4) (spliced_nil ⟨u3, ?_⟩))))
  refine mw_call (k3' _ _ (X2 _ _ hC)) (k3' _ _ x2) u3 (by show 1 ≤ sizeLine; rw [sizeLine_eq]; omega) fun h₄ t1 k4 x4 => ?_
  have X4 : K.In h₄ := fun a o e => k4 a o (fun z => by rw [z, hnx] at e; cases e) (k3' _ _ (X2 _ _ e))
  have hxL : s.heap.objs.size ≠ x := Nat.ne_of_gt (Heap.lt_size hx)
  have n4 : h₄.Ns s.heap.objs.size (fun y => ([(PySem.Str.ofString "self", Value.ref x), (F, v)] : List (Str × Value)).reverse.lookup y) := by
    obtain ⟨o, es, ep, e, r⟩ := n2
    exact ⟨o, es, ep, k4 _ _ hxL (k3' _ _ e), r⟩
  show _root_.PySem.wpAt _ _ _ (execs (_ :: _) _) _ _ _
  refine wpAt_of_wpAny (wpAny_execs_cons (plainObj_wpAny_Assign_Attribute ?_))
  refine wpAny_Name (wpAny_loadName_local rfl T.nm.f n4 vF ?_) T.nm.db
  refine wpAny_Name (wpAny_loadName_local rfl T.nm.l n4 vS ?_) (by decide)
  refine set_plain X4 (ox := HandSPX.excO C t1) (od := none) ⟨x4, rfl, rfl, trivial⟩ T.sa ?_
  refine set_new X4 x4 hcl (show tailKE (.ref C :: bm) = true from hbm) rfl T.noF (fun h₅ tk₅ dx k₅ dn dne hx₅ hn₅ => ?_)
  show wpAny _ _ (execs _ _) _ _ _
  have z4 : ∀ b o, b ≠ x → s.heap.get? b = some o → h₄.get? b = some o := fun b o hb e => k4 b o hb (k3' _ _ (k2' _ _ (hk _ _ e)))
  refine wpAny_execs_nil (hq h₅ tk₅ dx t1 ⟨fun b o hb e => k₅ b o hb (z4 b o hb e), hx₅, ?_, dne, hn₅⟩)
  obtain ⟨o4, es4, ep4, e4, _⟩ := n4
  exact Nat.le_of_lt (Nat.lt_of_lt_of_le (Heap.lt_size e4) dn)

theorem madeX (T : Txt prog.main.file K q F txt C fI) {v : Value} (X : K.In s.heap) (hlim : s.heap.NoLimit) (hg : s.heap.Ns mainGlobals mg) (hb : s.heap.Ns builtinsNs mb) (hbs : mb "super" = some (.type "super"))
    (htop : (prog.main.scope.names.lookup ("super" : Str)).isSome = false) (hroom : A.depth + 1 < recursionLimit)
    (hq : ∀ h' tk e d, Made s.heap h' e C d F v → R (.ok (.ret (.ref e))) { s with heap := h', toks := tk }) :
    codeAny (model prog w) A (.call (.ref C) ⟨[v], []⟩) R s := by
  obtain ⟨nm, q', N, bs, bm, sn, sub, ab, col, dd, k0, k1, k2, k3, k5, hC, hbm⟩ := T.cls
  obtain ⟨hp, g, dr, tk, os⟩ := s
  have k : ∀ b o, hp.get? b = some o → ((hp.push (kdv_tup [v])).push (HandSPX.excO C hp.objs.size)).get? b = some o := fun b o e => Heap.get?_push_of_some _ (Heap.get?_push_of_some _ e)
  have hget : ((hp.push (kdv_tup [v])).push (HandSPX.excO C hp.objs.size)).get? (hp.objs.size + 1) = some (HandSPX.excO C hp.objs.size) := by heap_get
  have hnx : K.lookup (hp.objs.size + 1) = none := by
    cases e : K.lookup (hp.objs.size + 1) with
    | none => rfl
    | some o =>
      have z : hp.get? (hp.objs.size + 1) = some o := X _ _ e
      exact absurd (Nat.lt_of_succ_lt (Heap.lt_size z)) (Nat.lt_irrefl _)
  refine call_run (X _ _ hC) hbm (looks_findIn X T.iC) (fun self => bind_fn X self T.tC) (by show 1 ≤ sizeLine; rw [sizeLine_eq]; omega) ?_
  refine initX (s := ⟨(hp.push (kdv_tup [v])).push (HandSPX.excO C hp.objs.size), g, dr, tk, os⟩) T (X.keeps k) (hlim.keeps k) (hg.keeps k) (hb.keeps k) hbs htop hget hnx ?_ fun h' tk' dx t1 D => ?_
  · show A.depth + 1 < recursionLimit
    exact hroom
  · have old : ∀ b o, hp.get? b = some o → h'.get? b = some o := fun b o e => D.keep b o (Nat.ne_of_lt (Nat.lt_succ_of_lt (Heap.lt_size e))) (k b o e)
    have z : hp.objs.size + 1 + 1 ≤ dx := by
      have q := D.dbig
      simp only [Heap.size_push] at q
      exact q
    exact ⟨rfl, hq h' tk' (hp.objs.size + 1) dx ⟨old, Nat.le_succ _, ⟨_, D.obj⟩, Nat.le_trans (Nat.le_trans (Nat.le_succ _) (Nat.le_succ _)) z, D.dne, D.ns⟩⟩
end

end Xl
namespace Xl
open PySem PySem.Spec PyProof.Rows L2
open Xb (boot_super relO_one tMkX tRaiseX tByX Made)
section
variable {X : Cx} {C fI : Addr} {q F txt : Str}
theorem pmk_x {x : Str} {a : Expr} {ta : TA} {p pos : Pos} {k : Nat} (T : Txt X.prog.main.file X.K q F txt C fI) (hm : X.mg x = some (.ref C)) (htop : (X.prog.main.scope.names.lookup ("super" : Str)).isSome = false) (hr : Room k X.A) (ha : PA X [a] ta) (hg : Gl X x := by rfl)
    (hdb : (x == ("__debug__" : Str)) = false := by decide)
    (he : starEach (a :: []) X.env = (false, eval a X.env) :: starEach [] X.env := by rfl) (hpl : (backTo pos (starEach [] X.env)).any (·.1) = false := by rfl) :
    PMk X (.Call (.Name x p) [a] [] pos) (tMkX C F ta) := by
  intro pins s σ H Q I h
  refine wpAny_Call_Name_kw (ld_glob I hg hm ?_ hdb)
  refine PySem.W.callWith_K (h₀ := X.base) I.ok.mod.kin T.kC (thn (ha.run pos pins s σ H _ I h) fun us s1 hh => ?_) he hpl
  obtain ⟨vs, H1, I1, r1, v, ev, q1⟩ := hh
  subst ev
  refine ⟨I1.kIn, ?_⟩
  cases r1 with
  | cons rv rn =>
    rename_i v' us'
    cases rn
    show wpAny _ _ (call (.ref C) [v']) _ _ _
    have hlim := I1.nolimit
    have M := I1.mod
    have hns : s1.heap.Ns mainGlobals X.mg := M.glob.keeps I1.bk
    obtain ⟨mb, hb, hbb⟩ := M.blt
    have hb1 : s1.heap.Ns builtinsNs mb := hb.keeps I1.bk
    have hbs : mb "super" = some (.type "super") := (hbb _ (by decide)).trans boot_super
    obtain ⟨hp, g, dr, tk, os⟩ := s1
    refine wpAny_call (madeX T I1.kIn hlim hns hb1 hbs htop (by have := hr.dp; omega) fun h' tk' e d M => ?_)
    show MkP X pins σ Q (.ref e) ⟨h', g, dr, tk', os⟩
    obtain ⟨t1, hoe⟩ := M.obj
    obtain ⟨G', g1, g2⟩ := restrict h' fun b => decide (b ≠ e)
    have gk : ∀ b, b ≠ e → G'.get? b = h'.get? b := fun b hb => g1 b (decide_eq_true hb)
    have ge : G'.get? e = none := g2 e (by simp)
    have old : ∀ b o, hp.get? b = some o → G'.get? b = some o := fun b o q => (gk b (Nat.ne_of_lt (Nat.lt_of_lt_of_le (Heap.lt_size q) M.new))).trans (M.keep b o q)
    have ob : ObjOk X.prog X.w (upd H1 d (.xd [(F, v)])) G' d (.xd [(F, v)]) :=
      ⟨_, M.ns.at (fun o q => (gk d M.dne).trans q), fun f => relO_one rv f⟩
    have J : Inv X pins σ (upd H1 d (.xd [(F, v)])) ⟨G', g, dr, tk', os⟩ := I1.laid (t' := tk') old M.dbig ob
    refine ⟨e, _, _, ⟨G', g, dr, tk', os⟩, _, .ref C, some d, rfl, J, fun b o q => ?_, ge, hoe, ⟨rfl, rfl⟩, rfl, rfl, ?_, rfl, I1.bare, raises_own T.exC T.tyC, q1 d (I1.hok.fresh M.dbig)⟩
    · by_cases hb : b = e
      · have q' : G'.get? b = some o := q
        rw [hb, ge] at q'; cases q'
      · exact (gk b hb).symm.trans q
    · rw [upd_ne (Ne.symm M.dne)]
      exact I1.hok.fresh M.new
theorem ps_raiseX {x : Str} {a : Expr} {ta : TA} {W : WX} {p pos pos2 : Pos} {k : Nat} (hc : X.calm = true) (T : Txt X.prog.main.file X.K q F txt C fI) (hm : X.mg x = some (.ref C)) (htop : (X.prog.main.scope.names.lookup ("super" : Str)).isSome = false) (hr : Room k X.A) (tk : Takes X W) (ha : PA X [a] ta) (hg : Gl X x := by rfl)
    (hdb : (x == ("__debug__" : Str)) = false := by decide)
    (he : starEach (a :: []) X.env = (false, eval a X.env) :: starEach [] X.env := by rfl) (hpl : (backTo pos (starEach [] X.env)).any (·.1) = false := by rfl) :
    PS X (.Raise (some (.Call (.Name x p) [a] [] pos)) none pos2) (tRaiseX C F W ta) := ps_raise hc tk (pmk_x T hm htop hr ha hg hdb he hpl)
theorem pe_byX {a : Addr} {oe : Obj} {cls : Value} {d : Option Addr} {pn : List (Addr × Obj)} {e : Expr} {te : TE} {pos : Pos} (T : Txt X.prog.main.file X.K q F txt C fI) (hz : Zc cls d oe) (hf : ∃ vs, oe.data = .fields vs) (he : PE (X.suite a ((a, oe) :: pn)) e te)
    (hb : attributeBase e F X.env (eval e X.env) = eval e X.env := by rfl) :
    PE (X.suite a ((a, oe) :: pn)) (.Attribute e F pos) (tByX C F a cls d te) := by
  refine ⟨fun pins s σ H Q I h => ?_⟩
  refine attr_of hb (thn (he.run pins s σ H _ I h) fun u s1 hh => ?_)
  obtain ⟨x, H1, I1, rx, ex, ec, dd, v, ed, ea, q⟩ := hh
  subst ex
  obtain rfl : u = Value.ref a := rx
  subst ec
  subst ed
  obtain ⟨ha, _⟩ := I1.pin (a, oe) (List.mem_append_left _ List.mem_cons_self)
  obtain ⟨vs, hd⟩ := hf
  have hx : ObjOk X.prog X.w H1 s1.heap dd (.xd [(F, v)]) := I1.hok dd _ ea
  obtain ⟨mA, hns, hr⟩ := hx
  obtain ⟨od, ho, hl⟩ := lookIn_ns hns
  have l : List.lookup F [(F, v)] = some v := by simp [List.lookup]
  obtain ⟨u, hu, ru⟩ := RelO.some_of (v := v) (o := mA F) (by rw [← l]; exact hr F)
  have J : PySem.W.InstAt s1.heap a oe C (some od) := ⟨ha, hz.1, by unfold PySem.W.notCls; rw [hd] <;> rfl, by rw [hz.2]; exact ho⟩
  exact HandSPX.exc_get I1.kIn J T.ga T.gg T.exC (PySem.W.findObj_own T.hdC T.noF rfl (by rw [hl, hu])) (handed_of ru) ⟨v, H1, I1.tok _, ru, q⟩
end
end Xl
set_option Elab.async false
set_option linter.all false
set_option maxRecDepth 100000
set_option maxHeartbeats 4000000
namespace Hd
open PySem PySem.Spec PyProof.Rows L2
def clsLE (K : PySem.W.Frag) (C : Addr) : Bool := match K.lookup C with
  | some ⟨.type t, _, .cls cd, sl⟩ => (match cd.mro, sl.toList with
    | .ref C' :: bm, [_, _, _, _, some (.builtin n), _] => decide (t = "type") && (decide (C' = C) && (decide (n = "LookupError.__new__") && (!cd.hasDel && (cd.hasDict && Xl.tailKE bm))))
    | _, _ => false)
  | _ => false
theorem clsLE_ok {K : PySem.W.Frag} {C : Addr} (h : clsLE K C = true) : ∃ nm q' N bs bm sn sub ab col dd k0 k1 k2 k3 k5, K.lookup C = some (excClassObj nm q' C N bs bm true sn sub ab col dd k0 k1 k2 k3 k5 "LookupError.__new__") ∧ Xl.tailKE bm = true := by
  unfold clsLE at h
  split at h
  · rename_i t dd cd sl ho
    split at h
    · rename_i C' bm k0 k1 k2 k3 n k5 hm hs
      obtain ⟨h0, h⟩ := He.ba h
      obtain ⟨h1, h⟩ := He.ba h
      obtain ⟨h2, h⟩ := He.ba h
      obtain ⟨h3, h⟩ := He.ba h
      obtain ⟨h4, h5⟩ := He.ba h
      have h0 := of_decide_eq_true h0
      have h1 := of_decide_eq_true h1
      have h2 := of_decide_eq_true h2
      subst h0 h1 h2
      obtain ⟨nm, bs, mro, ns, qn, hd, sn, sub, ab, col, del⟩ := cd
      dsimp only at hm h3 h4
      subst hm h4
      have h3 : del = false := by simpa using h3
      subst h3
      have hsl : sl = #[k0, k1, k2, k3, some (.builtin "LookupError.__new__"), k5] := by
        obtain ⟨l⟩ := sl
        simp only at hs
        rw [hs]
      subst hsl
      exact ⟨_, _, _, _, _, _, _, _, _, _, _, _, _, _, _, ho, h5⟩
    · cases h
  · cases h
/-- the further facts of the class x whose one field is F -/
def excLB (file : Str) (K : PySem.W.Frag) (x F : Str) : Bool :=
  let C := He.ga K x
  let fI := He.ma K C "__init__"
  allB [He.eqO (PySem.W.nsIn K mainGlobals x) (some (some (.ref C))), clsLE K C, He.eqO (PySem.W.findIn K (.ref C) "__setattr__") (some (some (.builtin "object.__setattr__"))),
    He.eqO (PySem.W.findIn K (.ref C) "__getattribute__") (some (some (.builtin "BaseException.__getattribute__"))), He.eqO (PySem.W.findIn K (.ref C) "__getattr__") (some none), He.eqO (PySem.W.findIn K (.ref C) F) (some none),
    He.eqO (PySem.W.findIn K (.ref C) "__init__") (some (some (.ref fI))), decide (PySem.W.typeIn K (.ref fI) = some (.type "function")), PySem.W.keepIn K (.ref C), decide (PySem.W.subIn K (.ref C) (.type "BaseException") = some true),
    decide (PySem.W.subIn K (.ref C) (.type "LookupError") = some true), decide (PySem.W.typeIn K (.ref C) = some (.type "type")), PySem.W.hasDictIn K C, decide (PySem.W.exmOne K (.ref C) (.ref C) = some true),
    He.eqO (PySem.W.ks_superIn K C C "__init__") (some (some (.builtin "LookupError.__init__"))), decide (PySem.W.mroIn K C (.ref C) = some true), He.eqO (PySem.W.nsIn K mainGlobals "super") (some none), He.eqO (PySem.W.nsIn K cStatics "thirdparty.any") (some none),
    (match K.lookup fI with
      | some ⟨_, _, .func fd, _⟩ => (match fd.code, fd.closure with
        | .ref cda, [(_, cc)] => (match K.lookup cda with
          | some ⟨_, _, .fields vs, _⟩ => fileB file vs
          | _ => false) && (match K.lookup cc with
          | some ⟨_, _, .cell (some (.ref D)), _⟩ => decide (D = C)
          | _ => false)
        | _, _ => false)
      | _ => false)]
theorem exc_txtL {file : Str} {K : PySem.W.Frag} {x q F txt : Str} {st : Stmt} {fd : FuncData} (nm : Xb.Nm F) (g : Got K (excD x q st) fd) (c : excLB file K x F = true)
    (hst : ∃ (p1 p2 : Pos) (kk : Nat) (q1 q2 q3 q4 q5 q6 q7 q8 q9 q10 : Pos), defArgs st = Xb.arg2 F p1 p2 ∧ defBody st = Xb.bod2 F txt kk q1 q2 q3 q4 q5 q6 q7 q8 q9 q10 ∧ defScope st = Xb.sco2 F ∧ (q3.endLine == q5.line) = true) :
    Xl.Txt file K q F txt (He.ga K x) (He.ma K (He.ga K x) "__init__") := by
  obtain ⟨oc, od, dV, kV, doc, pm, an, cdv, ct, osl, cl, h1, h2, h3, h4, h5⟩ := g.ex
  obtain ⟨p1, p2, kk, q1, q2, q3, q4, q5, q6, q7, q8, q9, q10, s1, s2, s3, s4⟩ := hst
  have hdV : dV = .none := by
    rcases h4 with ⟨_, e⟩ | ⟨e, _⟩
    · exact e
    · exact absurd rfl e
  have last := allB_at c 18
  have lk : K.lookup (He.ma K (He.ga K x) "__init__") = some ⟨oc, od, .func fd, osl⟩ := h2
  rw [lk] at last
  rw [h1] at last
  refine ⟨nm, clsLE_ok (allB_at c 1), He.eqO_ok (allB_at c 2), He.eqO_ok (allB_at c 3), He.eqO_ok (allB_at c 4), He.eqO_ok (allB_at c 5), He.eqO_ok (allB_at c 6), of_decide_eq_true (allB_at c 7), allB_at c 8, of_decide_eq_true (allB_at c 9), of_decide_eq_true (allB_at c 10),
    of_decide_eq_true (allB_at c 11), allB_at c 12, of_decide_eq_true (allB_at c 13), He.eqO_ok (allB_at c 14), of_decide_eq_true (allB_at c 15), He.eqO_ok (allB_at c 16), He.eqO_ok (allB_at c 17), ?_⟩
  cases cdv with
  | ref cda =>
    cases cl with
    | nil => cases h5
    | cons y r =>
      obtain ⟨y1, cc⟩ := y
      cases r with
      | cons _ _ => cases h5
      | nil =>
        have e1 : y1 = ("__class__" : Str) := (List.cons.inj h5).1
        subst e1
        obtain ⟨l1, l2⟩ := He.ba (show ((match K.lookup cda with
          | some ⟨_, _, .fields vs, _⟩ => fileB file vs
          | _ => false) && (match K.lookup cc with
          | some ⟨_, _, .cell (some (.ref D)), _⟩ => decide (D = He.ga K x)
          | _ => false)) = true from last)
        refine ⟨oc, od, kV, doc, pm, an, cda, ct, osl, cc, p1, p2, kk, q1, q2, q3, q4, q5, q6, q7, q8, q9, q10, ?_, h3, s4, ?_, ?_⟩
        · rw [lk, h1, hdV]
          show some (⟨oc, od, .func (PySem.W.fnX "__init__" q (defArgs st) (defBody st) (defScope st) [("__class__", cc)] .none kV doc pm an (.ref cda) ct), osl⟩ : Obj) = _
          rw [s1, s2, s3]
        · split at l1
          · rename_i ccl cdd vs ccs hk
            obtain ⟨tf, e⟩ := fileB_ok l1
            exact ⟨_, _, _, _, tf, hk, e⟩
          · cases l1
        · split at l2
          · rename_i a b D c2 hk
            have e := of_decide_eq_true l2
            subst e
            exact ⟨_, _, _, hk⟩
          · cases l2
  | _ => cases last
end Hd
set_option Elab.async false
set_option linter.all false
set_option maxRecDepth 100000
set_option maxHeartbeats 0
set_option exponentiation.threshold 100000
namespace K35
open PySem PySem.Spec PyProof.Rows L2 Fa Fb
/-! ### where the defs stand, and what is asked of the written part -/
def pa (K : PySem.W.Frag) (f : Str) : Addr := He.ma K (CA K) f
def ga2 (K : PySem.W.Frag) (f : Str) : Addr := match PySem.W.recIn K (pa K f) "property" with
  | some (.ref g :: _) => g
  | _ => 0
open Hd in
def dG (x : Str) (i : Nat) : Def := { ad := fun K => He.ga K x, name := x, qual := x, st := top i }
open Hd in
def dM (m q : Str) (j : Nat) (dfl : List He.Dv := []) : Def := { ad := fun K => He.ma K (CA K) m, name := m, qual := q, st := inClass (top 34) j, dfl := dfl }
open Hd in
def dP (m q : Str) (j : Nat) : Def := { ad := fun K => ga2 K m, name := m, qual := q, st := inClass (top 34) j }
open Hd in
def dC (C : PySem.W.Frag → Addr) (m q : Str) (i j : Nat) (dfl : List He.Dv := []) : Def := { ad := fun K => He.ma K (C K) m, name := m, qual := q, st := inClass (top i) j, dfl := dfl }
open Hd in
def ds0 : List Hd.Def := [dC CA "__init__" "Amount.__init__" 34 0 [.int 1], dP "top" "Amount.top" 1, dP "bottom" "Amount.bottom" 2, dC CA "__eq__" "Amount.__eq__" 34 3 [], dC CA "__add__" "Amount.__add__" 34 4 [], dC (fun K => He.ga K "Sheet") "__init__" "Sheet.__init__" 49 0 [], dC (fun K => He.ga K "Sheet") "_tell" "Sheet._tell" 49 1 [], dC (fun K => He.ga K "Sheet") "__eq__" "Sheet.__eq__" 49 4 [], dC (fun K => He.ga K "Sheet") "cues" "Sheet.cues" 49 6 [], dG "_law_cell" 59, dG "_law_box" 60, dG "_law_take" 61, dG "is_whole" 23, dG "is_amount" 35, dG "as_amount" 36, dG "has_only" 27, dG "is_name" 26, dG "is_unit" 28, dG "check_unit" 29, dG "_law_lowest" 62]
open Hd in
def ds1 : List Hd.Def := [dG "_decimal" 38, dG "amount_text" 37, dG "is_integer" 25, dG "_is_number" 40, dG "amount_of" 39, dG "_law_number" 71, dG "_law_read_amount" 72, dG "is_listing" 24, dG "parted" 43, dG "extended" 44, dG "check_cue" 50, dG "_law_added" 63, dG "_law_led" 65, dG "_law_rows" 66, dG "_law_moments" 67, dG "_law_amount" 64, dG "_law_cues" 68, dG "_law_passed" 69, dG "check_sheet" 51, dG "_law_is_named" 73]
open Hd in
def ds2 : List Hd.Def := [dG "_cue_of" 57, dG "sheet_of" 56, dG "sheet_text" 55, dG "_law_line" 70, dG "_law_due" 74, dG "_law_told" 75, dG "_law_bent" 76, dG "_law_is_none" 77, dG "law" 78, Hd.excD "InvalidInteger" "InvalidInteger.__init__" (inClass (top 6) 0), Hd.excD "InvalidAmount" "InvalidAmount.__init__" (inClass (top 7) 0), Hd.excD "InvalidUnit" "InvalidUnit.__init__" (inClass (top 10) 0), Hd.excD "InvalidSheet" "InvalidSheet.__init__" (inClass (top 13) 0), Hd.excD "InvalidName" "InvalidName.__init__" (inClass (top 9) 0), Hd.excD "InvalidString" "InvalidString.__init__" (inClass (top 14) 0), Hd.excD "InvalidLine" "InvalidLine.__init__" (inClass (top 15) 0), Hd.excD "Duplicate" "Duplicate.__init__" (inClass (top 12) 0), Hd.excD "TooMany" "TooMany.__init__" (inClass (top 17) 0), Hd.excD "UnknownCue" "UnknownCue.__init__" (inClass (top 16) 0)]
def ds : List Hd.Def := ds0 ++ ds1 ++ ds2
def gloB (K : PySem.W.Frag) (x : Str) : Bool := He.eqO (PySem.W.nsIn K mainGlobals x) (some (some (.ref (He.ga K x))))
def freeB (K : PySem.W.Frag) (x : Str) : Bool := He.eqO (PySem.W.nsIn K mainGlobals x) (some none)
def clsB (K : PySem.W.Frag) (C : Addr) : Bool := Hd.allB [PySem.W.plainGet K C Str.empty, PySem.W.hasDictIn K C, PySem.W.plainOver K C, He.eqO (PySem.W.findIn K (.ref C) "__setattr__") (some (some (.builtin "object.__setattr__"))), He.eqO (PySem.W.findIn K (.ref C) "_top") (some none), He.eqO (PySem.W.findIn K (.ref C) "_bottom") (some none),
  PySem.W.makesIn K C, He.eqO (PySem.W.findIn K (.ref C) "__init__") (some (some (.ref (He.ma K C "__init__")))), PySem.W.isFn K (.ref (He.ma K C "__init__")), PySem.W.keepIn K (.ref C), He.eqO (PySem.W.nsIn K mainGlobals "gcd") (some (some (.builtin "math.gcd"))),
  decide (PySem.W.kitOne K (.ref C) (.type "int") = some false), decide (PySem.W.kitOne K (.ref C) (.type "bool") = some false), decide (PySem.W.kitOne K (.ref C) (.ref C) = some true), tys.all fun T => decide (PySem.W.kitOne K (.type T) (.ref C) = some false),
  He.eqO (PySem.W.findIn K (.ref C) "__class__") (some (some (.builtin "object.__class__"))), He.eqO (PySem.W.specialIn K (.builtin "object.__class__") "__get__") (some (some (.builtin "getset_descriptor.__get__"))), decide (PySem.W.takesIn K (.builtin "object.__class__") = some true),
  decide (PySem.W.mroIn K C (.type "object") = some true), tys.all fun T => decide (PySem.W.subIn K (.type T) (.ref C) = some false), PySem.W.selfFirst K C]
def tyopB (K : PySem.W.Frag) (nm T : String) : Bool := (PySem.W.findIn K (.type T) (PySem.dunder nm)).isSome && (PySem.W.findIn K (.type T) (dunderR nm)).isSome
def opB (K : PySem.W.Frag) (nm : String) (m : Str) : Bool := He.eqO (PySem.W.findIn K (.ref (CA K)) (PySem.dunder nm)) (some (some (.ref (He.ma K (CA K) m)))) && (PySem.W.isFn K (.ref (He.ma K (CA K) m)) && (He.eqO (PySem.W.findIn K (.ref (CA K)) (dunderR nm)) (some none) && tys.all fun T => tyopB K nm T))
def meB (K : PySem.W.Frag) (m : Str) : Bool := He.eqO (PySem.W.findIn K (.ref (CA K)) m) (some (some (.ref (He.ma K (CA K) m)))) && (PySem.W.isFn K (.ref (He.ma K (CA K) m)) && PySem.W.keepIn K (.ref (He.ma K (CA K) m)))
def prB (K : PySem.W.Frag) (f : Str) : Bool := He.eqO (PySem.W.findIn K (.ref (CA K)) f) (some (some (.ref (pa K f)))) && (He.eqO (PySem.W.specialIn K (.ref (pa K f)) "__get__") (some (some (.builtin "property.__get__"))) && (decide (PySem.W.takesIn K (.ref (pa K f)) = some true) &&
  match PySem.W.recIn K (pa K f) "property" with
  | some (.ref g :: _) => decide (g = ga2 K f)
  | _ => false))
def sysB (K : PySem.W.Frag) : Bool := match K.lookup sysModules with
  | some ⟨_, _, .dict _ _, _⟩ => true
  | _ => false
def strsB : List Value → List Str → Bool
  | [], [] => true
  | .str x _ :: l, z :: r => decide (x = z) && strsB l r
  | _, _ => false
def tupB (K : PySem.W.Frag) (a : Addr) (zs : List Str) : Bool := match K.lookup a with
  | some ⟨.type t, _, .seq its _, _⟩ => decide (t = "tuple") && (decide (its.size ≤ sizeLine) && strsB its.toList zs)
  | _ => false
def smB (K : PySem.W.Frag) (m : Str) : Bool := He.eqO (PySem.W.findIn K (.ref (He.ga K "Sheet")) m) (some (some (.ref (He.ma K (He.ga K "Sheet") m)))) && (PySem.W.isFn K (.ref (He.ma K (He.ga K "Sheet") m)) && PySem.W.keepIn K (.ref (He.ma K (He.ga K "Sheet") m)))
def sheetB (K : PySem.W.Frag) (C : Addr) : Bool := Hd.allB [PySem.W.plainGet K C Str.empty, PySem.W.hasDictIn K C, PySem.W.plainOver K C, He.eqO (PySem.W.findIn K (.ref C) "__setattr__") (some (some (.builtin "object.__setattr__"))), He.eqO (PySem.W.findIn K (.ref C) "_cues") (some none), He.eqO (PySem.W.findIn K (.ref C) "_rows") (some none), He.eqO (PySem.W.findIn K (.ref C) "_numbers") (some none),
  PySem.W.makesIn K C, He.eqO (PySem.W.findIn K (.ref C) "__init__") (some (some (.ref (He.ma K C "__init__")))), PySem.W.isFn K (.ref (He.ma K C "__init__")), PySem.W.keepIn K (.ref C)]
def glos0 : List Str := ["law", "Amount", "Sheet", "InvalidInteger", "InvalidAmount", "InvalidUnit", "InvalidSheet", "InvalidName", "InvalidString", "InvalidLine", "Duplicate", "TooMany", "UnknownCue", "UNITS", "_law_cell", "_law_box", "_law_take", "is_whole", "is_amount", "as_amount"]
def glos1 : List Str := ["has_only", "is_name", "is_unit", "check_unit", "_law_lowest", "_decimal", "amount_text", "is_integer", "_is_number", "amount_of", "_law_number", "_law_read_amount", "is_listing", "parted", "extended", "check_cue", "_law_added", "_law_led", "_law_rows", "_law_moments"]
def glos2 : List Str := ["_law_amount", "_law_cues", "_law_passed", "check_sheet", "_law_is_named", "_cue_of", "sheet_of", "sheet_text", "_law_line", "_law_due", "_law_told", "_law_bent", "_law_is_none"]
def glos : List Str := glos0 ++ glos1 ++ glos2
def frees : List Str := ["abs", "all", "bool", "enumerate", "int", "isinstance", "len", "list", "max", "min", "range", "repr", "reversed", "str", "tuple"]
def file : Str := PySem.Challenge.pw_anytempo_k35_texts_of_sheets.main.file
def chk (K : PySem.W.Frag) : Bool := Hd.allB [glos.all (gloB K), frees.all (freeB K), clsB K (CA K), sheetB K (He.ga K "Sheet"), meB K "__eq__", He.eqO (PySem.W.findIn K (.ref (CA K)) "__ne__") (some (some (.builtin "object.__ne__"))), decide (PySem.W.subIn K (.ref (CA K)) (.type "object") = some true), opB K "add" "__add__", He.eqO (PySem.W.findIn K (.ref (He.ga K "Sheet")) "__ne__") (some (some (.builtin "object.__ne__"))), decide (PySem.W.subIn K (.ref (He.ga K "Sheet")) (.type "object") = some true), prB K "top", prB K "bottom", smB K "_tell", smB K "__eq__", smB K "cues", decide (He.ga K "Sheet" ≠ CA K), decide (PySem.W.kitOne K (.ref (He.ga K "Sheet")) (.ref (He.ga K "Sheet")) = some true), tys.all fun T => decide (PySem.W.kitOne K (.type T) (.ref (He.ga K "Sheet")) = some false), He.eqO (PySem.W.findIn K (.ref (He.ga K "Sheet")) "__class__") (some (some (.builtin "object.__class__"))), decide (PySem.W.mroIn K (He.ga K "Sheet") (.type "object") = some true), decide (PySem.W.kitOne K (.ref (He.ga K "Sheet")) (.type "str") = some false), (He.Fa.int "MOST_TOP_DIGITS" 6).ok K, (He.Fa.int "MOST_BOTTOM_DIGITS" 4).ok K, (He.Fa.int "MOST_BOTTOM" 1000).ok K, [(He.ga K "InvalidLine", He.ga K "InvalidString"), (He.ga K "Duplicate", He.ga K "InvalidString"), (He.ga K "Duplicate", He.ga K "InvalidLine"), (He.ga K "UnknownCue", He.ga K "InvalidString"), (He.ga K "UnknownCue", He.ga K "InvalidLine"), (He.ga K "UnknownCue", He.ga K "Duplicate"), (He.ga K "TooMany", He.ga K "InvalidString"), (He.ga K "TooMany", He.ga K "InvalidLine"), (He.ga K "TooMany", He.ga K "Duplicate"), (He.ga K "TooMany", He.ga K "UnknownCue")].all fun p => decide (PySem.W.exmOne K (.ref p.1) (.ref p.2) = some false), sysB K, tupB K (He.ga K "UNITS") ["beats", "seconds"], (He.Fa.int "LONGEST_NAME" 8).ok K, (He.Fa.int "MOST_MOMENTS" 8).ok K, (He.Fa.str "LETTERS" LET).ok K, (He.Fa.str "DIGITS" DIG).ok K, (He.Fa.str "START" "start").ok K, Hd.excB file K "InvalidInteger" "value", Hd.excB file K "InvalidAmount" "value", Hd.excB file K "InvalidUnit" "value", Hd.excB file K "InvalidSheet" "value", Hd.excB file K "InvalidName" "value", Hd.excB file K "InvalidString" "value", Hd.excB file K "InvalidLine" "index", Hd.excB file K "Duplicate" "label", Hd.excLB file K "TooMany" "most", Hd.excKB file K "UnknownCue" "label"]
end K35
set_option Elab.async false
set_option linter.all false
set_option maxRecDepth 100000
set_option maxHeartbeats 4000000
/-! As HK2's hook, the dict of sys.modules beside. -/
namespace Hd
open PySem PySem.Spec PyProof.Rows L2
def adS (g : Addr → Option Obj) (n : Nat) : List Addr := sysModules :: grow g n
def hookS (n : Nat) (ds : List Def) (chk : PySem.W.Frag → Bool) : PySem.W.Hook where
  α := Al
  obs := fun s => obsK ds chk (He.frG s.heap.get? (adS s.heap.get? n))
  val := fun _ => valK ds
  says := fun _ h => ∃ K : PySem.W.Frag, K.In h ∧ obsK ds chk K = valK ds
  of := fun _ _ e => ⟨_, He.frG_in, e⟩
  keeps := fun _ _ _ ⟨K, hK, c⟩ k => ⟨K, PySem.W.Frag.In.keeps hK k, c⟩
def obS (n : Nat) (ds : List Def) (chk : PySem.W.Frag → Bool) (s : PySem.W.SharedT) : Al := obsK ds chk (He.frG (HandSHeadRun.getT s) (adS (HandSHeadRun.getT s) n))
theorem obS_eq (n : Nat) (ds : List Def) (chk : PySem.W.Frag → Bool) (s : PySem.W.SharedT) : obS n ds chk s = (hookS n ds chk).obs s.abs := by
  have e : HandSHeadRun.getT s = s.abs.heap.get? := funext fun a => HandSHeadRun.getT_eq s a
  unfold obS
  rw [e]
  rfl
end Hd
set_option Elab.async false
set_option linter.all false
set_option maxRecDepth 100000
set_option maxHeartbeats 4000000
/-! As HK3's hook, over a list of places that is told. -/
namespace Hd
open PySem PySem.Spec PyProof.Rows L2
def hookL (as : List Addr) (ds : List Def) (chk : PySem.W.Frag → Bool) : PySem.W.Hook where
  α := Al
  obs := fun s => obsK ds chk (He.frG s.heap.get? as)
  val := fun _ => valK ds
  says := fun _ h => ∃ K : PySem.W.Frag, K.In h ∧ obsK ds chk K = valK ds
  of := fun _ _ e => ⟨_, He.frG_in, e⟩
  keeps := fun _ _ _ ⟨K, hK, c⟩ k => ⟨K, PySem.W.Frag.In.keeps hK k, c⟩
def obL (as : List Addr) (ds : List Def) (chk : PySem.W.Frag → Bool) (s : PySem.W.SharedT) : Al := obsK ds chk (He.frG (HandSHeadRun.getT s) as)
theorem obL_eq (as : List Addr) (ds : List Def) (chk : PySem.W.Frag → Bool) (s : PySem.W.SharedT) : obL as ds chk s = (hookL as ds chk).obs s.abs := by
  have e : HandSHeadRun.getT s = s.abs.heap.get? := funext fun a => HandSHeadRun.getT_eq s a
  unfold obL
  rw [e]
  rfl
end Hd
set_option Elab.async false
set_option linter.all false
set_option maxRecDepth 100000
set_option maxHeartbeats 0
namespace K35
open PySem PySem.Spec PyProof.Rows L2
def nm0 : List PySem.Str := ["_wall", "CueError", "MissingError", "StateError", "InvalidInteger", "InvalidAmount", "InvalidPart", "InvalidName", "InvalidUnit", "InvalidCue", "Duplicate", "InvalidSheet", "InvalidString", "InvalidLine", "UnknownCue", "TooMany", "UNITS", "LETTERS", "DIGITS", "LONGEST_NAME", "is_whole", "is_listing", "is_integer", "is_name", "has_only"]
def nm1 : List PySem.Str := ["is_unit", "check_unit", "MOST_TOP_DIGITS", "MOST_BOTTOM_DIGITS", "MOST_BOTTOM", "Amount", "is_amount", "as_amount", "amount_text", "_decimal", "amount_of", "_is_number", "on_one_bottom", "parted", "extended", "gap", "START", "MOST_MOMENTS", "Sheet", "check_cue", "check_sheet", "check_known", "check_moment", "sheet_text", "sheet_of"]
def nm2 : List PySem.Str := ["_cue_of", "_law_cell", "_law_box", "_law_take", "_law_lowest", "_law_added", "_law_amount", "_law_led", "_law_rows", "_law_moments", "_law_cues", "_law_passed", "_law_line", "_law_number", "_law_read_amount", "_law_is_named", "_law_due", "_law_told", "_law_bent", "_law_is_none"]
def nms : List PySem.Str := nm0 ++ nm1 ++ nm2
def as0 : List Addr := [1, 3, 2, 6, 4, 49, 59, 72, 85, 107, 128, 149, 170, 191, 212, 233, 254, 275, 296, 317, 338, 341, 348, 355, 362, 369, 374, 381, 388, 478]
def as1 : List Addr := [489, 496, 503, 510, 517, 524, 529, 536, 543, 550, 673, 684, 691, 698, 705, 710, 717, 724, 731, 738, 745, 752, 759, 766, 773, 780, 785, 790, 795, 802]
def as2 : List Addr := [807, 814, 819, 826, 831, 838, 845, 850, 16, 20, 22, 27, 33, 38, 0, 48, 58, 71, 84, 106, 127, 148, 169, 190, 211, 232, 253, 274, 295, 316]
def as3 : List Addr := [337, 347, 354, 361, 368, 373, 380, 387, 477, 488, 495, 502, 509, 516, 523, 528, 535, 542, 549, 672, 683, 690, 697, 704, 709, 716, 723, 730, 737, 744]
def as4 : List Addr := [751, 758, 765, 772, 779, 784, 789, 794, 801, 806, 813, 818, 825, 830, 837, 844, 849, 15, 21, 26, 32, 43, 44, 45, 46, 47, 57, 60, 70, 73]
def as5 : List Addr := [83, 86, 104, 105, 125, 126, 146, 147, 167, 168, 188, 189, 209, 210, 230, 231, 251, 252, 272, 273, 293, 294, 314, 315, 335, 336, 342, 343, 344, 345]
def as6 : List Addr := [346, 349, 350, 351, 352, 353, 356, 357, 358, 359, 360, 363, 364, 365, 366, 367, 370, 371, 372, 375, 376, 377, 378, 379, 382, 383, 384, 385, 386, 403]
def as7 : List Addr := [411, 419, 426, 433, 440, 447, 454, 461, 468, 475, 476, 479, 480, 483, 484, 485, 486, 487, 490, 491, 492, 493, 494, 497, 498, 499, 500, 501, 504, 505]
def as8 : List Addr := [506, 507, 508, 511, 512, 513, 514, 515, 518, 519, 520, 521, 522, 525, 526, 527, 530, 531, 532, 533, 534, 537, 538, 539, 540, 541, 544, 545, 546, 547]
def as9 : List Addr := [548, 564, 571, 578, 585, 592, 597, 604, 611, 618, 625, 632, 639, 644, 651, 658, 665, 670, 671, 674, 675, 678, 679, 680, 681, 682, 685, 686, 687, 688]
def as10 : List Addr := [689, 692, 693, 694, 695, 696, 699, 700, 701, 702, 703, 706, 707, 708, 711, 712, 713, 714, 715, 718, 719, 720, 721, 722, 725, 726, 727, 728, 729, 732]
def as11 : List Addr := [733, 734, 735, 736, 739, 740, 741, 742, 743, 746, 747, 748, 749, 750, 753, 754, 755, 756, 757, 760, 761, 762, 763, 764, 767, 768, 769, 770, 771, 774]
def as12 : List Addr := [775, 776, 777, 778, 781, 782, 783, 786, 787, 788, 791, 792, 793, 796, 797, 798, 799, 800, 803, 804, 805, 808, 809, 810, 811, 812, 815, 816, 817, 820]
def as13 : List Addr := [821, 822, 823, 824, 827, 828, 829, 832, 833, 834, 835, 836, 839, 840, 841, 842, 843, 846, 847, 848, 17, 18, 19, 23, 24, 25, 28, 34, 35, 36]
def as14 : List Addr := [103, 92, 124, 113, 145, 134, 166, 155, 187, 176, 208, 197, 229, 218, 250, 239, 271, 260, 292, 281, 313, 302, 334, 323, 402, 396, 410, 418, 425, 432]
def as15 : List Addr := [439, 446, 453, 460, 467, 474, 563, 570, 577, 584, 591, 596, 603, 610, 617, 624, 631, 638, 643, 650, 657, 664, 669, 98, 99, 100, 101, 102, 119, 120]
def as16 : List Addr := [121, 122, 123, 140, 141, 142, 143, 144, 161, 162, 163, 164, 165, 182, 183, 184, 185, 186, 203, 204, 205, 206, 207, 224, 225, 226, 227, 228, 245, 246]
def as17 : List Addr := [247, 248, 249, 266, 267, 268, 269, 270, 287, 288, 289, 290, 291, 308, 309, 310, 311, 312, 329, 330, 331, 332, 333, 397, 398, 399, 400, 401, 409, 417]
def as18 : List Addr := [420, 421, 422, 423, 424, 427, 428, 429, 430, 431, 434, 435, 436, 437, 438, 441, 442, 443, 444, 445, 448, 449, 450, 451, 452, 455, 456, 457, 458, 459]
def as19 : List Addr := [462, 463, 464, 465, 466, 469, 470, 471, 472, 473, 558, 559, 560, 561, 562, 565, 566, 567, 568, 569, 572, 573, 574, 575, 576, 579, 580, 581, 582, 583]
def as20 : List Addr := [586, 587, 588, 589, 590, 593, 594, 595, 598, 599, 600, 601, 602, 605, 606, 607, 608, 609, 612, 613, 614, 615, 616, 619, 620, 621, 622, 623, 626, 627]
def as21 : List Addr := [628, 629, 630, 633, 634, 635, 636, 637, 640, 641, 642, 645, 646, 647, 648, 649, 652, 653, 654, 655, 656, 659, 660, 661, 662, 663, 666, 667, 668]
def asL : List Addr := as0 ++ as1 ++ as2 ++ as3 ++ as4 ++ as5 ++ as6 ++ as7 ++ as8 ++ as9 ++ as10 ++ as11 ++ as12 ++ as13 ++ as14 ++ as15 ++ as16 ++ as17 ++ as18 ++ as19 ++ as20 ++ as21
abbrev lawAt : Nat := 78
abbrev RR : PySem.W.OpenRow := PySem.W.OpenLaw.row PySem.Challenge.rw_anytempo_k35_texts_of_sheets
abbrev hk : PySem.W.Hook := Hd.hookL asL ds chk
theorem run (w : World) : HandSHeadRun.RunEqI RR (PySem.W.view RR.prog [0, lawAt]) hk (Hd.obL asL ds chk) 20000 nms w := by
  unfold HandSHeadRun.RunEqI
  kernel_rfl
end K35
set_option Elab.async false
set_option linter.all false
set_option maxRecDepth 100000
set_option maxHeartbeats 4000000
set_option exponentiation.threshold 100000
namespace K35
open PySem PySem.Spec PyProof.Rows L2 Fa Fb
abbrev sLow : Stmt := top 62
theorem scLow : FnScope ["_law_top", "_law_bottom", "_law_one", "_law_other"] ["_law_top", "_law_bottom"] (defScope sLow) := ⟨rfl, rfl, rfl, by decide +kernel, rfl, by decide +kernel, by decide +kernel⟩
def spLow : Sp := fun vs H Q _ => ∃ a b : Int, vs = [.int a, .int b] ∧ b ≠ 0 ∧ b.natAbs < 2 ^ 8000 ∧ ∀ p t u, H p = none → Am.Red t u → t * b = a * u → t.natAbs ≤ a.natAbs → u.natAbs ≤ b.natAbs → Q (.ref p) (upd H p (.tup [.int t, .int u]))
section
variable {P : Program} {w : World} {K : PySem.W.Frag} {mg : Str → Option Value} {base : Heap} {f : Addr} {fd : FuncData}
theorem absI (x : Int) : (if x < 0 then -x else x) = (x.natAbs : Int) := by split <;> omega
theorem ok_low (F : FnP K "_law_lowest" sLow f fd) (mA : mg "abs" = none) : FnOk P w K mg base (L2.CX P w) 1 f fd ["_law_top", "_law_bottom"] spLow := by
  refine F.ok scLow (fun vs H Q E h => ?_) (fun cdv A outer s H vs Q E hr h => ?_)
  · obtain ⟨a, b, rfl, _⟩ := h
    rfl
  · obtain ⟨a, b, rfl, hb, hB, q⟩ := h
    refine ⟨_, pss_cons (ps_par (by rfl) scLow.nd (i := 2) (j := 3) rfl rfl (by decide) rfl rfl (pa_cons (pe_callB call_abs rfl mA (by decide +kernel) (pa_cons (pv 0) pa_nil)) (pa_cons (pe_callB call_abs rfl mA (by decide +kernel) (pa_cons (pv 1) pa_nil)) pa_nil)) (by rfl))
      (pss_cons (ps_while (passes_of rfl) (pt_cmpR op_gt (pv 3) pe_int (nomark _)) (pss_one (ps_par (by rfl) scLow.nd (i := 2) (j := 3) rfl rfl (by decide) rfl rfl (pa_cons (pv 3) (pa_cons (pe_op op_mod (pv 2) (pv 3)) pa_nil)) (by rfl))))
      (pss_cons (ps_set (i := 2) scLow.nd rfl (Or.inl rfl) (pe_ifExp (pt_cmpR op_gt (pv 1) pe_int (nomark _)) (pv 2) (pe_op op_sub pe_int (pv 2))))
      (pss_one (ps_ret (pe_tup (pa_cons (pe_op op_fdivX (pv 0) (pv 2)) (pa_cons (pe_op op_fdivX (pv 1) (pv 2)) pa_nil))))))), ?_⟩
    refine ⟨_, rfl, _, rfl, _, rfl, _, rfl, _, _, rfl, ?_⟩
    refine while_by (fun σ H' => H' = H ∧ ∃ x y : Int, σ = [some (.int a), some (.int b), some (.int x), some (.int y)] ∧ 0 ≤ x ∧ 0 ≤ y ∧ Nat.gcd x.natAbs y.natAbs = Nat.gcd a.natAbs b.natAbs)
      (fun σ _ => match σ with | [_, _, _, some (.int y)] => y.toNat | _ => 0) ⟨rfl, _, _, rfl, ?_, ?_, ?_⟩ ?_ ?_
    · split <;> omega
    · split <;> omega
    · rw [absI, absI, Int.natAbs_natCast, Int.natAbs_natCast]
    · rintro σ H' ⟨rfl, x, y, rfl, hx, hy, hg⟩
      refine ⟨_, rfl, _, _, rfl, rfl, _, rfl, ?_⟩
      by_cases c : 0 < y
      · refine if_true_of (decide_eq_true c) ?_
        refine ⟨_, rfl, _, rfl, _, rfl, _, _, rfl, rfl, c, _, _, rfl, ?_⟩
        have m0 : 0 ≤ x % y := Int.emod_nonneg _ (by omega)
        have m1 : x % y < y := Int.emod_lt_of_pos _ c
        refine ⟨⟨rfl, y, x % y, rfl, hy, m0, ?_⟩, ?_⟩
        · rw [← hg, ← Am.gcd_step (show 0 < y.natAbs by omega)]
          congr 1
          rw [Int.natAbs_emod_of_nonneg hx]
        · show (x % y).toNat < y.toNat
          omega
      · refine if_false_of (decide_eq_false c) ?_
        have y0 : y = 0 := by omega
        subst y0
        have ex : x = ((Nat.gcd a.natAbs b.natAbs : Nat) : Int) := by
          have : x.natAbs = Nat.gcd a.natAbs b.natAbs := by simpa using hg
          omega
        obtain ⟨k1, k2, k3, k4, k5, k6⟩ := Am.mk a b hb _ rfl
        have lg : (if b < 0 then -((Nat.gcd a.natAbs b.natAbs : Nat) : Int) else ((Nat.gcd a.natAbs b.natAbs : Nat) : Int)).natAbs.log2 < 9000 := Nat.lt_trans ((Nat.log2_lt (by omega)).mpr (Nat.lt_of_le_of_lt k2 hB)) (by decide)
        refine ⟨_, rfl, _, _, rfl, rfl, _, rfl, ?_⟩
        by_cases c2 : 0 < b
        · rw [if_neg (show ¬ b < 0 by omega), ← ex] at k1 k3 k4 k5 k6 lg
          refine if_true_of (decide_eq_true c2) ⟨_, rfl, _, rfl, _, rfl, _, _, rfl, rfl, ⟨k1, lg⟩, _, rfl, _, rfl, _, _, rfl, rfl, ⟨k1, lg⟩, by show 2 ≤ sizeLine; decide, fun p hp => ?_⟩
          exact q p _ _ hp k3 k4 k5 k6
        · have e0 : (0 : Int) - x = -x := by omega
          rw [if_pos (show b < 0 by omega), ← ex, ← e0] at k1 k3 k4 k5 k6 lg
          refine if_false_of (decide_eq_false c2) ⟨_, rfl, _, _, rfl, rfl, ?_⟩
          refine ⟨_, rfl, _, rfl, _, _, rfl, rfl, ⟨k1, lg⟩, _, rfl, _, rfl, _, _, rfl, rfl, ⟨k1, lg⟩, by show 2 ≤ sizeLine; decide, fun p hp => ?_⟩
          exact q p _ _ hp k3 k4 k5 k6
    · intro σ H' Q1 Q2 k h
      obtain ⟨v, h1, i, j, h2, h3, b', h4, h5⟩ := h
      exact ⟨v, h1, i, j, h2, h3, b', h4, k _ _ h5⟩
end
end K35

set_option Elab.async false
set_option linter.all false
set_option maxRecDepth 100000
set_option maxHeartbeats 4000000
/-! sep.join(reversed(a list of texts)) -/
namespace Fj
open PySem PySem.Spec PyProof.Rows PySem.Builtin PySem.Builtin.Str RT
section
variable {prog : Program} {w : World} {A : Around} {E : Value → Shared → Prop} {s : Shared}
theorem join_rev {x : Str} {t : Tok} {ys : List Str} {it l : Addr} {items : Array Value} {Q : Value → Shared → Prop} (hh : A.handled = none) (hit : s.heap.IsRevIter it l ((items.size : Int) - 1)) (hl : s.heap.IsList l items) (hne : l ≠ it) (hn : items.size ≤ sizeLine)
    (hP : ∀ acc : Array Value, ItemsOf (fun i v => items[items.size - 1 - i]? = some v) acc items.size → StrsAre acc.toList ys) (hok : (ys.map (·.length)).sum + ys.length * x.length ≤ 16777216)
    (hq : ∀ h' t' k, (∀ b o, b ≠ it → s.heap.get? b = some o → h'.get? b = some o) → Q (.str (Txt.join x ys) t') { s with heap := h', toks := k }) :
    wpAny (model prog w) A (call (.builtin "str.join") [.str x t, .ref it]) Q E s := by
  refine wpAny_call (codeAny_call_builtin F.slot_str_join.plain F.entry_str_join (F.slot_str_join.check _ _ _ _ _ _ _ _ (typeIs_str _ _ _) (F.args_str_join_2 _ _) ?_))
  have ty : s.TypeIs (.ref it) "list_reverseiterator" := hit.typeIs
  rw [join_tree_other]
  refine wpAny_bind (wpAny_typeOf ty ?_)
  show wpAny _ A.in1 ((pyIter (.ref it)).tryCatch _ >>= fun z => collect z >>= fun got => joinTail x got) _ _ s
  refine wpAny_bind (wpAny_tryCatch (wpAny_pyIter_revIter hit ?_))
  refine wpAny_bind (collect_rev (A := A.in1) hh hit hl hne hn fun h' tk acc hk hacc => ?_)
  obtain ⟨vals, hv, ht⟩ := strsAre_values (hP acc hacc)
  subst ht
  rw [hv]
  have fits := joinOk_of hok
  unfold JoinOk at fits
  rw [Bool.not_eq_true'] at fits
  have made : Gives (joinTail x (strValues vals)) (joinMade x vals) := by
    have z := gives_joinTail x vals fits
    cases vals with
    | nil => exact z
    | cons p1 rest => cases rest with
      | nil => exact z
      | cons p2 rest2 => exact z
  exact made prog w A (wants Q E) _ (post_join vals ⟨joinFit_length fits, fun t' k => hq h' t' k hk⟩)
end
end Fj
namespace Fj
open PySem PySem.Spec PyProof.Rows L2
section
variable {X : Cx}
/-- sep.join(reversed(xs)), xs a list of texts -/
def tJoinRev (K : PySem.W.Frag) (to te : TE) : TE := fun σ H Q => to σ H fun x H1 => (∃ a, x = .str a) ∧ te σ H1 fun v H2 => ∃ (a : Str) (q : Addr) (ys : List Str), x = .str a ∧ v = .ref q ∧ SqL K H2 q (ys.map V.str) ∧ (ys.map (·.length)).sum + ys.length * a.length ≤ 16777216 ∧ Q (.str (Txt.join a ys.reverse)) H2
theorem sum_rev : ∀ l : List Nat, l.reverse.sum = l.sum
  | [] => rfl
  | a :: l => by
    rw [List.reverse_cons, List.sum_append, sum_rev l, List.sum_cons, List.sum_cons, List.sum_nil]
    omega
theorem pe_joinRev {o e : Expr} {to te : TE} {apos pos p pos2 : Pos} (hc : X.calm = true) (ho : PE X o to) (hg : Gl X "reversed") (hm : X.mg "reversed" = none) (he : PE X e te)
    (hs1 : starEach [.Call (.Name "reversed" p) [e] [] pos2] X.env = [(false, eval (.Call (.Name "reversed" p) [e] [] pos2) X.env)] := by rfl) (hs : starEach [e] X.env = (false, eval e X.env) :: starEach [] X.env := by rfl)
    (hbase : attributeBase o "join" X.env (eval o X.env) = eval o X.env := by rfl) (hline : (apos.endLine == pos.line) = true := by rfl) :
    PE X (.Call (.Attribute o "join" apos) [.Call (.Name "reversed" p) [e] [] pos2] [] pos) (tJoinRev X.K to te) := by
  constructor
  intro pn s σ H Q I h
  refine PySem.Call_method1 hbase hs1 hline (thn (ho.run pn s σ H _ I h) ?_)
  rintro v s1 ⟨x, H1, I1, r1, ⟨a, rfl⟩, q1⟩
  obtain ⟨t, rfl⟩ := _root_.id r1
  refine ⟨"str", _, F.plainAttrs_str, F.slot_str_join, F.type_str_join, typeIs_str _ _ _, (fun _ e => nomatch e), Calls.callWith_builtin rfl (Calls.evalArgs_plain (Calls.spliced_cons ?_))⟩
  refine Call_ (ld_blt I1 hg hm PyProof.Rows.boot_reversed (PyProof.Rows.callWith_type1 (args_cons (thn (he.run pn s1 σ H1 _ I1 q1) fun u s2 ⟨v2, H2, I2, r2, q2⟩ => args_nil ?_) hs) hs rfl))
  obtain ⟨a', q, ys, ea, rfl, hq, fits, q3⟩ := q2
  cases ea
  cases r2
  obtain ⟨its, rv, pl, hz⟩ := I2.list hq
  refine call_reversed_list pl.isList (Calls.spliced_nil ?_)
  have keep : ∀ b o, s2.heap.get? b = some o → (s2.heap.push (revObj q ((its.toArray.size : Int) - 1))).get? b = some o := fun b o e => Heap.get?_push_of_some _ e
  have J : Inv X pn σ H2 { s2 with heap := s2.heap.push (revObj q ((its.toArray.size : Int) - 1)) } := I2.kept (t' := s2.toks) keep
  obtain ⟨f0, f1, f2, f3, f4, f5⟩ := I2.fpOk (H' := H2) (b := s2.heap.objs.size) (Nat.le_refl _) (I2.hok.fresh (Nat.le_refl _))
  have hl := pl.isList
  obtain ⟨ol, hol, _⟩ := id hl
  have ne : q ≠ s2.heap.objs.size := Nat.ne_of_lt (Heap.lt_size hol)
  have hn : its.toArray.size ≤ sizeLine := by rw [List.size_toArray, ← rv.length]; exact hz
  refine join_rev (s := { s2 with heap := s2.heap.push (revObj q ((its.toArray.size : Int) - 1)) }) (ys := ys.reverse) (I2.ok.hd hc) ⟨_, Heap.get?_push_size _ rfl, rfl, rfl⟩ (hl.push _) ne hn (fun acc hacc => ?_) ?_ fun h' t' k hk => ?_
  · have z := RT.vals_rev rv hacc
    rw [← List.map_reverse] at z
    exact strs_of_vals z
  · rw [List.map_reverse, sum_rev, List.length_reverse]
    exact fits
  · exact ⟨.str _, H2, J.turned (t' := k) (fun b o hb e => hk b o hb e) f0 f1 f3 f4 f5, ⟨t', rfl⟩, q3⟩
end
end Fj
set_option Elab.async false
set_option linter.all false
set_option maxRecDepth 100000
set_option maxHeartbeats 4000000
/-! xs != [], xs == [] of lists of any items. -/
namespace Fk
open PySem PySem.Spec PyProof.Rows L2
theorem op_neNil {X : Cx} (hu : X.A.units + 64 < cLine) : OpR X (compareOp .NotEq) (fun x y H Q => ∃ (a b : Addr) (xs : List V), x = .ref a ∧ y = .ref b ∧ SqL X.K H a xs ∧ SqL X.K H b [] ∧ Q (.bl (!xs.isEmpty)) H) := by
  intro pn s σ H x y v u Q I rx ry h
  obtain ⟨a, b, xs, rfl, rfl, ha, hb, q⟩ := h
  cases rx
  cases ry
  obtain ⟨its, rv, pl, _⟩ := I.list ha
  obtain ⟨its2, rv2, pl2, _⟩ := I.list hb
  cases rv2
  show wpAny (model X.prog X.w) X.A (richCompare .NotEq (.ref a) (.ref b)) (EP X pn σ Q) X.xe s
  have hu1 : X.A.units < cLine := by omega
  cases rv with
  | nil => exact SeqAt.RcNeAt.lists (e := fun _ => true) pl.isList pl2.isList rfl hu1 (fun j h1 _ => absurd h1 (by simp)) X.prog X.w X.xe _ ⟨.bl _, H, I, rfl, q⟩
  | cons r rs => exact SeqAt.RcNeAt.lists_lengths pl.isList pl2.isList (by simp) hu1 X.prog X.w X.xe _ ⟨.bl _, H, I, rfl, q⟩
theorem op_eqNil {X : Cx} (hu : X.A.units + 64 < cLine) : OpR X (compareOp .Eq) (fun x y H Q => ∃ (a b : Addr) (xs : List V), x = .ref a ∧ y = .ref b ∧ SqL X.K H a xs ∧ SqL X.K H b [] ∧ Q (.bl xs.isEmpty) H) := by
  intro pn s σ H x y v u Q I rx ry h
  obtain ⟨a, b, xs, rfl, rfl, ha, hb, q⟩ := h
  cases rx
  cases ry
  obtain ⟨its, rv, pl, _⟩ := I.list ha
  obtain ⟨its2, rv2, pl2, _⟩ := I.list hb
  cases rv2
  show wpAny (model X.prog X.w) X.A (richCompare .Eq (.ref a) (.ref b)) (EP X pn σ Q) X.xe s
  have hu1 : X.A.units < cLine := by omega
  cases rv with
  | nil => exact SeqAt.RcAt.lists (e := fun _ => true) pl.isList pl2.isList rfl hu1 (fun j h1 _ => absurd h1 (by simp)) X.prog X.w X.xe _ ⟨.bl _, H, I, rfl, q⟩
  | cons r rs => exact SeqAt.RcAt.lists_lengths pl.isList pl2.isList (by simp) hu1 X.prog X.w X.xe _ ⟨.bl _, H, I, rfl, q⟩
end Fk
set_option Elab.async false
set_option linter.all false
set_option maxRecDepth 100000
set_option maxHeartbeats 4000000
/-! a dict == a text: False -/
namespace Fd
open PySem PySem.SeqAt
open AutoSeq1 (wpAny_loadPart')
open MeetsSeq MeetsSeq2 MeetsSeq3 SeqRoads2
theorem dict_eq_declines_str (l : Addr) (o : Obj) (b : Str) (u : Tok) :
    Meets (Builtin.«dict.__eq__» ⟨[.ref l, .str b u], []⟩) (fun _ R s => (s.heap.get? l = some o ∧ o.cls = .type "dict" ∧ ∃ es ep, o.data = .dict es ep) ∧ R (.ok (.ret .notImplemented)) s) :=
  .of_wp fun prog w A R s h => by
    obtain ⟨hp, g, d, tk, os⟩ := s
    obtain ⟨⟨hl, hc, es, ep, hd⟩, h⟩ := h
    obtain ⟨c, dd, da, sl⟩ := o
    simp only at hc hd
    subst hc hd
    have f1 := F.sub_str_dict
    wp_walk using wpAny_loadPart' hl, wpAny_load hl
    exact ⟨_, rfl, h⟩
theorem str_eq_declines_dict (l : Addr) (o : Obj) (b : Str) (u : Tok) :
    Meets (Builtin.«str.__eq__» ⟨[.str b u, .ref l], []⟩) (fun _ R s => (s.heap.get? l = some o ∧ o.cls = .type "dict" ∧ ∃ es ep, o.data = .dict es ep) ∧ R (.ok (.ret .notImplemented)) s) :=
  .of_wp fun prog w A R s h => by
    obtain ⟨hp, g, d, tk, os⟩ := s
    obtain ⟨⟨hl, hc, es, ep, hd⟩, h⟩ := h
    obtain ⟨c, dd, da, sl⟩ := o
    simp only at hc hd
    subst hc hd
    wp_walk using wpAny_loadPart' hl, wpAny_load hl
    exact ⟨_, rfl, h⟩
end Fd
namespace Fd
open PySem PySem.Spec PyProof.Rows L2
theorem op_eqDS {X : Cx} (hu : X.A.units < cLine) : OpR X (compareOp .Eq) (fun x y H Q => ∃ a kvs z, x = .ref a ∧ y = .str z ∧ H a = some (.dK kvs) ∧ Q (.bl false) H) := by
  intro pins s σ H x y v u Q I rx ry h
  obtain ⟨a, kvs, z, rfl, rfl, ha, q⟩ := h
  cases rx
  obtain ⟨t, rfl⟩ := ry
  obtain ⟨_, h1, vs, kv, hd⟩ := dk_of I.hok ha
  obtain ⟨o, es, ep, ho, hc, hdat, _⟩ := hd
  have f : s.heap.get? a = some o ∧ o.cls = .type "dict" ∧ ∃ es ep, o.data = .dict es ep := ⟨ho, hc.1, es, ep, hdat⟩
  show wpAny (model X.prog X.w) X.A (richCompare .Eq (.ref a) (.str z t)) (EP X pins σ Q) X.xe s
  exact SeqAt.rc_eq_decline_or (k := false) ⟨_, ho, hc.1⟩ (typeIs_str s z t) (by decide) F.sub_str_dict F.slot_dict_eq F.slot_str_eq_refl
    (fun _ hq => call_meets F.slot_dict_eq ⟨_, ho, hc.1⟩ F.entry_dict_eq (F.args_dict_eq_2 _ _) (dict_eq_declines_str a o z t) ⟨f, hq⟩)
    (fun _ hq => call_meets F.slot_str_eq_refl (typeIs_str s z t) F.entry_str_eq (F.args_str_eq_2 _ _) (str_eq_declines_dict a o z t) ⟨f, hq⟩)
    (fun _ hq => wpAny_of_eq (rfl : isSame (.ref a) (.str z t) = pure false) hq) (.inr hu) ⟨.bl false, H, I, rfl, q⟩
end Fd
set_option Elab.async false
set_option linter.all false
set_option maxRecDepth 100000
set_option maxHeartbeats 4000000
/-! a != b by an own == of the class, != being object's. -/
namespace PySem.W
open PySem PySem.Spec PySem.Calls PyProof.Rows
theorem one_plain : plainId "object.__ne__" = true := by decide +kernel
theorem one_entry : entryFor table "object.__ne__" = some Builtin.«object.__ne__» := entryFor_of_fast (by kernel_rfl)
theorem one_args (a b : Value) : argsOk "object.__ne__" ⟨[a, b], []⟩ := by unfold argsOk; kernel_rfl
theorem one_bind (self : Value) : bindSpecial (.builtin "object.__ne__") self = pure (.builtin "object.__ne__", [self]) :=
  (Slot.of (T := "object") (name := "__ne__") (owner := "object") (n := "__ne__") (by rw [typeLookup_type, builtinLookup_eq_fast]; kernel_rfl) (by decide +kernel) (by decide +kernel) (by decide +kernel)
    (.inl (by decide +kernel)) (by rw [isSubtype_type]; kernel_rfl)).bind self
section
variable {prog : Program} {w : World} {A A₀ : Around} {E : Value → Shared → Prop} {s : Shared} {K : Frag} {x C L f : Addr} {h₀ : Heap} {m : Str → Option Value} {ox : Obj} {od : Option Obj} {name : Str} {b tb : Value}
theorem ifBound_B {M : Model} {args : List Value} {id : String} {Q : Option Value → Shared → Prop} (X : K.In s.heap) (I : InstAt s.heap x ox C od) (hs : findIn K (.ref C) name = some (some (.builtin id))) (hb : ∀ self, bindSpecial (.builtin id) self = pure (.builtin id, [self]))
    (h : wpAny M A (call (.builtin id) (.ref x :: args)) (fun v => Q (some v)) E s) : wpAny M A (callSpecialIfBound? (.ref x) name args) Q E s := by
  simp only [callSpecialIfBound?, bindSpecialIfBound?]
  refine wpAny_holding (wpAny_bind (wpAny_bind (wpAny_bind (I.type.here ((looks_findIn X hs).here ?_)))))
  refine wpAny_bind (wpAny_askSetting (wpAny_ite ?_))
  have fin : wpAny M A (call (.builtin id) ([.ref x] ++ args) >>= fun v => pure (some v)) Q E s := wpAny_bind (wpAny_mono h (fun v s' h' => wpAny_pure h') fun _ _ h' => h')
  split
  · exact wpAny_bind (wpAny_of_eq (hb _) (wpAny_pure (by exact fin)))
  · exact wpAny_tryCatch (wpAny_bind (wpAny_of_eq (hb _) (wpAny_pure (by exact fin))))
theorem ne_call {Q : Value → Shared → Prop} (hu : A.in1.units < cLine) (X : K.In s.heap) (I : InstAt s.heap x ox C od) (ho : subIn K (.ref C) (.type "object") = some true) (hs : findIn K (.ref C) "__eq__" = some (some (.ref f))) (hf : isFn K (.ref f) = true)
    (h : wpAny (model prog w) A.in1 (call (.ref f) [.ref x, b]) (fun v s' => ∃ k, v = .bool k ∧ Q (.bool (!k)) s') E s) : wpAny (model prog w) A (call (.builtin "object.__ne__") [.ref x, b]) Q E s := by
  refine wpAny_call (codeAny_call_builtin one_plain one_entry ?_)
  refine @check_slot (model prog w) _ _ s "object.__ne__" "object" "__ne__" (.ref x) [b] [] _ (by decide +kernel) (by decide +kernel) (I.type.andThen (looks_subIn X ho)) (one_args _ _) ?_
  unfold Builtin.«object.__ne__»
  refine wpAny_bind (wpAny_of_eq (a := ((Value.ref x : Value), [b])) (by first | rfl | (simp only [slotArgs]; rfl)) ?_)
  refine wpAny_bind (wpAny_cRoomFor hu ?_)
  refine wpAny_bind (ifBound_K X I hs hf (wpAny_mono h (fun v s' hv => ?_) fun _ _ e => e))
  obtain ⟨k, rfl, q⟩ := hv
  refine wpAny_bind (wpAny_truthy_bool ?_)
  exact wpAny_pure q
theorem ne_K {Q : Value → Shared → Prop} (hu : A.units < cLine) (hu1 : A.in1.units < cLine) (X : K.In s.heap) (I : InstAt s.heap x ox C od) (hb : Looks (model prog w) s.heap (typeOf b) tb) (hn : notFirst K C tb = true)
    (hne : findIn K (.ref C) "__ne__" = some (some (.builtin "object.__ne__"))) (ho : subIn K (.ref C) (.type "object") = some true) (hs : findIn K (.ref C) "__eq__" = some (some (.ref f))) (hf : isFn K (.ref f) = true)
    (h : wpAny (model prog w) A.in1 (call (.ref f) [.ref x, b]) (fun v s' => ∃ k, v = .bool k ∧ Q (.bool (!k)) s') E s) : wpAny (model prog w) A (richCompare .NotEq (.ref x) b) Q E s := by
  have one : wpAny (model prog w) A (tryCompare (.ref x) (cmpInfo .NotEq).2.1 b) (fun r s' => ∃ v, r = some v ∧ Q v s') E s := by
    unfold tryCompare
    have two : wpAny (model prog w) A (call (.builtin "object.__ne__") [.ref x, b]) (fun v s' => ∃ k, v = .bool k ∧ Q v s') E s := ne_call hu1 X I ho hs hf (wpAny_mono h (fun v s' hv => by
      obtain ⟨k, rfl, q⟩ := hv
      exact ⟨k, rfl, _, rfl, q⟩) fun _ _ e => e)
    refine wpAny_bind (ifBound_B X I hne one_bind (wpAny_mono two (fun v s' hv => ?_) fun _ _ e => e))
    obtain ⟨k, rfl, q⟩ := hv
    exact wpAny_pure ⟨_, rfl, q⟩
  unfold richCompare
  simp only [oneThing_ref]
  refine wpAny_holding (wpAny_bind (wpAny_cRoomFor hu ?_))
  refine wpAny_bind (I.type.here (wpAny_bind (hb.here ?_)))
  split
  · rename_i q
    have e : subIn K tb (.ref C) = some false := by
      rcases Bool.or_eq_true_iff.mp hn with e | e
      · rw [beq_iff_eq.mp e] at q; simp at q
      · exact beq_iff_eq.mp e
    refine wpAny_bind ((looks_subIn X e).here ?_)
    simp only [Bool.false_eq_true, if_false]
    refine wpAny_bind (wpAny_mono one (fun r s' z => ?_) fun _ _ e => e)
    obtain ⟨v, rfl, hq⟩ := z
    exact wpAny_pure hq
  · refine wpAny_bind (wpAny_pure ?_)
    simp only [Bool.false_eq_true, if_false]
    refine wpAny_bind (wpAny_mono one (fun r s' z => ?_) fun _ _ e => e)
    obtain ⟨v, rfl, hq⟩ := z
    exact wpAny_pure hq
end
end PySem.W
namespace Fn
open PySem PySem.Spec PyProof.Rows L2
section
variable {X : Cx} {CX : CXT} {k : Nat} {f C : Addr} {fd : FuncData} {ps : List Str} {sp : Sp} {E : L2.St → XK} {a b : Expr} {ta tb : TE} {pos p : Pos}
/-- a != b, a an instance, by its own == -/
theorem pe_neX (at_ : PySem.W.findIn X.K (.ref C) "__eq__" = some (some (.ref f))) (fn : PySem.W.isFn X.K (.ref f) = true) (hne : PySem.W.findIn X.K (.ref C) "__ne__" = some (some (.builtin "object.__ne__"))) (ho : PySem.W.subIn X.K (.ref C) (.type "object") = some true)
    (F : FnOk X.prog X.w X.K X.mg X.base CX k f fd ps sp) (hr : Room (k + 2) X.A) (hb : Binds X.K fd ps []) (hx : ∀ σ, PassesAt CX X σ (E σ)) (ha : PE X a ta) (hb2 : PE X b tb) :
    PC X .NotEq a b (fun σ H Q => ta σ H fun x H1 => tb σ H1 fun y H2 => ∃ p dx fs, x = .ref p ∧ H2 p = some (.ins C dx fs) ∧ ((∃ q dy gs, y = .ref q ∧ H2 q = some (.ins C dy gs)) ∨ ∃ T, TyX X.K H2 y (.type T) ∧ PySem.W.subIn X.K (.type T) (.ref C) = some false) ∧
      sp [x, y] H2 (fun v H3 => ∃ k : Bool, v = .bl k ∧ Q (.bl (!k)) H3) (E σ)) := by
  refine ⟨fun pins s σ H Q I h => ?_⟩
  refine bin ha hb2 I h fun v u s2 x y H2 I2 rx ry q => ?_
  obtain ⟨p, dx, fs, ex, hp, rk, q⟩ := q
  subst ex
  obtain rfl : v = Value.ref p := rx
  obtain ⟨mA, O, _⟩ := ins_get I2.hok hp
  obtain ⟨od, J, _⟩ := O.look
  have hr2 : Room k X.A.in1 := (show Room (k + 1) X.A.in1 from Room.in1 hr).mono (Nat.le_succ _)
  have hl : ([V.ref p, y]).length = ps.length := F.len _ _ _ _ q
  have go : wpAny (model X.prog X.w) X.A.in1 (call (.ref f) [.ref p, u]) (fun v s' => ∃ k, v = .bool k ∧ EP X pins σ Q (.bool (!k)) s') X.xe s2 := by
    refine wpAny_call (codeAny_mono (F.run X.A.in1 X.stack s2 H2 ⟨[.ref p, u], []⟩ [.ref p, u] [.ref p, y] _ (E σ) hr2 I2.env0.in1 (by
      have z := hb s2 [.ref p, u] I2.kIn (by simpa using hl)
      simpa using z) (.cons rfl (.cons ry .nil)) q) fun r s' hq => ?_)
    cases r with
    | error e => exact hx σ pins H2 s2 e s' I2 hq
    | ok fl =>
      cases fl with
      | ret u =>
        obtain ⟨z, H', I', rz, kk, ez, q2⟩ := I2.after hq
        subst ez
        cases rz
        exact ⟨kk, rfl, .bl (!kk), H', I', rfl, q2⟩
      | next => exact False.elim hq
      | brk => exact False.elim hq
      | cont => exact False.elim hq
  obtain ⟨m, hF⟩ := I2.fr
  have u1 : X.A.in1.units < cLine := (Room.in1 (show Room (k + 1 + 1) X.A from hr)).units0
  rcases rk with ⟨q', dy, gs, ey, hq'⟩ | ⟨T, ty, h3⟩
  · subst ey
    obtain rfl : u = Value.ref q' := ry
    obtain ⟨mB, O', _⟩ := ins_get I2.hok hq'
    obtain ⟨od', J', _⟩ := O'.look
    exact PySem.W.ne_K (tb := .ref C) hr.units0 u1 I2.kIn J J'.type (by simp [PySem.W.notFirst]) hne ho at_ fn go
  · obtain ⟨P, Z, hP, _⟩ := kit_of I2 ry ty
    exact PySem.W.ne_K (tb := .type T) hr.units0 u1 I2.kIn J (fun A Q E s k z => Z.ty _ _ I2.kIn hP A Q E s k z) (by simp [PySem.W.notFirst, h3]) hne ho at_ fn go
end
end Fn
set_option Elab.async false
set_option linter.all false
set_option maxRecDepth 100000
set_option maxHeartbeats 4000000
/-! enumerate(tuple) -/
namespace PySem
open Sem (wp)
open AutoSeq1 (wpAny_loadPart')
theorem meets_enumerate_newT (l : Addr) (items : Array Value) (n : Nat) (dct : Option Addr) (sl : Array (Option Value)) :
    Meets (Builtin.«enumerate.__new__» ⟨[.type "enumerate", .ref l], []⟩) (fun _ R s => s.heap.get? l = some { cls := .type "tuple", dict := dct, data := .seq items n, slots := sl } ∧
      R (.ok (.ret (.ref (s.heap.push { cls := .type "tuple_iterator", data := .fields #[.ref l, .int 0 0] }).objs.size)))
        { s with heap := (s.heap.push { cls := .type "tuple_iterator", data := .fields #[.ref l, .int 0 0] }).push { cls := .type "enumerate", data := .fields #[.none, .bool false, .ref s.heap.objs.size, rawInt 0, .none, .none] } }) :=
  .of_wp fun prog w A R s h => by
    obtain ⟨hp, g, d, tk, os⟩ := s; obtain ⟨hl, h⟩ := h
    have hsub := sub_enumerate
    have hL : Heap.IsTuple (Shared.heap ⟨hp, g, d, tk, os⟩) l items := ⟨_, hl, rfl, n, rfl⟩
    wp_walk using wpAny_loadPart' hl
    refine wpAny_stack_any fun st => wpAny_pure ?_
    split
    · rename_i c _ _ _ _ _
      cases (c == Value.type "enumerate")
      · wp_walk using wpAny_loadPart' hl, wpAny_pyIter_tuple hL
        exact ⟨_, rfl, h⟩
      · wp_walk using wpAny_loadPart' hl, wpAny_pyIter_tuple hL
        exact ⟨_, rfl, h⟩
    · wp_walk using wpAny_loadPart' hl, wpAny_pyIter_tuple hL
      exact ⟨_, rfl, h⟩
section
variable {prog : Program} {w : World} {A : Around} {E : Value → Shared → Prop} {s : Shared}
theorem call_enumerate_tuple {l : Addr} {items : Array Value} {Q : Value → Shared → Prop} (hL : s.heap.IsTuple l items)
    (h : ∀ h', IsEnum h' (s.heap.objs.size + 1) s.heap.objs.size 0 .none → h'.IsTupleIter s.heap.objs.size l 0 → h'.objs.size = s.heap.objs.size + 2 →
      (∀ b o, s.heap.get? b = some o → h'.get? b = some o) → Q (.ref (s.heap.objs.size + 1)) { s with heap := h' }) :
    wpAny (model prog w) A (call (.type "enumerate") [.ref l]) Q E s := by
  obtain ⟨⟨c, dct, dt, sl⟩, hl, hc, n, hd⟩ := hL
  replace hc : c = .type "tuple" := hc
  replace hd : dt = .seq items n := hd
  subst hc hd
  refine callType_new F.called_enumerate (by decide) (F.typeCall_enumerate_1 _) (F.newCall_enumerate_1 _) (fun obj => F.args_object_init_2 obj _) F.entry_enumerate_new
    (meets_enumerate_newT l items n dct sl) ⟨hl, ?_⟩
  have hz : (s.heap.push { cls := .type "tuple_iterator", data := .fields #[.ref l, .int 0 0] }).objs.size = s.heap.objs.size + 1 := Heap.size_push ..
  show _ ∧ _
  rw [hz]
  have he : IsEnum ((s.heap.push { cls := .type "tuple_iterator", data := .fields #[.ref l, .int 0 0] }).push
      { cls := .type "enumerate", data := .fields #[.none, .bool false, .ref s.heap.objs.size, rawInt 0, .none, .none] }) (s.heap.objs.size + 1) s.heap.objs.size 0 .none := by
    have := Heap.get?_push_size (s.heap.push { cls := .type "tuple_iterator", data := .fields #[.ref l, .int 0 0] })
      (o := { cls := .type "enumerate", data := .fields #[.none, .bool false, .ref s.heap.objs.size, rawInt 0, .none, .none] }) rfl
    rw [hz] at this; exact this
  refine ⟨⟨_, he, rfl⟩, h _ he ⟨_, Heap.get?_push_of_some _ (Heap.get?_push_size _ rfl), rfl, rfl⟩ (by rw [Heap.size_push, hz]) fun b o x => Heap.get?_push_of_some _ (Heap.get?_push_of_some _ x)⟩
end
end PySem
namespace Fp
open PySem PySem.Spec PyProof.Rows L2
def IteT (K : PySem.W.Frag) (a : Addr) : It :=
  ⟨fun i H => ∃ (xs : List V) (x : V), SqT K H a xs ∧ xs[i]? = some x, fun i H v H' => ∃ T x, v = .ref T ∧ H T = none ∧ H' = upd H T (.tup [.int (i : Nat), x]) ∧ ∀ xs, SqT K H a xs → xs[i]? = some x, fun i H => ∃ xs : List V, SqT K H a xs ∧ xs.length ≤ i⟩
theorem turn_enumT {P : Program} {w : World} {K : PySem.W.Frag} {elts : List Expr} {kk : Nat} {tpos : Pos} (a e it : Addr) (hna : a ≠ it) (hne0 : a ≠ e) :
    Turn P w K (.Tuple elts kk tpos) (IteT K a) [e, it] e (fun i h => (∃ old, IsEnum h e it ((i : Nat) : Int) old) ∧ h.IsTupleIter it a i ∧ e ≠ it) where
  mem := by simp
  obj := fun i h st b hb => by
    obtain ⟨⟨old, he⟩, ⟨o, ho, hc, hd⟩, _⟩ := st
    have e' : b = e ∨ b = it := by simpa using hb
    rcases e' with z | z
    · rw [z]; exact ⟨_, he, fun v q => nomatch q⟩
    · rw [z]; exact ⟨o, ho, fun v q => by rw [hd] at q; cases q⟩
  keep := fun i h h' st k => let ⟨⟨old, he⟩, hi, hne⟩ := st; ⟨⟨old, k e (by simp) _ he⟩, hi.at fun o q => k it (by simp) o q, hne⟩
  item := by
    intro X hP hw hK hc i pins s σ H E I hf st hg
    subst hP hw hK
    obtain ⟨⟨old, he⟩, hit, hne⟩ := st
    obtain ⟨xs, x, hq, hx⟩ := hg
    obtain ⟨its, rv, p, hz⟩ := I.tuple hq
    obtain ⟨u, hu, ru⟩ := rv.get hx
    have hel : e < s.heap.objs.size := Heap.lt_size he
    have hil : it < s.heap.objs.size := by obtain ⟨_, q, _⟩ := hit; exact Heap.lt_size q
    have hi : i < its.toArray.size := by
      rw [List.size_toArray]
      exact (List.getElem?_eq_some_iff.mp hu).1
    have D := Draws.tuple (prog := X.prog) (w := X.w) (A := X.A.in1) (show X.A.in1.handled = none from I.ok.hd hc) it a hna its.toArray
    refine wpAny_pyNext_enum_itemD D he ⟨hit, p⟩ hi hne (by simp [hne, Ne.symm hne0]) fun x0 h' tk hP0 ho hit' hT hsz hk => ?_
    have hxu : x0 = u := by
      rw [show its.toArray[i]? = some u by simpa using hu] at hP0
      exact (Option.some.inj hP0).symm
    subst hxu
    refine ⟨_, rfl, wpAny_letOwnedTupleGo_enum (s := { s with heap := h', toks := tk + 1 }) ho fun h'' he' sb => ?_⟩
    have hT2 : h''.get? s.heap.objs.size = some { cls := .type "tuple", data := .seq #[.int i tk, x0] } := (sb.2 _ (Nat.ne_of_gt hel)).trans hT
    have new : ObjOk X.prog X.w (upd H s.heap.objs.size (.tup [.int (i : Nat), x])) h'' s.heap.objs.size (.tup [.int (i : Nat), x]) :=
      ⟨by show 2 ≤ sizeLine; decide, [.int i tk, x0], .cons ⟨_, rfl⟩ (.cons ru .nil), ⟨_, hT2, rfl, _, rfl⟩⟩
    have I1 : Inv X pins σ (upd H s.heap.objs.size (.tup [.int (i : Nat), x])) { s with heap := h'', toks := tk + 1 } :=
      I.turnedNew (ch := [e, it]) (fun b ob hb q => (sb.2 b (fun z => hb (by simp [z]))).trans (hk b ob (fun z => hb (by simp [z])) (fun z => hb (by simp [z])) q)) hf (Nat.le_refl _) new
    refine ⟨.ref s.heap.objs.size, _, I1, rfl, ⟨_, x, rfl, I.hok.fresh (Nat.le_refl _), rfl, fun ys hy => by rw [I.tuple_inj hy hq]; exact hx⟩, ⟨⟨x0, ?_⟩, hit'.1.at fun o q => (sb.2 it (Ne.symm hne)).trans q, hne⟩, fun b hb => ?_⟩
    · have e1 : ((i + 1 : Nat) : Int) = (i : Int) + 1 := by omega
      rw [e1]; exact he'
    · have hb' : b < s.heap.objs.size := by
        have e' : b = e ∨ b = it := by simpa using hb
        rcases e' with z | z
        · rw [z]; exact hel
        · rw [z]; exact hil
      rw [upd_ne (Nat.ne_of_lt hb')]
      exact (hf b hb).1
  done := by
    intro X hP hw hK hc i pins s σ H E I hf st hg
    subst hP hw hK
    obtain ⟨⟨old, he⟩, hit, hne⟩ := st
    obtain ⟨xs, hq, hx⟩ := hg
    obtain ⟨its, rv, p, hz⟩ := I.tuple hq
    obtain ⟨f0, f1, f2, f3, f4, f5⟩ := hf it (by simp)
    have hl := rv.length
    have hT : s.TypeIs (.ref e) "enumerate" := ⟨_, he, rfl⟩
    unfold pyNext
    refine wpAny_bind (wpAny_attempt (wpAny_callSpecial?_slot (name := Str.ofString "__next__") hT F.slot_enumerate_next
      (wpAny_call_entry F.slot_enumerate_next hT F.entry_enumerate_next ?_ (F.args_enumerate_next_1 _))))
    show wpAny _ _ (field (.ref e) 2 >>= _) _ _ _
    refine wpAny_bind (wpAny_field he rfl (x := .ref it) rfl ?_)
    refine wpAny_bind (wpAny_nextOf_tuple_end (show X.A.in1.handled = none from I.ok.hd hc) hit p (by simp; omega) fun h' x he' hx' => ?_)
    obtain ⟨o, ho, hc'⟩ := hx'
    refine wpAny_bind (wpAny_isInstance (T := "StopIteration") (b := true) ⟨o, ho, hc'⟩ isSubtype_stop ?_)
    exact wpAny_pure ⟨rfl, I.turned (t' := s.toks) (fun b o hb q => he' b o hb q) f0 f1 f3 f4 f5⟩
  self := fun A i s Q E st h => let ⟨⟨_, he⟩, _⟩ := st; wpAny_pyIter_enum he h
def iEnumT (K : PySem.W.Frag) (ta : TA) : TI := fun σ H R => ta σ H fun vs H1 => ∃ a xs, vs = [.ref a] ∧ SqT K H1 a xs ∧ R (IteT K a) H1
theorem pi_enumT {X : Cx} {e : Expr} {ta : TA} {p pos tpos : Pos} {elts : List Expr} {kk : Nat} (hg : Gl X "enumerate") (hm : X.mg "enumerate" = none) (ha : PA X [e] ta) (hs : starEach [e] X.env = [(false, eval e X.env)] := by rfl) :
    PI X (.Tuple elts kk tpos) (.Call (.Name "enumerate" p) [e] [] pos) (iEnumT X.K ta) := by
  refine ⟨fun pins s σ H R I h => ?_⟩
  refine Call_ (ld_blt I hg hm boot_enumerate (PyProof.Rows.callWith_type1 (thn (ha.run pos pins s σ H _ I h) fun us s1 ⟨vs, H1, I1, r1, q1⟩ => ?_) hs rfl))
  obtain ⟨a, xs, ex, hq, q⟩ := q1
  subst ex
  cases r1 with
  | cons r rr =>
    cases rr
    cases r
    obtain ⟨its, rv, p', hz⟩ := I1.tuple hq
    have hal : a < s1.heap.objs.size := by
      obtain ⟨o, ho, _⟩ := id p'
      exact Heap.lt_size ho
    refine call_enumerate_tuple p' fun h' he hit hsz hk => wpAny_pyIter_enum he ?_
    have I2 : Inv X pins σ H1 { s1 with heap := h' } := I1.kept (t' := s1.toks) hk
    refine ⟨s1.heap.objs.size + 1, [s1.heap.objs.size + 1, s1.heap.objs.size], _, _, H1, rfl, I2, turn_enumT a (s1.heap.objs.size + 1) s1.heap.objs.size (Nat.ne_of_lt hal) (Nat.ne_of_lt (Nat.lt_succ_of_lt hal)), ⟨⟨.none, he⟩, hit, Nat.succ_ne_self _⟩, fun b hb => ?_, q⟩
    have e' : b = s1.heap.objs.size + 1 ∨ b = s1.heap.objs.size := by simpa using hb
    have hle : s1.heap.objs.size ≤ b := by
      rcases e' with z | z
      · rw [z]; exact Nat.le_add_right _ _
      · rw [z]; exact Nat.le_refl _
    exact I1.fpOk hle (I1.hok.fresh hle)
/-- one of two walks -/
theorem pi_or {X : Cx} {tg it : Expr} {w1 w2 : TI} (h1 : PI X tg it w1) (h2 : PI X tg it w2) : PI X tg it (fun σ H R => w1 σ H R ∨ w2 σ H R) :=
  ⟨fun pins s σ H R I h => h.elim (h1.run pins s σ H R I) (h2.run pins s σ H R I)⟩
end Fp
set_option Elab.async false
set_option linter.all false
set_option maxRecDepth 100000
set_option maxHeartbeats 1000000
set_option exponentiation.threshold 100000
namespace K35
open PySem PySem.Spec PyProof.Rows L2 Fa Fb
theorem IsA.mono {K : PySem.W.Frag} {H : Hp} {x : V} {t u : Int} {n m : Nat} (h : IsA K H x t u n) (e : n ≤ m) : IsA K H x t u m := by
  obtain ⟨p, dx, h1, h2, h3, h4, h5⟩ := h
  exact ⟨p, dx, h1, h2, h3, pow_step h4 e, pow_step h5 e⟩
abbrev gFl (K : PySem.W.Frag) (i : Nat) (f : Str) : TE := tFld K (tVar i) f
/-- a two-place operation: num and den are the fraction that is due -/
def spOp (K : PySem.W.Frag) (num den : Int → Int → Int → Int → Int) : Sp := fun vs H Q E => ∃ x y t u n, vs = [x, y] ∧ IsA K H x t u n ∧ ((Bad K H y ∧ Err (CV K) y H E) ∨ ∃ t2 u2 m, Arg K H y t2 u2 m ∧ n + m < 7000 ∧
  ∀ z H' t' u', Same H H' → IsA K H' z t' u' (n + m + 1) → t' * den t u t2 u2 = num t u t2 u2 * u' → Q z H')
abbrev sAdd : Stmt := inClass (top 34) 4
theorem scAdd : FnScope ["self", "other", "right"] ["self", "other"] (defScope sAdd) := ⟨rfl, rfl, rfl, by decide +kernel, rfl, by decide +kernel, by decide +kernel⟩
section
variable {P : Program} {w : World} {K : PySem.W.Frag} {mg : Str → Option Value} {base : Heap} {f fS : Addr} {fd fdS fdI : FuncData} {qv tv : Str} {fV : Addr}

theorem ok_add (F : FunD K "__add__" "Amount.__add__" (defArgs sAdd) (defBody sAdd) (defScope sAdd) [] [] f fd) (T : AF K mg) (GS : FnOk P w K mg base (L2.CX P w) 6 fS fdS ["value"] (spAs K)) (gS : mg "as_amount" = some (.ref fS)) (kS : PySem.W.keepIn K (.ref fS) = true) (bS : Binds K fdS ["value"] [])
    (GI : FnOk P w K mg base (L2.CX P w) 4 (aI K) fdI ["self", "top", "bottom"] (spInit K)) (bI : Binds K fdI ["self", "top", "bottom"] []) : FnOk P w K mg base (L2.CX P w) 7 f fd ["self", "other"] (spOp K (fun t u t2 u2 => t * u2 + t2 * u) (fun _ u _ u2 => u * u2)) := by
  refine F.ok scAdd (fun vs H Q E h => ?_) (fun cdv A outer s H vs Q E hr h => ?_)
  · obtain ⟨x, y, t, u, n, rfl, _⟩ := h
    rfl
  · obtain ⟨x, y, t, u, n, rfl, ix, q⟩ := h
    have hr1 := hr.mono (show 5 ≤ 6 by decide)
    refine ⟨_, pss_cons (ps_set (i := 2) scAdd.nd rfl (Or.inl rfl) (pe_callS GS hr rfl gS kS bS (fun σ => passAt (W := fun cls d _ H => E cls d H) (takes_of rfl rfl rfl rfl) σ) (pa_cons (pv 1) pa_nil)))
      (pss_one (ps_ret (pe_make T.mkA GI hr1 rfl T.g bI .nil passL (pa_cons (pe_op op_add (pe_op op_mulW (pe_fld (pv 0) rfl) (pe_fld (pv 2) rfl)) (pe_op op_mulW (pe_fld (pv 2) rfl) (pe_fld (pv 0) rfl))) (pa_cons (pe_op op_mulW (pe_fld (pv 0) rfl) (pe_fld (pv 2) rfl)) pa_nil))))), ?_⟩
    refine ⟨_, rfl, y, rfl, ?_⟩
    rcases q with ⟨hb, er⟩ | ⟨t2, u2, m, ar, hnm, q⟩
    · exact .inl ⟨hb, er⟩
    · refine .inr ⟨t2, u2, m, ar, fun z H' sm iz => ?_⟩
      have ix' := ix.same sm
      obtain ⟨p, dx, rfl, hp, r, b1, b2⟩ := id ix'
      obtain ⟨p2, dx2, rfl, hp2, r2, b3, b4⟩ := id iz
      refine ⟨_, rfl, p, CA K, dx, _, _, rfl, hp, T.cl, T.noT, fl_top _ _, ?_⟩
      refine ⟨_, rfl, p2, CA K, dx2, _, _, rfl, hp2, T.cl, T.noB, fl_bot _ _, ?_⟩
      refine ⟨_, _, rfl, rfl, mulW_of b1 b4 (by omega), ?_⟩
      refine ⟨_, rfl, p2, CA K, dx2, _, _, rfl, hp2, T.cl, T.noT, fl_top _ _, ?_⟩
      refine ⟨_, rfl, p, CA K, dx, _, _, rfl, hp, T.cl, T.noB, fl_bot _ _, ?_⟩
      refine ⟨_, _, rfl, rfl, mulW_of b3 b2 (by omega), _, _, rfl, rfl, ?_⟩
      refine ⟨_, rfl, p, CA K, dx, _, _, rfl, hp, T.cl, T.noB, fl_bot _ _, ?_⟩
      refine ⟨_, rfl, p2, CA K, dx2, _, _, rfl, hp2, T.cl, T.noB, fl_bot _ _, ?_⟩
      refine ⟨_, _, rfl, rfl, mulW_of b2 b4 (by omega), ?_⟩
      have hu : u * u2 ≠ 0 := Int.mul_ne_zero (by have := r.1; omega) (by have := r2.1; omega)
      refine make_read T (n := n + m + 1) hu (by omega) ?_ ?_ fun y' H2 t' u' s2 i2 e => q y' H2 t' u' (sm.trans s2) i2 e
      · exact abs_add_lt (abs_mul_lt b1 b4) (by rw [Nat.add_comm]; exact abs_mul_lt b3 b2)
      · exact pow_step (abs_mul_lt b2 b4) (by omega)

end
structure OpF (K : PySem.W.Frag) (nm : String) (f : Addr) : Prop where
  own : OwnOp K (CA K) nm f
  ty : ∀ T ∈ tys, TyOp K (CA K) nm T
theorem OpF.arg {K : PySem.W.Frag} {nm : String} {f : Addr} (o : OpF K nm f) {H : Hp} {x : V} {t u : Int} {n : Nat} (h : Arg K H x t u n) : RK K (CA K) nm H x := by
  rcases h with ⟨p, dx, e, hp, _⟩ | ⟨e, _⟩
  · exact .inl ⟨p, dx, _, e, hp⟩
  · rw [e]
    exact .inr ⟨"int", .base (.int t), o.ty "int" (by simp [tys])⟩
structure Fn (P : Program) (w : World) (K : PySem.W.Frag) (mg : Str → Option Value) (base : Heap) (x : Str) (lev : Nat) (ps : List Str) (sp : Sp) (f : Addr) (fd : FuncData) : Prop where
  ok : FnOk P w K mg base (L2.CX P w) lev f fd ps sp
  g : mg x = some (.ref f)
  k : PySem.W.keepIn K (.ref f) = true
  b : Binds K fd ps []
structure OpK (P : Program) (w : World) (K : PySem.W.Frag) (mg : Str → Option Value) (base : Heap) (nm : String) (lev : Nat) (sp : Sp) (f : Addr) (fd : FuncData) : Prop where
  op : OpF K nm f
  ok : FnOk P w K mg base (L2.CX P w) lev f fd ["self", "other"] sp
  b : Binds K fd ["self", "other"] []
structure MeK (P : Program) (w : World) (K : PySem.W.Frag) (mg : Str → Option Value) (base : Heap) (m : Str) (lev : Nat) (sp : Sp) (f : Addr) (fd : FuncData) : Prop where
  me : Meth K (CA K) m f
  ok : FnOk P w K mg base (L2.CX P w) lev f fd ["self", "other"] sp
  b : Binds K fd ["self", "other"] []
abbrev spAdd (K : PySem.W.Frag) : Sp := spOp K (fun t u t2 u2 => t * u2 + t2 * u) (fun _ u _ u2 => u * u2)
theorem passS {X : Cx} (σ : L2.St) : PassesAt (L2.CX X.prog X.w) X σ ((fun _ => E0 : L2.St → XK) σ) := fun pins H s e s' i c => passL pins σ H s e s' i c
structure EqK (P : Program) (w : World) (K : PySem.W.Frag) (mg : Str → Option Value) (base : Heap) (f : Addr) (fd : FuncData) : Prop where
  at_ : PySem.W.findIn K (.ref (CA K)) "__eq__" = some (some (.ref f))
  fn : PySem.W.isFn K (.ref f) = true
  ok : FnOk P w K mg base (L2.CX P w) 1 f fd ["self", "other"] (spEq K)
  b : Binds K fd ["self", "other"] []
  ne : PySem.W.findIn K (.ref (CA K)) "__ne__" = some (some (.builtin "object.__ne__"))
  ob : PySem.W.subIn K (.ref (CA K)) (.type "object") = some true
theorem pss_imp {X : Cx} {b : List Stmt} {u S : TS} (h : PSs X b u) (k : ∀ D σ H, S D σ H → u D σ H) : PSs X b S := ⟨fun pn s σ H D I z => h.run pn s σ H D I (k D σ H z)⟩
def spLs (K : PySem.W.Frag) : Sp := fun vs H Q _ => ∃ x t b, vs = [x] ∧ (∀ J, Same H J → TyX K J x t) ∧ PySem.W.kitAny K t [.type "list", .type "tuple"] = some b ∧ ∀ H', Same H H' → Q (.bl b) H'
abbrev sLs : Stmt := top 24
theorem scLs : FnScope ["value"] ["value"] (defScope sLs) := ⟨rfl, rfl, rfl, by decide +kernel, rfl, by decide +kernel, by decide +kernel⟩
section
variable {P : Program} {w : World} {K : PySem.W.Frag} {mg : Str → Option Value} {base : Heap} {f fC fD fA fS fM fE : Addr} {fd fdC fdD fdA fdS fdM fdE fdI : FuncData}
theorem ok_ls (F : FnP K "is_listing" sLs f fd) (T : AF K mg) (mLi : mg "list" = none) (mTu : mg "tuple" = none) : FnOk P w K mg base (L2.CX P w) 1 f fd ["value"] (spLs K) := by
  refine F.ok scLs (fun vs H Q E h => ?_) (fun cdv A outer s H vs Q E hr h => ?_)
  · obtain ⟨x, t, b, rfl, _⟩ := h
    rfl
  · obtain ⟨x, t, b, rfl, ty, kt, q⟩ := h
    refine ⟨_, pss_one (ps_ret (pe_callB call_isiT rfl T.isi (by decide +kernel) (pa_cons (pv 0) (pa_cons (pe_tup (pa_cons (pe_ty mLi (by decide +kernel : bootBuiltins "list" = some (.type "list"))) (pa_cons (pe_ty mTu (by decide +kernel : bootBuiltins "tuple" = some (.type "tuple"))) pa_nil))) pa_nil)))), ?_⟩
    refine ⟨_, rfl, by show 2 ≤ sizeLine; decide, fun tp htp => ?_⟩
    exact ⟨x, tp, _, t, [.type "list", .type "tuple"], b, rfl, upd_same, .cons (.ty _) (.cons (.ty _) .nil), ty _ (Same.upd htp), kt, q _ (Same.upd htp)⟩
end
def Kp (p : Addr) (H H' : Hp) : Prop := ∀ q o, q ≠ p → H q = some o → H' q = some o
theorem Kp.refl (p : Addr) (H : Hp) : Kp p H H := fun _ _ _ h => h
theorem Kp.trans {p : Addr} {H H1 H2 : Hp} (a : Kp p H H1) (b : Kp p H1 H2) : Kp p H H2 := fun q o n h => b q o n (a q o n h)
theorem Kp.but {p : Addr} {H H' : Hp} (h : But p H H') : Kp p H H' := fun q o n z => by rw [h q n]; exact z
theorem Kp.same {p : Addr} {H H' : Hp} (h : Same H H') : Kp p H H' := fun q o _ z => h q o z
theorem Kp.no {p D : Addr} {H H1 : Hp} (k : Kp p H H1) (ne : D ≠ p) (h : H1 D = none) : H D = none := by
  cases e : H D with
  | none => rfl
  | some o =>
    rw [k _ _ ne e] at h
    cases h
theorem Kp.put {p D : Addr} {H H' : Hp} {o : HO} (k : Kp p H H') (h : H D = none) : Kp p H (upd H' D o) := fun q u n z => by
  rw [upd_ne (ne_of_none z h)]
  exact k q u n z
theorem _root_.Fa.Box.ne {H : Hp} {p l : Addr} {n : Nat} (b : Box H p n) (hl : H l = none) : p ≠ l := by
  obtain ⟨_, _, _, h, _⟩ := b
  exact ne_of_none h hl
theorem _root_.Fa.Box.put {H : Hp} {p D : Addr} {n : Nat} {o : HO} (b : Box H p n) (ne : D ≠ p) : Box (upd H D o) p n := by
  obtain ⟨x, y, z, h, r⟩ := b
  exact ⟨x, y, z, by rw [upd_ne ne.symm]; exact h, r⟩
theorem _root_.Fa.Box.upd {H : Hp} {p l : Addr} {n : Nat} {o : HO} (b : Box H p n) (hl : H l = none) : Box (upd H l o) p n := b.put (b.ne hl).symm
theorem _root_.Fa.Box.sm {H H' : Hp} {p : Addr} {n : Nat} (b : Box H p n) (s : Same H H') : Box H' p n := by
  obtain ⟨x, y, z, h, r⟩ := b
  exact ⟨x, y, z, s _ _ h, r⟩
structure Fn0 (P : Program) (w : World) (K : PySem.W.Frag) (mg : Str → Option Value) (base : Heap) (x : Str) (lev : Nat) (ps : List Str) (sp : Sp) (f : Addr) (fd : FuncData) : Prop where
  ok : FnOk P w K mg base CX0 lev f fd ps sp
  g : mg x = some (.ref f)
  k : PySem.W.keepIn K (.ref f) = true
  b : Binds K fd ps []
def KT (H H' : Hp) : Prop := ∀ q o, H q = some o → (∀ l, o ≠ .lst l) → H' q = some o
theorem KT.of {H H' : Hp} (s : Same H H') : KT H H' := fun q o h _ => s q o h
theorem KT.kp {H H' : Hp} {p : Addr} {n : Nat} (b : Box H p n) (k : Kp p H H') : KT H H' := fun q o h nl => by
  refine k q o (fun e => ?_) h
  obtain ⟨_, _, _, z, _⟩ := b
  rw [e, z] at h
  exact nl _ (Option.some.inj h).symm
theorem KT.put {H : Hp} {D : Addr} {xs : List V} {o : HO} (h : H D = some (.lst xs)) : KT H (upd H D o) := fun q o' z nl => by
  rw [upd_ne fun e => by
    rw [e, h] at z
    exact nl _ (Option.some.inj z).symm]
  exact z
theorem KT.trans {H H1 H2 : Hp} (a : KT H H1) (b : KT H1 H2) : KT H H2 := fun q o h nl => b q o (a q o h nl) nl
end K35
set_option linter.all false
/-! Piecewise straight lines: points that rise in both, slope 1 before the first and behind the last. -/
namespace M08
abbrev Pt := Rat × Rat
def Up : List Pt → Prop
  | [] => True
  | [_] => True
  | p :: q :: r => p.1 < q.1 ∧ p.2 < q.2 ∧ Up (q :: r)
def slope (p q : Pt) : Rat := (q.2 - p.2) / (q.1 - p.1)
def nx (p : Pt) : List Pt → Rat
  | [] => 1
  | q :: _ => slope p q
def fil (l : Rat) : List Pt → List Pt
  | [] => []
  | p :: r => if l = nx p r then fil (nx p r) r else p :: fil (nx p r) r
def E (p : Pt) : List Pt → Rat → Rat
  | [], x => p.2 + (x - p.1)
  | q :: r, x => if x < q.1 then p.2 + (x - p.1) * slope p q else E q r x
def f : List Pt → Rat → Rat
  | [], x => x
  | p :: r, x => if x < p.1 then p.2 + (x - p.1) else E p r x
def S (p : Pt) : List Pt → Rat → Rat
  | [], _ => 1
  | q :: r, x => if x < q.1 then slope p q else S q r x
def sl : List Pt → Rat → Rat
  | [], _ => 1
  | p :: r, x => if x < p.1 then 1 else S p r x
def std (ps : List Pt) : List Pt := if fil 1 ps = [] then [(0, f ps 0)] else fil 1 ps
theorem Up.tail {p : Pt} {r : List Pt} (h : Up (p :: r)) : Up r := by
  cases r with
  | nil => exact True.intro
  | cons q r => exact h.2.2
theorem slope_line {p q : Pt} (h : p.1 < q.1) : q.2 = p.2 + (q.1 - p.1) * slope p q := by
  unfold slope
  have : q.1 - p.1 ≠ 0 := by grind
  grind
theorem slope_of {p q : Pt} {m : Rat} (h : p.1 < q.1) (e : q.2 = p.2 + (q.1 - p.1) * m) : slope p q = m := by
  unfold slope
  have : q.1 - p.1 ≠ 0 := by grind
  rw [e]
  grind
structure Line (p : Pt) (m : Rat) (r L : List Pt) : Prop where
  a : L = [] → m = 1
  b : ∀ q L', L = q :: L' → p.1 < q.1 ∧ q.2 = p.2 + (q.1 - p.1) * m
  c : ∀ x, p.1 ≤ x → E p r x = E p L x
  d : ∀ x, p.1 ≤ x → S p r x = S p L x
theorem line : ∀ (r : List Pt) (p : Pt), Up (p :: r) → Line p (nx p r) r (fil (nx p r) r)
  | [], p, _ => ⟨fun _ => rfl, (fun q L' e => by cases e), fun _ _ => rfl, fun _ _ => rfl⟩
  | q :: r, p, h => by
    obtain ⟨h1, h2, h3⟩ := h
    have ih := line r q h3
    have lp := slope_line h1
    show Line p (slope p q) (q :: r) (fil (slope p q) (q :: r))
    have ef : fil (slope p q) (q :: r) = if slope p q = nx q r then fil (nx q r) r else q :: fil (nx q r) r := rfl
    rw [ef]
    generalize hm : slope p q = m at lp ef ⊢
    by_cases c : m = nx q r
    · rw [if_pos c]
      generalize hL : fil (nx q r) r = L at ih ⊢
      rw [← c] at ih
      have hx : ∀ x, p.1 ≤ x → (E p (q :: r) x = E p L x) ∧ S p (q :: r) x = S p L x := by
        intro x hx
        show ((if x < q.1 then p.2 + (x - p.1) * slope p q else E q r x) = E p L x) ∧ (if x < q.1 then slope p q else S q r x) = S p L x
        rw [hm]
        cases L with
        | nil =>
          have m1 := ih.a rfl
          by_cases c2 : x < q.1
          · simp only [if_pos c2]
            refine ⟨?_, m1⟩
            show _ = p.2 + (x - p.1)
            rw [m1]
            grind
          · simp only [if_neg c2]
            rw [ih.c x (by grind), ih.d x (by grind)]
            refine ⟨?_, by first | rfl | exact True.intro⟩
            show q.2 + (x - q.1) = p.2 + (x - p.1)
            rw [lp, m1]
            grind
        | cons q2 L' =>
          obtain ⟨b1, b2⟩ := ih.b q2 L' rfl
          have s1 := slope_of b1 b2
          have s2 : slope p q2 = m := slope_of (by grind) (by rw [b2, lp]; grind)
          by_cases c2 : x < q.1
          · simp only [if_pos c2]
            show _ = (if x < q2.1 then p.2 + (x - p.1) * slope p q2 else E q2 L' x) ∧ m = (if x < q2.1 then slope p q2 else S q2 L' x)
            rw [if_pos (by grind), if_pos (by grind), s2]
            first | exact ⟨rfl, rfl⟩ | exact ⟨rfl, True.intro⟩ | exact True.intro | exact ⟨True.intro, True.intro⟩
          · simp only [if_neg c2]
            rw [ih.c x (by grind), ih.d x (by grind)]
            show (if x < q2.1 then q.2 + (x - q.1) * slope q q2 else E q2 L' x) = (if x < q2.1 then p.2 + (x - p.1) * slope p q2 else E q2 L' x) ∧ (if x < q2.1 then slope q q2 else S q2 L' x) = (if x < q2.1 then slope p q2 else S q2 L' x)
            rw [s1, s2]
            by_cases c3 : x < q2.1
            · simp only [if_pos c3]
              refine ⟨?_, by first | rfl | exact True.intro⟩
              rw [lp]
              grind
            · simp only [if_neg c3]
              first | exact ⟨rfl, rfl⟩ | exact ⟨rfl, True.intro⟩ | exact True.intro | exact ⟨True.intro, True.intro⟩
      refine ⟨fun e => ih.a e, fun q2 L' e => ?_, fun x hx' => (hx x hx').1, fun x hx' => (hx x hx').2⟩
      obtain ⟨b1, b2⟩ := ih.b q2 L' e
      exact ⟨by grind, by rw [b2, lp]; grind⟩
    · rw [if_neg c]
      refine ⟨(fun e => by cases e), fun q2 L' e => ?_, fun x hx => ?_, fun x hx => ?_⟩
      · cases e
        exact ⟨h1, lp⟩
      · show (if x < q.1 then p.2 + (x - p.1) * slope p q else E q r x) = (if x < q.1 then p.2 + (x - p.1) * slope p q else E q (fil (nx q r) r) x)
        by_cases c2 : x < q.1
        · simp only [if_pos c2]
        · simp only [if_neg c2]
          rw [ih.c x (by grind)]
      · show (if x < q.1 then slope p q else S q r x) = (if x < q.1 then slope p q else S q (fil (nx q r) r) x)
        by_cases c2 : x < q.1
        · simp only [if_pos c2]
        · simp only [if_neg c2]
          rw [ih.d x (by grind)]
theorem Line.nx {p : Pt} {r : List Pt} (h : Line p (nx p r) r (fil (nx p r) r)) : M08.nx p (fil (M08.nx p r) r) = M08.nx p r := by
  cases e : fil (M08.nx p r) r with
  | nil => exact (h.a e).symm
  | cons q L =>
    obtain ⟨b1, b2⟩ := h.b q L e
    exact slope_of b1 b2
/-- nothing is left: a straight line -/
theorem flat {p : Pt} {r : List Pt} (h : Up (p :: r)) (e : fil 1 (p :: r) = []) (x : Rat) : f (p :: r) x = p.2 + (x - p.1) ∧ sl (p :: r) x = 1 := by
  have l := line r p h
  have ef : fil 1 (p :: r) = if 1 = nx p r then fil (nx p r) r else p :: fil (nx p r) r := rfl
  rw [ef] at e
  by_cases c : 1 = nx p r
  · rw [if_pos c] at e
    show (if x < p.1 then p.2 + (x - p.1) else E p r x) = _ ∧ (if x < p.1 then 1 else S p r x) = 1
    by_cases c2 : x < p.1
    · simp only [if_pos c2]
      first | exact ⟨rfl, rfl⟩ | exact ⟨rfl, True.intro⟩ | exact True.intro | exact ⟨True.intro, True.intro⟩
    · simp only [if_neg c2]
      rw [l.c x (by grind), l.d x (by grind), e]
      first | exact ⟨rfl, rfl⟩ | exact ⟨rfl, True.intro⟩ | exact True.intro | exact ⟨True.intro, True.intro⟩
  · rw [if_neg c] at e
    cases e
theorem f_std (ps : List Pt) (h : Up ps) (x : Rat) : f (std ps) x = f ps x ∧ sl (std ps) x = sl ps x := by
  unfold std
  cases ps with
  | nil =>
    show (if x < 0 then (0 : Rat) + (x - 0) else 0 + (x - 0)) = x ∧ (if x < 0 then (1 : Rat) else 1) = 1
    by_cases c : x < 0 <;> simp [c] <;> grind
  | cons p r =>
    by_cases e : fil 1 (p :: r) = []
    · rw [if_pos e]
      have h0 := (flat h e 0).1
      have hx := flat h e x
      rw [hx.1, hx.2, h0]
      show (if x < 0 then (p.2 + (0 - p.1)) + (x - 0) else (p.2 + (0 - p.1)) + (x - 0)) = _ ∧ (if x < 0 then (1 : Rat) else 1) = 1
      by_cases c : x < 0 <;> simp [c] <;> grind
    · rw [if_neg e]
      have l := line r p h
      have ef : fil 1 (p :: r) = if 1 = nx p r then fil (nx p r) r else p :: fil (nx p r) r := rfl
      by_cases c : 1 = nx p r
      · rw [ef, if_pos c] at e ⊢
        generalize hL : fil (nx p r) r = L at l e ⊢
        cases L with
        | nil => exact absurd rfl e
        | cons q L' =>
          obtain ⟨b1, b2⟩ := l.b q L' rfl
          have s1 := slope_of b1 b2
          show (if x < q.1 then q.2 + (x - q.1) else E q L' x) = (if x < p.1 then p.2 + (x - p.1) else E p r x) ∧ (if x < q.1 then 1 else S q L' x) = (if x < p.1 then 1 else S p r x)
          by_cases c2 : x < p.1
          · rw [if_pos c2, if_pos c2, if_pos (show x < q.1 by grind), if_pos (show x < q.1 by grind)]
            refine ⟨?_, by first | rfl | exact True.intro⟩
            rw [b2, ← c]
            grind
          · simp only [if_neg c2]
            rw [l.c x (by grind), l.d x (by grind)]
            show _ = (if x < q.1 then p.2 + (x - p.1) * slope p q else E q L' x) ∧ _ = (if x < q.1 then slope p q else S q L' x)
            rw [s1, ← c]
            by_cases c3 : x < q.1
            · simp only [if_pos c3]
              refine ⟨?_, by first | rfl | exact True.intro⟩
              rw [b2, ← c]
              grind
            · simp only [if_neg c3]
              first | exact ⟨rfl, rfl⟩ | exact ⟨rfl, True.intro⟩ | exact True.intro | exact ⟨True.intro, True.intro⟩
      · rw [ef, if_neg c]
        show (if x < p.1 then p.2 + (x - p.1) else E p (fil (nx p r) r) x) = (if x < p.1 then p.2 + (x - p.1) else E p r x) ∧ (if x < p.1 then 1 else S p (fil (nx p r) r) x) = (if x < p.1 then 1 else S p r x)
        by_cases c2 : x < p.1
        · simp only [if_pos c2]
          first | exact ⟨rfl, rfl⟩ | exact ⟨rfl, True.intro⟩ | exact True.intro | exact ⟨True.intro, True.intro⟩
        · simp only [if_neg c2]
          rw [l.c x (by grind), l.d x (by grind)]
          first | exact ⟨rfl, rfl⟩ | exact ⟨rfl, True.intro⟩ | exact True.intro | exact ⟨True.intro, True.intro⟩
theorem fil_fil : ∀ (ps : List Pt) (l : Rat), Up ps → fil l (fil l ps) = fil l ps
  | [], _, _ => rfl
  | p :: r, l, h => by
    have li := line r p h
    have ih := fil_fil r (nx p r) h.tail
    have ef : fil l (p :: r) = if l = nx p r then fil (nx p r) r else p :: fil (nx p r) r := rfl
    rw [ef]
    by_cases c : l = nx p r
    · rw [if_pos c, c]
      exact ih
    · rw [if_neg c]
      show (if l = nx p (fil (nx p r) r) then fil (nx p (fil (nx p r) r)) (fil (nx p r) r) else p :: fil (nx p (fil (nx p r) r)) (fil (nx p r) r)) = _
      rw [li.nx, if_neg c, ih]
theorem std_std (ps : List Pt) (h : Up ps) : std (std ps) = std ps := by
  by_cases e : fil 1 ps = []
  · have e1 : std ps = [(0, f ps 0)] := if_pos e
    rw [e1]
    have e2 : fil 1 [((0 : Rat), f ps 0)] = [] := by
      show (if (1 : Rat) = 1 then fil 1 [] else _) = []
      rw [if_pos rfl]
      rfl
    unfold std
    rw [if_pos e2]
    show [((0 : Rat), (if (0 : Rat) < 0 then f ps 0 + (0 - 0) else f ps 0 + (0 - 0)))] = _
    congr 2
    split <;> grind
  · have e1 : std ps = fil 1 ps := if_neg e
    rw [e1]
    unfold std
    rw [fil_fil ps 1 h, if_neg e]
end M08
set_option linter.all false
namespace M08
/-! ### what rises -/
theorem Up.cons {p q : Pt} {r : List Pt} (h : Up (q :: r)) (h1 : p.1 < q.1) (h2 : p.2 < q.2) : Up (p :: q :: r) := ⟨h1, h2, h⟩
theorem up_pw : ∀ (ps : List Pt), Up ps → List.Pairwise (fun p q : Pt => p.1 < q.1 ∧ p.2 < q.2) ps
  | [], _ => .nil
  | [p], _ => .cons (fun q h => by cases h) .nil
  | p :: q :: r, h => by
    obtain ⟨h1, h2, h3⟩ := h
    have ih := up_pw (q :: r) h3
    refine .cons (fun z hz => ?_) ih
    rcases List.mem_cons.mp hz with e | m
    · rw [e]; exact ⟨h1, h2⟩
    · cases ih with
      | cons a _ =>
        obtain ⟨b1, b2⟩ := a z m
        exact ⟨by grind, by grind⟩
theorem pw_up : ∀ (ps : List Pt), List.Pairwise (fun p q : Pt => p.1 < q.1 ∧ p.2 < q.2) ps → Up ps
  | [], _ => True.intro
  | [p], _ => True.intro
  | p :: q :: r, h => by
    cases h with
    | cons a b => exact ⟨(a q List.mem_cons_self).1, (a q List.mem_cons_self).2, pw_up (q :: r) b⟩
theorem fil_sub : ∀ (ps : List Pt) (l : Rat), (fil l ps).Sublist ps
  | [], _ => .slnil
  | p :: r, l => by
    have ih := fil_sub r (nx p r)
    show (if l = nx p r then fil (nx p r) r else p :: fil (nx p r) r).Sublist (p :: r)
    split
    · exact ih.cons p
    · exact ih.cons₂ p
theorem up_std {ps : List Pt} (h : Up ps) : Up (std ps) := by
  unfold std
  split
  · exact True.intro
  · exact pw_up _ ((up_pw _ h).sublist (fil_sub ps 1))
theorem std_len (ps : List Pt) : (std ps).length ≤ ps.length + 1 ∧ std ps ≠ [] := by
  unfold std
  split
  · exact ⟨by simp, by simp⟩
  · rename_i h
    have := (fil_sub ps 1).length_le
    exact ⟨by omega, h⟩
/-! ### finer points -/
def mid (p q : Pt) : Pt := ((p.1 + q.1) / 2, (p.2 + q.2) / 2)
def fn (e : Bool) : List Pt → List Pt
  | [] => []
  | [p] => if e then [p, (p.1 + 3, p.2 + 3)] else [p]
  | p :: q :: r => p :: mid p q :: fn e (q :: r)
theorem fn_head (e : Bool) (q : Pt) (r : List Pt) : ∃ T, fn e (q :: r) = q :: T := by
  cases r with
  | nil =>
    cases e
    · exact ⟨[], rfl⟩
    · exact ⟨[(q.1 + 3, q.2 + 3)], rfl⟩
  | cons z r => exact ⟨mid q z :: fn e (z :: r), rfl⟩
theorem half (a b : Rat) (h : a < b) : a < (a + b) / 2 ∧ (a + b) / 2 < b := by
  constructor <;> grind
theorem up_fn : ∀ (e : Bool) (ps : List Pt), Up ps → Up (fn e ps)
  | _, [], _ => True.intro
  | e, [p], _ => by
    cases e
    · exact True.intro
    · exact ⟨by grind, by grind, True.intro⟩
  | e, p :: q :: r, h => by
    obtain ⟨h1, h2, h3⟩ := h
    have ih := up_fn e (q :: r) h3
    obtain ⟨T, eT⟩ := fn_head e q r
    show Up (p :: mid p q :: fn e (q :: r))
    rw [eT] at ih ⊢
    obtain ⟨a1, a2⟩ := half _ _ h1
    obtain ⟨b1, b2⟩ := half _ _ h2
    exact ⟨a1, b1, a2, b2, ih⟩
theorem mid_slope {p q : Pt} (h : p.1 < q.1) : slope p (mid p q) = slope p q ∧ slope (mid p q) q = slope p q := by
  have l := slope_line h
  obtain ⟨a1, a2⟩ := half _ _ h
  refine ⟨slope_of a1 ?_, slope_of a2 ?_⟩
  · show (p.2 + q.2) / 2 = p.2 + ((p.1 + q.1) / 2 - p.1) * slope p q
    rw [l]
    grind
  · show q.2 = (p.2 + q.2) / 2 + (q.1 - (p.1 + q.1) / 2) * slope p q
    rw [l]
    grind
theorem fil_fn : ∀ (e : Bool) (ps : List Pt) (l : Rat), Up ps → fil l (fn e ps) = fil l ps
  | _, [], _, _ => rfl
  | e, [p], l, _ => by
    cases e
    · rfl
    · have s : slope p (p.1 + 3, p.2 + 3) = 1 := slope_of (by grind) (by grind)
      show (if l = slope p (p.1 + 3, p.2 + 3) then fil (slope p (p.1 + 3, p.2 + 3)) [(p.1 + 3, p.2 + 3)] else p :: fil (slope p (p.1 + 3, p.2 + 3)) [(p.1 + 3, p.2 + 3)]) = (if l = 1 then fil 1 [] else p :: fil 1 [])
      rw [s]
      have : fil 1 [(p.1 + 3, p.2 + 3)] = [] := by
        show (if (1 : Rat) = 1 then fil 1 [] else _) = []
        rw [if_pos rfl]
        rfl
      rw [this]
      rfl
  | e, p :: q :: r, l, h => by
    obtain ⟨h1, h2, h3⟩ := h
    have ih := fil_fn e (q :: r) (slope p q) h3
    obtain ⟨T, eT⟩ := fn_head e q r
    obtain ⟨m1, m2⟩ := mid_slope h1
    show (if l = slope p (mid p q) then fil (slope p (mid p q)) (mid p q :: fn e (q :: r)) else p :: fil (slope p (mid p q)) (mid p q :: fn e (q :: r))) = (if l = slope p q then fil (slope p q) (q :: r) else p :: fil (slope p q) (q :: r))
    rw [m1]
    have e2 : fil (slope p q) (mid p q :: fn e (q :: r)) = fil (slope p q) (q :: r) := by
      rw [eT] at ih ⊢
      show (if slope p q = slope (mid p q) q then fil (slope (mid p q) q) (q :: T) else mid p q :: fil (slope (mid p q) q) (q :: T)) = _
      rw [m2, if_pos rfl]
      exact ih
    rw [e2]
theorem std_fn (e : Bool) {ps : List Pt} (h : Up ps) : std (fn e ps) = std ps := by
  have ef := fil_fn e ps 1 h
  unfold std
  rw [ef]
  by_cases c : fil 1 ps = []
  · rw [if_pos c, if_pos c]
    cases ps with
    | nil => rfl
    | cons p r =>
      obtain ⟨T, eT⟩ := fn_head e p r
      have h2 := up_fn e (p :: r) h
      rw [(flat h c 0).1]
      rw [eT] at h2 ef ⊢
      rw [(flat h2 (ef.trans c) 0).1]
  · rw [if_neg c, if_neg c]
/-! ### a further bend behind the last point -/
theorem fil_last : ∀ (r : List Pt) (l : Rat) (z e : Pt), slope z e ≠ 1 → ∃ K, fil l (r ++ [z, e]) = K ++ [e]
  | [], l, z, e, h => by
    have e1 : fil (slope z e) [e] = [e] := by
      show (if slope z e = 1 then fil 1 [] else e :: fil 1 []) = _
      rw [if_neg h]
      rfl
    show ∃ K, (if l = slope z e then fil (slope z e) [e] else z :: fil (slope z e) [e]) = K ++ [e]
    rw [e1]
    split
    · exact ⟨[], rfl⟩
    · exact ⟨[z], rfl⟩
  | p :: r, l, z, e, h => by
    obtain ⟨K, eK⟩ := fil_last r (nx p (r ++ [z, e])) z e h
    show ∃ K, (if l = nx p (r ++ [z, e]) then fil (nx p (r ++ [z, e])) (r ++ [z, e]) else p :: fil (nx p (r ++ [z, e])) (r ++ [z, e])) = K ++ [e]
    rw [eK]
    split
    · exact ⟨K, rfl⟩
    · exact ⟨p :: K, rfl⟩
theorem bent_ne (r : List Pt) (z : Pt) : std (r ++ [z, (z.1 + 1, z.2 + 3 / 2)]) ≠ r ++ [z] := by
  have s : slope z (z.1 + 1, z.2 + 3 / 2) = 3 / 2 := slope_of (by grind) (by grind)
  obtain ⟨K, eK⟩ := fil_last r 1 z (z.1 + 1, z.2 + 3 / 2) (by rw [s]; grind)
  unfold std
  rw [eK, if_neg (by simp)]
  intro e
  have h := List.append_inj_right' e rfl
  have h2 : (z.1 + 1, z.2 + 3 / 2) = z := (List.cons.inj h).1
  have h3 : z.1 + 1 = z.1 := congrArg Prod.fst h2
  grind
theorem up_bent : ∀ (r : List Pt) (z : Pt), Up (r ++ [z]) → Up (r ++ [z, (z.1 + 1, z.2 + 3 / 2)])
  | [], z, _ => ⟨by grind, by grind, True.intro⟩
  | [p], z, h => ⟨h.1, h.2.1, by grind, by grind, True.intro⟩
  | p :: q :: r, z, h => ⟨h.1, h.2.1, up_bent (q :: r) z h.2.2⟩
/-! ### by index -/
def pc (ps : List Pt) (n : Nat) : Rat := if n = 0 then 1 else nx (ps.getD (n - 1) (0, 0)) (ps.drop n)
theorem E_at : ∀ (r : List Pt) (p : Pt) (x : Rat) (n : Nat) (q : Pt), (p :: r)[n]? = some q → (∀ (j : Nat) z, j < n → r[j]? = some z → z.1 ≤ x) → (∀ (j : Nat) z, n ≤ j → r[j]? = some z → x < z.1) → E p r x = q.2 + (x - q.1) * nx q (r.drop n) ∧ S p r x = nx q (r.drop n)
  | [], p, x, n, q, h, _, _ => by
    cases n with
    | zero =>
      cases h
      show p.2 + (x - p.1) = p.2 + (x - p.1) * 1 ∧ (1 : Rat) = 1
      exact ⟨by grind, rfl⟩
    | succ n => simp at h
  | q0 :: r, p, x, n, q, h, h1, h2 => by
    cases n with
    | zero =>
      have eq : p = q := Option.some.inj h
      rw [← eq]
      have c := h2 0 q0 (Nat.le_refl _) rfl
      show (if x < q0.1 then p.2 + (x - p.1) * slope p q0 else E q0 r x) = p.2 + (x - p.1) * slope p q0 ∧ (if x < q0.1 then slope p q0 else S q0 r x) = slope p q0
      rw [if_pos c, if_pos c]
      exact ⟨rfl, rfl⟩
    | succ n =>
      have c := h1 0 q0 (Nat.zero_lt_succ _) rfl
      have ih := E_at r q0 x n q h (fun j z hj e => h1 (j + 1) z (by omega) e) (fun j z hj e => h2 (j + 1) z (by omega) e)
      show (if x < q0.1 then p.2 + (x - p.1) * slope p q0 else E q0 r x) = _ ∧ (if x < q0.1 then slope p q0 else S q0 r x) = _
      rw [if_neg (by grind), if_neg (by grind)]
      exact ih
theorem f_at {ps : List Pt} {x : Rat} {n : Nat} {q : Pt} (h : ps[n - 1]? = some q) (hn : n ≤ ps.length) (h1 : ∀ (j : Nat) z, j < n → ps[j]? = some z → z.1 ≤ x) (h2 : ∀ (j : Nat) z, n ≤ j → ps[j]? = some z → x < z.1) : f ps x = q.2 + (x - q.1) * pc ps n ∧ sl ps x = pc ps n := by
  cases ps with
  | nil => simp at h
  | cons p r =>
    cases n with
    | zero =>
      have eq : p = q := Option.some.inj h
      rw [← eq]
      have c := h2 0 p (Nat.le_refl _) rfl
      show (if x < p.1 then p.2 + (x - p.1) else E p r x) = p.2 + (x - p.1) * 1 ∧ (if x < p.1 then 1 else S p r x) = 1
      rw [if_pos c, if_pos c]
      exact ⟨by grind, rfl⟩
    | succ n =>
      have c := h1 0 p (Nat.zero_lt_succ _) rfl
      have hq : (p :: r)[n]? = some q := h
      have := E_at r p x n q hq (fun j z hj e => h1 (j + 1) z (by omega) e) (fun j z hj e => h2 (j + 1) z (by omega) e)
      show (if x < p.1 then p.2 + (x - p.1) else E p r x) = _ ∧ (if x < p.1 then 1 else S p r x) = _
      rw [if_neg (by grind), if_neg (by grind)]
      have e : pc (p :: r) (n + 1) = nx q (r.drop n) := by
        show nx ((p :: r).getD n (0, 0)) (r.drop n) = _
        rw [List.getD_eq_getElem?_getD, hq]
        rfl
      rw [e]
      exact this
theorem pc_zero (ps : List Pt) : pc ps 0 = 1 := rfl
theorem pc_end {ps : List Pt} : pc ps ps.length = 1 := by
  unfold pc
  split
  · rfl
  · rw [List.drop_length]
    rfl
theorem pc_at {ps : List Pt} {n : Nat} {p q : Pt} (hp : ps[n]? = some p) (hq : ps[n + 1]? = some q) : pc ps (n + 1) = slope p q := by
  unfold pc
  rw [if_neg (by omega), Nat.add_sub_cancel, List.getD_eq_getElem?_getD, hp]
  have hl := (List.getElem?_eq_some_iff.mp hq).1
  have e := (List.getElem?_eq_some_iff.mp hq).2
  rw [List.drop_eq_getElem_cons hl, e]
  rfl
theorem fil_step {ps : List Pt} {i : Nat} {p : Pt} (h : ps[i]? = some p) : fil (pc ps i) (ps.drop i) = if pc ps i = pc ps (i + 1) then fil (pc ps (i + 1)) (ps.drop (i + 1)) else p :: fil (pc ps (i + 1)) (ps.drop (i + 1)) := by
  have hl := (List.getElem?_eq_some_iff.mp h).1
  have e := (List.getElem?_eq_some_iff.mp h).2
  have e2 : pc ps (i + 1) = nx p (ps.drop (i + 1)) := by
    unfold pc
    rw [if_neg (by omega), Nat.add_sub_cancel, List.getD_eq_getElem?_getD, h]
    rfl
  rw [e2, List.drop_eq_getElem_cons hl, e]
  rfl
end M08
set_option Elab.async false
set_option linter.all false
set_option maxRecDepth 100000
set_option maxHeartbeats 1000000
set_option exponentiation.threshold 100000
namespace K35
open PySem PySem.Spec PyProof.Rows L2 Fa Fb
/-! ### the value of a fraction -/
def vq (t u : Int) : Rat := (t : Rat) / (u : Rat)
theorem cast_ne {u : Int} (h : u ≠ 0) : (u : Rat) ≠ 0 := fun z => h (Rat.intCast_inj.mp (z.trans Rat.intCast_zero.symm))
theorem cast_pos {u : Int} (h : 0 < u) : 0 < (u : Rat) := by
  have := Rat.intCast_lt_intCast.mpr h
  rwa [Rat.intCast_zero] at this
theorem vq_eq {t u t2 u2 : Int} (h : u ≠ 0) (h2 : u2 ≠ 0) : vq t u = vq t2 u2 ↔ t * u2 = t2 * u := by
  have hu := cast_ne h
  have hu2 := cast_ne h2
  unfold vq
  constructor
  · intro e
    have h3 : (t : Rat) * u2 = t2 * u := by grind
    exact Rat.intCast_inj.mp (by rw [Rat.intCast_mul, Rat.intCast_mul]; exact h3)
  · intro e
    have h3 : (t : Rat) * u2 = t2 * u := by
      rw [← Rat.intCast_mul, ← Rat.intCast_mul, e]
    grind
theorem vq_inj {t u t2 u2 : Int} (r : Am.Red t u) (r2 : Am.Red t2 u2) (e : vq t u = vq t2 u2) : t = t2 ∧ u = u2 := Am.uniq r r2 ((vq_eq (Int.ne_of_gt r.1) (Int.ne_of_gt r2.1)).mp e)
theorem vq_add {t u t2 u2 a b : Int} (h : u ≠ 0) (h2 : u2 ≠ 0) (hb : b ≠ 0) (e : a * (u * u2) = (t * u2 + t2 * u) * b) : vq a b = vq t u + vq t2 u2 := by
  rw [(vq_eq hb (Int.mul_ne_zero h h2)).mpr e]
  have hu := cast_ne h
  have hu2 := cast_ne h2
  unfold vq
  rw [Rat.intCast_add, Rat.intCast_mul, Rat.intCast_mul, Rat.intCast_mul]
  grind
theorem vq_sub {t u t2 u2 a b : Int} (h : u ≠ 0) (h2 : u2 ≠ 0) (hb : b ≠ 0) (e : a * (u * u2) = (t * u2 - t2 * u) * b) : vq a b = vq t u - vq t2 u2 := by
  rw [(vq_eq hb (Int.mul_ne_zero h h2)).mpr e]
  have hu := cast_ne h
  have hu2 := cast_ne h2
  unfold vq
  rw [Rat.intCast_sub, Rat.intCast_mul, Rat.intCast_mul, Rat.intCast_mul]
  grind
theorem vq_mul {t u t2 u2 a b : Int} (h : u ≠ 0) (h2 : u2 ≠ 0) (hb : b ≠ 0) (e : a * (u * u2) = (t * t2) * b) : vq a b = vq t u * vq t2 u2 := by
  rw [(vq_eq hb (Int.mul_ne_zero h h2)).mpr e]
  have hu := cast_ne h
  have hu2 := cast_ne h2
  unfold vq
  rw [Rat.intCast_mul, Rat.intCast_mul]
  grind
theorem vq_div {t u t2 u2 a b : Int} (h : u ≠ 0) (h2 : u2 ≠ 0) (ht : t2 ≠ 0) (hb : b ≠ 0) (e : a * (u * t2) = (t * u2) * b) : vq a b = vq t u / vq t2 u2 := by
  rw [(vq_eq hb (Int.mul_ne_zero h ht)).mpr e]
  have hu := cast_ne h
  have hu2 := cast_ne h2
  have ht2 := cast_ne ht
  unfold vq
  rw [Rat.intCast_mul, Rat.intCast_mul]
  grind
theorem vq_lt {t u t2 u2 : Int} (h : 0 < u) (h2 : 0 < u2) : t * u2 < t2 * u ↔ vq t u < vq t2 u2 := by
  have hu := cast_pos h
  have hu2 := cast_pos h2
  have hp := Rat.mul_pos hu hu2
  have nu : (u : Rat) ≠ 0 := by grind
  have nu2 : (u2 : Rat) ≠ 0 := by grind
  have e1 : vq t u * ((u : Rat) * u2) = ((t * u2 : Int) : Rat) := by
    rw [Rat.intCast_mul]
    unfold vq
    grind
  have e2 : vq t2 u2 * ((u : Rat) * u2) = ((t2 * u : Int) : Rat) := by
    rw [Rat.intCast_mul]
    unfold vq
    grind
  rw [← Rat.intCast_lt_intCast, ← e1, ← e2]
  exact Rat.mul_lt_mul_right hp
theorem vq_int (a : Int) : vq a 1 = (a : Rat) := by
  unfold vq
  have : ((1 : Int) : Rat) = 1 := rfl
  rw [this]
  grind
theorem vq_zero : vq 0 1 = 0 := by rw [vq_int]; rfl
theorem vq_one : vq 1 1 = 1 := by rw [vq_int]; rfl
/-- an amount of the value q -/
def QA (K : PySem.W.Frag) (H : Hp) (x : V) (q : Rat) (n : Nat) : Prop := ∃ t u, IsA K H x t u n ∧ vq t u = q
theorem QA.same {K : PySem.W.Frag} {H H' : Hp} {x : V} {q : Rat} {n : Nat} (h : QA K H x q n) (s : Same H H') : QA K H' x q n := let ⟨t, u, a, e⟩ := h; ⟨t, u, a.same s, e⟩
theorem QA.mono {K : PySem.W.Frag} {H : Hp} {x : V} {q : Rat} {n m : Nat} (h : QA K H x q n) (e : n ≤ m) : QA K H x q m := let ⟨t, u, a, e'⟩ := h; ⟨t, u, a.mono e, e'⟩
end K35
set_option linter.all false
namespace M04
open PySem
abbrev Row := List (Str × Rat)
structure Cue where
  nm : Str
  pa : Str
  un : Str
  q : Rat
def part (row : Row) (u : Str) : Row × Rat := match row.getLast? with
  | some (v, r) => if v = u then (row.dropLast, r) else (row, 0)
  | none => (row, 0)
def ext (row : Row) (u : Str) (q : Rat) : Row := if (part row u).2 + q = 0 then (part row u).1 else (part row u).1 ++ [(u, (part row u).2 + q)]
structure St where
  rows : List Row
  nums : List (Str × Nat)
def num (nums : List (Str × Nat)) (x : Str) : Option Nat := (nums.find? fun z => decide (z.1 = x)).map (·.2)
def idx (rows : List Row) (row : Row) : Nat := rows.findIdx fun z => decide (z = row)
def row (s : St) (c : Cue) : Row := ext (s.rows.getD ((num s.nums c.pa).getD 0) []) c.un c.q
def rows (s : St) (c : Cue) : List Row := if row s c ∈ s.rows then s.rows else s.rows ++ [row s c]
def step (s : St) (c : Cue) : St := ⟨rows s c, s.nums ++ [(c.nm, idx (rows s c) (row s c))]⟩
def init : St := ⟨[[]], [("start", 0)]⟩
def all (cs : List Cue) : St := cs.foldl step init
theorem all_app (cs : List Cue) (c : Cue) : all (cs ++ [c]) = step (all cs) c := by
  unfold all
  rw [List.foldl_append]
  rfl
/-- the numbers are those of rows -/
def NumOk (s : St) : Prop := ∀ x i, num s.nums x = some i → i < s.rows.length
theorem num_app (l : List (Str × Nat)) (a : Str) (i : Nat) (x : Str) : num (l ++ [(a, i)]) x = match num l x with
    | some j => some j
    | none => if a = x then some i else none := by
  unfold num
  rw [List.find?_append]
  cases h : l.find? fun z => decide (z.1 = x) with
  | some z => simp
  | none =>
    by_cases c : a = x
    · simp [c]
    · simp [c]
theorem row_mem (s : St) (c : Cue) : row s c ∈ rows s c := by
  unfold rows
  split
  · assumption
  · simp
theorem idx_lt {l : List Row} {r : Row} (h : r ∈ l) : idx l r < l.length := by
  unfold idx
  exact List.findIdx_lt_length_of_exists ⟨r, h, by simp⟩
theorem idx_at {l : List Row} {r : Row} (h : r ∈ l) : l[idx l r]? = some r := by
  have lt := idx_lt h
  rw [List.getElem?_eq_getElem lt]
  have : decide (l[idx l r] = r) = true := List.findIdx_getElem (xs := l) (p := fun z => decide (z = r)) (w := lt)
  rw [of_decide_eq_true this]
theorem idx_no {l : List Row} {r : Row} {m : Nat} (h : m < idx l r) (z : Row) (e : l[m]? = some z) : z ≠ r := by
  have := List.not_of_lt_findIdx (xs := l) (p := fun z => decide (z = r)) h
  have lm := (List.getElem?_eq_some_iff.mp e).1
  have e2 := (List.getElem?_eq_some_iff.mp e).2
  intro er
  rw [e2, er] at this
  simp at this
theorem step_ok (s : St) (c : Cue) (h : NumOk s) : NumOk (step s c) := by
  have le : s.rows.length ≤ (rows s c).length := by
    unfold rows
    split
    · exact Nat.le_refl _
    · rw [List.length_append]; omega
  intro x i e
  show i < (rows s c).length
  have e : num (s.nums ++ [(c.nm, idx (rows s c) (row s c))]) x = some i := e
  rw [num_app] at e
  cases hx : num s.nums x with
  | some j =>
    rw [hx] at e
    have := h x j hx
    simp at e
    omega
  | none =>
    rw [hx] at e
    dsimp only at e
    split at e
    · cases e
      exact idx_lt (row_mem s c)
    · cases e
theorem all_ok : ∀ (cs : List Cue) (s : St), NumOk s → NumOk (cs.foldl step s)
  | [], s, h => h
  | c :: r, s, h => all_ok r (step s c) (step_ok s c h)
theorem init_ok : NumOk init := by
  intro x i e
  unfold num init at e
  simp only [List.find?_cons, List.find?_nil] at e
  show i < 1
  split at e
  · cases e; decide
  · cases e
theorem len_step (s : St) (c : Cue) : (step s c).rows.length ≤ s.rows.length + 1 := by
  show (rows s c).length ≤ _
  unfold rows
  split
  · omega
  · rw [List.length_append]; exact Nat.le_refl _
theorem part_len (r : Row) (u : Str) : (part r u).1.length ≤ r.length := by
  unfold part
  split
  · split
    · rw [List.length_dropLast]; omega
    · exact Nat.le_refl _
  · exact Nat.le_refl _
theorem ext_len (r : Row) (u : Str) (q : Rat) : (ext r u q).length ≤ r.length + 1 := by
  have := part_len r u
  unfold ext
  split
  · omega
  · rw [List.length_append]; simp; omega
theorem nums_len (cs : List Cue) : (all cs).nums.length = cs.length + 1 := by
  suffices h : ∀ (cs : List Cue) (s : St), (cs.foldl step s).nums.length = s.nums.length + cs.length by
    rw [show all cs = cs.foldl step init from rfl, h, Nat.add_comm]
    rfl
  intro cs
  induction cs with
  | nil => intro s; rfl
  | cons c r ih =>
    intro s
    rw [List.foldl_cons, ih, List.length_cons]
    show (s.nums ++ [_]).length + _ = _
    rw [List.length_append, List.length_singleton]
    omega
theorem rows_len (cs : List Cue) : (all cs).rows.length ≤ cs.length + 1 := by
  suffices h : ∀ (cs : List Cue) (s : St), (cs.foldl step s).rows.length ≤ s.rows.length + cs.length by
    have := h cs init
    rw [show init.rows.length = 1 from rfl] at this
    rw [show all cs = cs.foldl step init from rfl]
    omega
  intro cs
  induction cs with
  | nil => intro s; exact Nat.le_refl _
  | cons c r ih =>
    intro s
    have := ih (step s c)
    have := len_step s c
    rw [List.foldl_cons, List.length_cons]
    omega
end M04
set_option Elab.async false
set_option linter.all false
set_option maxRecDepth 100000
set_option maxHeartbeats 4000000
/-! l != b of two lists whose items are equal by an own ==: False. -/
namespace Fe
open PySem PySem.SeqAt
open AutoSeq1 (wpAny_loadPart')
open MeetsSeq MeetsSeq2 MeetsSeq3 SeqRoads2 GQ
section
variable {prog : Program} {w : World} {A : Around} {R : Result → Shared → Prop}
theorem ne_goes (l b : Addr) (N : Nat) (I : Nat → Shared → Prop) (hl : ListI prog w A (fun e s' => R (.error e) s') l b N I) (fin : ∀ s, I N s → R (.ok (.ret (.bool false))) s) (m : Nat) :
    ∀ j : Nat, m + j = N → ∀ s, I j s → wpAny (model prog w) A.in1 (Builtin.«list.__eq__.loop» ⟨[.ref l, .ref b, rawInt j, rawInt 3], []⟩) (FinOf prog w A R) (fun e s' => R (.error e) s') s := by
  induction m with
  | zero =>
    intro j hj s h
    obtain ⟨xs, ys, n, n2, g1, g2, z1, z2, _⟩ := hl _ _ h
    have jN : j = N := by omega
    have done : R (.ok (.ret (.bool false))) s := fin s (jN ▸ h)
    obtain ⟨hp, gl, dr, tk, os⟩ := s
    wp_walk using wpAny_loadPart' g1, wpAny_loadPart' g2
    have e1 : xs[((j : Nat) : Int).toNat]? = none := by
      simp
      omega
    have e2 : ys[((j : Nat) : Int).toNat]? = none := by
      simp
      omega
    rw [e1, e2]
    wp_walk using wpAny_loadPart' g1, wpAny_loadPart' g2
    show R (.ok (.ret (.bool (xs.size != ys.size)))) _
    rw [z1, z2]
    simpa using done
  | succ m ih =>
    intro j hj s h
    obtain ⟨xs, ys, n, n2, g1, g2, z1, z2, turn⟩ := hl _ _ h
    have l1 : j < xs.size := by omega
    have l2 : j < ys.size := by omega
    have one := turn l1 l2
    obtain ⟨hp, gl, dr, tk, os⟩ := s
    wp_walk using wpAny_loadPart' g1, wpAny_loadPart' g2
    have e1 : xs[((j : Nat) : Int).toNat]? = some xs[j] := by simp [l1]
    have e2 : ys[((j : Nat) : Int).toNat]? = some ys[j] := by simp [l2]
    rw [e1, e2]
    refine wpAny_bind (wpAny_mono one (fun r s2 hr => ?_) fun _ _ z => z)
    obtain ⟨er, h2⟩ := hr
    subst er
    have rest := ih (j + 1) (by omega) s2 h2
    obtain ⟨hp2, gl2, dr2, tk2, os2⟩ := s2
    wp_walk
    rw [show ((j : Int) + 1) = ((j + 1 : Nat) : Int) by omega]
    refine ⟨plainId_quiet plain_eq_loop _, codeAny_builtin entry_eq_loop ?_⟩
    rw [Around.under_plainId plain_eq_loop _]
    exact rest
theorem list_ne (l b : Addr) (N : Nat) (I : Nat → Shared → Prop) (hl : ListI prog w A (fun e s' => R (.error e) s') l b N I) (fin : ∀ s, I N s → R (.ok (.ret (.bool false))) s) {s : Shared} (h : I 0 s) :
    wpAny (model prog w) A.in1 (Builtin.«list.__ne__» ⟨[.ref l, .ref b], []⟩) (FinOf prog w A R) (fun e s' => R (.error e) s') s := by
  obtain ⟨xs, ys, n, n2, g1, g2, z1, z2, _⟩ := hl _ _ h
  have rest := ne_goes (A := A) (R := R) l b N I hl fin N 0 (by omega) s h
  obtain ⟨hp, gl, dr, tk, os⟩ := s
  have sub := AutoSeq1.sub_list_list
  have same : ¬ (xs.size != ys.size) = true := by simp [z1, z2]
  wp_walk using wpAny_loadPart' g1, wpAny_loadPart' g2
  refine ⟨plainId_quiet plain_eq_loop _, codeAny_builtin entry_eq_loop ?_⟩
  rw [Around.under_plainId plain_eq_loop _]
  exact rest
theorem rc_ne {l b : Addr} {N : Nat} {E : Value → Shared → Prop} {s : Shared} {Q : Value → Shared → Prop} (hu : A.units < cLine) (I : Nat → Shared → Prop) (hl : ListI prog w A E l b N I) (fin : ∀ s, I N s → Q (.bool false) s) (h : I 0 s) :
    wpAny (model prog w) A (richCompare .NotEq (.ref l) (.ref b)) Q E s := by
  obtain ⟨xs, ys, n, n2, g1, g2, _, _, _⟩ := hl _ _ h
  refine wpAny_richCompare_same_room (op := .NotEq) ⟨_, g1, rfl⟩ ⟨_, g2, rfl⟩ F.slot_list_ne (call_here F.slot_list_ne ⟨_, g1, rfl⟩ F.entry_list_ne (F.args_list_ne_2 _ _) ?_) hu
  exact list_ne (R := wants (fun v s' => v ≠ .notImplemented ∧ Q v s') E) l b N I hl (fun s' q => ⟨(fun x => nomatch x), fin s' q⟩) h
end
end Fe
namespace Fe
open PySem PySem.Spec PyProof.Rows L2
theorem op_neG {X : Cx} {n : Nat} {D : Eqv} (hD : Mon D) (h : EqG X n D) (hr : Room (n + 1) X.A) : OpR X (compareOp .NotEq) (fun x y H Q => DList D x y H ∧ ∀ H', Ext H H' → Q (.bl false) H') := by
  intro pn s σ H x y v u Q I rx ry hq
  obtain ⟨⟨a, b, xs, ys, rfl, rfl, ha, hb, p⟩, q⟩ := hq
  cases rx
  cases ry
  show wpAny (model X.prog X.w) X.A (richCompare .NotEq (.ref a) (.ref b)) (EP X pn σ Q) X.xe s
  have sb : Sub X (n + 1) X.A := ⟨hr, rfl⟩
  refine rc_ne (N := xs.length) sb.room.units0 (fun _ s' => LoopI X pn σ H s') (fun i s' l => ?_) (fun s' l => ?_) ⟨H, I, Ext.rfl'⟩
  · obtain ⟨H1, I1, e1⟩ := id l
    obtain ⟨z, its, k, r, e⟩ := I1.hok a _ (e1 _ _ ha)
    obtain ⟨z2, its2, k2, r2, e2⟩ := I1.hok b _ (e1 _ _ hb)
    exact ⟨its.toArray, its2.toArray, k, k2, e, e2, by rw [List.size_toArray, ← r.length], by rw [List.size_toArray, ← r2.length, ← p.1], fun h1 h2 => turnG hD h sb p r r2 i h1 h2 s' l⟩
  · obtain ⟨H1, I1, e1⟩ := l
    exact ⟨.bl false, H1, I1, rfl, q H1 e1⟩
/-- one of two readings -/
theorem op_or {X : Cx} {f : Value → Value → Sem Value} {r1 r2 : R2} (h1 : OpR X f r1) (h2 : OpR X f r2) : OpR X f (fun x y H Q => r1 x y H Q ∨ r2 x y H Q) := by
  intro pn s σ H x y v u Q I rx ry h
  rcases h with h | h
  · exact h1 pn s σ H x y v u Q I rx ry h
  · exact h2 pn s σ H x y v u Q I rx ry h
end Fe
set_option Elab.async false
set_option linter.all false
set_option maxRecDepth 100000
set_option maxHeartbeats 4000000
/-! l == b of two lists or two tuples, with either answer. -/
namespace Fq
open PySem PySem.SeqAt
open AutoSeq1 (wpAny_loadPart')
open MeetsSeq MeetsSeq2 MeetsSeq3 SeqRoads2 GQ
section
variable {prog : Program} {w : World} {A : Around} {R : Result → Shared → Prop}
/-- as ListI; an item that is not equal ends it -/
def ListB (prog : Program) (w : World) (A : Around) (E : Value → Shared → Prop) (l b : Addr) (N M : Nat) (I : Nat → Shared → Prop) (J : Shared → Prop) : Prop :=
  ∀ i s, I i s → ∃ (xs ys : Array Value) (n n2 : Nat), s.heap.get? l = some { cls := .type "list", data := .seq xs n } ∧ s.heap.get? b = some { cls := .type "list", data := .seq ys n2 } ∧ xs.size = N ∧ ys.size = M ∧
    ∀ (h1 : i < xs.size) (h2 : i < ys.size), N = M → wpAny (model prog w) A.in1 (eqBool xs[i] ys[i]) (fun r s' => (r = true ∧ I (i + 1) s') ∨ (r = false ∧ J s')) E s
theorem goes (l b : Addr) (N : Nat) (I : Nat → Shared → Prop) (J : Shared → Prop) (hl : ListB prog w A (fun e s' => R (.error e) s') l b N N I J) (fin : ∀ s, I N s → R (.ok (.ret (.bool true))) s) (no : ∀ s, J s → (∃ (xs ys : Array Value) (n n2 : Nat), s.heap.get? l = some { cls := .type "list", data := .seq xs n } ∧ s.heap.get? b = some { cls := .type "list", data := .seq ys n2 } ∧ xs.size = N ∧ ys.size = N) ∧ R (.ok (.ret (.bool false))) s) (m : Nat) :
    ∀ j : Nat, m + j = N → ∀ s, I j s → wpAny (model prog w) A.in1 (Builtin.«list.__eq__.loop» ⟨[.ref l, .ref b, rawInt j, rawInt 2], []⟩) (FinOf prog w A R) (fun e s' => R (.error e) s') s := by
  induction m with
  | zero =>
    intro j hj s h
    obtain ⟨xs, ys, n, n2, g1, g2, z1, z2, _⟩ := hl _ _ h
    have jN : j = N := by omega
    have done : R (.ok (.ret (.bool true))) s := fin s (jN ▸ h)
    obtain ⟨hp, gl, dr, tk, os⟩ := s
    wp_walk using wpAny_loadPart' g1, wpAny_loadPart' g2
    have e1 : xs[((j : Nat) : Int).toNat]? = none := by
      simp
      omega
    have e2 : ys[((j : Nat) : Int).toNat]? = none := by
      simp
      omega
    rw [e1, e2]
    wp_walk using wpAny_loadPart' g1, wpAny_loadPart' g2
    show R (.ok (.ret (.bool (xs.size == ys.size)))) _
    rw [z1, z2]
    simpa using done
  | succ m ih =>
    intro j hj s h
    obtain ⟨xs, ys, n, n2, g1, g2, z1, z2, turn⟩ := hl _ _ h
    have l1 : j < xs.size := by omega
    have l2 : j < ys.size := by omega
    have one := turn l1 l2 rfl
    obtain ⟨hp, gl, dr, tk, os⟩ := s
    wp_walk using wpAny_loadPart' g1, wpAny_loadPart' g2
    have e1 : xs[((j : Nat) : Int).toNat]? = some xs[j] := by simp [l1]
    have e2 : ys[((j : Nat) : Int).toNat]? = some ys[j] := by simp [l2]
    rw [e1, e2]
    refine wpAny_bind (wpAny_mono one (fun r s2 hr => ?_) fun _ _ z => z)
    rcases hr with ⟨er, h2⟩ | ⟨er, h2⟩
    · subst er
      have rest := ih (j + 1) (by omega) s2 h2
      obtain ⟨hp2, gl2, dr2, tk2, os2⟩ := s2
      wp_walk
      rw [show ((j : Int) + 1) = ((j + 1 : Nat) : Int) by omega]
      refine ⟨plainId_quiet plain_eq_loop _, codeAny_builtin entry_eq_loop ?_⟩
      rw [Around.under_plainId plain_eq_loop _]
      exact rest
    · subst er
      obtain ⟨⟨xs2, ys2, m1, m2, k1, k2, y1, y2⟩, rest⟩ := no s2 h2
      obtain ⟨hp2, gl2, dr2, tk2, os2⟩ := s2
      wp_walk using wpAny_loadPart' k1, wpAny_loadPart' k2
      have f1 : xs2[((j : Nat) : Int).toNat]? = some (xs2[j]'(by omega)) := by simp
      have f2 : ys2[((j : Nat) : Int).toNat]? = some (ys2[j]'(by omega)) := by simp
      rw [f1, f2]
      wp_walk
      exact rest
theorem list_eqB (l b : Addr) (N M : Nat) (I : Nat → Shared → Prop) (J : Shared → Prop) (hl : ListB prog w A (fun e s' => R (.error e) s') l b N M I J) (fin : ∀ s, N = M → I N s → R (.ok (.ret (.bool true))) s) (no : ∀ s, J s → (∃ (xs ys : Array Value) (n n2 : Nat), s.heap.get? l = some { cls := .type "list", data := .seq xs n } ∧ s.heap.get? b = some { cls := .type "list", data := .seq ys n2 } ∧ xs.size = N ∧ ys.size = M) ∧ R (.ok (.ret (.bool false))) s) (ne : ∀ s, N ≠ M → I 0 s → R (.ok (.ret (.bool false))) s) {s : Shared} (h : I 0 s) :
    wpAny (model prog w) A.in1 (Builtin.«list.__eq__» ⟨[.ref l, .ref b], []⟩) (FinOf prog w A R) (fun e s' => R (.error e) s') s := by
  obtain ⟨xs, ys, n, n2, g1, g2, z1, z2, _⟩ := hl _ _ h
  by_cases c : N = M
  · subst c
    have rest := goes (A := A) (R := R) l b N I J hl (fun s q => fin s rfl q) no N 0 (by omega) s h
    obtain ⟨hp, gl, dr, tk, os⟩ := s
    have sub := AutoSeq1.sub_list_list
    have same : ¬ (xs.size != ys.size) = true := by simp [z1, z2]
    wp_walk using wpAny_loadPart' g1, wpAny_loadPart' g2
    refine ⟨plainId_quiet plain_eq_loop _, codeAny_builtin entry_eq_loop ?_⟩
    rw [Around.under_plainId plain_eq_loop _]
    exact rest
  · have rest := ne s c h
    obtain ⟨hp, gl, dr, tk, os⟩ := s
    have sub := AutoSeq1.sub_list_list
    have same : (xs.size != ys.size) = true := by simp [z1, z2, c]
    wp_walk using wpAny_loadPart' g1, wpAny_loadPart' g2
    exact rest
theorem rc_listB {l b : Addr} {N M : Nat} {E : Value → Shared → Prop} {s : Shared} {Q : Value → Shared → Prop} (hu : A.units < cLine) (I : Nat → Shared → Prop) (J : Shared → Prop) (hl : ListB prog w A E l b N M I J) (fin : ∀ s, N = M → I N s → Q (.bool true) s) (no : ∀ s, J s → (∃ (xs ys : Array Value) (n n2 : Nat), s.heap.get? l = some { cls := .type "list", data := .seq xs n } ∧ s.heap.get? b = some { cls := .type "list", data := .seq ys n2 } ∧ xs.size = N ∧ ys.size = M) ∧ Q (.bool false) s) (ne : ∀ s, N ≠ M → I 0 s → Q (.bool false) s) (h : I 0 s) :
    wpAny (model prog w) A (richCompare .Eq (.ref l) (.ref b)) Q E s := by
  obtain ⟨xs, ys, n, n2, g1, g2, _, _, _⟩ := hl _ _ h
  refine wpAny_richCompare_same_room (op := .Eq) ⟨_, g1, rfl⟩ ⟨_, g2, rfl⟩ F.slot_list_eq (call_here F.slot_list_eq ⟨_, g1, rfl⟩ F.entry_list_eq (F.args_list_eq_2 _ _) ?_) hu
  exact list_eqB (R := wants (fun v s' => v ≠ .notImplemented ∧ Q v s') E) l b N M I J hl (fun s' c q => ⟨(fun x => nomatch x), fin s' c q⟩) (fun s' q => ⟨(no s' q).1, (fun x => nomatch x), (no s' q).2⟩) (fun s' c q => ⟨(fun x => nomatch x), ne s' c q⟩) h
theorem tuple_eqB (l b : Addr) (xs ys : Array Value) (n n2 : Nat) (dd dd2 : Option Addr) (sl sl2 : Array (Option Value)) (hsz : xs.size = ys.size) (I : Nat → Shared → Prop) (J : Shared → Prop)
    (turn : ∀ i (h1 : i < xs.size) (h2 : i < ys.size) s, I i s → wpAny (model prog w) A.in1 (eqBool xs[i] ys[i]) (fun r s' => (r = true ∧ I (i + 1) s') ∨ (r = false ∧ J s')) (fun e s' => R (.error e) s') s)
    (fin : ∀ s, I xs.size s → R (.ok (.ret (.bool true))) s) (no : ∀ s, J s → R (.ok (.ret (.bool false))) s) {s : Shared} (g1 : s.heap.get? l = some { cls := .type "tuple", dict := dd, data := .seq xs n, slots := sl }) (g2 : s.heap.get? b = some { cls := .type "tuple", dict := dd2, data := .seq ys n2, slots := sl2 }) (h : I 0 s) :
    wpAny (model prog w) A.in1 (Builtin.«tuple.__eq__» ⟨[.ref l, .ref b], []⟩) (FinOf prog w A R) (fun e s' => R (.error e) s') s := by
  have sub := AutoSeq1.sub_tuple_tuple
  have hZ : (xs.toList.zip ys.toList).length = xs.size := by simp [hsz]
  have h0 := h
  obtain ⟨hp, g, d, tk, os⟩ := s
  wp_walk using wpAny_loadPart' g1, wpAny_loadPart' g2, wpAny_forIn_list _ (fun rest b s' => (b.1 = none ∧ ∃ i, rest = (xs.toList.zip ys.toList).drop i ∧ i ≤ xs.size ∧ I i s') ∨ (b.1 = some (.done (.ret (.bool false))) ∧ rest = [] ∧ J s')) _
  case turn =>
    rintro ⟨y, x⟩ rest b s' hyp
    rcases hyp with ⟨hb', i, hz, hi, hI⟩ | ⟨_, hz, _⟩
    · have hlt : i < (xs.toList.zip ys.toList).length := by
        rcases Nat.lt_or_ge i (xs.toList.zip ys.toList).length with h' | h'
        · exact h'
        · rw [List.drop_of_length_le h'] at hz; cases hz
      have h1 : i < xs.size := hZ ▸ hlt
      have h2 : i < ys.size := hsz ▸ h1
      rw [List.drop_eq_getElem_cons hlt] at hz
      injection hz with hyx hrest
      have hy : y = xs[i] := by have := congrArg Prod.fst hyx; simpa using this
      have hx : x = ys[i] := by have := congrArg Prod.snd hyx; simpa using this
      subst hy hx
      refine wpAny_bind (wpAny_mono (turn i h1 h2 s' hI) (fun r s2 q2 => ?_) fun _ _ x => x)
      rcases q2 with ⟨hr, q2⟩ | ⟨hr, q2⟩
      · subst hr
        wp_walk
        exact .inl ⟨rfl, i + 1, hrest, h1, q2⟩
      · subst hr
        wp_walk
        exact no s2 q2
    · cases hz
  case fin =>
    rintro ⟨b1, b2⟩ s' hyp
    rcases hyp with ⟨hb', i, hz, hi, hI⟩ | ⟨hb', _, hJ⟩
    · simp only at hb'
      subst hb'
      have hge : xs.size ≤ i := by
        rcases Nat.lt_or_ge i (xs.toList.zip ys.toList).length with h' | h'
        · rw [List.drop_eq_getElem_cons h'] at hz; cases hz
        · exact hZ ▸ h'
      have hi' : i = xs.size := by omega
      have hR : R (.ok (.ret (.bool true))) s' := fin s' (hi' ▸ hI)
      wp_walk
      simpa [Builtin.Tuple.tupleCompareSizes, hsz] using hR
    · simp only at hb'
      subst hb'
      have hR := no s' hJ
      wp_walk
      exact hR
  case h =>
    exact .inl ⟨rfl, 0, rfl, Nat.zero_le _, h0⟩
theorem rc_tupB {l b : Addr} {xs ys : Array Value} {E : Value → Shared → Prop} {s : Shared} {Q : Value → Shared → Prop} (hsz : xs.size = ys.size) (hu : A.units < cLine) (I : Nat → Shared → Prop) (J : Shared → Prop)
    (hl : s.heap.IsTuple l xs) (hb : s.heap.IsTuple b ys)
    (turn : ∀ i (h1 : i < xs.size) (h2 : i < ys.size) s, I i s → wpAny (model prog w) A.in1 (eqBool xs[i] ys[i]) (fun r s' => (r = true ∧ I (i + 1) s') ∨ (r = false ∧ J s')) E s)
    (fin : ∀ s, I xs.size s → Q (.bool true) s) (no : ∀ s, J s → Q (.bool false) s) (h : I 0 s) : wpAny (model prog w) A (richCompare .Eq (.ref l) (.ref b)) Q E s := by
  obtain ⟨⟨cls, dd, data, sl⟩, ho, hc, n, hd⟩ := id hl
  obtain ⟨⟨cls2, dd2, data2, sl2⟩, ho2, hc2, n2, hd2⟩ := id hb
  simp only at hc hd hc2 hd2
  subst hc hd hc2 hd2
  refine wpAny_richCompare_same_room (op := .Eq) ⟨_, ho, rfl⟩ ⟨_, ho2, rfl⟩ F.slot_tuple_eq (call_here F.slot_tuple_eq ⟨_, ho, rfl⟩ F.entry_tuple_eq (F.args_tuple_eq_2 _ _) ?_) hu
  exact tuple_eqB (R := wants (fun v s' => v ≠ .notImplemented ∧ Q v s') E) l b xs ys n n2 dd dd2 sl sl2 hsz I J turn (fun s' q => ⟨(fun x => nomatch x), fin s' q⟩) (fun s' q => ⟨(fun x => nomatch x), no s' q⟩) ho ho2 h
end
end Fq
namespace Fq
open PySem PySem.Spec PyProof.Rows L2
abbrev EqvB := V → V → Bool → Hp → Prop
def MonB (D : EqvB) : Prop := ∀ x y b H H', Ext H H' → D x y b H → D x y b H'
/-- == gives what D says, and only makes objects -/
def EqB (X : Cx) (n : Nat) (D : EqvB) : Prop :=
  ∀ (A : Around) (pins : List (Addr × Obj)) (s : Shared) (σ : L2.St) (H : Hp) (x y : V) (u v : Value) (b : Bool), Sub X n A → Inv X pins σ H s → RelV x u → RelV y v → D x y b H →
    wpAny (model X.prog X.w) A (eqBool u v) (fun r s' => r = b ∧ ∃ H', Inv X pins σ H' s' ∧ Ext H H') X.xe s
def RcB (X : Cx) (n : Nat) (D : EqvB) : Prop :=
  ∀ (A : Around) (pins : List (Addr × Obj)) (s : Shared) (σ : L2.St) (H : Hp) (x y : V) (u v : Value) (b : Bool), Sub X n A → Inv X pins σ H s → RelV x u → RelV y v → D x y b H →
    wpAny (model X.prog X.w) A (richCompare .Eq u v) (fun r s' => r = .bool b ∧ ∃ H', Inv X pins σ H' s' ∧ Ext H H') X.xe s
def AllB (D : EqvB) (xs ys : List V) (b : Bool) (H : Hp) : Prop := (xs.length ≠ ys.length ∧ b = false) ∨ (xs.length = ys.length ∧ ∃ bs : Nat → Bool, (∀ (i : Nat) x y, xs[i]? = some x → ys[i]? = some y → D x y (bs i) H) ∧ ((b = true ∧ ∀ i, i < xs.length → bs i = true) ∨ (b = false ∧ ∃ i, i < xs.length ∧ bs i = false)))
variable {X : Cx} {n : Nat} {D : EqvB}
theorem turnB (hD : MonB D) (h : EqB X n D) {A : Around} (sb : Sub X (n + 1) A) {pins : List (Addr × Obj)} {σ : L2.St} {H : Hp} {xs ys : List V} {its its2 : List Value} {bs : Nat → Bool} (p : ∀ (i : Nat) x y, xs[i]? = some x → ys[i]? = some y → D x y (bs i) H) (r : Vals xs its) (r2 : Vals ys its2)
    (i : Nat) (h1 : i < its.toArray.size) (h2 : i < its2.toArray.size) (s' : Shared) (l : LoopI X pins σ H s') :
    wpAny (model X.prog X.w) A.in1 (eqBool its.toArray[i] its2.toArray[i]) (fun r s2 => r = bs i ∧ LoopI X pins σ H s2) X.xe s' := by
  obtain ⟨H1, I1, e1⟩ := l
  have g1 : its[i]? = some its.toArray[i] := by
    have h1' : i < its.length := by simpa using h1
    rw [List.getElem?_eq_getElem h1'] <;> simp
  have g2 : its2[i]? = some its2.toArray[i] := by
    have h2' : i < its2.length := by simpa using h2
    rw [List.getElem?_eq_getElem h2'] <;> simp
  have k1 : i < xs.length := by rw [r.length]; simpa using h1
  have k2 : i < ys.length := by rw [r2.length]; simpa using h2
  obtain ⟨u, hu, ru⟩ := r.get (List.getElem?_eq_getElem k1)
  obtain ⟨v, hv, rv⟩ := r2.get (List.getElem?_eq_getElem k2)
  rw [g1] at hu
  rw [g2] at hv
  rw [Option.some.inj hu, Option.some.inj hv]
  refine wpAny_mono (h A.in1 pins s' σ H1 _ _ u v (bs i) sb.in1 I1 ru rv (hD _ _ _ _ _ e1 (p i _ _ (List.getElem?_eq_getElem k1) (List.getElem?_eq_getElem k2)))) (fun r s2 q => ?_) fun _ _ x => x
  obtain ⟨hr, H2, I2, e2⟩ := q
  exact ⟨hr, H2, I2, e1.trans e2⟩
def DListB (D : EqvB) : EqvB := fun x y b H => ∃ a c xs ys, x = .ref a ∧ y = .ref c ∧ H a = some (.lst xs) ∧ H c = some (.lst ys) ∧ AllB D xs ys b H
def DTupB (D : EqvB) : EqvB := fun x y b H => ∃ a c xs ys, x = .ref a ∧ y = .ref c ∧ H a = some (.tup xs) ∧ H c = some (.tup ys) ∧ xs.length = ys.length ∧ AllB D xs ys b H
theorem AllB.mon (hD : MonB D) {xs ys : List V} {b : Bool} {H H' : Hp} (e : Ext H H') (h : AllB D xs ys b H) : AllB D xs ys b H' := by
  rcases h with h | ⟨h1, bs, h2, h3⟩
  · exact .inl h
  · exact .inr ⟨h1, bs, fun i x y a c => hD _ _ _ _ _ e (h2 i x y a c), h3⟩
theorem monB_tup (hD : MonB D) : MonB (DTupB D) := fun x y b H H' e d => by
  obtain ⟨a, c, xs, ys, hx, hy, h1, h2, h3, p⟩ := d
  exact ⟨a, c, xs, ys, hx, hy, e _ _ h1, e _ _ h2, h3, p.mon hD e⟩
theorem rcB_list (hD : MonB D) (h : EqB X n D) : RcB X (n + 1) (DListB D) := by
  intro A pins s σ H x y u v b sb I rx ry d
  obtain ⟨a, c, xs, ys, rfl, rfl, ha, hb, p⟩ := d
  cases rx
  cases ry
  have rd : ∀ s', LoopI X pins σ H s' → ∃ (its its2 : List Value) (k k2 : Nat), s'.heap.get? a = some { cls := .type "list", data := .seq its.toArray k } ∧ s'.heap.get? c = some { cls := .type "list", data := .seq its2.toArray k2 } ∧ its.toArray.size = xs.length ∧ its2.toArray.size = ys.length ∧ Vals xs its ∧ Vals ys its2 := by
    intro s' q
    obtain ⟨H1, I1, e1⟩ := q
    obtain ⟨z, its, k, r, e⟩ := I1.hok a _ (e1 _ _ ha)
    obtain ⟨z2, its2, k2, r2, e2⟩ := I1.hok c _ (e1 _ _ hb)
    exact ⟨its, its2, k, k2, e, e2, by rw [List.size_toArray, ← r.length], by rw [List.size_toArray, ← r2.length], r, r2⟩
  rcases p with ⟨ne, rfl⟩ | ⟨el, bs, pb, hbs⟩
  · refine rc_listB (N := xs.length) (M := ys.length) sb.room.units0 (fun i s' => i = 0 ∧ LoopI X pins σ H s') (fun s' => False) (fun i s' q => ?_) (fun s' e q => absurd e ne) (fun s' q => q.elim) (fun s' _ q => ⟨rfl, q.2⟩) ⟨rfl, H, I, Ext.rfl'⟩
    obtain ⟨its, its2, k, k2, e, e2, z1, z2, r, r2⟩ := rd s' q.2
    exact ⟨its.toArray, its2.toArray, k, k2, e, e2, z1, z2, fun _ _ e => absurd e ne⟩
  · refine rc_listB (N := xs.length) (M := ys.length) sb.room.units0 (fun i s' => LoopI X pins σ H s' ∧ ∀ j, j < i → bs j = true) (fun s' => LoopI X pins σ H s' ∧ b = false) (fun i s' q => ?_) (fun s' _ q => ⟨?_, q.1⟩) (fun s' q => ⟨?_, by rw [q.2], q.1⟩) (fun s' e => absurd el e) ⟨⟨H, I, Ext.rfl'⟩, fun j hj => absurd hj (by omega)⟩
    · obtain ⟨its, its2, k, k2, e, e2, z1, z2, r, r2⟩ := rd s' q.1
      refine ⟨its.toArray, its2.toArray, k, k2, e, e2, z1, z2, fun h1 h2 _ => ?_⟩
      refine wpAny_mono (turnB hD h sb pb r r2 i h1 h2 s' q.1) (fun rr s2 z => ?_) fun _ _ z => z
      obtain ⟨er, l2⟩ := z
      cases hb' : bs i with
      | true => exact .inl ⟨by rw [er, hb'], l2, fun j hj => by
          rcases Nat.lt_or_ge j i with c | c
          · exact q.2 j c
          · rw [show j = i by omega]; exact hb'⟩
      | false =>
        refine .inr ⟨by rw [er, hb'], l2, ?_⟩
        rcases hbs with ⟨_, all⟩ | ⟨e, _⟩
        · rw [all i (by omega)] at hb'
          cases hb'
        · exact e
    · rcases hbs with ⟨e, _⟩ | ⟨_, i, hi, e⟩
      · rw [e]
      · rw [q.2 i hi] at e
        cases e
    · obtain ⟨its, its2, k, k2, e, e2, z1, z2, r, r2⟩ := rd s' q.1
      exact ⟨its.toArray, its2.toArray, k, k2, e, e2, z1, z2⟩
theorem rcB_tup (hD : MonB D) (h : EqB X n D) : RcB X (n + 1) (DTupB D) := by
  intro A pins s σ H x y u v b sb I rx ry d
  obtain ⟨a, c, xs, ys, rfl, rfl, ha, hb, hl, p⟩ := d
  cases rx
  cases ry
  obtain ⟨its, r, e, z⟩ := I.tuple (SqT.of ha)
  obtain ⟨its2, r2, e2, z2⟩ := I.tuple (SqT.of hb)
  have hsz : its.toArray.size = its2.toArray.size := by rw [List.size_toArray, List.size_toArray, ← r.length, ← r2.length]; exact hl
  rcases p with ⟨ne, _⟩ | ⟨_, bs, pb, hbs⟩
  · exact absurd hl ne
  refine rc_tupB hsz sb.room.units0 (fun i s' => LoopI X pins σ H s' ∧ ∀ j, j < i → bs j = true) (fun s' => LoopI X pins σ H s' ∧ b = false) e e2 (fun i h1 h2 s' q => ?_) (fun s' q => ⟨?_, q.1⟩) (fun s' q => ⟨by rw [q.2], q.1⟩) ⟨⟨H, I, Ext.rfl'⟩, fun j hj => absurd hj (by omega)⟩
  · refine wpAny_mono (turnB hD h sb pb r r2 i h1 h2 s' q.1) (fun rr s2 z => ?_) fun _ _ z => z
    obtain ⟨er, l2⟩ := z
    have hx : i < xs.length := by rw [r.length]; simpa using h1
    cases hb' : bs i with
    | true => exact .inl ⟨by rw [er, hb'], l2, fun j hj => by
        rcases Nat.lt_or_ge j i with c | c
        · exact q.2 j c
        · rw [show j = i by omega]; exact hb'⟩
    | false =>
      refine .inr ⟨by rw [er, hb'], l2, ?_⟩
      rcases hbs with ⟨_, all⟩ | ⟨e, _⟩
      · rw [all i hx] at hb'
        cases hb'
      · exact e
  · rcases hbs with ⟨e, _⟩ | ⟨_, i, hi, e⟩
    · rw [e]
    · rw [q.2 i (by rw [List.size_toArray, ← r.length]; exact hi)] at e
      cases e
/-- the same object is equal to itself -/
theorem RcB.eqB (h : RcB X n D) (hr : ∀ x y b H, D x y b H → ∃ a c, x = .ref a ∧ y = .ref c ∧ (a = c → b = true)) : EqB X n D := by
  intro A pins s σ H x y u v b sb I rx ry d
  obtain ⟨a, c, rfl, rfl, hs⟩ := hr _ _ _ _ d
  cases rx
  cases ry
  by_cases hac : a = c
  · rw [hs hac]
    subst hac
    exact SeqAt.EqAt.same (A := A) (s := s) (.ref a) X.prog X.w X.xe _ ⟨rfl, H, I, Ext.rfl'⟩
  · refine GQ.eqBool_refG hac (wpAny_mono (h A pins s σ H (.ref a) (.ref c) _ _ b sb I rfl rfl d) (fun r s' q => ?_) fun _ _ x => x)
    obtain ⟨hr', q⟩ := q
    exact ⟨b, hr', rfl, q⟩
def rEqB (D : EqvB) : R2 := fun x y H Q => ∃ b, D x y b H ∧ ∀ H', Ext H H' → Q (.bl b) H'
theorem op_eqB (h : RcB X n D) (hr : Room n X.A) : OpR X (compareOp .Eq) (rEqB D) := by
  intro pn s σ H x y v u Q I rx ry hq
  obtain ⟨b, d, q⟩ := hq
  show wpAny (model X.prog X.w) X.A (richCompare .Eq v u) (EP X pn σ Q) X.xe s
  refine wpAny_mono (h X.A pn s σ H x y v u b ⟨hr, rfl⟩ I rx ry d) (fun r s' z => ?_) fun _ _ z => z
  obtain ⟨er, H', I', e⟩ := z
  exact ⟨.bl b, H', I', er, q H' e⟩
end Fq
set_option Elab.async false
set_option linter.all false
set_option maxRecDepth 100000
set_option maxHeartbeats 4000000
/-! x in l, x not in l, l.index(x) where the items have a == of their own. -/
namespace Fr
open PySem PySem.SeqAt
open AutoSeq1 (wpAny_loadPart')
open MeetsSeq MeetsSeq2 MeetsSeq3 SeqRoads2 GQ
section
variable {prog : Program} {w : World} {A : Around} {R : Result → Shared → Prop}
/-- the list at l has N items at each turn; an item is x or the next one is asked -/
def ItemsB (prog : Program) (w : World) (A : Around) (E : Value → Shared → Prop) (l : Addr) (x : Value) (N : Nat) (I : Nat → Shared → Prop) (J : Nat → Shared → Prop) : Prop :=
  ∀ i s, I i s → ∃ (xs : Array Value) (n : Nat), s.heap.get? l = some { cls := .type "list", data := .seq xs n } ∧ xs.size = N ∧
    ∀ (h1 : i < xs.size), wpAny (model prog w) A.in1 (eqBool xs[i] x) (fun r s' => (r = false ∧ I (i + 1) s') ∨ (r = true ∧ J i s')) E s
theorem has_goes (l : Addr) (x : Value) (N : Nat) (I : Nat → Shared → Prop) (J : Nat → Shared → Prop) (hl : ItemsB prog w A (fun e s' => R (.error e) s') l x N I J) (no : ∀ s, I N s → R (.ok (.ret (.bool false))) s) (yes : ∀ i s, J i s → R (.ok (.ret (.bool true))) s) (m : Nat) :
    ∀ j : Nat, m + j = N → ∀ s, I j s → wpAny (model prog w) A.in1 (Builtin.«list.__contains__.loop» ⟨[.ref l, x, rawInt j], []⟩) (FinOf prog w A R) (fun e s' => R (.error e) s') s := by
  induction m with
  | zero =>
    intro j hj s h
    obtain ⟨xs, n, g1, z1, _⟩ := hl _ _ h
    have jN : j = N := by omega
    have done : R (.ok (.ret (.bool false))) s := no s (jN ▸ h)
    obtain ⟨hp, gl, dr, tk, os⟩ := s
    wp_walk using wpAny_loadPart' g1
    have e1 : xs[((j : Nat) : Int).toNat]? = none := by
      simp
      omega
    rw [e1]
    wp_walk
    exact done
  | succ m ih =>
    intro j hj s h
    obtain ⟨xs, n, g1, z1, turn⟩ := hl _ _ h
    have l1 : j < xs.size := by omega
    have one := turn l1
    obtain ⟨hp, gl, dr, tk, os⟩ := s
    wp_walk using wpAny_loadPart' g1
    have e1 : xs[((j : Nat) : Int).toNat]? = some xs[j] := by simp [l1]
    rw [e1]
    refine wpAny_bind (wpAny_mono one (fun r s2 hr => ?_) fun _ _ z => z)
    rcases hr with ⟨er, h2⟩ | ⟨er, h2⟩
    · subst er
      have rest := ih (j + 1) (by omega) s2 h2
      obtain ⟨hp2, gl2, dr2, tk2, os2⟩ := s2
      wp_walk
      rw [show ((j : Int) + 1) = ((j + 1 : Nat) : Int) by omega]
      refine ⟨plainId_quiet plain_contains_loop _, codeAny_builtin entry_contains_loop ?_⟩
      rw [Around.under_plainId plain_contains_loop _]
      exact rest
    · subst er
      have done := yes j s2 h2
      obtain ⟨hp2, gl2, dr2, tk2, os2⟩ := s2
      wp_walk
      exact done
theorem list_has (l : Addr) (x : Value) (N : Nat) (I : Nat → Shared → Prop) (J : Nat → Shared → Prop) (hl : ItemsB prog w A (fun e s' => R (.error e) s') l x N I J) (no : ∀ s, I N s → R (.ok (.ret (.bool false))) s) (yes : ∀ i s, J i s → R (.ok (.ret (.bool true))) s) {s : Shared} (h : I 0 s) :
    wpAny (model prog w) A.in1 (Builtin.«list.__contains__» ⟨[.ref l, x], []⟩) (FinOf prog w A R) (fun e s' => R (.error e) s') s := by
  have rest := has_goes (A := A) (R := R) l x N I J hl no yes N 0 (by omega) s h
  obtain ⟨hp, gl, dr, tk, os⟩ := s
  wp_walk
  refine ⟨plainId_quiet plain_contains_loop _, codeAny_builtin entry_contains_loop ?_⟩
  rw [Around.under_plainId plain_contains_loop _]
  exact rest
theorem at_goes (l : Addr) (x : Value) (N : Nat) (upto : Int) (hup : (N : Int) ≤ upto) (I : Nat → Shared → Prop) (J : Nat → Shared → Prop) (hl : ItemsB prog w A (fun e s' => R (.error e) s') l x N I J) (no : ∀ s, ¬ I N s) (yes : ∀ i s, i < N → J i s → R (.ok (.ret (.int i s.toks))) { s with toks := s.toks + 1 }) (m : Nat) :
    ∀ j : Nat, m + j = N → ∀ s, I j s → wpAny (model prog w) A.in1 (Builtin.«list.index.loop» ⟨[.ref l, x, rawInt j, rawInt upto], []⟩) (FinOf prog w A R) (fun e s' => R (.error e) s') s := by
  induction m with
  | zero =>
    intro j hj s h
    have jN : j = N := by omega
    exact absurd (jN ▸ h) (no s)
  | succ m ih =>
    intro j hj s h
    obtain ⟨xs, n, g1, z1, turn⟩ := hl _ _ h
    have l1 : j < xs.size := by omega
    have one := turn l1
    obtain ⟨hp, gl, dr, tk, os⟩ := s
    wp_walk using wpAny_loadPart' g1
    have e1 : (if (j : Int) < upto then xs[((j : Nat) : Int).toNat]? else none) = some xs[j] := by
      rw [if_pos (by omega)]
      simp [l1]
    rw [e1]
    refine wpAny_bind (wpAny_mono one (fun r s2 hr => ?_) fun _ _ z => z)
    rcases hr with ⟨er, h2⟩ | ⟨er, h2⟩
    · subst er
      have rest := ih (j + 1) (by omega) s2 h2
      obtain ⟨hp2, gl2, dr2, tk2, os2⟩ := s2
      wp_walk
      rw [show ((j : Int) + 1) = ((j + 1 : Nat) : Int) by omega]
      refine ⟨plainId_quiet plain_index_loop _, codeAny_builtin entry_index_loop ?_⟩
      rw [Around.under_plainId plain_index_loop _]
      exact rest
    · subst er
      have done := yes j s2 (by omega) h2
      obtain ⟨hp2, gl2, dr2, tk2, os2⟩ := s2
      wp_walk
      exact done
theorem list_at (l : Addr) (x : Value) (N : Nat) (hN : (N : Int) ≤ 2 ^ 63 - 1) (I : Nat → Shared → Prop) (J : Nat → Shared → Prop) (hl : ItemsB prog w A (fun e s' => R (.error e) s') l x N I J) (no : ∀ s, ¬ I N s) (yes : ∀ i s, i < N → J i s → R (.ok (.ret (.int i s.toks))) { s with toks := s.toks + 1 }) {s : Shared} (h : I 0 s) :
    wpAny (model prog w) A.in1 (Builtin.«list.index» ⟨[.ref l, x], []⟩) (FinOf prog w A R) (fun e s' => R (.error e) s') s := by
  obtain ⟨xs, n, g1, z1, _⟩ := hl _ _ h
  have rest := at_goes (A := A) (R := R) l x N (2 ^ 63 - 1) hN I J hl no yes N 0 (by omega) s h
  obtain ⟨hp, gl, dr, tk, os⟩ := s
  wp_walk using wpAny_loadPart' g1
  have a1 : ((fun i : Int => if i < 0 then max 0 (i + (xs.size : Int)) else i) ((none : Option Int).getD 0)) = ((0 : Nat) : Int) := by simp
  have a2 : ((fun i : Int => if i < 0 then max 0 (i + (xs.size : Int)) else i) ((none : Option Int).getD (2 ^ 63 - 1))) = 2 ^ 63 - 1 := by simp
  rw [a1, a2]
  refine ⟨plainId_quiet plain_index_loop _, codeAny_builtin entry_index_loop ?_⟩
  rw [Around.under_plainId plain_index_loop _]
  exact rest
end
section
variable {prog : Program} {w : World} {A : Around} {E : Value → Shared → Prop} {s : Shared}
theorem in_own {l : Addr} {x : Value} {N : Nat} {Q : Value → Shared → Prop} (I : Nat → Shared → Prop) (J : Nat → Shared → Prop) (hl : ItemsB prog w A E l x N I J) (no : ∀ s, I N s → Q (.bool false) s) (yes : ∀ i s, J i s → Q (.bool true) s) (h : I 0 s) : wpAny (model prog w) A (compareOp .In x (.ref l)) Q E s := by
  obtain ⟨xs, n, g1, _, _⟩ := hl _ _ h
  show wpAny _ _ (do return .bool (← contains (.ref l) x)) Q E s
  refine wpAny_bind (wpAny_contains_slot ⟨_, g1, rfl⟩ F.slot_list_contains (call_here (Q := fun v s' => wpAny _ A (truthy v) (fun b s'' => wpAny _ A (pure (Value.bool b)) Q E s'') E s') F.slot_list_contains ⟨_, g1, rfl⟩ F.entry_list_contains (F.args_list_contains_2 _ _) ?_))
  exact list_has (R := wants (fun v s' => wpAny _ A (truthy v) (fun b s'' => wpAny _ A (pure (Value.bool b)) Q E s'') E s') E) l x N I J hl (fun s' q => wpAny_pure (wpAny_pure (no s' q))) (fun i s' q => wpAny_pure (wpAny_pure (yes i s' q))) h
theorem notIn_own {l : Addr} {x : Value} {N : Nat} {Q : Value → Shared → Prop} (I : Nat → Shared → Prop) (J : Nat → Shared → Prop) (hl : ItemsB prog w A E l x N I J) (no : ∀ s, I N s → Q (.bool true) s) (yes : ∀ i s, J i s → Q (.bool false) s) (h : I 0 s) : wpAny (model prog w) A (compareOp .NotIn x (.ref l)) Q E s := by
  obtain ⟨xs, n, g1, _, _⟩ := hl _ _ h
  show wpAny _ _ (do return .bool (!(← contains (.ref l) x))) Q E s
  refine wpAny_bind (wpAny_contains_slot ⟨_, g1, rfl⟩ F.slot_list_contains (call_here (Q := fun v s' => wpAny _ A (truthy v) (fun b s'' => wpAny _ A (pure (Value.bool (!b))) Q E s'') E s') F.slot_list_contains ⟨_, g1, rfl⟩ F.entry_list_contains (F.args_list_contains_2 _ _) ?_))
  exact list_has (R := wants (fun v s' => wpAny _ A (truthy v) (fun b s'' => wpAny _ A (pure (Value.bool (!b))) Q E s'') E s') E) l x N I J hl (fun s' q => wpAny_pure (wpAny_pure (no s' q))) (fun i s' q => wpAny_pure (wpAny_pure (yes i s' q))) h
theorem index_own {l : Addr} {x : Value} {N : Nat} {Q : Value → Shared → Prop} (hN : (N : Int) ≤ 2 ^ 63 - 1) (I : Nat → Shared → Prop) (J : Nat → Shared → Prop) (hl : ItemsB prog w A E l x N I J) (no : ∀ s, ¬ I N s) (yes : ∀ i s, i < N → J i s → Q (.int i s.toks) { s with toks := s.toks + 1 }) (h : I 0 s) : wpAny (model prog w) A (call (.builtin "list.index") [.ref l, x]) Q E s := by
  obtain ⟨xs, n, g1, _, _⟩ := hl _ _ h
  refine call_here F.slot_list_index ⟨_, g1, rfl⟩ F.entry_list_index (F.args_list_index_2 _ _) ?_
  exact list_at (R := wants Q E) l x N hN I J hl no yes h
end
end Fr
namespace Fr
open PySem PySem.Spec PyProof.Rows L2 Fq
variable {X : Cx} {n : Nat} {D : EqvB}
/-- what D says of each item against y -/
def Each (D : EqvB) (ys : List V) (y : V) (bs : Nat → Bool) (H : Hp) : Prop := ∀ (i : Nat) z, ys[i]? = some z → D z y (bs i) H
theorem items_of (hD : MonB D) (h : EqB X n D) (sb : Sub X (n + 1) X.A) {pn : List (Addr × Obj)} {σ : L2.St} {H : Hp} {l : Addr} {ys : List V} {y : V} {u : Value} {bs : Nat → Bool} (hl : H l = some (.lst ys)) (ry : RelV y u) (p : Each D ys y bs H) :
    ItemsB X.prog X.w X.A X.xe l u ys.length (fun i s' => LoopI X pn σ H s' ∧ ∀ j, j < i → bs j = false) (fun i s' => LoopI X pn σ H s' ∧ bs i = true ∧ i < ys.length ∧ ∀ m, m < i → bs m = false) := by
  intro i s' q
  obtain ⟨⟨H1, I1, e1⟩, all⟩ := id q
  obtain ⟨z, its, k, r, e⟩ := I1.hok l _ (e1 _ _ hl)
  refine ⟨its.toArray, k, e, by rw [List.size_toArray, ← r.length], fun h1 => ?_⟩
  have hx : i < ys.length := by rw [r.length]; simpa using h1
  obtain ⟨v, hv, rv⟩ := r.get (List.getElem?_eq_getElem hx)
  have g1 : its[i]? = some its.toArray[i] := by
    have h1' : i < its.length := by simpa using h1
    rw [List.getElem?_eq_getElem h1'] <;> simp
  rw [g1] at hv
  rw [Option.some.inj hv]
  refine wpAny_mono (h X.A.in1 pn s' σ H1 _ _ v u (bs i) sb.in1 I1 rv ry (hD _ _ _ _ _ e1 (p i _ (List.getElem?_eq_getElem hx)))) (fun r s2 q2 => ?_) fun _ _ x => x
  obtain ⟨hr, H2, I2, e2⟩ := q2
  cases hb : bs i with
  | false => exact .inl ⟨by rw [hr, hb], ⟨H2, I2, e1.trans e2⟩, fun j hj => by
      rcases Nat.lt_or_ge j i with c | c
      · exact all j c
      · rw [show j = i by omega]; exact hb⟩
  | true => exact .inr ⟨by rw [hr, hb], ⟨H2, I2, e1.trans e2⟩, hb, hx, all⟩
def AnyB (bs : Nat → Bool) (N : Nat) (b : Bool) : Prop := (b = true ∧ ∃ i, i < N ∧ bs i = true) ∨ (b = false ∧ ∀ i, i < N → bs i = false)
def rNotInB (D : EqvB) : R2 := fun x y H Q => ∃ (l : Addr) (ys : List V) (bs : Nat → Bool) (b : Bool), y = .ref l ∧ H l = some (.lst ys) ∧ Each D ys x bs H ∧ AnyB bs ys.length b ∧ ∀ H', Ext H H' → Q (.bl (!b)) H'
theorem op_notInB (hD : MonB D) (h : EqB X n D) (hr : Room (n + 1) X.A) : OpR X (compareOp .NotIn) (rNotInB D) := by
  intro pn s σ H x y v u Q I rx ry hq
  obtain ⟨l, ys, bs, b, rfl, hl, p, hb, q⟩ := hq
  cases ry
  refine notIn_own (N := ys.length) _ _ (items_of hD h (pn := pn) (σ := σ) ⟨hr, rfl⟩ hl rx p) (fun s' z => ?_) (fun i s' z => ?_) ⟨⟨H, I, Ext.rfl'⟩, fun j hj => absurd hj (by omega)⟩
  · obtain ⟨⟨H', I', e⟩, all⟩ := z
    rcases hb with ⟨rfl, i, hi, hbi⟩ | ⟨rfl, _⟩
    · rw [all i hi] at hbi
      cases hbi
    · exact ⟨.bl true, H', I', rfl, q H' e⟩
  · obtain ⟨⟨H', I', e⟩, hbi, hi, bef⟩ := z
    rcases hb with ⟨rfl, _⟩ | ⟨rfl, all⟩
    · exact ⟨.bl false, H', I', rfl, q H' e⟩
    · rw [all i hi] at hbi
      cases hbi
def rInB (D : EqvB) : R2 := fun x y H Q => ∃ (l : Addr) (ys : List V) (bs : Nat → Bool) (b : Bool), y = .ref l ∧ H l = some (.lst ys) ∧ Each D ys x bs H ∧ AnyB bs ys.length b ∧ ∀ H', Ext H H' → Q (.bl b) H'
theorem op_inB (hD : MonB D) (h : EqB X n D) (hr : Room (n + 1) X.A) : OpR X (compareOp .In) (rInB D) := by
  intro pn s σ H x y v u Q I rx ry hq
  obtain ⟨l, ys, bs, b, rfl, hl, p, hb, q⟩ := hq
  cases ry
  refine in_own (N := ys.length) _ _ (items_of hD h (pn := pn) (σ := σ) ⟨hr, rfl⟩ hl rx p) (fun s' z => ?_) (fun i s' z => ?_) ⟨⟨H, I, Ext.rfl'⟩, fun j hj => absurd hj (by omega)⟩
  · obtain ⟨⟨H', I', e⟩, all⟩ := z
    rcases hb with ⟨rfl, i, hi, hbi⟩ | ⟨rfl, _⟩
    · rw [all i hi] at hbi
      cases hbi
    · exact ⟨.bl false, H', I', rfl, q H' e⟩
  · obtain ⟨⟨H', I', e⟩, hbi, hi, bef⟩ := z
    rcases hb with ⟨rfl, _⟩ | ⟨rfl, all⟩
    · exact ⟨.bl true, H', I', rfl, q H' e⟩
    · rw [all i hi] at hbi
      cases hbi
/-- l.index(x): the first place of an equal one -/
def rIndexB (D : EqvB) : V → List V → Hp → VK → Prop := fun x xs H Q => ∃ (l : Addr) (ys : List V) (y : V) (bs : Nat → Bool) (j : Nat), x = V.ref l ∧ xs = [y] ∧ H l = some (.lst ys) ∧ Each D ys y bs H ∧ j < ys.length ∧ bs j = true ∧ (∀ m, m < j → bs m = false) ∧ ∀ H', Ext H H' → Q (.int (j : Nat)) H'
theorem mt_indexB (hD : MonB D) (h : EqB X n D) (hr : Room (n + 1) X.A) : MtR X "list.index" (rIndexB D) := by
  intro pn s σ H x xs v us Q I rx rxs hq
  obtain ⟨l, ys, y, bs, j, rfl, rfl, hl, p, hj, hbj, no, q⟩ := hq
  cases rx
  cases rxs with
  | cons ry rt =>
    rename_i uy ut
    cases rt
    obtain ⟨z, _⟩ := I.hok l _ hl
    have zz : ys.length ≤ sizeLine := z
    have hsl := sizeLine_eq
    refine index_own (N := ys.length) (by omega) _ _ (items_of hD h (pn := pn) (σ := σ) ⟨hr, rfl⟩ hl ry p) (fun s' z => ?_) (fun i s' _ z => ?_) ⟨⟨H, I, Ext.rfl'⟩, fun j hj => absurd hj (by omega)⟩
    · obtain ⟨_, all⟩ := z
      rw [all j hj] at hbj
      cases hbj
    · obtain ⟨⟨H', I', e⟩, hbi, hi, bef⟩ := z
      have ij : i = j := by
        rcases Nat.lt_trichotomy i j with c | c | c
        · rw [no i c] at hbi
          cases hbi
        · exact c
        · rw [bef j c] at hbj
          cases hbj
      subst ij
      exact ⟨.int (i : Nat), H', I'.tok _, ⟨_, rfl⟩, q H' e⟩
end Fr
set_option Elab.async false
set_option linter.all false
set_option maxRecDepth 100000
set_option maxHeartbeats 1000000
set_option exponentiation.threshold 100000
namespace K35
open PySem PySem.Spec PyProof.Rows L2 Fa Fb
/-! ### rows -/
structure It where
  q : Addr
  a : Addr
  s : Str
  t : Int
  u : Int
def ItOk (K : PySem.W.Frag) (n : Nat) (H : Hp) (g : It) : Prop := H g.q = some (.tup [.str g.s, .ref g.a]) ∧ IsA K H (.ref g.a) g.t g.u n
theorem ItOk.same {K : PySem.W.Frag} {n : Nat} {H H' : Hp} {g : It} (h : ItOk K n H g) (s : Same H H') : ItOk K n H' g := ⟨s _ _ h.1, h.2.same s⟩
theorem ItOk.mono {K : PySem.W.Frag} {n m : Nat} {H : Hp} {g : It} (h : ItOk K n H g) (e : n ≤ m) : ItOk K m H g := ⟨h.1, h.2.mono e⟩
structure RowOk (K : PySem.W.Frag) (m : Nat) (H : Hp) (p : Addr) (gs : List It) : Prop where
  l : H p = some (.lst (gs.map fun g => V.ref g.q))
  ok : ∀ g ∈ gs, ItOk K m H g
  n : gs.length ≤ 40
theorem RowOk.same {K : PySem.W.Frag} {n : Nat} {H H' : Hp} {p : Addr} {gs : List It} (h : RowOk K n H p gs) (s : Same H H') : RowOk K n H' p gs := ⟨s _ _ h.l, fun g hg => (h.ok g hg).same s, h.n⟩
theorem RowOk.mono {K : PySem.W.Frag} {n m : Nat} {H : Hp} {p : Addr} {gs : List It} (h : RowOk K n H p gs) (e : n ≤ m) : RowOk K m H p gs := ⟨h.l, fun g hg => (h.ok g hg).mono e, h.n⟩
def rv (gs : List It) : M04.Row := gs.map fun g => (g.s, vq g.t g.u)
abbrev sPar : Stmt := top 43
abbrev sExt : Stmt := top 44
theorem scPar : FnScope ["row", "unit"] ["row", "unit"] (defScope sPar) := ⟨rfl, rfl, rfl, by decide +kernel, rfl, by decide +kernel, by decide +kernel⟩
theorem scExt : FnScope ["row", "unit", "amount", "before", "last", "shift"] ["row", "unit", "amount"] (defScope sExt) := ⟨rfl, rfl, rfl, by decide +kernel, rfl, by decide +kernel, by decide +kernel⟩
def spPart (K : PySem.W.Frag) : Sp := fun vs H Q _ => ∃ (p : Addr) (gs : List It) (z : Str) (m : Nat), vs = [.ref p, .str z] ∧ RowOk K m H p gs ∧ 1 ≤ m ∧ m ≤ 6000 ∧ ∀ H' w l a hs t u, Same H H' → H' w = some (.tup [.ref l, .ref a]) → RowOk K m H' l hs → IsA K H' (.ref a) t u m → M04.part (rv gs) z = (rv hs, vq t u) → hs.length ≤ gs.length → H l = none → Q (.ref w) H'
def spExt (K : PySem.W.Frag) : Sp := fun vs H Q _ => ∃ (p : Addr) (gs : List It) (z : Str) (y : V) (q : Rat) (m k : Nat), vs = [.ref p, .str z, y] ∧ RowOk K m H p gs ∧ gs.length < 40 ∧ 1 ≤ m ∧ m + k ≤ 6000 ∧ QA K H y q k ∧ ∀ H' l hs, Same H H' → RowOk K (m + k + 1) H' l hs → rv hs = M04.ext (rv gs) z q → hs.length ≤ gs.length + 1 → H l = none → Q (.ref l) H'
theorem none_of {H H' : Hp} {p : Addr} (s : Same H H') (h : H' p = none) : H p = none := by
  cases e : H p with
  | none => rfl
  | some o =>
    rw [s _ _ e] at h
    cases h
def sParR (K : PySem.W.Frag) (gs : List It) (p : Addr) (z : Str) (Q : VK) (H : Hp) : TS := fun D σ H' => σ = [some (.ref p), some (.str z)] ∧ D.rt = Q ∧ M04.part (rv gs) z = (rv gs, 0) ∧ H = H'
theorem atI_end {α : Type} {xs : List α} {v : α} (h : xs[xs.length - 1]? = some v) : atI xs (-1) = some v := by
  have hl : 0 < xs.length := by
    rcases Nat.eq_zero_or_pos xs.length with e | e
    · have : xs = [] := List.eq_nil_of_length_eq_zero e
      subst this
      cases h
    · exact e
  have e : ixN xs.length (-1) = some (xs.length - 1) := by
    unfold ixN
    rw [if_neg (by decide), if_pos (by omega)]
    congr 1
    omega
  unfold atI
  rw [e]
  exact h
theorem am_dec {t u t2 u2 : Int} (r : Am.Red t u) (r2 : Am.Red t2 u2) : (decide (t = t2) && decide (u = u2)) = decide (vq t u = vq t2 u2) := by
  by_cases c : vq t u = vq t2 u2
  · obtain ⟨a, b⟩ := vq_inj r r2 c
    rw [decide_eq_true a, decide_eq_true b, decide_eq_true c]
    rfl
  · rw [decide_eq_false c]
    cases h : (decide (t = t2) && decide (u = u2)) with
    | false => rfl
    | true =>
      rw [Bool.and_eq_true, decide_eq_true_eq, decide_eq_true_eq] at h
      exact absurd (by rw [h.1, h.2]) c
theorem rv_last {gs : List It} {g : It} (h : gs[gs.length - 1]? = some g) : (rv gs).getLast? = some (g.s, vq g.t g.u) := by
  unfold rv
  rw [List.getLast?_eq_getElem?, List.length_map, List.getElem?_map, h]
  rfl
section
variable {P : Program} {w : World} {K : PySem.W.Frag} {mg : Str → Option Value} {base : Heap} {f fA fP fI fE : Addr} {fd fdA fdP fdI fdE : FuncData}
theorem ok_par (F : FnP K "parted" sPar f fd) (T : AF K mg) (mL : mg "len" = none) (mLi : mg "list" = none) (GI : FnOk P w K mg base (L2.CX P w) 4 (aI K) fdI ["self", "top", "bottom"] (spInit K)) {ds : List Value} (hds : Vals [.int 1] ds) (bI : Binds K fdI ["self", "top", "bottom"] ds) :
    FnOk P w K mg base (L2.CX P w) 6 f fd ["row", "unit"] (spPart K) := by
  refine F.ok scPar (fun vs H Q E h => ?_) (fun cdv A outer s H vs Q E hr h => ?_)
  · obtain ⟨p, gs, z, m, rfl, _⟩ := h
    rfl
  · obtain ⟨p, gs, z, m, rfl, hp, hm1, hm, k⟩ := h
    have hr5 := hr.mono (show 5 ≤ 5 by decide)
    refine ⟨_, (pss_cons (ps_if (PW.pt (pw_and (pt_cmpR op_gt (pe_callB call_len rfl mL PySem.boot_len (pa_cons (pv 0) pa_nil)) pe_int (nomark _)) (pw_and1 (pt_cmpR op_eq (pe_ix ix_tup (pe_ix ix_list (pv 0) (pe_un un_neg pe_int) (fun _ _ => rfl)) pe_int (fun _ _ => rfl)) (pv 1) (nomark _))))) (pss_one (ps_ret (pe_tup (pa_cons (pe_slice sl_list (pv 0) po_none (po_some (pe_un un_neg pe_int))) (pa_cons (pe_ix ix_tup (pe_ix ix_list (pv 0) (pe_un un_neg pe_int) (fun _ _ => rfl)) pe_int (fun _ _ => rfl)) pa_nil))))) pss_nil)
      (pss_imp (S := sParR K gs p z Q H) (pss_one (ps_ret (pe_tup (pa_cons (pe_callTy call_list_of rfl mLi (by decide +kernel : bootBuiltins "list" = some (.type "list")) (pa_cons (pv 0) pa_nil)) (pa_cons (pe_make T.mkA GI hr5 rfl T.g bI hds passL (pa_cons pe_int pa_nil)) pa_nil))))) ?rest)), ?_⟩
    have gl := hp.n
    case rest =>
      rintro D σ H1 ⟨rfl, hD, pe, eH⟩
      subst eH
      refine ⟨_, rfl, p, _, rfl, .inl (SqL.of hp.l), fun l hl => ?_⟩
      have s1 := Same.upd (o := .lst (gs.map fun g => V.ref g.q)) hl
      have hl1 : upd H l (HO.lst (gs.map fun g => V.ref g.q)) l = some (HO.lst (gs.map fun g => V.ref g.q)) := upd_same
      generalize upd H l (HO.lst (gs.map fun g => V.ref g.q)) = H2 at s1 hl1 ⊢
      refine fun y dy hy hdy hne => spInit_imp (make_fact T (n := 1) (a := 0) (b := 1) (by decide) (by decide) (by decide) (by decide) hy hdy hne) fun v3 H3 ⟨hv, t, u, s3, iy, e3⟩ => ⟨hv, ?_⟩
      refine ⟨by show 2 ≤ sizeLine; decide, fun q hq => ?_⟩
      have s4 := Same.upd (o := .tup [.ref l, .ref y]) hq
      rw [hD]
      obtain ⟨_, _, _, _, ⟨u0, _⟩, _⟩ := id iy
      refine k _ q l y gs t u (s1.trans (s3.trans s4)) upd_same ⟨s4 _ _ (s3 _ _ hl1), fun g hg => (hp.ok g hg).same (s1.trans (s3.trans s4)), hp.n⟩ ((iy.same s4).mono hm1) ?_ (Nat.le_refl _) hl
      rw [pe, (vq_eq (Int.ne_of_gt u0) (by decide)).mpr e3, vq_zero]
    refine ⟨_, rfl, _, (gs.map fun g => V.ref g.q).length, rfl, .inl ⟨_, SqL.of hp.l, rfl⟩, _, _, rfl, rfl, _, rfl, ?_⟩
    rw [List.length_map]
    by_cases c0 : gs.length = 0
    · refine if_false_of (decide_eq_false (by omega)) ?_
      refine iteF ⟨rfl, rfl, ?_, rfl⟩
      rw [List.eq_nil_of_length_eq_zero c0]
      rfl
    · refine if_true_of (decide_eq_true (by omega)) ?_
      have h1 : gs.length - 1 < gs.length := by omega
      have eg : gs[gs.length - 1]? = some gs[gs.length - 1] := List.getElem?_eq_getElem h1
      generalize gs[gs.length - 1] = g at eg
      have em : (gs.map fun g => V.ref g.q)[(gs.map fun g => V.ref g.q).length - 1]? = some (V.ref g.q) := by rw [List.length_map, List.getElem?_map, eg]; rfl
      have ea : atI (gs.map fun g => V.ref g.q) (-1) = some (V.ref g.q) := atI_end em
      obtain ⟨hg1, hg2⟩ := hp.ok g (List.mem_of_getElem? eg)
      refine ⟨_, rfl, _, rfl, p, _, -1, _, rfl, rfl, SqL.of hp.l, ea, g.q, _, 0, _, rfl, rfl, SqT.of hg1, rfl, _, rfl, rfl, _, rfl, ?_⟩
      have pt : M04.part (rv gs) z = if g.s = z then ((rv gs).dropLast, vq g.t g.u) else (rv gs, 0) := by
        unfold M04.part
        rw [rv_last eg]
      by_cases c : g.s = z
      · rw [decide_eq_true (by rw [c])]
        rw [if_pos c] at pt
        refine iteT ⟨_, rfl, _, rfl, _, rfl, p, _, rfl, SqL.of hp.l, fun l hl => ?_⟩
        have ec : cutV (gs.map fun g => V.ref g.q) none (some (-1)) = (gs.dropLast).map fun g => V.ref g.q := by
          show List.take ((-1 + ((gs.map fun g => V.ref g.q).length : Int)).toNat - 0) (gs.map fun g => V.ref g.q) = _
          rw [List.length_map, Nat.sub_zero, show (-1 + (gs.length : Int)).toNat = gs.length - 1 by omega, ← List.map_take, List.dropLast_eq_take]
        rw [ec]
        have s1 := Same.upd (o := .lst (gs.dropLast.map fun g => V.ref g.q)) hl
        have hl1 : upd H l (HO.lst (gs.dropLast.map fun g => V.ref g.q)) l = some (HO.lst (gs.dropLast.map fun g => V.ref g.q)) := upd_same
        generalize upd H l (HO.lst (gs.dropLast.map fun g => V.ref g.q)) = H2 at s1 hl1 ⊢
        refine ⟨_, rfl, _, rfl, p, _, -1, _, rfl, rfl, SqL.of (s1 _ _ hp.l), ea, g.q, _, 1, _, rfl, rfl, SqT.of (s1 _ _ hg1), rfl, by show 2 ≤ sizeLine; decide, fun q hq => ?_⟩
        have s4 := Same.upd (o := .tup [.ref l, .ref g.a]) hq
        refine k _ q l g.a gs.dropLast g.t g.u (s1.trans s4) upd_same ⟨s4 _ _ hl1, fun g hg => (hp.ok g (List.dropLast_subset _ hg)).same (s1.trans s4), by have := hp.n; rw [List.length_dropLast]; omega⟩ (hg2.same (s1.trans s4)) ?_ (by rw [List.length_dropLast]; omega) hl
        rw [pt]
        congr 1
        unfold rv
        rw [List.map_dropLast]
      · rw [decide_eq_false fun e => c (V.str.inj e)]
        rw [if_neg c] at pt
        exact iteF ⟨rfl, rfl, pt, rfl⟩
theorem qa_zero {K : PySem.W.Frag} {H : Hp} {x : V} {t u : Int} {n : Nat} (h : IsA K H x t u n) : (decide (t = 0) && decide (u = 1)) = decide (vq t u = 0) := by
  obtain ⟨_, _, _, _, r, _⟩ := id h
  rw [← vq_zero]
  exact am_dec r (by refine ⟨by decide, ?_⟩; decide)
theorem ok_ext (F : FnP K "extended" sExt f fd) (T : AF K mg) (EQ : EqK P w K mg base fE fdE) (OA : OpK P w K mg base "add" 7 (spAdd K) fA fdA) (PA : Fn P w K mg base "parted" 6 ["row", "unit"] (spPart K) fP fdP) (GI : FnOk P w K mg base (L2.CX P w) 4 (aI K) fdI ["self", "top", "bottom"] (spInit K)) {ds : List Value} (hds : Vals [.int 1] ds) (bI : Binds K fdI ["self", "top", "bottom"] ds) :
    FnOk P w K mg base (L2.CX P w) 8 f fd ["row", "unit", "amount"] (spExt K) := by
  refine F.ok scExt (fun vs H Q E h => ?_) (fun cdv A outer s H vs Q E hr h => ?_)
  · obtain ⟨p, gs, z, y, q, m, k, rfl, _⟩ := h
    rfl
  · obtain ⟨p, gs, z, y, q, m, kb, rfl, hp, gl, hm1, hm, ⟨ty, uy, iy, rfl⟩, k⟩ := h
    have hr1 := hr.mono (show 1 ≤ 7 by decide)
    have hr5 := hr.mono (show 5 ≤ 7 by decide)
    have hr6 := hr.mono (show 6 ≤ 7 by decide)
    have hr7 := hr.mono (show 7 ≤ 7 by decide)
    refine ⟨_, (pss_cons (ps_asg (pe_call PA.ok hr6 rfl PA.g PA.k PA.b .nil passL (pa_cons (pv 0) (pa_cons (pv 1) pa_nil))) (pg_tup (by rfl) (pgs_cons (pg_name (i := 3) scExt.nd rfl (Or.inl rfl)) (pgs_cons (pg_name (i := 4) scExt.nd rfl (Or.inl rfl)) pgs_nil))))
      (pss_cons (ps_set (i := 5) scExt.nd rfl (Or.inl rfl) (pe_binX (op := .Add) OA.op.own OA.ok hr7 OA.b passS (pv 4) (pv 2)))
      (pss_one (ps_ret (pe_ifExp (pt_cmp (pe_eqX EQ.at_ EQ.fn EQ.ok hr1 EQ.b passS (pv 5) (pe_make T.mkA GI hr5 rfl T.g bI hds passL (pa_cons pe_int pa_nil)))) (pv 3) (pe_op op_cat (pv 3) (pe_lst (pa_cons (pe_tup (pa_cons (pv 1) (pa_cons (pv 5) pa_nil))) pa_nil)))))))), ?_⟩
    refine ⟨_, rfl, _, rfl, p, gs, z, m, rfl, hp, hm1, by omega, fun H1 w l a hs t u s1 hw hl ia pe hle lnone => ?_⟩
    have iy1 := iy.same s1
    obtain ⟨pa, da, ea, ha, ⟨u0, _⟩, _⟩ := id ia
    obtain ⟨py, dy, ey, hy, ⟨uy0, _⟩, _⟩ := id iy1
    refine ⟨w, _, rfl, SqT.of hw, rfl, _, _, rfl, _, _, rfl, rfl, ?_⟩
    refine ⟨_, rfl, _, rfl, pa, da, _, ea, ha, OA.op.arg (.inl iy1), _, _, _, _, _, rfl, ia, .inr ⟨_, _, _, .inl iy1, by omega, fun z2 H2 t2 u2 s2 iz ez => ?_⟩⟩
    obtain ⟨pz, dz, rfl, hz, ⟨uz, _⟩, _⟩ := id iz
    have sv := vq_add (Int.ne_of_gt u0) (Int.ne_of_gt uy0) (Int.ne_of_gt uz) ez
    refine ⟨_, rfl, fun y3 dy3 h3 hd3 n3 => spInit_imp (make_fact T (n := 1) (a := 0) (b := 1) (by decide) (by decide) (by decide) (by decide) h3 hd3 n3) fun v3 H3 ⟨hv, t3, u3, s3, i3, e3⟩ => ⟨hv, ?_⟩⟩
    obtain ⟨p3, d3, eq3, hp3, r3, _⟩ := id i3
    have e30 : t3 = 0 ∧ u3 = 1 := Am.uniq r3 (by refine ⟨by decide, ?_⟩; decide) (by rw [e3])
    obtain ⟨rfl, rfl⟩ := e30
    refine ⟨pz, dz, _, rfl, s3 _ _ hz, .inl ⟨_, _, _, rfl, by cases eq3; exact hp3⟩, _, _, _, _, _, rfl, iz.same s3, .inl ⟨_, _, _, i3, _, rfl, ?_⟩⟩
    rw [qa_zero iz]
    have ex : M04.ext (rv gs) z (vq ty uy) = if vq t2 u2 = 0 then rv hs else rv hs ++ [(z, vq t2 u2)] := by
      unfold M04.ext
      rw [pe, ← sv]
    have s13 := s1.trans (s2.trans s3)
    by_cases c : vq t2 u2 = 0
    · rw [decide_eq_true c]
      rw [if_pos c] at ex
      refine iteT ⟨_, rfl, ?_⟩
      exact k _ l hs s13 ((hl.same (s2.trans s3)).mono (by omega)) ex.symm (by omega) lnone
    · rw [decide_eq_false c]
      rw [if_neg c] at ex
      refine iteF ⟨_, rfl, _, rfl, _, rfl, by show 2 ≤ sizeLine; decide, fun q4 h4 => ⟨by show 1 ≤ sizeLine; decide, fun l5 h5 => ?_⟩⟩
      have s4 := Same.upd (o := .tup [.str z, .ref pz]) h4
      have s5 := Same.upd (o := .lst [.ref q4]) h5
      refine ⟨l, l5, _, _, rfl, rfl, s5 _ _ (s4 _ _ (s3 _ _ (s2 _ _ hl.l))), upd_same, ?_, fun r6 h6 => ?_⟩
      · rw [List.length_map]
        exact Nat.le_trans (show hs.length + 1 ≤ 100 by omega) (by decide)
      · have s6 := Same.upd (o := .lst ((hs.map fun g => V.ref g.q) ++ [.ref q4])) h6
        have s36 := s4.trans (s5.trans s6)
        refine k _ r6 (hs ++ [⟨q4, pz, z, t2, u2⟩]) (s13.trans s36) ⟨by rw [upd_same, List.map_append]; rfl, fun g hg => ?_, by rw [List.length_append]; show hs.length + 1 ≤ 40; omega⟩ ?_ (by rw [List.length_append]; show hs.length + 1 ≤ _; omega) (none_of (s13.trans (s4.trans s5)) h6)
        · rcases List.mem_append.mp hg with hg | hg
          · exact ((hl.ok g hg).same ((s2.trans s3).trans s36)).mono (by omega)
          · rw [List.mem_singleton] at hg
            rw [hg]
            exact ⟨s6 _ _ (s5 _ _ upd_same), iz.same (s3.trans s36)⟩
        · rw [ex]
          unfold rv
          rw [List.map_append]
          rfl
end
end K35
set_option Elab.async false
set_option linter.all false
set_option maxRecDepth 100000
set_option maxHeartbeats 1000000
set_option exponentiation.threshold 100000
namespace K35
open PySem PySem.Spec PyProof.Rows L2 Fa Fb
/-- == of two points -/
def DAm (K : PySem.W.Frag) : Fq.EqvB := fun x y b H => ∃ t u n t2 u2 m, IsA K H x t u n ∧ IsA K H y t2 u2 m ∧ b = (decide (t = t2) && decide (u = u2))
theorem monB_am {K : PySem.W.Frag} : Fq.MonB (DAm K) := fun x y b H H' e ⟨t, u, n, t2, u2, m, h1, h2, h3⟩ => ⟨t, u, n, t2, u2, m, h1.same e, h2.same e, h3⟩
theorem am_same {x y : V} {K : PySem.W.Frag} {b : Bool} {H : Hp} (d : DAm K x y b H) : ∃ a c, x = .ref a ∧ y = .ref c ∧ (a = c → b = true) := by
  obtain ⟨t, u, n, t2, u2, m, ⟨p, dx, rfl, hp, _⟩, ⟨p2, dx2, rfl, hp2, _⟩, rfl⟩ := d
  refine ⟨p, p2, rfl, rfl, fun e => ?_⟩
  subst e
  rw [hp] at hp2
  have ef := (HO.ins.inj (Option.some.inj hp2)).2.2
  have e1 : t = t2 := by
    have := fl_top t u
    rw [ef, fl_top] at this
    cases this
    rfl
  have e2 : u = u2 := by
    have := fl_bot t u
    rw [ef, fl_bot] at this
    cases this
    rfl
  rw [e1, e2]
  simp
theorem rc_am {X : Cx} {f : Addr} {fd : FuncData} (EQ : EqK X.prog X.w X.K X.mg X.base f fd) : Fq.RcB X 1 (DAm X.K) := by
  intro A pins s σ H x y u v b sb I rx ry d
  obtain ⟨t, u', n, t2, u2, m, h1, h2, rfl⟩ := d
  obtain ⟨a, dx, rfl, ha, r1⟩ := id h1
  obtain ⟨c, dy, rfl, hc, r2⟩ := id h2
  cases rx
  cases ry
  obtain ⟨mA, J, _⟩ := ins_get I.hok ha
  obtain ⟨mB, J', _⟩ := ins_get I.hok hc
  obtain ⟨od, J, _⟩ := J.look
  obtain ⟨od', J', _⟩ := J'.look
  obtain ⟨m', hF⟩ := I.fr
  refine PySem.W.cmp_K (op := .Eq) (tb := .ref (CA X.K)) sb.room.units0 hF I.ok.mod.kin J J'.type (by simp [PySem.W.notFirst]) EQ.at_ EQ.fn ?_
  have hsp : spEq X.K [.ref a, .ref c] H (fun z H' => z = .bl (decide (t = t2) && decide (u' = u2)) ∧ H' = H) E0 := ⟨_, _, t, u', n, rfl, h1, .inl ⟨t2, u2, m, h2, rfl, rfl⟩⟩
  have e0 : Env0 X.prog X.w X.K X.mg X.base A X.stack s H := by
    have e := I.env0
    exact ⟨by rw [sb.fr]; exact e.frames, e.mod, e.bs, e.bsz, e.funs, e.frf, e.hok, e.bare⟩
  have vals : Vals [V.ref a, V.ref c] [Value.ref a, Value.ref c] := .cons rfl (.cons rfl .nil)
  have kin := I.kIn
  refine wpAny_call (codeAny_mono (EQ.ok.run A X.stack s H ⟨[.ref a, .ref c], []⟩ [.ref a, .ref c] [.ref a, .ref c] _ E0 sb.room e0 (by
    have := EQ.b s [.ref a, .ref c] kin rfl
    simpa using this) vals hsp) fun r s' hq => ?_)
  cases r with
  | error e => exact passL pins σ H s e s' I hq
  | ok fl =>
    cases fl with
    | ret w =>
      obtain ⟨z, H', I', rz, ez, ex⟩ := I.after hq
      subst ez
      cases rz
      exact ⟨rfl, H', I', by rw [ex]; exact Ext.rfl'⟩
    | next => exact False.elim hq
    | brk => exact False.elim hq
    | cont => exact False.elim hq

/-! ### == of flat values, amounts, and both -/
def DFl : Fq.EqvB := fun x y b _ => flatV x = true ∧ flatV y = true ∧ eqV x y = b
theorem monB_fl : Fq.MonB DFl := fun _ _ _ _ _ _ d => d
theorem eqB_fl {X : Cx} : Fq.EqB X 0 DFl := by
  intro A pins s σ H x y u v b sb I rx ry d
  obtain ⟨fx, fy, e⟩ := d
  have q := eqAt_V (A := A) (s := s) rx ry fx fy
  rw [e] at q
  exact q X.prog X.w X.xe _ ⟨rfl, H, I, Ext.rfl'⟩
theorem eqB_mono {X : Cx} {n m : Nat} {D : Fq.EqvB} (h : Fq.EqB X n D) (e : n ≤ m) : Fq.EqB X m D := fun A pins s σ H x y u v b sb I rx ry d => h A pins s σ H x y u v b ⟨sb.room.mono e, sb.fr⟩ I rx ry d
def DMix (K : PySem.W.Frag) : Fq.EqvB := fun x y b H => DFl x y b H ∨ DAm K x y b H
theorem monB_mix {K : PySem.W.Frag} : Fq.MonB (DMix K) := fun x y b H H' e d => d.imp (monB_fl _ _ _ _ _ e) (monB_am _ _ _ _ _ e)
theorem eqB_mix {X : Cx} {f : Addr} {fd : FuncData} (EQ : EqK X.prog X.w X.K X.mg X.base f fd) : Fq.EqB X 1 (DMix X.K) := by
  intro A pins s σ H x y u v b sb I rx ry d
  rcases d with d | d
  · exact eqB_mono eqB_fl (Nat.zero_le _) A pins s σ H x y u v b sb I rx ry d
  · exact ((rc_am EQ).eqB fun _ _ _ _ d => am_same d) A pins s σ H x y u v b sb I rx ry d
theorem allB_nil {D : Fq.EqvB} {H : Hp} : Fq.AllB D [] [] true H := .inr ⟨rfl, fun _ => true, (fun i x y e => by cases e), .inl ⟨rfl, fun i h => absurd h (Nat.not_lt_zero _)⟩⟩
theorem allB_cons {D : Fq.EqvB} {H : Hp} {x y : V} {xs ys : List V} {a b : Bool} (d : D x y a H) (p : Fq.AllB D xs ys b H) : Fq.AllB D (x :: xs) (y :: ys) (a && b) H := by
  rcases p with ⟨ne, rfl⟩ | ⟨el, bs, pb, hb⟩
  · exact .inl ⟨by simpa using ne, by simp⟩
  · refine .inr ⟨by simpa using el, fun i => match i with | 0 => a | i + 1 => bs i, fun i x' y' e1 e2 => ?_, ?_⟩
    · cases i with
      | zero => cases e1; cases e2; exact d
      | succ i => exact pb i x' y' e1 e2
    · cases a with
      | false => exact .inr ⟨rfl, 0, Nat.succ_pos _, rfl⟩
      | true =>
        rcases hb with ⟨rfl, all⟩ | ⟨rfl, i, hi, e⟩
        · refine .inl ⟨rfl, fun i hi => ?_⟩
          cases i with
          | zero => rfl
          | succ i => exact all i (Nat.lt_of_succ_lt_succ hi)
        · exact .inr ⟨rfl, i + 1, Nat.succ_lt_succ hi, e⟩
theorem dec_cons {α : Type} [DecidableEq α] {x y : α} {xs ys : List α} : (decide (x = y) && decide (xs = ys)) = decide (x :: xs = y :: ys) := by
  by_cases c : x = y
  · by_cases c2 : xs = ys
    · subst c c2; simp
    · simp [c, c2]
  · simp [c]
theorem allB_map {D : Fq.EqvB} {H : Hp} {α β : Type} [DecidableEq α] {v : β → V} {f : β → α} : ∀ {gs hs : List β}, (∀ g ∈ gs, ∀ h ∈ hs, D (v g) (v h) (decide (f g = f h)) H) → Fq.AllB D (gs.map v) (hs.map v) (decide (gs.map f = hs.map f)) H
  | [], [], _ => allB_nil
  | [], h :: hs, _ => .inl ⟨by simp, by simp⟩
  | g :: gs, [], _ => .inl ⟨by simp, by simp⟩
  | g :: gs, h :: hs, p => by
    rw [List.map_cons, List.map_cons, List.map_cons, List.map_cons, ← dec_cons]
    exact allB_cons (p g List.mem_cons_self h List.mem_cons_self) (allB_map fun a ha b hb => p a (List.mem_cons_of_mem _ ha) b (List.mem_cons_of_mem _ hb))
theorem tupB_same {K : PySem.W.Frag} {x y : V} {b : Bool} {H : Hp} (d : Fq.DTupB (DMix K) x y b H) : ∃ a c, x = .ref a ∧ y = .ref c ∧ (a = c → b = true) := by
  obtain ⟨a, c, xs, ys, rfl, rfl, h1, h2, hl, p⟩ := d
  refine ⟨a, c, rfl, rfl, fun e => ?_⟩
  subst e
  rw [h1] at h2
  cases h2
  rcases p with ⟨ne, _⟩ | ⟨_, bs, pb, ⟨e, _⟩ | ⟨_, i, hi, eb⟩⟩
  · exact absurd rfl ne
  · exact e
  · have ei : xs[i]? = some xs[i] := List.getElem?_eq_getElem hi
    exfalso
    rcases pb i _ _ ei ei with ⟨f1, _, e⟩ | d
    · rw [eb] at e
      generalize xs[i] = z at f1 e
      cases z <;> simp [eqV, flatV] at e f1
    · obtain ⟨p, q, e1, e2, hs⟩ := am_same d
      rw [hs (V.ref.inj (e1.symm.trans e2))] at eb
      cases eb
theorem rc_row {X : Cx} {f : Addr} {fd : FuncData} (EQ : EqK X.prog X.w X.K X.mg X.base f fd) : Fq.RcB X 3 (Fq.DListB (Fq.DTupB (DMix X.K))) :=
  Fq.rcB_list (Fq.monB_tup monB_mix) ((Fq.rcB_tup monB_mix (eqB_mix EQ)).eqB fun _ _ _ _ d => tupB_same d)
theorem monB_list {D : Fq.EqvB} (hD : Fq.MonB D) : Fq.MonB (Fq.DListB D) := fun x y b H H' e d => by
  obtain ⟨a, c, xs, ys, hx, hy, h1, h2, p⟩ := d
  exact ⟨a, c, xs, ys, hx, hy, e _ _ h1, e _ _ h2, p.mon hD e⟩
theorem monB_row {K : PySem.W.Frag} : Fq.MonB (Fq.DListB (Fq.DTupB (DMix K))) := monB_list (Fq.monB_tup monB_mix)
theorem listB_same {D : Fq.EqvB} (hs : ∀ {x y b H}, D x y b H → ∃ a c, x = .ref a ∧ y = .ref c ∧ (a = c → b = true)) {x y : V} {b : Bool} {H : Hp} (d : Fq.DListB D x y b H) : ∃ a c, x = .ref a ∧ y = .ref c ∧ (a = c → b = true) := by
  obtain ⟨a, c, xs, ys, rfl, rfl, h1, h2, p⟩ := d
  refine ⟨a, c, rfl, rfl, fun e => ?_⟩
  subst e
  rw [h1] at h2
  cases h2
  rcases p with ⟨ne, _⟩ | ⟨_, bs, pb, ⟨e, _⟩ | ⟨_, i, hi, eb⟩⟩
  · exact absurd rfl ne
  · exact e
  · have ei : xs[i]? = some xs[i] := List.getElem?_eq_getElem hi
    obtain ⟨p, q, e1, e2, hs⟩ := hs (pb i _ _ ei ei)
    rw [hs (V.ref.inj (e1.symm.trans e2))] at eb
    cases eb
theorem eqB_row {X : Cx} {f : Addr} {fd : FuncData} (EQ : EqK X.prog X.w X.K X.mg X.base f fd) : Fq.EqB X 3 (Fq.DListB (Fq.DTupB (DMix X.K))) := (rc_row EQ).eqB fun _ _ _ _ d => listB_same tupB_same d
theorem strB {K : PySem.W.Frag} {a b : Str} {H : Hp} : DMix K (.str a) (.str b) (decide (a = b)) H := .inl ⟨rfl, rfl, by show (a == b) = _; rw [Bool.eq_iff_iff, beq_iff_eq, decide_eq_true_iff]⟩
theorem amB {K : PySem.W.Frag} {x y : V} {t u t2 u2 : Int} {n m : Nat} {H : Hp} (h : IsA K H x t u n) (h2 : IsA K H y t2 u2 m) : DMix K x y (decide (vq t u = vq t2 u2)) H := by
  obtain ⟨_, _, _, _, r, _⟩ := id h
  obtain ⟨_, _, _, _, r2, _⟩ := id h2
  exact .inr ⟨t, u, n, t2, u2, m, h, h2, (am_dec r r2).symm⟩
theorem dec_pair {α β : Type} [DecidableEq α] [DecidableEq β] {a b : α} {c d : β} : (decide (a = b) && (decide (c = d) && true)) = decide ((a, c) = (b, d)) := by
  by_cases h : a = b
  · by_cases h2 : c = d
    · simp [h, h2]
    · simp [h, h2]
  · simp [h]
theorem it_eqB {K : PySem.W.Frag} {n m : Nat} {H : Hp} {g h : It} (a : ItOk K n H g) (b : ItOk K m H h) : Fq.DTupB (DMix K) (.ref g.q) (.ref h.q) (decide ((g.s, vq g.t g.u) = (h.s, vq h.t h.u))) H := by
  refine ⟨g.q, h.q, _, _, rfl, rfl, a.1, b.1, rfl, ?_⟩
  rw [← dec_pair]
  exact allB_cons strB (allB_cons (amB a.2 b.2) allB_nil)
theorem row_eqB {K : PySem.W.Frag} {n m : Nat} {H : Hp} {p q : Addr} {gs hs : List It} (a : RowOk K n H p gs) (b : RowOk K m H q hs) : Fq.DListB (Fq.DTupB (DMix K)) (.ref p) (.ref q) (decide (rv gs = rv hs)) H :=
  ⟨p, q, _, _, rfl, rfl, a.l, b.l, allB_map fun g hg h hh => it_eqB (a.ok g hg) (b.ok h hh)⟩
end K35
set_option Elab.async false
set_option linter.all false
set_option maxRecDepth 100000
set_option maxHeartbeats 4000000
/-! x in o and len(o) by methods of o's own class. -/
namespace Fo
open PySem PySem.Spec PyProof.Rows L2
section
variable {X : Cx} {CX : CXT} {k : Nat} {f C : Addr} {fd : FuncData} {ps : List Str} {sp : Sp} {E : L2.St → XK} {a b e : Expr} {ta tb : TE} {pos p : Pos}
def tInX (C : Addr) (sp : Sp) (E : L2.St → XK) (neg : Bool) (ta tb : TE) : TE := fun σ H Q => ta σ H fun x H1 => tb σ H1 fun y H2 => ∃ p dx fs, y = .ref p ∧ H2 p = some (.ins C dx fs) ∧ sp [y, x] H2 (fun v H3 => ∃ k : Bool, v = .bl k ∧ Q (.bl (if neg then !k else k)) H3) (E σ)
theorem in_go (at_ : PySem.W.findIn X.K (.ref C) "__contains__" = some (some (.ref f))) (F : FnOk X.prog X.w X.K X.mg X.base CX k f fd ps sp) (hr : Room k X.A) (hb : Binds X.K fd ps []) {E0 : XK} {σ : L2.St} (hx : PassesAt CX X σ E0) {pins : List (Addr × Obj)} {H2 : Hp} {s2 : Shared} {p0 : Addr} {x : V} {v : Value} {Q : VK} {neg : Bool} (I2 : Inv X pins σ H2 s2) (rx : RelV x v)
    (q : sp [.ref p0, x] H2 (fun v H3 => ∃ k : Bool, v = .bl k ∧ Q (.bl (if neg then !k else k)) H3) E0) :
    wpAny (model X.prog X.w) X.A (call (.ref f) [.ref p0, v]) (fun r s' => wpAny (model X.prog X.w) X.A (truthy r) (fun b => EP X pins σ Q (.bool (if neg then !b else b))) X.xe s') X.xe s2 := by
  have hl : ([V.ref p0, x]).length = ps.length := F.len _ _ _ _ q
  refine wpAny_call (codeAny_mono (F.run X.A X.stack s2 H2 ⟨[.ref p0, v], []⟩ [.ref p0, v] [.ref p0, x] _ E0 hr I2.env0 (by
    have z := hb s2 [.ref p0, v] I2.kIn (by simpa using hl)
    simpa using z) (.cons rfl (.cons rx .nil)) q) fun r s' hq => ?_)
  cases r with
  | error e => exact hx pins H2 s2 e s' I2 hq
  | ok fl =>
    cases fl with
    | ret u =>
      obtain ⟨z, H', I', rz, kk, ez, q2⟩ := I2.after hq
      subst ez
      cases rz
      exact wpAny_truthy_bool ⟨.bl (if neg then !kk else kk), H', I', by cases neg <;> rfl, q2⟩
    | next => exact False.elim hq
    | brk => exact False.elim hq
    | cont => exact False.elim hq
theorem pc_inX (at_ : PySem.W.findIn X.K (.ref C) "__contains__" = some (some (.ref f))) (fn : PySem.W.isFn X.K (.ref f) = true) (F : FnOk X.prog X.w X.K X.mg X.base CX k f fd ps sp) (hr : Room k X.A) (hb : Binds X.K fd ps []) (hx : ∀ σ, PassesAt CX X σ (E σ)) (ha : PE X a ta) (hb2 : PE X b tb) :
    PC X .In a b (tInX C sp E false ta tb) := by
  refine ⟨fun pins s σ H Q I h => ?_⟩
  refine bin ha hb2 I h fun v u s2 x y H2 I2 rx ry q => ?_
  obtain ⟨p0, dx, fs, ey, hp, q⟩ := q
  subst ey
  obtain rfl : u = Value.ref p0 := ry
  obtain ⟨mA, O, _⟩ := ins_get I2.hok hp
  obtain ⟨od, J, _⟩ := O.look
  obtain ⟨m, hF⟩ := I2.fr
  exact PySem.W.in_K hF I2.ok.mod.kin J at_ fn (in_go (neg := false) at_ F hr hb (hx σ) I2 rx q)
theorem pc_notInX (at_ : PySem.W.findIn X.K (.ref C) "__contains__" = some (some (.ref f))) (fn : PySem.W.isFn X.K (.ref f) = true) (F : FnOk X.prog X.w X.K X.mg X.base CX k f fd ps sp) (hr : Room k X.A) (hb : Binds X.K fd ps []) (hx : ∀ σ, PassesAt CX X σ (E σ)) (ha : PE X a ta) (hb2 : PE X b tb) :
    PC X .NotIn a b (tInX C sp E true ta tb) := by
  refine ⟨fun pins s σ H Q I h => ?_⟩
  refine bin ha hb2 I h fun v u s2 x y H2 I2 rx ry q => ?_
  obtain ⟨p0, dx, fs, ey, hp, q⟩ := q
  subst ey
  obtain rfl : u = Value.ref p0 := ry
  obtain ⟨mA, O, _⟩ := ins_get I2.hok hp
  obtain ⟨od, J, _⟩ := O.look
  obtain ⟨m, hF⟩ := I2.fr
  exact PySem.W.notIn_K hF I2.ok.mod.kin J at_ fn (in_go (neg := true) at_ F hr hb (hx σ) I2 rx q)
def tLenX (C : Addr) (sp : Sp) (E : L2.St → XK) (ta : TE) : TE := fun σ H Q => ta σ H fun x H1 => ∃ p dx fs, x = .ref p ∧ H1 p = some (.ins C dx fs) ∧ sp [x] H1 (fun v H3 => ∃ n : Nat, v = .int (n : Int) ∧ n ≤ 1000000 ∧ Q (.int (n : Int)) H3) (E σ)
theorem pe_lenX (at_ : PySem.W.findIn X.K (.ref C) "__len__" = some (some (.ref f))) (fn : PySem.W.isFn X.K (.ref f) = true) (F : FnOk X.prog X.w X.K X.mg X.base CX k f fd ps sp) (hr : Room (k + 2) X.A) (hb : Binds X.K fd ps []) (hx : ∀ σ, PassesAt CX X σ (E σ)) (hg : Gl X "len") (hm : X.mg "len" = none) (ha : PE X e ta)
    (he : starEach [e] X.env = (false, eval e X.env) :: starEach [] X.env := by rfl) (hpl : (backTo pos (starEach [] X.env)).any (·.1) = false := by rfl) :
    PE X (.Call (.Name "len" p) [e] [] pos) (tLenX C sp E ta) := by
  refine ⟨fun pins s σ H Q I h => ?_⟩
  refine wpAny_Call_Name_kw (ld_blt I hg hm PySem.boot_len ?_)
  refine PyProof.Rows.callWith_builtin1 ?_ he hpl
  rw [he]
  show wpAny _ _ (spliced ((false, eval e X.env) :: backTo pos (starEach [] X.env))) _ _ s
  refine Calls.spliced_cons (thn (ha.run pins s σ H _ I h) fun v s1 ⟨x, H1, I1, r1, q1⟩ => Calls.spliced_nil ?_)
  obtain ⟨q0, dx, fs, ex, hp, q⟩ := q1
  subst ex
  obtain rfl : v = Value.ref q0 := r1
  obtain ⟨mA, O, _⟩ := ins_get I1.hok hp
  obtain ⟨od, J, _⟩ := O.look
  obtain ⟨m, hF⟩ := I1.fr
  have hr2 : Room k X.A.in1 := (show Room (k + 1) X.A.in1 from Room.in1 hr).mono (Nat.le_succ _)
  have hl : ([Value.ref q0]).length = ps.length := by
    rw [← F.len _ _ _ _ q]
    rfl
  refine PySem.W.len_K hF I1.ok.mod.kin J at_ fn ?_
  refine wpAny_call (codeAny_mono (F.run X.A.in1 X.stack s1 H1 ⟨[.ref q0], []⟩ [.ref q0] [.ref q0] _ (E σ) hr2 I1.env0.in1 (hb s1 [.ref q0] I1.kIn hl) (.cons rfl .nil) q) fun r s' hq => ?_)
  cases r with
  | error e => exact hx σ pins H1 s1 e s' I1 hq
  | ok fl =>
    cases fl with
    | ret u =>
      obtain ⟨z, H', I', rz, n, ez, hn, q2⟩ := I1.after hq
      subst ez
      obtain ⟨t, rfl⟩ := rz
      exact ⟨⟨by omega, Int.lt_of_le_of_lt (show (n : Int) ≤ 1000000 by omega) (by decide)⟩, .int (n : Int), H', I'.tok _, ⟨_, rfl⟩, q2⟩
    | next => exact False.elim hq
    | brk => exact False.elim hq
    | cont => exact False.elim hq
end
end Fo
set_option linter.all false
namespace M04
open PySem
def AllOk (s : St) : Prop := ∀ z ∈ s.nums, z.2 < s.rows.length
theorem init_all : AllOk init := fun z hz => by
  have : z = (("start" : Str), 0) := List.mem_singleton.mp hz
  rw [this]
  decide
theorem rows_at (s : St) (c : Cue) {i : Nat} (h : i < s.rows.length) : (rows s c)[i]? = s.rows[i]? := by
  unfold rows
  split
  · rfl
  · rw [List.getElem?_append_left h]
theorem rows_le (s : St) (c : Cue) : s.rows.length ≤ (rows s c).length := by
  unfold rows
  split
  · exact Nat.le_refl _
  · rw [List.length_append]; omega
theorem step_all (s : St) (c : Cue) (h : AllOk s) : AllOk (step s c) := fun z hz => by
  show z.2 < (rows s c).length
  rcases List.mem_append.mp hz with hz | hz
  · exact Nat.lt_of_lt_of_le (h z hz) (rows_le s c)
  · rw [List.mem_singleton] at hz
    subst hz
    exact idx_lt (row_mem s c)
theorem all_all : ∀ (cs : List Cue) (s : St), AllOk s → AllOk (cs.foldl step s)
  | [], s, h => h
  | c :: r, s, h => all_all r (step s c) (step_all s c h)
/-- each name and its row -/
def tab (s : St) : List (Str × Option Row) := s.nums.map fun z => (z.1, s.rows[z.2]?)
theorem tab_step {s : St} (c : Cue) (h : AllOk s) : tab (step s c) = tab s ++ [(c.nm, some (row s c))] := by
  unfold tab
  show (s.nums ++ [(c.nm, idx (rows s c) (row s c))]).map (fun z => (z.1, (rows s c)[z.2]?)) = _
  rw [List.map_append]
  congr 1
  · refine List.map_congr_left fun z hz => ?_
    rw [rows_at s c (h z hz)]
  · show [(c.nm, (rows s c)[idx (rows s c) (row s c)]?)] = _
    rw [idx_at (row_mem s c)]
theorem tab_len (s : St) : (tab s).length = s.nums.length := List.length_map ..
theorem rows_tab : ∀ (cs : List Cue) (s : St), AllOk s → (∀ r ∈ s.rows, ∃ x, (x, some r) ∈ tab s) → ∀ r ∈ (cs.foldl step s).rows, ∃ x, (x, some r) ∈ tab (cs.foldl step s)
  | [], s, _, h => h
  | c :: rest, s, a, h => by
    refine rows_tab rest (step s c) (step_all s c a) fun r hr => ?_
    rw [tab_step c a]
    have hr : r ∈ rows s c := hr
    unfold rows at hr
    split at hr
    · obtain ⟨x, hx⟩ := h r hr
      exact ⟨x, List.mem_append_left _ hx⟩
    · rcases List.mem_append.mp hr with hr | hr
      · obtain ⟨x, hx⟩ := h r hr
        exact ⟨x, List.mem_append_left _ hx⟩
      · rw [List.mem_singleton] at hr
        subst hr
        exact ⟨c.nm, List.mem_append_right _ (List.mem_singleton.mpr rfl)⟩
theorem init_tab : ∀ r ∈ init.rows, ∃ x, (x, some r) ∈ tab init := fun r hr => by
  have : r = [] := List.mem_singleton.mp hr
  subst this
  exact ⟨"start", List.mem_singleton.mpr rfl⟩
/-- no name twice, and each parent is known -/
def Good (cs : List Cue) : Prop := ∀ (i : Nat) c, cs[i]? = some c → num (all (cs.take i)).nums c.nm = none ∧ (num (all (cs.take i)).nums c.pa).isSome = true
theorem all_take {cs : List Cue} {i : Nat} {c : Cue} (h : cs[i]? = some c) : all (cs.take (i + 1)) = step (all (cs.take i)) c := by
  rw [List.take_add_one, h]
  exact all_app _ _
theorem find_nm {α : Type} : ∀ {l : List (Str × α)} {x : Str} {a : α}, (l.map (·.1)).Nodup → (x, a) ∈ l → l.find? (fun z => decide (z.1 = x)) = some (x, a)
  | [], _, _, _, h => by cases h
  | z :: r, x, a, nd, h => by
    rw [List.map_cons, List.nodup_cons] at nd
    rw [List.find?_cons]
    rcases List.mem_cons.mp h with e | m
    · subst e
      simp
    · have : z.1 ≠ x := fun e => nd.1 (List.mem_map.mpr ⟨_, m, e.symm⟩)
      rw [decide_eq_false this]
      exact find_nm nd.2 m
theorem num_none {l : List (Str × Nat)} {x : Str} : num l x = none ↔ x ∉ l.map (·.1) := by
  unfold num
  rw [Option.map_eq_none_iff, List.find?_eq_none]
  constructor
  · intro h m
    obtain ⟨z, hz, e⟩ := List.mem_map.mp m
    exact h z hz (decide_eq_true e)
  · intro h z hz e
    exact h (List.mem_map.mpr ⟨z, hz, of_decide_eq_true e⟩)
theorem names_all (cs : List Cue) : (all cs).nums.map (·.1) = ("start" : Str) :: cs.map (·.nm) := by
  suffices h : ∀ (cs : List Cue) (s : St), (cs.foldl step s).nums.map (·.1) = s.nums.map (·.1) ++ cs.map (·.nm) by
    rw [show all cs = cs.foldl step init from rfl, h]
    rfl
  intro cs
  induction cs with
  | nil => intro s; simp
  | cons c r ih =>
    intro s
    rw [List.foldl_cons, ih]
    show (s.nums ++ [(c.nm, idx (rows s c) (row s c))]).map (fun z => z.1) ++ _ = _
    simp
theorem tab_nm (s : St) : (tab s).map (fun z => z.1) = s.nums.map (fun z => z.1) := by
  unfold tab
  rw [List.map_map]
  rfl
theorem all_take_len {cs : List Cue} {i : Nat} {c : Cue} (h : cs[i]? = some c) : (cs.take (i + 1)).length = i + 1 := by
  have := (List.getElem?_eq_some_iff.mp h).1
  rw [List.length_take]
  omega
/-- by the names alone -/
theorem good_iff (cs : List Cue) : Good cs ↔ ∀ (i : Nat) c, cs[i]? = some c → c.nm ∉ ("start" : Str) :: (cs.take i).map (·.nm) ∧ c.pa ∈ ("start" : Str) :: (cs.take i).map (·.nm) := by
  have h : ∀ (cs : List Cue) x, (num (all cs).nums x).isSome = true ↔ x ∈ ("start" : Str) :: cs.map (·.nm) := fun cs x => by
    rw [← names_all]
    have := num_none (l := (all cs).nums) (x := x)
    cases e : num (all cs).nums x with
    | none => simp [this.mp e]
    | some i =>
      refine ⟨fun _ => ?_, fun _ => rfl⟩
      apply Classical.byContradiction
      intro c
      rw [this.mpr c] at e
      cases e
  constructor
  · intro g i c e
    obtain ⟨a, b⟩ := g i c e
    exact ⟨by rw [← names_all]; exact num_none.mp a, (h _ _).mp b⟩
  · intro g i c e
    obtain ⟨a, b⟩ := g i c e
    exact ⟨num_none.mpr (by rw [names_all]; exact a), (h _ _).mpr b⟩
theorem good_take {cs : List Cue} (g : Good cs) (n : Nat) : Good (cs.take n) := fun i c e => by
  have hi : i < n := by
    have := (List.getElem?_eq_some_iff.mp e).1
    rw [List.length_take] at this
    omega
  rw [List.getElem?_take_of_lt hi] at e
  rw [List.take_take, Nat.min_eq_left (Nat.le_of_lt hi)]
  exact g i c e
theorem names_nodup {cs : List Cue} (g : Good cs) : (("start" : Str) :: cs.map (·.nm)).Nodup := by
  suffices h : ∀ n, (("start" : Str) :: (cs.take n).map (·.nm)).Nodup by
    have := h cs.length
    rwa [List.take_length] at this
  intro n
  induction n with
  | zero => simp
  | succ n ih =>
    rw [List.take_add_one]
    cases e : cs[n]? with
    | none => simpa using ih
    | some c =>
      have := ((good_iff cs).mp g n c e).1
      rw [List.map_append]
      show ((("start" : Str) :: (cs.take n).map (·.nm)) ++ [c.nm]).Nodup
      rw [List.nodup_append]
      refine ⟨ih, by simp, fun a ha b hb => ?_⟩
      have : b = c.nm := List.mem_singleton.mp hb
      subst this
      intro e
      subst e
      exact ((good_iff cs).mp g n c (by assumption)).1 ha
theorem rows_nodup : ∀ (cs : List Cue) (s : St), s.rows.Nodup → (cs.foldl step s).rows.Nodup
  | [], _, h => h
  | c :: r, s, h => by
    refine rows_nodup r (step s c) ?_
    show (rows s c).Nodup
    unfold rows
    split
    · exact h
    · rename_i n
      rw [List.nodup_append]
      refine ⟨h, by simp, fun a ha b hb => ?_⟩
      have : b = row s c := List.mem_singleton.mp hb
      subst this
      intro e
      subst e
      exact n ha
theorem sub_len {α : Type} [DecidableEq α] : ∀ {l m : List α}, l.Nodup → (∀ x ∈ l, x ∈ m) → l.length ≤ m.length
  | [], _, _, _ => Nat.zero_le _
  | a :: l, m, nd, h => by
    rw [List.nodup_cons] at nd
    have hm := h a List.mem_cons_self
    have := sub_len (l := l) (m := m.erase a) nd.2 fun x hx => by
      have ne : x ≠ a := fun e => nd.1 (e ▸ hx)
      exact (List.mem_erase_of_ne ne).mpr (h x (List.mem_cons_of_mem _ hx))
    rw [List.length_erase_of_mem hm] at this
    have : 0 < m.length := List.length_pos_of_mem hm
    rw [List.length_cons]
    omega
theorem good_snoc {cs : List Cue} {c : Cue} (g : Good cs) (h1 : c.nm ∉ ("start" : Str) :: cs.map (·.nm)) (h2 : c.pa ∈ ("start" : Str) :: cs.map (·.nm)) : Good (cs ++ [c]) := by
  rw [good_iff]
  intro i x e
  rcases Nat.lt_or_ge i cs.length with hi | hi
  · rw [List.getElem?_append_left hi] at e
    rw [List.take_append_of_le_length (Nat.le_of_lt hi)]
    exact (good_iff cs).mp g i x e
  · have : i = cs.length := by
      have := (List.getElem?_eq_some_iff.mp e).1
      rw [List.length_append, List.length_singleton] at this
      omega
    subst this
    rw [List.getElem?_append_right (Nat.le_refl _), Nat.sub_self] at e
    cases e
    rw [List.take_append_of_le_length (Nat.le_refl _), List.take_length]
    exact ⟨h1, h2⟩
/-- all rows are among xs: so many at most -/
theorem rows_few {cs : List Cue} (g : Good cs) {xs : List Row} (h0 : [] ∈ xs) (h : ∀ (i : Nat) c, cs[i]? = some c → row (all (cs.take i)) c ∈ xs) : (all cs).rows.length ≤ xs.length := by
  refine sub_len (rows_nodup cs init (by decide)) fun r hr => ?_
  suffices q : ∀ n, ∀ r ∈ (all (cs.take n)).rows, r ∈ xs by
    have := q cs.length r
    rw [List.take_length] at this
    exact this hr
  intro n
  induction n with
  | zero =>
    intro r hr
    have : r = [] := List.mem_singleton.mp hr
    rw [this]
    exact h0
  | succ n ih =>
    intro r hr
    cases e : cs[n]? with
    | none =>
      rw [List.take_of_length_le (by have := List.getElem?_eq_none_iff.mp e; omega)] at hr
      rw [List.take_of_length_le (by have := List.getElem?_eq_none_iff.mp e; omega)] at ih
      exact ih r hr
    | some c =>
      rw [all_take e] at hr
      have hr : r ∈ rows (all (cs.take n)) c := hr
      unfold rows at hr
      split at hr
      · exact ih r hr
      · rcases List.mem_append.mp hr with hr | hr
        · exact ih r hr
        · rw [List.mem_singleton] at hr
          rw [hr]
          exact h n c e
theorem tab_pre (cs : List Cue) (i : Nat) {z : Str × Option Row} (h : z ∈ tab (all (cs.take i))) : z ∈ tab (all cs) := by
  suffices q : ∀ n, z ∈ tab (all (cs.take (i + n))) by
    have := q cs.length
    rwa [List.take_of_length_le (by omega)] at this
  intro n
  induction n with
  | zero => exact h
  | succ n ih =>
    cases e : cs[i + n]? with
    | none =>
      have e0 := List.getElem?_eq_none_iff.mp e
      rw [List.take_of_length_le (by omega)]
      rwa [List.take_of_length_le (by omega)] at ih
    | some c =>
      rw [show i + (n + 1) = (i + n) + 1 from rfl, all_take e, tab_step c (show AllOk (all _) from all_all _ _ init_all)]
      exact List.mem_append_left _ ih
theorem tab_mem {cs : List Cue} {i : Nat} {c : Cue} (g : Good cs) (e : cs[i]? = some c) : (c.nm, some (row (all (cs.take i)) c)) ∈ tab (all cs) := by
  refine tab_pre cs (i + 1) ?_
  rw [all_take e, tab_step c (show AllOk (all _) from all_all _ _ init_all)]
  exact List.mem_append_right _ (List.mem_singleton.mpr rfl)
end M04
set_option linter.all false
/-! Rows as reduced words: leading on by the way from one row to another one. -/
namespace M06
open PySem M04
def Ne (p : Row) (u : Str) : Prop := ∀ v a, p.getLast? = some (v, a) → v ≠ u
inductive W : Row → Prop
  | nil : W []
  | snoc {r : Row} {u : Str} {q : Rat} : W r → q ≠ 0 → Ne r u → W (r ++ [(u, q)])
def glue (p : Row) (u : Str) (c : Rat) : Row := if c = 0 then p else p ++ [(u, c)]
theorem part_snoc (r : Row) (v u : Str) (a : Rat) : part (r ++ [(v, a)]) u = if v = u then (r, a) else (r ++ [(v, a)], 0) := by
  unfold part
  rw [List.getLast?_concat]
  simp
theorem part_ne {p : Row} {u : Str} (h : Ne p u) : part p u = (p, 0) := by
  unfold part
  cases e : p.getLast? with
  | none => rfl
  | some z =>
    obtain ⟨v, a⟩ := z
    simp [h v a e]
theorem part_glue {p : Row} {u : Str} {b : Rat} (h : Ne p u) : part (glue p u b) u = (p, b) := by
  unfold glue
  by_cases c : b = 0
  · rw [if_pos c, part_ne h, c]
  · rw [if_neg c, part_snoc, if_pos rfl]
theorem ext_glue {p : Row} {u : Str} {b q : Rat} (h : Ne p u) : ext (glue p u b) u q = glue p u (b + q) := by
  unfold ext
  rw [part_glue h]
  rfl
theorem W_glue {p : Row} {u : Str} {b : Rat} (w : W p) (h : Ne p u) : W (glue p u b) := by
  unfold glue
  by_cases c : b = 0
  · rw [if_pos c]
    exact w
  · rw [if_neg c]
    exact w.snoc c h
theorem W_dec {r : Row} (w : W r) (u : Str) : ∃ p b, W p ∧ Ne p u ∧ r = glue p u b := by
  cases w with
  | nil => exact ⟨[], 0, .nil, (fun v a e => by cases e), by unfold glue; rw [if_pos rfl]⟩
  | @snoc r v q w c h =>
    by_cases e : v = u
    · exact ⟨r, q, w, e ▸ h, by unfold glue; rw [if_neg c, e]⟩
    · refine ⟨r ++ [(v, q)], 0, w.snoc c h, fun v' a e' => ?_, by unfold glue; rw [if_pos rfl]⟩
      rw [List.getLast?_concat] at e'
      cases e'
      exact e
theorem ext_W {r : Row} (w : W r) (u : Str) (q : Rat) : W (ext r u q) := by
  obtain ⟨p, b, wp, h, rfl⟩ := W_dec w u
  rw [ext_glue h]
  exact W_glue wp h
theorem ext_ext {r : Row} (w : W r) (u : Str) (a b : Rat) : ext (ext r u a) u b = ext r u (a + b) := by
  obtain ⟨p, c, wp, h, rfl⟩ := W_dec w u
  rw [ext_glue h, ext_glue h, ext_glue h, Rat.add_assoc]
theorem ext_zero {r : Row} (w : W r) (u : Str) : ext r u 0 = r := by
  obtain ⟨p, c, wp, h, rfl⟩ := W_dec w u
  rw [ext_glue h, Rat.add_zero]
def act (s r : Row) : Row := s.foldl (fun r z => ext r z.1 z.2) r
theorem act_app (s t r : Row) : act (s ++ t) r = act t (act s r) := List.foldl_append
theorem act_W : ∀ (s : Row) {r : Row}, W r → W (act s r)
  | [], _, w => w
  | z :: s, _, w => act_W s (ext_W w z.1 z.2)
theorem act_glue {p r : Row} {u : Str} {c : Rat} (w : W r) : act (glue p u c) r = ext (act p r) u c := by
  unfold glue
  by_cases e : c = 0
  · rw [if_pos e, e, ext_zero (act_W p w)]
  · rw [if_neg e, act_app]
    rfl
theorem act_ext {w r : Row} (hw : W w) (hr : W r) (u : Str) (a : Rat) : act (ext w u a) r = ext (act w r) u a := by
  obtain ⟨p, b, wp, h, rfl⟩ := W_dec hw u
  rw [ext_glue h, act_glue hr, act_glue hr, ext_ext (act_W p hr)]
theorem act_act : ∀ (s : Row) {w r : Row}, W w → W r → act (act s w) r = act s (act w r)
  | [], _, _, _, _ => rfl
  | z :: s, w, r, hw, hr => by
    show act (act s (ext w z.1 z.2)) r = act s (ext (act w r) z.1 z.2)
    rw [act_act s (ext_W hw _ _) hr, act_ext hw hr]
def neg (r : Row) : Row := (r.map fun z => (z.1, -z.2)).reverse
theorem act_neg {r : Row} (w : W r) : act (neg r) r = [] := by
  induction w with
  | nil => rfl
  | @snoc r u q w c h ih =>
    have e : neg (r ++ [(u, q)]) = (u, -q) :: neg r := by
      unfold neg
      rw [List.map_append, List.reverse_append]
      rfl
    have g : r ++ [(u, q)] = glue r u q := by
      unfold glue
      rw [if_neg c]
    rw [e]
    show act (neg r) (ext (r ++ [(u, q)]) u (-q)) = []
    rw [g, ext_glue h, Rat.add_neg_cancel]
    unfold glue
    rw [if_pos rfl]
    exact ih
theorem act_self {r : Row} (w : W r) : act r [] = r := by
  induction w with
  | nil => rfl
  | @snoc r u q w c h ih =>
    have g : r ++ [(u, q)] = glue r u q := by
      unfold glue
      rw [if_neg c]
    rw [g, act_glue .nil, ih]
    have g0 : glue r u 0 = r := by
      unfold glue
      rw [if_pos rfl]
    have := ext_glue (b := 0) (q := q) h
    rw [g0, Rat.zero_add] at this
    exact this
def way (r1 r2 : Row) : Row := act r2 (act (neg r1) [])
/-- led on by the way to the other row, a row is the other one -/
theorem way_leads {r1 r2 : Row} (w1 : W r1) (w2 : W r2) : act (way r1 r2) r1 = r2 := by
  unfold way
  rw [← act_app, act_act _ .nil w1, act_app]
  show act r2 (act (neg r1) r1) = r2
  rw [act_neg w1, act_self w2]
theorem way_W {r1 r2 : Row} : W (way r1 r2) := act_W _ (act_W _ .nil)
theorem rows_W : ∀ (cs : List Cue) (s : M04.St), (∀ r ∈ s.rows, W r) → ∀ r ∈ (cs.foldl step s).rows, W r
  | [], _, h => h
  | c :: cs, s, h => by
    refine rows_W cs (step s c) fun r hr => ?_
    have hg : W (row s c) := by
      unfold row
      refine ext_W ?_ _ _
      rw [List.getD_eq_getElem?_getD]
      cases e : s.rows[(num s.nums c.pa).getD 0]? with
      | none => exact .nil
      | some z => exact h z (List.mem_of_getElem? e)
    have hr' : r ∈ rows s c := hr
    unfold rows at hr'
    split at hr'
    · exact h r hr'
    · rcases List.mem_append.mp hr' with m | m
      · exact h r m
      · rw [List.mem_singleton.mp m]
        exact hg
theorem all_W (cs : List Cue) : ∀ r ∈ (all cs).rows, W r := rows_W cs init fun r hr => by
  rw [List.mem_singleton.mp hr]
  exact .nil
end M06
set_option linter.all false
/-! Bounds by value: all amounts of a sheet's rows have one common bottom. -/
namespace M06
open PySem M04
/-- q times D is an int of at most X -/
def VB (D X : Nat) (q : Rat) : Prop := ∃ N : Int, q * (D : Rat) = (N : Rat) ∧ N.natAbs ≤ X
theorem VB.zero {D X : Nat} : VB D X 0 := ⟨0, by rw [Rat.zero_mul]; rfl, Nat.zero_le _⟩
theorem VB.mono {D X Y : Nat} {q : Rat} (h : VB D X q) (e : X ≤ Y) : VB D Y q := let ⟨N, a, b⟩ := h; ⟨N, a, Nat.le_trans b e⟩
theorem VB.neg {D X : Nat} {q : Rat} (h : VB D X q) : VB D X (-q) := by
  obtain ⟨N, a, b⟩ := h
  exact ⟨-N, by rw [Rat.neg_mul, a, Rat.intCast_neg], by rw [Int.natAbs_neg]; exact b⟩
theorem VB.add {D X Y : Nat} {q r : Rat} (h : VB D X q) (k : VB D Y r) : VB D (X + Y) (q + r) := by
  obtain ⟨N, a, b⟩ := h
  obtain ⟨M, c, d⟩ := k
  exact ⟨N + M, by rw [Rat.add_mul, a, c, Rat.intCast_add], Nat.le_trans (Int.natAbs_add_le _ _) (Nat.add_le_add b d)⟩
def RVB (D X : Nat) (r : Row) : Prop := ∀ z ∈ r, VB D X z.2
theorem RVB.nil {D X : Nat} : RVB D X [] := fun z hz => by cases hz
theorem RVB.mono {D X Y : Nat} {r : Row} (h : RVB D X r) (e : X ≤ Y) : RVB D Y r := fun z hz => (h z hz).mono e
theorem part_VB {D X : Nat} {r : Row} (h : RVB D X r) (u : Str) : RVB D X (part r u).1 ∧ VB D X (part r u).2 := by
  unfold part
  cases e : r.getLast? with
  | none => exact ⟨h, VB.zero⟩
  | some z =>
    obtain ⟨v, q⟩ := z
    show RVB D X (if v = u then (r.dropLast, q) else (r, 0)).1 ∧ VB D X (if v = u then (r.dropLast, q) else (r, 0)).2
    by_cases c : v = u
    · rw [if_pos c]
      exact ⟨fun z hz => h z (List.dropLast_subset _ hz), h (v, q) (List.mem_of_getLast? e)⟩
    · rw [if_neg c]
      exact ⟨h, VB.zero⟩
theorem ext_VB {D X Y : Nat} {r : Row} {q : Rat} (h : RVB D X r) (u : Str) (k : VB D Y q) : RVB D (X + Y) (ext r u q) := by
  obtain ⟨h1, h2⟩ := part_VB h u
  unfold ext
  split
  · exact h1.mono (Nat.le_add_right _ _)
  · intro z hz
    rcases List.mem_append.mp hz with m | m
    · exact (h1 z m).mono (Nat.le_add_right _ _)
    · rw [List.mem_singleton.mp m]
      exact h2.add k
theorem act_VB {D X Y : Nat} : ∀ (s : Row) {r : Row}, RVB D Y s → RVB D X r → RVB D (X + s.length * Y) (act s r)
  | [], r, _, h => by
    show RVB D _ r
    exact h.mono (Nat.le_add_right _ _)
  | z :: s, r, hs, h => by
    show RVB D _ (act s (ext r z.1 z.2))
    refine (act_VB s (fun y hy => hs y (List.mem_cons_of_mem _ hy)) (ext_VB h z.1 (hs z List.mem_cons_self))).mono ?_
    rw [List.length_cons, Nat.add_mul, Nat.one_mul]
    omega
theorem neg_VB {D X : Nat} {r : Row} (h : RVB D X r) : RVB D X (neg r) := fun z hz => by
  unfold neg at hz
  obtain ⟨y, hy, e⟩ := List.mem_map.mp (List.mem_reverse.mp hz)
  rw [← e]
  exact (h y hy).neg
theorem neg_len (r : Row) : (neg r).length = r.length := by
  unfold neg
  rw [List.length_reverse, List.length_map]
theorem act_len : ∀ (s r : Row), (act s r).length ≤ r.length + s.length
  | [], r => Nat.le_refl _
  | z :: s, r => by
    have h1 := act_len s (ext r z.1 z.2)
    have h2 := ext_len r z.1 z.2
    show (act s (ext r z.1 z.2)).length ≤ _
    rw [List.length_cons]
    omega
theorem way_VB {D X : Nat} {r1 r2 : Row} (h1 : RVB D X r1) (h2 : RVB D X r2) : RVB D ((r1.length + r2.length) * X) (way r1 r2) := by
  unfold way
  refine (act_VB r2 h2 (act_VB (neg r1) (neg_VB h1) RVB.nil (X := 0))).mono ?_
  rw [neg_len, Nat.add_mul]
  omega
theorem way_len (r1 r2 : Row) : (way r1 r2).length ≤ r1.length + r2.length := by
  have h1 := act_len r2 (act (neg r1) [])
  have h2 := act_len (neg r1) []
  rw [neg_len] at h2
  unfold way
  simp only [List.length_nil] at h2
  omega
theorem act_take (s r : Row) (n : Nat) {z : Str × Rat} (h : s[n]? = some z) : act (s.take (n + 1)) r = ext (act (s.take n) r) z.1 z.2 := by
  rw [List.take_add_one, h, act_app]
  rfl
theorem rows_VB {D X : Nat} : ∀ (cs : List Cue) (s : M04.St) (n : Nat), (∀ c ∈ cs, VB D X c.q) → (∀ r ∈ s.rows, RVB D (n * X) r) → ∀ r ∈ (cs.foldl step s).rows, RVB D ((n + cs.length) * X) r
  | [], _, n, _, h => h
  | c :: cs, s, n, hc, h => by
    have hs : ∀ r ∈ (step s c).rows, RVB D ((n + 1) * X) r := fun r hr => by
      have hg : RVB D ((n + 1) * X) (row s c) := by
        unfold row
        rw [Nat.add_mul, Nat.one_mul]
        refine ext_VB ?_ _ (hc c List.mem_cons_self)
        rw [List.getD_eq_getElem?_getD]
        cases e : s.rows[(num s.nums c.pa).getD 0]? with
        | none => exact RVB.nil
        | some z => exact h z (List.mem_of_getElem? e)
      have hr' : r ∈ rows s c := hr
      unfold rows at hr'
      split at hr'
      · exact (h r hr').mono (Nat.mul_le_mul_right _ (Nat.le_succ _))
      · rcases List.mem_append.mp hr' with m | m
        · exact (h r m).mono (Nat.mul_le_mul_right _ (Nat.le_succ _))
        · rw [List.mem_singleton.mp m]
          exact hg
    intro r hr
    have := rows_VB cs (step s c) (n + 1) (fun c' hc' => hc c' (List.mem_cons_of_mem _ hc')) hs r hr
    rw [List.length_cons, show n + (cs.length + 1) = n + 1 + cs.length by omega]
    exact this
theorem all_VB {D X : Nat} {cs : List Cue} (h : ∀ c ∈ cs, VB D X c.q) : ∀ r ∈ (all cs).rows, RVB D (cs.length * X) r := fun r hr => by
  have := rows_VB cs init 0 h (fun r hr => by
    rw [List.mem_singleton.mp hr]
    exact RVB.nil) r hr
  rwa [Nat.zero_add] at this
/-- the product of the bottoms -/
def prodB (us : List Int) : Nat := us.foldr (fun u n => u.natAbs * n) 1
theorem prodB_pos : ∀ {us : List Int}, (∀ u ∈ us, 0 < u) → 0 < prodB us
  | [], _ => Nat.one_pos
  | u :: r, h => Nat.mul_pos (Int.natAbs_pos.mpr (Int.ne_of_gt (h u List.mem_cons_self))) (prodB_pos fun v hv => h v (List.mem_cons_of_mem _ hv))
theorem prodB_dvd : ∀ {us : List Int} {u : Int}, u ∈ us → u.natAbs ∣ prodB us
  | v :: r, u, h => by
    rcases List.mem_cons.mp h with e | m
    · rw [e]
      exact Nat.dvd_mul_right _ _
    · exact Nat.dvd_trans (prodB_dvd m) (Nat.dvd_mul_left _ _)
theorem prodB_lt {n : Nat} : ∀ {us : List Int}, (∀ u ∈ us, u.natAbs < 2 ^ n) → prodB us ≤ 2 ^ (n * us.length)
  | [], _ => Nat.le_refl _
  | u :: r, h => by
    show u.natAbs * prodB r ≤ _
    rw [List.length_cons, Nat.mul_add, Nat.mul_one, Nat.pow_add, Nat.mul_comm]
    exact Nat.mul_le_mul (prodB_lt fun v hv => h v (List.mem_cons_of_mem _ hv)) (Nat.le_of_lt (h u List.mem_cons_self))
end M06
set_option linter.all false
/-! A sheet's rows hold each beginning of each row. -/
namespace M06
open PySem M04
def PC (rows : List Row) : Prop := ∀ r ∈ rows, ∀ k, r.take k ∈ rows
theorem part_take (r : Row) (u : Str) : ∃ k, (part r u).1 = r.take k := by
  unfold part
  cases e : r.getLast? with
  | none => exact ⟨r.length, (List.take_length).symm⟩
  | some z =>
    obtain ⟨v, q⟩ := z
    show ∃ k, (if v = u then (r.dropLast, q) else (r, 0)).1 = r.take k
    by_cases c : v = u
    · rw [if_pos c]
      exact ⟨r.length - 1, List.dropLast_eq_take⟩
    · rw [if_neg c]
      exact ⟨r.length, (List.take_length).symm⟩
theorem ext_pre {rows : List Row} (pc : PC rows) {r : Row} (h : r ∈ rows) (u : Str) (q : Rat) {k : Nat} (hk : k < (ext r u q).length) : (ext r u q).take k ∈ rows := by
  obtain ⟨k0, e0⟩ := part_take r u
  have hp : ∀ j, ((part r u).1).take j ∈ rows := fun j => by
    rw [e0, List.take_take]
    exact pc r h _
  unfold ext at hk ⊢
  split at hk
  · rename_i c
    rw [if_pos c]
    exact hp k
  · rename_i c
    rw [if_neg c]
    rw [List.length_append] at hk
    have hk : k < (part r u).1.length + 1 := hk
    rw [List.take_append_of_le_length (by omega)]
    exact hp k
theorem row_in {s : M04.St} (h0 : [] ∈ s.rows) (c : Cue) : s.rows.getD ((num s.nums c.pa).getD 0) [] ∈ s.rows := by
  rw [List.getD_eq_getElem?_getD]
  cases e : s.rows[(num s.nums c.pa).getD 0]? with
  | none => exact h0
  | some z => exact List.mem_of_getElem? e
theorem row_pre {s : M04.St} (pc : PC s.rows) (h0 : [] ∈ s.rows) (c : Cue) {k : Nat} (hk : k < (row s c).length) : (row s c).take k ∈ s.rows := ext_pre pc (row_in h0 c) _ _ hk
theorem step_PC {s : M04.St} (pc : PC s.rows) (h0 : [] ∈ s.rows) (c : Cue) : PC (step s c).rows ∧ [] ∈ (step s c).rows := by
  show PC (rows s c) ∧ [] ∈ rows s c
  unfold rows
  split
  · exact ⟨pc, h0⟩
  · refine ⟨fun r hr k => ?_, List.mem_append_left _ h0⟩
    rcases List.mem_append.mp hr with m | m
    · exact List.mem_append_left _ (pc r m k)
    · rw [List.mem_singleton.mp m]
      rcases Nat.lt_or_ge k (row s c).length with c1 | c1
      · exact List.mem_append_left _ (row_pre pc h0 c c1)
      · rw [List.take_of_length_le c1]
        exact List.mem_append_right _ (List.mem_singleton.mpr rfl)
theorem fold_PC : ∀ (cs : List Cue) (s : M04.St), PC s.rows → [] ∈ s.rows → PC (cs.foldl step s).rows ∧ [] ∈ (cs.foldl step s).rows
  | [], _, pc, h0 => ⟨pc, h0⟩
  | c :: cs, s, pc, h0 => let ⟨a, b⟩ := step_PC pc h0 c; fold_PC cs (step s c) a b
theorem all_PC (cs : List Cue) : PC (all cs).rows ∧ [] ∈ (all cs).rows := fold_PC cs init (fun r hr k => by
  rw [List.mem_singleton.mp hr, List.take_nil]
  exact List.mem_singleton.mpr rfl) (List.mem_singleton.mpr rfl)
end M06
set_option linter.all false
namespace M06
open PySem M04
theorem step_nodup {s : M04.St} (h : s.rows.Nodup) (c : Cue) : (step s c).rows.Nodup := by
  show (rows s c).Nodup
  unfold rows
  split
  · exact h
  · rename_i n
    rw [List.nodup_append]
    refine ⟨h, by simp, fun a ha b hb => ?_⟩
    rw [List.mem_singleton.mp hb]
    exact fun e => n (e ▸ ha)
theorem fold_nodup : ∀ (cs : List Cue) (s : M04.St), s.rows.Nodup → (cs.foldl step s).rows.Nodup
  | [], _, h => h
  | c :: cs, s, h => fold_nodup cs (step s c) (step_nodup h c)
theorem all_nodup (cs : List Cue) : (all cs).rows.Nodup := fold_nodup cs init (by simp [init])
theorem at_inj {α : Type} {l : List α} (h : l.Nodup) {i j : Nat} {r : α} (e1 : l[i]? = some r) (e2 : l[j]? = some r) : i = j := by
  obtain ⟨h1, h2⟩ := List.getElem?_eq_some_iff.mp e1
  obtain ⟨h3, h4⟩ := List.getElem?_eq_some_iff.mp e2
  have := (List.nodup_iff_pairwise_ne.mp h)
  rw [List.pairwise_iff_getElem] at this
  rcases Nat.lt_trichotomy i j with c | c | c
  · exact absurd (h2.trans h4.symm) (this i j h1 h3 c)
  · exact c
  · exact absurd (h4.trans h2.symm) (this j i h3 h1 c)
/-- the names at the n-th row -/
theorem names_row {cs : List Cue} {n : Nat} {r : Row} (e : (all cs).rows[n]? = some r) : (((all cs).nums.filter fun z => decide ((z.2 : Int) = (n : Int))).map fun z => z.1) = ((tab (all cs)).filter fun y => decide (y.2 = some r)).map fun y => y.1 := by
  unfold tab
  rw [List.filter_map, List.map_map]
  show List.map _ _ = List.map (fun z : Str × Nat => z.1) _
  congr 1
  refine List.filter_congr fun z hz => ?_
  have lt := all_all cs init init_all z hz
  have lt : z.2 < (all cs).rows.length := lt
  show decide ((z.2 : Int) = (n : Int)) = decide ((all cs).rows[z.2]? = some r)
  rw [decide_eq_decide]
  constructor
  · intro h
    have : z.2 = n := by omega
    rw [this]
    exact e
  · intro h
    have := at_inj (all_nodup cs) h e
    omega
end M06
set_option linter.all false
/-! What is wrong with told cues: the first that is due. -/
namespace M34
open PySem M04
inductive Bad | name (z : Str) | dup (z : Str) | unk (z : Str)
/-- what is wrong with one cue behind these names; g: whether a text is a name -/
def bad (g : Str → Bool) (nums : List (Str × Nat)) (c : Cue) : Option Bad := if g c.nm = false then some (.name c.nm) else if (num nums c.nm).isSome = true then some (.dup c.nm) else if (num nums c.pa).isSome = false then some (.unk c.pa) else none
def told (g : Str → Bool) : List Cue → List Cue → Option Bad
  | _, [] => none
  | pre, c :: r => match bad g (all pre).nums c with
    | some b => some b
    | none => told g (pre ++ [c]) r
theorem bad_none {g : Str → Bool} {nums : List (Str × Nat)} {c : Cue} : bad g nums c = none ↔ g c.nm = true ∧ num nums c.nm = none ∧ (num nums c.pa).isSome = true := by
  unfold bad
  cases h1 : g c.nm with
  | false => simp
  | true =>
    cases h2 : num nums c.nm with
    | some i => simp
    | none =>
      cases h3 : num nums c.pa with
      | none => simp
      | some i => simp
theorem told_take {g : Str → Bool} {cs : List Cue} {i : Nat} {c : Cue} (h : cs[i]? = some c) : told g (cs.take i) (cs.drop i) = match bad g (all (cs.take i)).nums c with
    | some b => some b
    | none => told g (cs.take (i + 1)) (cs.drop (i + 1)) := by
  obtain ⟨hi, e⟩ := List.getElem?_eq_some_iff.mp h
  have e1 : cs.drop i = c :: cs.drop (i + 1) := by rw [← e]; exact List.drop_eq_getElem_cons hi
  have e2 : cs.take (i + 1) = cs.take i ++ [c] := by rw [List.take_add_one, h]; rfl
  rw [e1, e2]
  rfl
/-- nothing is wrong: each cue is right behind those before -/
theorem told_none {g : Str → Bool} : ∀ {r pre : List Cue}, told g pre r = none ↔ ∀ (i : Nat) c, r[i]? = some c → bad g (all (pre ++ r.take i)).nums c = none
  | [], pre => ⟨fun _ i c e => (by cases e), fun _ => rfl⟩
  | c :: r, pre => by
    have ih := told_none (g := g) (r := r) (pre := pre ++ [c])
    constructor
    · intro h i x e
      unfold told at h
      cases hb : bad g (all pre).nums c with
      | some b => rw [hb] at h; cases h
      | none =>
        rw [hb] at h
        cases i with
        | zero =>
          cases e
          rw [List.take_zero, List.append_nil]
          exact hb
        | succ i =>
          have := ih.mp h i x e
          rw [List.take_succ_cons, ← List.singleton_append, ← List.append_assoc]
          exact this
    · intro h
      unfold told
      have h0 := h 0 c rfl
      rw [List.take_zero, List.append_nil] at h0
      rw [h0]
      refine ih.mpr fun i x e => ?_
      have := h (i + 1) x e
      rwa [List.take_succ_cons, ← List.singleton_append, ← List.append_assoc] at this
theorem told_good {g : Str → Bool} {cs : List Cue} (h : told g [] cs = none) : Good cs := fun i c e => by
  have := bad_none.mp (told_none.mp h i c e)
  rw [List.nil_append] at this
  exact ⟨this.2.1, this.2.2⟩
theorem told_of {g : Str → Bool} {cs : List Cue} (h : Good cs) (n : ∀ c ∈ cs, g c.nm = true) : told g [] cs = none := told_none.mpr fun i c e => bad_none.mpr (by
  rw [List.nil_append]
  obtain ⟨a, b⟩ := h i c e
  exact ⟨n c (List.mem_of_getElem? e), a, b⟩)
theorem num_mem (cs : List Cue) (z : Str) : (num (all cs).nums z).isSome = true ↔ z ∈ ("start" : Str) :: cs.map (·.nm) := by
  rw [← names_all]
  have := num_none (l := (all cs).nums) (x := z)
  cases e : num (all cs).nums z with
  | none => simp [this.mp e]
  | some i =>
    refine ⟨fun _ => ?_, fun _ => rfl⟩
    apply Classical.byContradiction
    intro c
    rw [this.mpr c] at e
    cases e
end M34
set_option Elab.async false
set_option linter.all false
set_option maxRecDepth 100000
set_option maxHeartbeats 1000000
set_option exponentiation.threshold 100000
namespace K35
open PySem PySem.Spec PyProof.Rows L2 Fa Fb
theorem kT {K : PySem.W.Frag} {A B : String} (h : kitB A B = some true) : PySem.W.kitOne K (.type A) (.type B) = some true := kit_ty h
theorem kF {K : PySem.W.Frag} {A B : String} (h : kitB A B = some false) : PySem.W.kitOne K (.type A) (.type B) = some false := kit_ty h
theorem ka_list {K : PySem.W.Frag} : PySem.W.kitAny K (.type "list") [.type "list", .type "tuple"] = some true := by
  unfold PySem.W.kitAny
  rw [kT (by decide +kernel)]
theorem ka_tuple {K : PySem.W.Frag} : PySem.W.kitAny K (.type "tuple") [.type "list", .type "tuple"] = some true := by
  unfold PySem.W.kitAny
  rw [kF (by decide +kernel)]
  unfold PySem.W.kitAny
  rw [kT (by decide +kernel)]
theorem ty_sqt {K : PySem.W.Frag} {H : Hp} {a : Addr} {xs : List V} (h : SqT K H a xs) : TyX K H (.ref a) (.type "tuple") := by
  rcases h with (h | ⟨o, h⟩) | ⟨o, its, n, h, hc, _⟩
  · exact .base (.tup h)
  · exact .fTuple h
  · exact .kTuple h hc
theorem arg_am {K : PySem.W.Frag} {mg : Str → Option Value} (T : AF K mg) {H : Hp} {x : V} {t u : Int} {n : Nat} (h : Arg K H x t u n) : ∃ ty b1 b2, TyX K H x ty ∧ PySem.W.kitOne K ty (.ref (CA K)) = some b1 ∧ Wh K H x b2 ∧ (b1 || b2) = true := by
  rcases h with ⟨p, dx, rfl, hp, _⟩ | ⟨rfl, _⟩
  · exact ⟨_, true, false, T.ty hp, T.kS, T.wh hp, rfl⟩
  · exact ⟨_, false, true, .base (.int t), T.kT "int" (by simp [tys]), wh_int t, rfl⟩
theorem Arg.same {K : PySem.W.Frag} {H H' : Hp} {x : V} {t u : Int} {n : Nat} (h : Arg K H x t u n) (s : Same H H') : Arg K H' x t u n := h.imp (fun h => h.same s) id
theorem Arg.pos {K : PySem.W.Frag} {H : Hp} {x : V} {t u : Int} {n : Nat} (h : Arg K H x t u n) : 0 < u := by
  rcases h with ⟨_, _, _, _, ⟨a, _⟩, _⟩ | ⟨_, e, _⟩
  · exact a
  · rw [e]; decide
theorem ka_no {K : PySem.W.Frag} {T : String} (h1 : kitB T "list" = some false) (h2 : kitB T "tuple" = some false) : PySem.W.kitAny K (.type T) [.type "list", .type "tuple"] = some false := by
  unfold PySem.W.kitAny
  rw [kit_ty h1]
  unfold PySem.W.kitAny
  rw [kit_ty h2]
  rfl
theorem pg_or {X : Cx} {e : Expr} {t u : TG} (h : PG X e t) (h2 : PG X e u) : PG X e (fun v σ H Q => t v σ H Q ∨ u v σ H Q) := ⟨fun pins s σ H v u Q I r z => z.elim (h.run pins s σ H v u Q I r) (h2.run pins s σ H v u Q I r)⟩
/-! ### a sheet in the heap -/
abbrev CS (K : PySem.W.Frag) : Addr := He.ga K "Sheet"
abbrev shFl (c r d : Addr) : List (Str × V) := putF "_numbers" (.ref d) (putF "_rows" (.ref r) (putF "_cues" (.ref c) []))
theorem sh_c (c r d : Addr) : (shFl c r d).lookup ("_cues" : Str) = some (.ref c) := rfl
theorem sh_r (c r d : Addr) : (shFl c r d).lookup ("_rows" : Str) = some (.ref r) := rfl
theorem sh_d (c r d : Addr) : (shFl c r d).lookup ("_numbers" : Str) = some (.ref d) := rfl
structure MF (K : PySem.W.Frag) (mg : Str → Option Value) : Prop where
  cl : Cls K (CS K)
  n1 : NoAttr K (CS K) "_cues"
  n2 : NoAttr K (CS K) "_rows"
  n3 : NoAttr K (CS K) "_numbers"
  g : mg "Sheet" = some (.ref (CS K))
structure Cu where
  q : Addr
  a : Addr
  nm : Str
  pa : Str
  un : Str
  t : Int
  u : Int
def cv (g : Cu) : M04.Cue := ⟨g.nm, g.pa, g.un, vq g.t g.u⟩
def CuOk (K : PySem.W.Frag) (n : Nat) (H : Hp) (g : Cu) : Prop := H g.q = some (.tup [.str g.nm, .str g.pa, .str g.un, .ref g.a]) ∧ IsA K H (.ref g.a) g.t g.u n
theorem CuOk.same {K : PySem.W.Frag} {n : Nat} {H H' : Hp} {g : Cu} (h : CuOk K n H g) (s : Same H H') : CuOk K n H' g := ⟨s _ _ h.1, h.2.same s⟩
def numK (nums : List (Str × Nat)) : List (Key × V) := nums.map fun z => (Sum.inr z.1, V.int (z.2 : Int))
theorem valV_num (nums : List (Str × Nat)) (x : Str) : valV (numK nums) (Sum.inr x) = (M04.num nums x).map fun (i : Nat) => V.int (i : Int) := by
  induction nums with
  | nil => rfl
  | cons z r ih =>
    unfold valV numK M04.num at *
    rw [List.map_cons, List.find?_cons, List.find?_cons]
    by_cases c : z.1 = x
    · simp [c]
    · have e1 : decide ((Sum.inr z.1 : Key) = Sum.inr x) = false := decide_eq_false fun e => c (Sum.inr.inj e)
      have e2 : decide (z.1 = x) = false := decide_eq_false c
      rw [e1, e2]
      exact ih
def bitsOf (mm : Nat) (gs : List Cu) : Nat := (gs.length + 1) * (mm + 1)
structure Inn (K : PySem.W.Frag) (mm : Nat) (H0 H : Hp) (c r d : Addr) (gs : List Cu) (rs : List (Addr × List It)) : Prop where
  cl : H c = some (.lst (gs.map fun g => V.ref g.q))
  cok : ∀ g ∈ gs, CuOk K mm H g
  rl : H r = some (.lst (rs.map fun z => V.ref z.1))
  rok : ∀ z ∈ rs, RowOk K (bitsOf mm gs) H z.1 z.2 ∧ z.2.length ≤ gs.length ∧ H0 z.1 = none ∧ z.1 ≠ c ∧ z.1 ≠ r
  rv : (rs.map fun z => rv z.2) = (M04.all (gs.map cv)).rows
  dk : H d = some (.dK (numK (M04.all (gs.map cv)).nums))
  n : gs.length ≤ 20
  mm : 1 ≤ mm ∧ mm ≤ 200
  c0 : H0 c = none
  r0 : H0 r = none
  d0 : H0 d = none
  cr : c ≠ r
  old : ∀ q, H q = none → H0 q = none
theorem Inn.same {K : PySem.W.Frag} {mm : Nat} {H0 H H' : Hp} {c r d : Addr} {gs : List Cu} {rs : List (Addr × List It)} (h : Inn K mm H0 H c r d gs rs) (s : Same H H') : Inn K mm H0 H' c r d gs rs :=
  ⟨s _ _ h.cl, fun g hg => (h.cok g hg).same s, s _ _ h.rl, fun z hz => ⟨(h.rok z hz).1.same s, (h.rok z hz).2⟩, h.rv, s _ _ h.dk, h.n, h.mm, h.c0, h.r0, h.d0, h.cr, fun q z => h.old q (none_of s z)⟩
/-- an item of the told cues -/
def CueArg (K : PySem.W.Frag) (n : Nat) (H : Hp) (it : Addr) (c : M04.Cue) : Prop := ∃ x t u, (H it = some (.lst [.str c.nm, .str c.pa, .str c.un, x]) ∨ H it = some (.tup [.str c.nm, .str c.pa, .str c.un, x])) ∧ Arg K H x t u n ∧ vq t u = c.q
theorem CueArg.same {K : PySem.W.Frag} {n : Nat} {H H' : Hp} {it : Addr} {c : M04.Cue} (h : CueArg K n H it c) (s : Same H H') : CueArg K n H' it c := by
  obtain ⟨x, t, u, h1, h2, h3⟩ := h
  exact ⟨x, t, u, h1.imp (s _ _) (s _ _), h2.same s, h3⟩
abbrev Ok4 (nums : List (Str × Nat)) (c : M04.Cue) : Prop := isName c.nm = true ∧ M04.num nums c.nm = none ∧ (M04.num nums c.pa).isSome = true ∧ isUnit c.un = true
abbrev CUn (K : PySem.W.Frag) : Addr := He.ga K "UnknownCue"
abbrev CNm (K : PySem.W.Frag) : Addr := He.ga K "InvalidName"
abbrev CDp (K : PySem.W.Frag) : Addr := He.ga K "Duplicate"
abbrev CTm (K : PySem.W.Frag) : Addr := He.ga K "TooMany"
def ErrL (C : Addr) (v : V) (H : Hp) (E : XK) : Prop := ∀ d, H d = none → E (.ref C) (some d) (upd H d (.xd [("label", v)]))
def ErrM (C : Addr) (v : V) (H : Hp) (E : XK) : Prop := ∀ d, H d = none → E (.ref C) (some d) (upd H d (.xd [("most", v)]))
/-- what is raised of it -/
def BadE (K : PySem.W.Frag) (b : M34.Bad) (H : Hp) (E : XK) : Prop := match b with
  | .name z => Err (CNm K) (.str z) H E
  | .dup z => ErrL (CDp K) (.str z) H E
  | .unk z => ErrL (CUn K) (.str z) H E
def CcP (K : PySem.W.Frag) (ob : Option M34.Bad) (H : Hp) (Q : VK) (E : XK) : Prop := match ob with
  | some b => ∀ H', Same H H' → BadE K b H' E
  | none => ∀ H', Same H H' → Q .non H'
def spCC (K : PySem.W.Frag) : Sp := fun vs H Q E => ∃ it d n c nums, vs = [.ref it, .ref d] ∧ CueArg K n H it c ∧ H d = some (.dK (numK nums)) ∧ isUnit c.un = true ∧ c.nm.length ≤ 1000 ∧ CcP K (M34.bad isName nums c) H Q E
/-- all but the three parts is as it was -/
def Kp3 (c r d : Addr) (H H' : Hp) : Prop := ∀ q o, q ≠ c → q ≠ r → q ≠ d → H q = some o → H' q = some o
theorem Kp3.same {c r d : Addr} {H H' : Hp} (s : Same H H') : Kp3 c r d H H' := fun q o _ _ _ h => s q o h
theorem Kp3.trans {c r d : Addr} {H H1 H2 : Hp} (a : Kp3 c r d H H1) (b : Kp3 c r d H1 H2) : Kp3 c r d H H2 := fun q o h1 h2 h3 h => b q o h1 h2 h3 (a q o h1 h2 h3 h)
def spTell (K : PySem.W.Frag) : Sp := fun vs H Q _ => ∃ (o it dx c r d : Addr) (mm : Nat) (H0 : Hp) (gs : List Cu) (rs : List (Addr × List It)) (cu : M04.Cue), vs = [.ref o, .ref it] ∧ H o = some (.ins (CS K) dx (shFl c r d)) ∧ Inn K mm H0 H c r d gs rs ∧ gs.length < 20 ∧ CueArg K mm H it cu ∧ Ok4 (M04.all (gs.map cv)).nums cu ∧
  ∀ H' g rs', Kp3 c r d H H' → Inn K mm H0 H' c r d (gs ++ [g]) rs' → cv g = cu → Q .non H'
abbrev sCC : Stmt := top 50
abbrev sTel : Stmt := inClass (top 49) 1
theorem scCC : FnScope ["item", "known", "name", "parent", "unit", "amount"] ["item", "known"] (defScope sCC) := ⟨rfl, rfl, rfl, by decide +kernel, rfl, by decide +kernel, by decide +kernel⟩
theorem scTel : FnScope ["self", "item", "name", "parent", "unit", "amount", "shift", "row"] ["self", "item"] (defScope sTel) := ⟨rfl, rfl, rfl, by decide +kernel, rfl, by decide +kernel, by decide +kernel⟩
theorem isName_len {z : Str} (h : isName z = true) : z.length ≤ 8 := by
  unfold isName at h
  rw [Bool.and_eq_true, Bool.and_eq_true] at h
  exact of_decide_eq_true h.1.2
section
variable {P : Program} {w : World} {K : PySem.W.Frag} {mg : Str → Option Value} {base : Heap} {f fL fN fC fA fS fX fE x1 x2 x3 : Addr} {fd fdL fdN fdC fdA fdS fdX fdE : FuncData} {aU : Addr} {q1 t1 q2 t2 q3 t3 : Str}
theorem ok_cc (F : FnP K "check_cue" sCC f fd) (T : AF K mg) (V : VF K mg aU) (mL : mg "len" = none) (LS : Fn P w K mg base "is_listing" 1 ["value"] (spLs K) fL fdL) (NA : Fn P w K mg base "is_name" 2 ["value"] (spName K) fN fdN) (CK : Fn P w K mg base "check_unit" 2 ["unit"] (spChk K) fC fdC) (IA : Fn P w K mg base "is_amount" 2 ["value"] (spIsA K) fA fdA)
    (gN : mg "InvalidName" = some (.ref (CNm K))) (XN : Xb.Txt P.main.file K q1 "value" t1 (CNm K) x1) (gD : mg "Duplicate" = some (.ref (CDp K))) (XD : Xb.Txt P.main.file K q2 "label" t2 (CDp K) x2) (gE : mg "UnknownCue" = some (.ref (CUn K))) (XU : Xk.Txt P.main.file K q3 "label" t3 (CUn K) x3) (htop : (P.main.scope.names.lookup ("super" : Str)).isSome = false) :
    FnOk P w K mg base (L2.CX P w) 3 f fd ["item", "known"] (spCC K) := by
  refine F.ok scCC (fun vs H Q E h => ?_) (fun cdv A outer s H vs Q E hr h => ?_)
  · obtain ⟨it, d, n, c, nums, rfl, _⟩ := h
    rfl
  · obtain ⟨it, d, n, c, nums, rfl, ca, hd, o4, nl, k⟩ := h
    have hu1 : (A.deeper (envOfC "check_cue" (defScope sCC) s.heap.objs.size f cdv)).units + 1 < cLine := by
      have := hr.un
      omega
    have hr1 := hr.mono (show 1 ≤ 2 by decide)
    have hr2 := hr.mono (show 2 ≤ 2 by decide)
    refine ⟨_, (pss_cons (ps_if (PW.pt (pw_or (pt_not (pt_val (pe_call LS.ok hr1 rfl LS.g LS.k LS.b .nil passL (pa_cons (pv 0) pa_nil)))) (pw_or1 (pt_cmpR op_ne (pe_callB call_len rfl mL PySem.boot_len (pa_cons (pv 0) pa_nil)) pe_int (nomark _))))) pss_never pss_nil)
      (pss_cons (ps_asg (pv 0) (pg_or (pg_lst (by rfl) (pgs_cons (pg_name (i := 2) scCC.nd rfl (Or.inl rfl)) (pgs_cons (pg_name (i := 3) scCC.nd rfl (Or.inl rfl)) (pgs_cons (pg_name (i := 4) scCC.nd rfl (Or.inl rfl)) (pgs_cons (pg_name (i := 5) scCC.nd rfl (Or.inl rfl)) pgs_nil))))) (pg_tup (by rfl) (pgs_cons (pg_name (i := 2) scCC.nd rfl (Or.inl rfl)) (pgs_cons (pg_name (i := 3) scCC.nd rfl (Or.inl rfl)) (pgs_cons (pg_name (i := 4) scCC.nd rfl (Or.inl rfl)) (pgs_cons (pg_name (i := 5) scCC.nd rfl (Or.inl rfl)) pgs_nil)))))))
      (pss_cons (ps_if (pt_not (pt_val (pe_call NA.ok hr2 rfl NA.g NA.k NA.b .nil passL (pa_cons (pv 2) pa_nil)))) (pss_one (Xb.ps_raiseX (W := fun cls d _ H => E cls d H) rfl XN gN htop hr2 (takes_of rfl rfl rfl rfl) (pa_cons (pv 2) pa_nil))) pss_nil)
      (pss_cons (ps_if (pt_cmp (pc_din hu1 (pv 2) (pv 1))) (pss_one (Xb.ps_raiseX (W := fun cls d _ H => E cls d H) rfl XD gD htop hr2 (takes_of rfl rfl rfl rfl) (pa_cons (pv 2) pa_nil))) pss_nil)
      (pss_cons (ps_if (PW.pt (pw_or (pt_not (pt_val (pe_isi T.isi (pv 3) (pe_ty V.str boot_str)))) (pw_or1 (pt_cmp (pc_dnotin hu1 (pv 3) (pv 1)))))) (pss_one (Xk.ps_raiseX (W := fun cls d _ H => E cls d H) rfl XU gE htop hr2 (takes_of rfl rfl rfl rfl) (pa_cons (pv 3) pa_nil))) pss_nil)
      (pss_cons (ps_expr (pe_call CK.ok hr2 rfl CK.g CK.k CK.b .nil passL (pa_cons (pv 4) pa_nil)))
      (pss_one (ps_if (pt_not (pt_val (pe_call IA.ok hr2 rfl IA.g IA.k IA.b .nil passL (pa_cons (pv 5) pa_nil)))) pss_never pss_nil)))))))), ?_⟩
    obtain ⟨x, t, u, hit, ar, eq⟩ := id ca
    have ty : ∃ T0, (∀ J, Same H J → TyX K J (.ref it) T0) ∧ PySem.W.kitAny K T0 [.type "list", .type "tuple"] = some true := by
      rcases hit with h | h
      · exact ⟨_, fun J s => .base (.lst (s _ _ h)), ka_list⟩
      · exact ⟨_, fun J s => .base (.tup (s _ _ h)), ka_tuple⟩
    obtain ⟨T0, ty, kt⟩ := ty
    refine ⟨_, rfl, _, T0, true, rfl, ty, kt, fun H1 s1 => ?_⟩
    have un : ∀ J, Same H J → ∀ (m : Nat) (tt : TGs) (σ : L2.St) (Q' : L2.St → Hp → Prop), m = 4 → tt [.str c.nm, .str c.pa, .str c.un, x] σ J Q' → gLst K m tt (.ref it) σ J Q' ∨ gTup K m tt (.ref it) σ J Q' := fun J sJ m tt σ Q' e z => by
      subst e
      rcases hit with h | h
      · exact .inl ⟨it, _, rfl, SqL.of (sJ _ _ h), rfl, z⟩
      · exact .inr ⟨it, _, rfl, SqT.of (sJ _ _ h), rfl, z⟩
    have len4 : LenV K (.ref it) H1 4 := by
      rcases hit with h | h
      · exact .inl ⟨_, SqL.of (s1 _ _ h), rfl⟩
      · exact .inr ⟨_, SqT.of (s1 _ _ h), rfl⟩
    refine ⟨_, rfl, iteF ⟨_, rfl, _, 4, rfl, len4, rfl, _, rfl, if_false_of (by rfl) ?_⟩⟩
    refine ⟨_, rfl, un H1 s1 _ _ _ _ rfl ⟨_, _, rfl, _, _, rfl, _, _, rfl, _, _, rfl, rfl, ?_⟩⟩
    refine ⟨_, rfl, _, rfl, .inr ⟨c.nm, rfl, Nat.le_trans nl (by decide), fun H2 s2 => ⟨_, rfl, ?_⟩⟩⟩
    have s12 := s1.trans s2
    have hd2 := s12 _ _ hd
    cases o1 : isName c.nm with
    | false =>
      have eb : M34.bad isName nums c = some (.name c.nm) := by
        unfold M34.bad
        rw [if_pos o1]
      rw [eb] at k
      exact iteT ⟨_, rfl, _, rfl, k _ s12⟩
    | true =>
    refine iteF ?_
    cases o2 : M04.num nums c.nm with
    | some j =>
      have eb : M34.bad isName nums c = some (.dup c.nm) := by
        unfold M34.bad
        rw [if_neg (by rw [o1]; decide), if_pos (by rw [o2]; rfl)]
      rw [eb] at k
      refine ⟨_, rfl, _, rfl, d, some (.int j), rfl, .inl ⟨_, Sum.inr c.nm, Rd.of hd2, rfl, by rw [valV_num, o2]; rfl⟩, _, rfl, iteT ⟨_, rfl, _, rfl, k _ s12⟩⟩
    | none =>
    refine ⟨_, rfl, _, rfl, d, none, rfl, .inl ⟨_, Sum.inr c.nm, Rd.of hd2, rfl, by rw [valV_num, o2]; rfl⟩, ?_⟩
    refine ⟨_, rfl, iteF ?_⟩
    refine ⟨_, rfl, .str c.pa, _, _, _, true, rfl, .ty "str", TyX.base (.str c.pa), tx_str, true, rfl, iteF ?_⟩
    cases o3 : M04.num nums c.pa with
    | none =>
      have eb : M34.bad isName nums c = some (.unk c.pa) := by
        unfold M34.bad
        rw [if_neg (by rw [o1]; decide), if_neg (by rw [o2]; decide), if_pos (by rw [o3]; rfl)]
      rw [eb] at k
      exact ⟨_, rfl, _, rfl, d, none, rfl, .inl ⟨_, Sum.inr c.pa, Rd.of hd2, rfl, by rw [valV_num, o3]; rfl⟩, _, rfl, iteT ⟨_, rfl, _, rfl, k _ s12⟩⟩
    | some i =>
    have eb : M34.bad isName nums c = none := M34.bad_none.mpr ⟨o1, o2, by rw [o3]; rfl⟩
    rw [eb] at k
    refine ⟨_, rfl, _, rfl, d, some (.int i), rfl, .inl ⟨_, Sum.inr c.pa, Rd.of hd2, rfl, by rw [valV_num, o3]; rfl⟩, _, rfl, iteF ?_⟩
    refine ⟨_, rfl, _, rfl, .inr ⟨c.un, rfl, (fun h => by rw [o4] at h; cases h), fun _ => ?_⟩⟩
    obtain ⟨ty1, c1, c2, d1, d2, d3, d4⟩ := arg_am T (ar.same s12)
    refine ⟨_, rfl, _, ty1, c1, c2, rfl, d1, d2, d3, _, rfl, ?_⟩
    rw [d4]
    exact iteF (k _ s12)
end
end K35
set_option Elab.async false
set_option linter.all false
set_option maxRecDepth 100000
set_option maxHeartbeats 1000000
set_option exponentiation.threshold 100000
namespace K35
open PySem PySem.Spec PyProof.Rows L2 Fa Fb
/-- a list or a dict stands at a -/
def NoTI (H : Hp) (a : Addr) : Prop := (∃ xs, H a = some (.lst xs)) ∨ ∃ kv, H a = some (.dK kv)
theorem NoTI.tup {H : Hp} {a q : Addr} {xs : List V} (h : NoTI H a) (z : H q = some (.tup xs)) : q ≠ a := fun e => by
  subst e
  rcases h with ⟨_, h⟩ | ⟨_, h⟩ <;> (rw [z] at h; cases h)
theorem NoTI.ins {H : Hp} {a q C dx : Addr} {fs : List (Str × V)} (h : NoTI H a) (z : H q = some (.ins C dx fs)) : q ≠ a := fun e => by
  subst e
  rcases h with ⟨_, h⟩ | ⟨_, h⟩ <;> (rw [z] at h; cases h)
theorem IsA.put {K : PySem.W.Frag} {H : Hp} {a : Addr} {ob : HO} {x : V} {t u : Int} {n : Nat} (h : IsA K H x t u n) (na : NoTI H a) : IsA K (upd H a ob) x t u n := by
  obtain ⟨p, dx, e, hp, r⟩ := h
  exact ⟨p, dx, e, by rw [upd_ne (na.ins hp)]; exact hp, r⟩
theorem ItOk.put {K : PySem.W.Frag} {H : Hp} {a : Addr} {ob : HO} {n : Nat} {g : It} (h : ItOk K n H g) (na : NoTI H a) : ItOk K n (upd H a ob) g := ⟨by rw [upd_ne (na.tup h.1)]; exact h.1, h.2.put na⟩
theorem CuOk.put {K : PySem.W.Frag} {H : Hp} {a : Addr} {ob : HO} {n : Nat} {g : Cu} (h : CuOk K n H g) (na : NoTI H a) : CuOk K n (upd H a ob) g := ⟨by rw [upd_ne (na.tup h.1)]; exact h.1, h.2.put na⟩
theorem RowOk.put {K : PySem.W.Frag} {H : Hp} {a p : Addr} {ob : HO} {n : Nat} {gs : List It} (h : RowOk K n H p gs) (na : NoTI H a) (ne : p ≠ a) : RowOk K n (upd H a ob) p gs := ⟨by rw [upd_ne ne]; exact h.l, fun g hg => (h.ok g hg).put na, h.n⟩
theorem putK_num {nums : List (Str × Nat)} {x : Str} {j : Nat} (h : M04.num nums x = none) : putK (numK nums) (Sum.inr x) (V.int (j : Int)) = numK (nums ++ [(x, j)]) := by
  have : (numK nums).any (fun kv => decide (kv.1 = (Sum.inr x : Key))) = false := by
    unfold numK
    unfold M04.num at h
    rw [List.any_map, List.any_eq_false]
    intro z hz e
    have e := of_decide_eq_true e
    have : (nums.find? fun z => decide (z.1 = x)) = none := by simpa using h
    rw [List.find?_eq_none] at this
    exact this z hz (decide_eq_true (Sum.inr.inj e))
  unfold putK
  rw [this]
  unfold numK
  rw [List.map_append]
  rfl
theorem map_at {α β : Type} {l : List α} {f : α → β} {i : Nat} {b : β} (h : (l.map f)[i]? = some b) : ∃ a, l[i]? = some a ∧ f a = b := by
  rw [List.getElem?_map] at h
  cases e : l[i]? with
  | none => rw [e] at h; cases h
  | some a => rw [e] at h; cases h; exact ⟨a, rfl, rfl⟩
theorem bits_app {mm : Nat} {gs : List Cu} {g : Cu} : bitsOf mm (gs ++ [g]) = (gs.length + 2) * (mm + 1) := by
  unfold bitsOf
  rw [List.length_append]
  rfl
theorem un4 {K : PySem.W.Frag} {J : Hp} {it : Addr} {a b c x : V} (hit : J it = some (.lst [a, b, c, x]) ∨ J it = some (.tup [a, b, c, x])) (m : Nat) (tt : TGs) (σ : L2.St) (Q' : L2.St → Hp → Prop) (e : m = 4) (z : tt [a, b, c, x] σ J Q') : gLst K m tt (.ref it) σ J Q' ∨ gTup K m tt (.ref it) σ J Q' := by
  subst e
  rcases hit with h | h
  · exact .inl ⟨it, _, rfl, SqL.of h, rfl, z⟩
  · exact .inr ⟨it, _, rfl, SqT.of h, rfl, z⟩
/-- behind the row, before the cue is noted -/
structure Mid (K : PySem.W.Frag) (mm : Nat) (H0 H H' : Hp) (o dx c r d : Addr) (gs : List Cu) (cu : M04.Cue) (sh l : Addr) (hs : List It) (rs : List (Addr × List It)) (t u : Int) : Prop where
  kp : Kp3 c r d H H'
  ho : H' o = some (.ins (CS K) dx (shFl c r d))
  am : IsA K H' (.ref sh) t u mm
  av : vq t u = cu.q
  cl : H' c = some (.lst (gs.map fun g => V.ref g.q))
  cok : ∀ g ∈ gs, CuOk K mm H' g
  rl : H' r = some (.lst (rs.map fun z => V.ref z.1))
  rok : ∀ z ∈ rs, RowOk K ((gs.length + 2) * (mm + 1)) H' z.1 z.2 ∧ z.2.length ≤ gs.length + 1 ∧ H0 z.1 = none ∧ z.1 ≠ c ∧ z.1 ≠ r
  rv : (rs.map fun z => rv z.2) = M04.rows (M04.all (gs.map cv)) cu
  dk : H' d = some (.dK (numK (M04.all (gs.map cv)).nums))
  row : RowOk K ((gs.length + 2) * (mm + 1)) H' l hs
  rowv : K35.rv hs = M04.row (M04.all (gs.map cv)) cu
  lc : l ≠ c
def sTelM (K : PySem.W.Frag) (mm : Nat) (H0 H : Hp) (o it dx c r d : Addr) (gs : List Cu) (cu : M04.Cue) (Q : VK) : TS := fun D σ H' => ∃ (x : V) (sh l : Addr) (hs : List It) (rs : List (Addr × List It)) (t u : Int), σ = [some (.ref o), some (.ref it), some (.str cu.nm), some (.str cu.pa), some (.str cu.un), some x, some (.ref sh), some (.ref l)] ∧
  Mid K mm H0 H H' o dx c r d gs cu sh l hs rs t u ∧ D.nx = fun _ H'' => Q .non H''
section
variable {P : Program} {w : World} {K : PySem.W.Frag} {mg : Str → Option Value} {base : Heap} {f fS fX fE : Addr} {fd fdS fdX fdE : FuncData}
theorem ok_tel (F : FunD K "_tell" "Sheet._tell" (defArgs sTel) (defBody sTel) (defScope sTel) [] [] f fd) (T : AF K mg) (M : MF K mg) (EQ : EqK P w K mg base fE fdE) (AS : Fn P w K mg base "as_amount" 6 ["value"] (spAs K) fS fdS) (EX : Fn P w K mg base "extended" 8 ["row", "unit", "amount"] (spExt K) fX fdX) :
    FnOk P w K mg base (L2.CX P w) 9 f fd ["self", "item"] (spTell K) := by
  refine F.ok scTel (fun vs H Q E h => ?_) (fun cdv A outer s H vs Q E hr h => ?_)
  · obtain ⟨o, it, dx, c, r, d, mm, H0, gs, rs, cu, rfl, _⟩ := h
    rfl
  · obtain ⟨o, it, dx, c, r, d, mm, H0, gs, rs, cu, rfl, ho, inn, hlen, ca, ⟨o1, o2, o3, o4⟩, k⟩ := h
    have hu1 : (A.deeper (envOfC "Sheet._tell" (defScope sTel) s.heap.objs.size f cdv)).units + 1 < cLine := by
      have := hr.un
      omega
    have hr4 := hr.mono (show 4 ≤ 8 by decide)
    have hr6 := hr.mono (show 6 ≤ 8 by decide)
    have hr8 := hr.mono (show 8 ≤ 8 by decide)
    refine ⟨_, (pss_cons (ps_asg (pv 1) (pg_or (pg_lst (by rfl) (pgs_cons (pg_name (i := 2) scTel.nd rfl (Or.inl rfl)) (pgs_cons (pg_name (i := 3) scTel.nd rfl (Or.inl rfl)) (pgs_cons (pg_name (i := 4) scTel.nd rfl (Or.inl rfl)) (pgs_cons (pg_name (i := 5) scTel.nd rfl (Or.inl rfl)) pgs_nil))))) (pg_tup (by rfl) (pgs_cons (pg_name (i := 2) scTel.nd rfl (Or.inl rfl)) (pgs_cons (pg_name (i := 3) scTel.nd rfl (Or.inl rfl)) (pgs_cons (pg_name (i := 4) scTel.nd rfl (Or.inl rfl)) (pgs_cons (pg_name (i := 5) scTel.nd rfl (Or.inl rfl)) pgs_nil)))))))
      (pss_cons (ps_set (i := 6) scTel.nd rfl (Or.inl rfl) (pe_call AS.ok hr6 rfl AS.g AS.k AS.b .nil passL (pa_cons (pv 5) pa_nil)))
      (pss_cons (ps_set (i := 7) scTel.nd rfl (Or.inl rfl) (pe_call EX.ok hr8 rfl EX.g EX.k EX.b .nil passL (pa_cons (pe_ix ix_list (pe_fld (pv 0) rfl) (pe_dget hu1 (pe_fld (pv 0) rfl) (pv 3) (fun _ _ => rfl)) (fun _ _ => rfl)) (pa_cons (pv 4) (pa_cons (pv 6) pa_nil)))))
      (pss_cons (ps_if (pt_cmpR (Fr.op_notInB monB_row (eqB_row EQ) hr4) (pv 7) (pe_fld (pv 0) rfl) (by rfl)) (pss_one (ps_expr (pe_bm PySem.F.plainAttrs_list PySem.F.slot_list_append PySem.F.type_list_append mt_append (pe_fld (pv 0) rfl) (pa_cons (pv 7) pa_nil)))) pss_nil)
      (pss_imp (S := sTelM K mm H0 H o it dx c r d gs cu Q) (pss_cons (ps_expr (pe_bm PySem.F.plainAttrs_list PySem.F.slot_list_append PySem.F.type_list_append mt_append (pe_fld (pv 0) rfl) (pa_cons (pe_tup (pa_cons (pv 2) (pa_cons (pv 3) (pa_cons (pv 4) (pa_cons (pv 6) pa_nil))))) pa_nil)))
      (pss_one (ps_dput hu1 (pe_fld (pv 0) rfl) (pv 2) (pe_bm PySem.F.plainAttrs_list PySem.F.slot_list_index PySem.F.type_list_index (Fr.mt_indexB monB_row (eqB_row EQ) hr4) (pe_fld (pv 0) rfl) (pa_cons (pv 7) pa_nil)) (by rfl)))) ?mid))))), ?_⟩
    case mid =>
      rintro D σ H1 ⟨x, sh, l, hs, rs1, t, u, rfl, m, hD⟩
      obtain ⟨m1, m2⟩ := inn.mm
      have nc : NoTI H1 c := .inl ⟨_, m.cl⟩
      refine ⟨_, rfl, o, _, dx, _, _, rfl, m.ho, M.cl, M.n1, sh_c c r d, .inl ⟨rfl, _, SqL.of m.cl⟩, ?_⟩
      refine ⟨_, rfl, _, rfl, _, rfl, _, rfl, by show 4 ≤ sizeLine; decide, fun q hq => ?_⟩
      have s2 := Same.upd (o := .tup [.str cu.nm, .str cu.pa, .str cu.un, .ref sh]) hq
      have hq2 : upd H1 q (.tup [.str cu.nm, .str cu.pa, .str cu.un, .ref sh]) q = some (.tup [.str cu.nm, .str cu.pa, .str cu.un, .ref sh]) := upd_same
      generalize upd H1 q (.tup [.str cu.nm, .str cu.pa, .str cu.un, .ref sh]) = H2 at s2 hq2
      have c2 := s2 _ _ m.cl
      have nc2 : NoTI H2 c := .inl ⟨_, c2⟩
      refine ⟨c, _, _, rfl, rfl, c2, ?_, ?_⟩
      · rw [List.length_map]
        exact Nat.lt_of_lt_of_le (show gs.length < 100 by omega) (by decide)
      have c3 : upd H2 c (.lst ((gs.map fun g => V.ref g.q) ++ [.ref q])) c = some (.lst ((gs.map fun g => V.ref g.q) ++ [.ref q])) := upd_same
      have o3 : upd H2 c (.lst ((gs.map fun g => V.ref g.q) ++ [.ref q])) o = some (.ins (CS K) dx (shFl c r d)) := by
        rw [upd_ne (nc2.ins (s2 _ _ m.ho))]
        exact s2 _ _ m.ho
      have r3 : upd H2 c (.lst ((gs.map fun g => V.ref g.q) ++ [.ref q])) r = some (.lst (rs1.map fun z => V.ref z.1)) := by
        rw [upd_ne (Ne.symm inn.cr)]
        exact s2 _ _ m.rl
      have d3 : upd H2 c (.lst ((gs.map fun g => V.ref g.q) ++ [.ref q])) d = some (.dK (numK (M04.all (gs.map cv)).nums)) := by
        rw [upd_ne fun e => by
          have := s2 _ _ m.dk
          rw [e, c2] at this
          cases this]
        exact s2 _ _ m.dk
      have cok3 : ∀ g ∈ gs, CuOk K mm (upd H2 c (.lst ((gs.map fun g => V.ref g.q) ++ [.ref q]))) g := fun g hg => ((m.cok g hg).same s2).put nc2
      have new3 : CuOk K mm (upd H2 c (.lst ((gs.map fun g => V.ref g.q) ++ [.ref q]))) ⟨q, sh, cu.nm, cu.pa, cu.un, t, u⟩ := CuOk.put ⟨hq2, m.am.same s2⟩ nc2
      have rok3 : ∀ z ∈ rs1, RowOk K ((gs.length + 2) * (mm + 1)) (upd H2 c (.lst ((gs.map fun g => V.ref g.q) ++ [.ref q]))) z.1 z.2 := fun z hz => ((m.rok z hz).1.same s2).put nc2 (m.rok z hz).2.2.2.1
      have kp3 : Kp3 c r d H (upd H2 c (.lst ((gs.map fun g => V.ref g.q) ++ [.ref q]))) := m.kp.trans ((Kp3.same s2).trans fun p ob h1 h2 h3 h => by rw [upd_ne h1]; exact h)
      have rowc := m.lc
      have row3 : RowOk K ((gs.length + 2) * (mm + 1)) (upd H2 c (.lst ((gs.map fun g => V.ref g.q) ++ [.ref q]))) l hs := (m.row.same s2).put nc2 rowc
      generalize upd H2 c (.lst ((gs.map fun g => V.ref g.q) ++ [.ref q])) = H3 at c3 o3 r3 d3 cok3 new3 rok3 kp3 row3
      have mem := M04.row_mem (M04.all (gs.map cv)) cu
      have jl := M04.idx_lt mem
      have lenR : rs1.length = (M04.rows (M04.all (gs.map cv)) cu).length := by rw [← m.rv, List.length_map]
      refine ⟨_, rfl, o, _, dx, _, _, rfl, o3, M.cl, M.n2, sh_r c r d, .inl ⟨rfl, _, SqL.of r3⟩, _, rfl, r, _, _, fun i => match rs1[i]? with
        | some z => decide (rv z.2 = rv hs)
        | none => false, M04.idx (M04.rows (M04.all (gs.map cv)) cu) (M04.row (M04.all (gs.map cv)) cu), rfl, rfl, r3, fun i z ez => ?_, ?_, ?_, fun m' hm' => ?_, fun H4 s4 => ?_⟩
      · obtain ⟨w', ew, e2⟩ := map_at ez
        subst e2
        dsimp only
        rw [ew]
        exact row_eqB (rok3 _ (List.mem_of_getElem? ew)) row3
      · rw [List.length_map, lenR]
        exact jl
      · have := M04.idx_at mem
        rw [← m.rv] at this
        obtain ⟨z, ez, e2⟩ := map_at this
        rw [m.rv] at ez
        dsimp only
        rw [ez]
        dsimp only
        rw [e2, m.rowv]
        exact decide_eq_true rfl
      · dsimp only
        cases ez : rs1[m']? with
        | none => rfl
        | some z =>
          refine decide_eq_false fun e => M04.idx_no hm' (rv z.2) ?_ (by rw [e, m.rowv])
          rw [← m.rv, List.getElem?_map, ez]
          rfl
      refine ⟨_, rfl, o, _, dx, _, _, rfl, s4 _ _ o3, M.cl, M.n3, sh_d c r d, _, rfl, d, _, rfl, .inl ⟨_, Sum.inr cu.nm, s4 _ _ d3, rfl, ?_, rfl⟩, ?_⟩
      · show (numK (M04.all (gs.map cv)).nums).length < sizeLine
        unfold numK
        rw [List.length_map, M04.nums_len, List.length_map]
        exact Nat.lt_of_lt_of_le (show gs.length + 1 < 100 by omega) (by decide)
      rw [putK_num o2, hD]
      have nd4 : NoTI H4 d := .inr ⟨_, s4 _ _ d3⟩
      have ne_d : ∀ {p xs}, H3 p = some (.lst xs) → p ≠ d := fun h e => by
        rw [e, d3] at h
        cases h
      have up : M04.all ((gs ++ [(⟨q, sh, cu.nm, cu.pa, cu.un, t, u⟩ : Cu)]).map cv) = M04.step (M04.all (gs.map cv)) cu := by
        rw [List.map_append, List.map_singleton, M04.all_app]
        congr 1
        unfold cv
        rw [m.av]
      refine k _ ⟨q, sh, cu.nm, cu.pa, cu.un, t, u⟩ rs1 ?_ ⟨?_, fun g hg => ?_, ?_, fun z hz => ?_, ?_, ?_, ?_, inn.mm, inn.c0, inn.r0, inn.d0, inn.cr, fun q' z => inn.old q' ?_⟩ (by unfold cv; rw [m.av])
      · refine (kp3.trans (Kp3.same s4)).trans fun p ob h1 h2 h3 h => ?_
        rw [upd_ne h3]
        exact h
      · rw [upd_ne (ne_d c3), List.map_append]
        exact s4 _ _ c3
      · rcases List.mem_append.mp hg with hg | hg
        · exact ((cok3 g hg).same s4).put nd4
        · rw [List.mem_singleton] at hg
          subst hg
          exact (new3.same s4).put nd4
      · rw [upd_ne (ne_d r3)]
        exact s4 _ _ r3
      · rw [bits_app, List.length_append]
        obtain ⟨_, z2, z3, z4, z5⟩ := m.rok z hz
        exact ⟨((rok3 z hz).same s4).put nd4 (ne_d (rok3 z hz).l), z2, z3, z4, z5⟩
      · rw [up]
        exact m.rv
      · rw [up]
        exact upd_same
      · rw [List.length_append]
        exact hlen
      · cases e : H q' with
        | none => rfl
        | some ob =>
          by_cases e1 : q' = c
          · rw [e1, upd_ne (ne_d c3), s4 _ _ c3] at z
            cases z
          · by_cases e2 : q' = r
            · rw [e2, upd_ne (ne_d r3), s4 _ _ r3] at z
              cases z
            · by_cases e3 : q' = d
              · rw [e3, upd_same] at z
                cases z
              · rw [upd_ne e3, s4 _ _ (kp3 _ _ e1 e2 e3 e)] at z
                cases z
    obtain ⟨m1, m2⟩ := inn.mm
    obtain ⟨x, t, u, hit, ar, eq⟩ := id ca
    obtain ⟨i, ei⟩ := Option.isSome_iff_exists.mp o3
    have il : i < (M04.all (gs.map cv)).rows.length := M04.all_ok _ _ M04.init_ok _ _ ei
    have er : ∃ z : Addr × List It, rs[i]? = some z ∧ rv z.2 = (M04.all (gs.map cv)).rows[i] := map_at (f := fun z : Addr × List It => rv z.2) (by rw [inn.rv, List.getElem?_eq_getElem il])
    obtain ⟨z, ez, ev⟩ := er
    obtain ⟨z1, z2, z3, z4, z5⟩ := inn.rok z (List.mem_of_getElem? ez)
    have bq : bitsOf mm gs = (gs.length + 1) * (mm + 1) := rfl
    have b0 : (gs.length + 1) * (mm + 1) ≤ 20 * 201 := Nat.mul_le_mul (by omega) (by omega)
    have b1 : 1 ≤ (gs.length + 1) * (mm + 1) := Nat.mul_pos (by omega) (by omega)
    have b2 : (gs.length + 1) * (mm + 1) + mm + 1 = (gs.length + 2) * (mm + 1) := by rw [show gs.length + 2 = (gs.length + 1) + 1 from rfl, Nat.add_mul (gs.length + 1) 1, Nat.one_mul]; omega
    refine ⟨_, rfl, un4 hit _ _ _ _ rfl ⟨_, _, rfl, _, _, rfl, _, _, rfl, _, _, rfl, rfl, ?_⟩⟩
    refine ⟨_, rfl, _, rfl, .inr ⟨t, u, mm, ar, fun ysh H1 s1 ia => ?_⟩⟩
    obtain ⟨psh, dsh, rfl, hpsh, _⟩ := id ia
    have ho1 := s1 _ _ ho
    have inn1 := inn.same s1
    refine ⟨_, rfl, o, _, dx, _, _, rfl, ho1, M.cl, M.n2, sh_r c r d, ?_⟩
    refine ⟨_, rfl, o, _, dx, _, _, rfl, ho1, M.cl, M.n3, sh_d c r d, _, rfl, d, .int (i : Int), rfl, .inl ⟨_, Sum.inr cu.pa, Rd.of inn1.dk, rfl, by rw [valV_num, ei]; rfl⟩, ?_⟩
    refine ⟨r, _, _, .ref z.1, rfl, rfl, SqL.of inn1.rl, atI_nat (by rw [List.getElem?_map, ez]; rfl), _, rfl, _, rfl, ?_⟩
    refine ⟨z.1, z.2, cu.un, .ref psh, vq t u, bitsOf mm gs, mm, rfl, z1.same s1, by omega, by omega, by omega, ⟨t, u, ia, rfl⟩, fun H2 l hs s2 hl ehs hln lnone => ?_⟩
    have s12 := s1.trans s2
    have lnew : H2 l = some (.lst (hs.map fun g => V.ref g.q)) := hl.l
    have erow : rv hs = M04.row (M04.all (gs.map cv)) cu := by
      unfold M04.row
      rw [ehs, ei, Option.getD_some, List.getD_eq_getElem?_getD, List.getElem?_eq_getElem il, Option.getD_some, ev, eq]
    have ho2 := s2 _ _ ho1
    have inn2 := inn.same s12
    rw [bq, b2] at hl
    have lc : l ≠ c := fun e => by
      rw [e, inn1.cl] at lnone
      cases lnone
    have lr : l ≠ r := fun e => by
      rw [e, inn1.rl] at lnone
      cases lnone
    refine ⟨_, rfl, _, rfl, o, _, dx, _, _, rfl, ho2, M.cl, M.n2, sh_r c r d, r, _, fun i => match rs[i]? with
      | some z => decide (rv z.2 = rv hs)
      | none => false, decide (M04.row (M04.all (gs.map cv)) cu ∈ (M04.all (gs.map cv)).rows), rfl, inn2.rl, fun i z ez => ?_, ?_, fun H3 s3 => ⟨_, rfl, ?_⟩⟩
    · obtain ⟨w', ew, e2⟩ := map_at ez
      subst e2
      dsimp only
      rw [ew]
      exact row_eqB (inn2.rok _ (List.mem_of_getElem? ew)).1 hl
    · by_cases c0 : M04.row (M04.all (gs.map cv)) cu ∈ (M04.all (gs.map cv)).rows
      · obtain ⟨j, ej⟩ := List.getElem?_of_mem c0
        rw [← inn.rv] at ej
        obtain ⟨z', ez', ev'⟩ := map_at ej
        refine .inl ⟨decide_eq_true c0, j, ?_, ?_⟩
        · rw [List.length_map]
          exact (List.getElem?_eq_some_iff.mp ez').1
        · dsimp only
          rw [ez']
          exact decide_eq_true (by rw [ev', erow])
      · refine .inr ⟨decide_eq_false c0, fun j hj => ?_⟩
        dsimp only
        cases ez' : rs[j]? with
        | none => rfl
        | some z' =>
          refine decide_eq_false fun e => c0 ?_
          rw [← erow, ← e, ← inn.rv]
          exact List.mem_map.mpr ⟨z', List.mem_of_getElem? ez', rfl⟩
    · have s13 := s12.trans s3
      have inn3 := inn.same s13
      have ho3 := s3 _ _ ho2
      have ia3 := ia.same (s2.trans s3)
      have hl3 := hl.same s3
      have l0 : H0 l = none := inn1.old l lnone
      have bm : bitsOf mm gs ≤ (gs.length + 2) * (mm + 1) := by rw [bq]; omega
      by_cases c0 : M04.row (M04.all (gs.map cv)) cu ∈ (M04.all (gs.map cv)).rows
      · rw [decide_eq_true c0]
        refine iteF ?_
        refine ⟨x, psh, l, hs, rs, t, u, rfl, ⟨Kp3.same s13, ho3, ia3, eq, inn3.cl, inn3.cok, inn3.rl, fun z hz => ?_, ?_, inn3.dk, hl3, erow, lc⟩, rfl⟩
        · obtain ⟨y1, y2, y3, y4, y5⟩ := inn3.rok z hz
          exact ⟨y1.mono bm, by omega, y3, y4, y5⟩
        · rw [inn3.rv]
          unfold M04.rows
          rw [if_pos c0]
      · rw [decide_eq_false c0]
        refine iteT ?_
        have nr : NoTI H3 r := .inl ⟨_, inn3.rl⟩
        refine ⟨_, rfl, o, _, dx, _, _, rfl, ho3, M.cl, M.n2, sh_r c r d, .inl ⟨rfl, _, SqL.of inn3.rl⟩, _, rfl, r, _, _, rfl, rfl, inn3.rl, ?_, ?_⟩
        · rw [List.length_map]
          have e1 : rs.length = (M04.all (gs.map cv)).rows.length := by rw [← inn.rv, List.length_map]
          have e2 := M04.rows_len (gs.map cv)
          rw [List.length_map] at e2
          exact Nat.lt_of_lt_of_le (show rs.length < 100 by omega) (by decide)
        · refine ⟨x, psh, l, hs, rs ++ [(l, hs)], t, u, rfl, ⟨?_, ?_, ia3.put nr, eq, ?_, fun g hg => (inn3.cok g hg).put nr, ?_, fun z hz => ?_, ?_, ?_, hl3.put nr lr, erow, lc⟩, rfl⟩
          · refine (Kp3.same s13).trans fun q ob h1 h2 h3 h => ?_
            rw [upd_ne h2]
            exact h
          · rw [upd_ne (nr.ins ho3)]
            exact ho3
          · rw [upd_ne inn.cr]
            exact inn3.cl
          · rw [upd_same, List.map_append]
            rfl
          · rcases List.mem_append.mp hz with hz | hz
            · obtain ⟨y1, y2, y3, y4, y5⟩ := inn3.rok z hz
              exact ⟨(y1.mono bm).put nr y5, by omega, y3, y4, y5⟩
            · rw [List.mem_singleton] at hz
              subst hz
              exact ⟨hl3.put nr lr, (by show hs.length ≤ _; omega), l0, lc, lr⟩
          · rw [List.map_append, inn3.rv]
            unfold M04.rows
            rw [if_neg c0, ← erow]
            rfl
          · rw [upd_ne fun e => by
              have h1 := inn3.dk
              rw [e, inn3.rl] at h1
              cases h1]
            exact inn3.dk
end
end K35
set_option Elab.async false
set_option linter.all false
set_option maxRecDepth 100000
set_option maxHeartbeats 1000000
set_option exponentiation.threshold 100000
namespace K35
open PySem PySem.Spec PyProof.Rows L2 Fa Fb
def ShAt (K : PySem.W.Frag) (mm : Nat) (H0 H : Hp) (o : Addr) (gs : List Cu) : Prop := ∃ dx c r d rs, H o = some (.ins (CS K) dx (shFl c r d)) ∧ Inn K mm H0 H c r d gs rs
theorem ShAt.same {K : PySem.W.Frag} {mm : Nat} {H0 H H' : Hp} {o : Addr} {gs : List Cu} (h : ShAt K mm H0 H o gs) (s : Same H H') : ShAt K mm H0 H' o gs := let ⟨dx, c, r, d, rs, a, b⟩ := h; ⟨dx, c, r, d, rs, s _ _ a, b.same s⟩
/-- all but o is as it was -/
def Bt (o : Addr) (H H' : Hp) : Prop := ∀ b ob, b ≠ o → H b = some ob → H' b = some ob
theorem Bt.trans {o : Addr} {H H1 H2 : Hp} (a : Bt o H H1) (b : Bt o H1 H2) : Bt o H H2 := fun q ob n h => b q ob n (a q ob n h)
theorem Bt.same {o : Addr} {H H' : Hp} (s : Same H H') : Bt o H H' := fun q ob _ h => s q ob h
theorem Bt.upd {o : Addr} {H : Hp} {ob : HO} : Bt o H (upd H o ob) := fun q _ n h => by rw [upd_ne n]; exact h
theorem IsA.bt {K : PySem.W.Frag} {H H' : Hp} {o dx : Addr} {fs : List (Str × V)} {x : V} {t u : Int} {n : Nat} (h : IsA K H x t u n) (b : Bt o H H') (ho : H o = some (.ins (CS K) dx fs)) (ne : CS K ≠ CA K) : IsA K H' x t u n := by
  obtain ⟨p, d, e, hp, r⟩ := h
  exact ⟨p, d, e, b _ _ (fun z => by rw [z, ho] at hp; exact ne (HO.ins.inj (Option.some.inj hp)).1) hp, r⟩
theorem CueArg.bt {K : PySem.W.Frag} {H H' : Hp} {o dx it : Addr} {fs : List (Str × V)} {c : M04.Cue} {n : Nat} (h : CueArg K n H it c) (b : Bt o H H') (ho : H o = some (.ins (CS K) dx fs)) (ne : CS K ≠ CA K) : CueArg K n H' it c := by
  obtain ⟨x, t, u, h1, h2, h3⟩ := h
  refine ⟨x, t, u, ?_, h2.imp (fun h => h.bt b ho ne) id, h3⟩
  rcases h1 with h1 | h1
  · exact .inl (b _ _ (fun z => by rw [z, ho] at h1; cases h1) h1)
  · exact .inr (b _ _ (fun z => by rw [z, ho] at h1; cases h1) h1)
/-- what is old is as it was -/
def SiP (K : PySem.W.Frag) (mm : Nat) (o : Addr) (H : Hp) (cs : List M04.Cue) (Q : VK) (E : XK) : Prop := match M34.told isName [] cs with
  | some b => ∀ H', Bt o H H' → BadE K b H' E
  | none => if 8 < (M04.all cs).rows.length then ∀ H', Bt o H H' → ErrM (CTm K) (.int 8) H' E else ∀ H' gs, Bt o H H' → ShAt K mm H H' o gs → gs.map cv = cs → Q .non H'
def spSI (K : PySem.W.Frag) : Sp := fun vs H Q E => ∃ (o dx a : Addr) (xs : List V) (cs : List M04.Cue) (mm : Nat), vs = [.ref o, .ref a] ∧ H o = some (.ins (CS K) dx []) ∧ (H a = some (.lst xs) ∨ H a = some (.tup xs)) ∧ xs.length = cs.length ∧ (∀ (i : Nat) c, cs[i]? = some c → ∃ it, xs[i]? = some (V.ref it) ∧ CueArg K mm H it c) ∧
  (∀ c ∈ cs, isUnit c.un = true ∧ c.nm.length ≤ 1000) ∧ cs.length ≤ 20 ∧ 1 ≤ mm ∧ mm ≤ 200 ∧ SiP K mm o H cs Q E
abbrev sSI : Stmt := inClass (top 49) 0
theorem scSI : FnScope ["self", "cues", "item"] ["self", "cues"] (defScope sSI) := ⟨rfl, rfl, rfl, by decide +kernel, rfl, by decide +kernel, by decide +kernel⟩
def SI (K : PySem.W.Frag) (mm : Nat) (H : Hp) (o dx c r d : Addr) (cs : List M04.Cue) (i : Nat) (H' : Hp) : Prop := M34.told isName (cs.take i) (cs.drop i) = M34.told isName [] cs ∧ Bt o H H' ∧ H' o = some (.ins (CS K) dx (shFl c r d)) ∧ ∃ gs rs, Inn K mm H H' c r d gs rs ∧ gs.map cv = cs.take i
def sSIb (K : PySem.W.Frag) (mm : Nat) (H : Hp) (o dx : Addr) (x : V) (xs : List V) (cs : List M04.Cue) : TS := fun D σ H' => ∃ (c r d : Addr) (i : Nat) (y : V), σ = [some (.ref o), some x, some y] ∧ xs[i]? = some y ∧ SI K mm H o dx c r d cs i H' ∧ ∀ H'', SI K mm H o dx c r d cs (i + 1) H'' → D.nx [some (.ref o), some x, some y] H''
structure MeS (P : Program) (w : World) (K : PySem.W.Frag) (mg : Str → Option Value) (base : Heap) (m : Str) (lev : Nat) (ps : List Str) (sp : Sp) (f : Addr) (fd : FuncData) : Prop where
  me : Meth K (CS K) m f
  ok : FnOk P w K mg base (L2.CX P w) lev f fd ps sp
  b : Binds K fd ps []
theorem sh_no (c r d : Addr) {m : Str} (h1 : ¬ m = "_cues") (h2 : ¬ m = "_rows") (h3 : ¬ m = "_numbers") : (shFl c r d).lookup m = none := by
  show List.lookup m [(("_cues" : Str), V.ref c), (("_rows" : Str), V.ref r), (("_numbers" : Str), V.ref d)] = none
  have e1 : (m == ("_cues" : Str)) = false := by simpa using h1
  have e2 : (m == ("_rows" : Str)) = false := by simpa using h2
  have e3 : (m == ("_numbers" : Str)) = false := by simpa using h3
  simp only [List.lookup, e1, e2, e3]
section
variable {P : Program} {w : World} {K : PySem.W.Frag} {mg : Str → Option Value} {base : Heap} {f fL fC fT x1 : Addr} {fd fdL fdC fdT : FuncData} {q1 t1 : Str}
theorem ok_si (F : FunD K "__init__" "Sheet.__init__" (defArgs sSI) (defBody sSI) (defScope sSI) [] [] f fd) (M : MF K mg) (ne : CS K ≠ CA K) (mL : mg "len" = none) (hSt : ∃ t, mg "START" = some (.str "start" t)) (hMo : ∃ t, mg "MOST_MOMENTS" = some (.int 8 t)) (gTm : mg "TooMany" = some (.ref (CTm K))) (XT : Xl.Txt P.main.file K q1 "most" t1 (CTm K) x1) (htop : (P.main.scope.names.lookup ("super" : Str)).isSome = false) (LS : Fn P w K mg base "is_listing" 1 ["value"] (spLs K) fL fdL)
    (CC : Fn P w K mg base "check_cue" 3 ["item", "known"] (spCC K) fC fdC) (TL : MeS P w K mg base "_tell" 9 ["self", "item"] (spTell K) fT fdT) : FnOk P w K mg base (L2.CX P w) 10 f fd ["self", "cues"] (spSI K) := by
  obtain ⟨tS, hSt⟩ := hSt
  obtain ⟨tM, hMo⟩ := hMo
  refine F.ok scSI (fun vs H Q E h => ?_) (fun cdv A outer s H vs Q E hr h => ?_)
  · obtain ⟨o, dx, a, xs, cs, mm, rfl, _⟩ := h
    rfl
  · obtain ⟨o, dx, a, xs, cs, mm, rfl, ho, hseq, hlen, hit, hun, h20, m1, m2, k⟩ := h
    have hr1 := hr.mono (show 1 ≤ 9 by decide)
    have hr3 := hr.mono (show 3 ≤ 9 by decide)
    have hr9 := hr.mono (show 9 ≤ 9 by decide)
    generalize hx : V.ref a = x
    refine ⟨_, (pss_cons (ps_if (pt_not (pt_val (pe_call LS.ok hr1 rfl LS.g LS.k LS.b .nil passL (pa_cons (pv 1) pa_nil)))) pss_never pss_nil)
      (pss_cons (ps_fld (pv 0) (pe_lst pa_nil) rfl)
      (pss_cons (ps_fld (pv 0) (pe_lst (pa_cons (pe_lst pa_nil) pa_nil)) rfl)
      (pss_cons (ps_fld (pv 0) (pe_disp (pps_cons (pe_glob (v := .str "start") rfl hSt ⟨tS, rfl⟩) pe_int pps_nil) rfl rfl (by simp) (by decide)) rfl)
      (pss_cons (ps_for (passes_of rfl) rfl (Fp.pi_or (pi_list (pv 1)) (pi_tup (pv 1))) (pg_name (i := 2) scSI.nd rfl (Or.inl rfl))
      (pss_imp (S := sSIb K mm H o dx x xs cs) (pss_cons (ps_expr (pe_callS CC.ok hr3 rfl CC.g CC.k CC.b (fun σ => passAt (W := fun cls d _ H => E cls d H) (takes_of rfl rfl rfl rfl) σ) (pa_cons (pv 2) (pa_cons (pe_fld (pv 0) rfl) pa_nil))))
      (pss_one (ps_expr (pe_meth (pv 0) M.cl TL.me TL.ok hr9 TL.b .nil passL (pa_cons (pv 2) pa_nil))))) ?body))
      (pss_one (ps_if (pt_cmpR op_gt (pe_callB call_len rfl mL PySem.boot_len (pa_cons (pe_fld (pv 0) rfl) pa_nil)) (pe_glob (v := .int 8) rfl hMo ⟨tM, rfl⟩) (nomark _)) (pss_one (Xl.ps_raiseX (W := fun cls d _ H => E cls d H) rfl XT gTm htop hr9 (takes_of rfl rfl rfl rfl) (pa_cons (pe_glob (v := .int 8) rfl hMo ⟨tM, rfl⟩) pa_nil))) pss_nil))))))), ?_⟩
    case body =>
      rintro D σ H1 ⟨c, r, d, i, y, rfl, hy, ⟨tl, b1, ho1, gs, rs, inn, ecs⟩, kn⟩
      have hi : i < cs.length := by
        rw [← hlen]
        exact (List.getElem?_eq_some_iff.mp hy).1
      have ec : cs[i]? = some cs[i] := List.getElem?_eq_getElem hi
      have uni := hun _ (List.mem_of_getElem? ec)
      rw [M34.told_take ec] at tl
      obtain ⟨it, e1, ca⟩ := hit i _ ec
      rw [hy] at e1
      cases e1
      have tk : cs.take (i + 1) = cs.take i ++ [cs[i]] := by rw [List.take_add_one, ec]; rfl
      generalize cs[i] = cu at ec uni ca tk tl
      have ca1 := ca.bt b1 ho ne
      have lgs : gs.length = i := by
        have := congrArg List.length ecs
        rw [List.length_map, List.length_take] at this
        omega
      rw [← ecs] at tl
      refine ⟨_, rfl, _, rfl, o, _, dx, _, _, rfl, ho1, M.cl, M.n3, sh_d c r d, it, d, mm, cu, _, rfl, ca1, inn.dk, uni.1, uni.2, ?_⟩
      cases hb : M34.bad isName (M04.all (gs.map cv)).nums cu with
      | some b =>
        rw [hb] at tl
        unfold SiP at k
        rw [← tl] at k
        exact fun H2 s2 => k H2 (b1.trans (Bt.same s2))
      | none =>
      rw [hb] at tl
      obtain ⟨ob1, ob2, ob3⟩ := M34.bad_none.mp hb
      have oki : Ok4 (M04.all (gs.map cv)).nums cu := ⟨ob1, ob2, ob3, uni.1⟩
      intro H2 s2
      have ho2 := s2 _ _ ho1
      have inn2 := inn.same s2
      refine ⟨_, rfl, o, dx, _, rfl, ho2, sh_no c r d (by decide +kernel) (by decide +kernel) (by decide +kernel), _, rfl, o, it, dx, c, r, d, mm, H, gs, rs, cu, rfl, ho2, inn2, by omega, ca1.same s2, oki, fun H3 g rs' kp inn3 eg => ?_⟩
      have nl : ∀ {z ob}, H2 z = some ob → (∀ C dx fs, ob ≠ .ins C dx fs) → o ≠ z := fun hz no e => by
        rw [← e, ho2] at hz
        exact no _ _ _ (Option.some.inj hz).symm
      have oc := nl inn2.cl (fun _ _ _ e => by cases e)
      have or_ := nl inn2.rl (fun _ _ _ e => by cases e)
      have od := nl inn2.dk (fun _ _ _ e => by cases e)
      refine kn H3 ⟨tl, ?_, kp _ _ oc or_ od ho2, gs ++ [g], rs', inn3, by rw [List.map_append, ecs, tk, List.map_singleton, eg]⟩
      intro b ob nb hb
      have hb2 := s2 _ _ (b1 b ob nb hb)
      refine kp b ob (fun e => ?_) (fun e => ?_) (fun e => ?_) hb2
      · rw [e, inn.c0] at hb
        cases hb
      · rw [e, inn.r0] at hb
        cases hb
      · rw [e, inn.d0] at hb
        cases hb
    subst hx
    have tyX : ∃ t, (∀ J, Same H J → TyX K J (.ref a) t) ∧ PySem.W.kitAny K t [.type "list", .type "tuple"] = some true := by
      rcases hseq with h | h
      · exact ⟨.type "list", fun J sJ => .base (.lst (sJ _ _ h)), ka_list⟩
      · exact ⟨.type "tuple", fun J sJ => .base (.tup (sJ _ _ h)), ka_tuple⟩
    obtain ⟨t, ty, kt⟩ := tyX
    refine ⟨_, rfl, _, t, true, rfl, ty, kt, fun H1 s1 => ⟨_, rfl, iteF ?_⟩⟩
    refine ⟨by show 0 ≤ sizeLine; decide, fun c hc => ?_⟩
    have b1 : Bt o H (upd H1 c (.lst [])) := Bt.same (s1.trans (Same.upd hc))
    have ho1 := s1 _ _ ho
    have c0 := none_of s1 hc
    have oc : o ≠ c := fun e => by
      rw [e, hc] at ho1
      cases ho1
    have c1 : upd H1 c (.lst []) c = some (.lst []) := upd_same
    have ho2 : upd H1 c (.lst []) o = some (.ins (CS K) dx []) := by rw [upd_ne oc]; exact ho1
    have old2 : ∀ q, upd H1 c (.lst []) q = none → H q = none := fun q z => none_of (s1.trans (Same.upd hc)) z
    generalize upd H1 c (.lst []) = H2 at b1 c1 ho2 old2
    refine ⟨_, rfl, o, _, dx, _, rfl, ho2, M.cl, M.n1, by show 0 < 1000; decide, ?_⟩
    have b3 := b1.trans (Bt.upd (H := H2) (ob := .ins (CS K) dx (putF "_cues" (.ref c) [])))
    have c3 : upd H2 o (.ins (CS K) dx (putF "_cues" (.ref c) [])) c = some (.lst []) := by rw [upd_ne (Ne.symm oc)]; exact c1
    have ho3 : upd H2 o (.ins (CS K) dx (putF "_cues" (.ref c) [])) o = some (.ins (CS K) dx (putF "_cues" (.ref c) [])) := upd_same
    have old3 : ∀ q, upd H2 o (.ins (CS K) dx (putF "_cues" (.ref c) [])) q = none → H q = none := fun q z => by
      by_cases e : q = o
      · rw [e, upd_same] at z
        cases z
      · rw [upd_ne e] at z
        exact old2 q z
    generalize upd H2 o (.ins (CS K) dx (putF "_cues" (.ref c) [])) = H3 at b3 c3 ho3 old3
    refine ⟨by show 0 ≤ sizeLine; decide, fun l2 hl2 => ⟨by show 1 ≤ sizeLine; decide, fun r hr0 => ?_⟩⟩
    have ol2 : o ≠ l2 := fun e => by
      rw [e, hl2] at ho3
      cases ho3
    have cl2 : c ≠ l2 := fun e => by
      rw [e, hl2] at c3
      cases c3
    have l20 := old3 _ hl2
    have r0' : r ≠ l2 ∧ H3 r = none := by
      by_cases e : r = l2
      · rw [e, upd_same] at hr0
        cases hr0
      · rw [upd_ne e] at hr0
        exact ⟨e, hr0⟩
    have r00 := old3 _ r0'.2
    have or_ : o ≠ r := fun e => by
      rw [← e, ho3] at r0'
      cases r0'.2
    have cr_ : c ≠ r := fun e => by
      rw [← e, c3] at r0'
      cases r0'.2
    have s4 := (Same.upd (o := .lst []) hl2).trans (Same.upd (o := .lst [.ref l2]) hr0)
    have r4 : upd (upd H3 l2 (.lst [])) r (.lst [.ref l2]) r = some (.lst [.ref l2]) := upd_same
    have l4 : upd (upd H3 l2 (.lst [])) r (.lst [.ref l2]) l2 = some (.lst []) := by rw [upd_ne (Ne.symm r0'.1)]; exact upd_same
    have ho4 := s4 _ _ ho3
    have c4 := s4 _ _ c3
    have b4 := b3.trans (Bt.same (o := o) s4)
    have old4 : ∀ q, upd (upd H3 l2 (.lst [])) r (.lst [.ref l2]) q = none → H q = none := fun q z => old3 q (none_of s4 z)
    generalize upd (upd H3 l2 (.lst [])) r (.lst [.ref l2]) = H4 at r4 l4 ho4 c4 b4 old4
    refine ⟨_, rfl, o, _, dx, _, rfl, ho4, M.cl, M.n2, by show 1 < 1000; decide, ?_⟩
    have b5 := b4.trans (Bt.upd (H := H4) (ob := .ins (CS K) dx (putF "_rows" (.ref r) (putF "_cues" (.ref c) []))))
    have c5 : upd H4 o (.ins (CS K) dx (putF "_rows" (.ref r) (putF "_cues" (.ref c) []))) c = some (.lst []) := by rw [upd_ne (Ne.symm oc)]; exact c4
    have r5 : upd H4 o (.ins (CS K) dx (putF "_rows" (.ref r) (putF "_cues" (.ref c) []))) r = some (.lst [.ref l2]) := by rw [upd_ne (Ne.symm or_)]; exact r4
    have l5 : upd H4 o (.ins (CS K) dx (putF "_rows" (.ref r) (putF "_cues" (.ref c) []))) l2 = some (.lst []) := by rw [upd_ne (Ne.symm ol2)]; exact l4
    have ho5 : upd H4 o (.ins (CS K) dx (putF "_rows" (.ref r) (putF "_cues" (.ref c) []))) o = some (.ins (CS K) dx (putF "_rows" (.ref r) (putF "_cues" (.ref c) []))) := upd_same
    have old5 : ∀ q, upd H4 o (.ins (CS K) dx (putF "_rows" (.ref r) (putF "_cues" (.ref c) []))) q = none → H q = none := fun q z => by
      by_cases e : q = o
      · rw [e, upd_same] at z
        cases z
      · rw [upd_ne e] at z
        exact old4 q z
    generalize upd H4 o (.ins (CS K) dx (putF "_rows" (.ref r) (putF "_cues" (.ref c) []))) = H5 at b5 c5 r5 l5 ho5 old5
    intro d hd
    have d0 := old5 _ hd
    have od : o ≠ d := fun e => by
      rw [e, hd] at ho5
      cases ho5
    have em : mergeK [] [((Sum.inr ("start" : Str) : Key), V.int 0)] = numK (M04.all []).nums := rfl
    refine ⟨upd_same, [(Sum.inr "start", .int 0)], rfl, by decide, ?_⟩
    rw [em, upd_upd]
    have s6 := Same.upd (o := .dK (numK (M04.all []).nums)) hd
    have d6 : upd H5 d (.dK (numK (M04.all []).nums)) d = some (.dK (numK (M04.all []).nums)) := upd_same
    have ho6 := s6 _ _ ho5
    have c6 := s6 _ _ c5
    have r6 := s6 _ _ r5
    have l6 := s6 _ _ l5
    have b6 := b5.trans (Bt.same (o := o) s6)
    have old6 : ∀ q, upd H5 d (.dK (numK (M04.all []).nums)) q = none → H q = none := fun q z => old5 q (none_of s6 z)
    generalize upd H5 d (.dK (numK (M04.all []).nums)) = H6 at d6 ho6 c6 r6 l6 b6 old6
    refine ⟨_, rfl, o, _, dx, _, rfl, ho6, M.cl, M.n3, by show 2 < 1000; decide, ?_⟩
    have b7 := b6.trans (Bt.upd (H := H6) (ob := .ins (CS K) dx (shFl c r d)))
    have c7 : upd H6 o (.ins (CS K) dx (shFl c r d)) c = some (.lst []) := by rw [upd_ne (Ne.symm oc)]; exact c6
    have r7 : upd H6 o (.ins (CS K) dx (shFl c r d)) r = some (.lst [.ref l2]) := by rw [upd_ne (Ne.symm or_)]; exact r6
    have l7 : upd H6 o (.ins (CS K) dx (shFl c r d)) l2 = some (.lst []) := by rw [upd_ne (Ne.symm ol2)]; exact l6
    have d7 : upd H6 o (.ins (CS K) dx (shFl c r d)) d = some (.dK (numK (M04.all []).nums)) := by rw [upd_ne (Ne.symm od)]; exact d6
    have ho7 : upd H6 o (.ins (CS K) dx (shFl c r d)) o = some (.ins (CS K) dx (shFl c r d)) := upd_same
    have old7 : ∀ q, upd H6 o (.ins (CS K) dx (shFl c r d)) q = none → H q = none := fun q z => by
      by_cases e : q = o
      · rw [e, upd_same] at z
        cases z
      · rw [upd_ne e] at z
        exact old6 q z
    show tSeq _ _ _ _ (upd H6 o (.ins (CS K) dx (shFl c r d)))
    generalize upd H6 o (.ins (CS K) dx (shFl c r d)) = H7 at b7 c7 r7 l7 d7 ho7 old7
    have si0 : SI K mm H o dx c r d cs 0 H7 := by
      refine ⟨rfl, b7, ho7, [], [(l2, [])], ⟨c7, (fun g hg => by cases hg), r7, fun z hz => ?_, rfl, d7, by decide, ⟨m1, m2⟩, c0, r00, d0, cr_, old7⟩, rfl⟩
      rw [List.mem_singleton] at hz
      subst hz
      exact ⟨⟨l7, (fun g hg => by cases hg), Nat.zero_le _⟩, Nat.le_refl _, l20, Ne.symm cl2, Ne.symm r0'.1⟩
    have stop : ∀ (σ : L2.St) H', (∃ v2, σ = [some (.ref o), some (.ref a), v2] ∧ SI K mm H o dx c r d cs xs.length H') → tIfS (tTest (tOp (rI0 fun i j => V.bl (decide (j < i))) (tCB (fun xs H_1 Q => ∃ x n, xs = [x] ∧ LenV K x H_1 n ∧ Q (V.int (n : Nat)) H_1) (tCons (tFld K (tVar 0) "_rows") tNil)) (tC (V.int 8)))) (Xb.tRaiseX (CTm K) "most" (fun cls d _ H => E cls d H) (tCons (tC (V.int 8)) tNil)) tNext { nx := fun _ H' => Q V.non H', rt := Q } σ H' := by
      rintro σ H' ⟨v2, rfl, tl, b8, ho8, gs, rs, inn, ecs⟩
      rw [hlen, List.take_length, List.drop_length] at tl
      rw [hlen, List.take_length] at ecs
      unfold SiP at k
      rw [← tl] at k
      have k : if 8 < (M04.all cs).rows.length then ∀ H', Bt o H H' → ErrM (CTm K) (.int 8) H' E else ∀ H' gs, Bt o H H' → ShAt K mm H H' o gs → gs.map cv = cs → Q .non H' := k
      refine ⟨_, rfl, o, _, dx, _, _, rfl, ho8, M.cl, M.n2, sh_r c r d, _, _, rfl, .inl ⟨_, SqL.of inn.rl, rfl⟩, _, _, rfl, rfl, _, rfl, ?_⟩
      have e1 : rs.length = (M04.all (gs.map cv)).rows.length := by rw [← inn.rv, List.length_map]
      rw [List.length_map]
      by_cases c8 : 8 < (M04.all cs).rows.length
      · rw [if_pos c8] at k
        exact if_true_of (decide_eq_true (by rw [e1, ecs]; omega)) ⟨_, rfl, k H' b8⟩
      · rw [if_neg c8] at k
        refine if_false_of (decide_eq_false (by rw [e1, ecs]; omega)) ?_
        exact k _ gs b8 ⟨dx, c, r, d, rs, ho8, inn⟩ ecs
    have na : a ≠ o := fun e => by
      rw [e, ho] at hseq
      rcases hseq with h | h <;> cases h
    rcases hseq with h | h
    · refine .inl ⟨_, rfl, a, rfl, ⟨xs, SqL.of ?_⟩, for_list (K := K) (a := a) (xs := xs) (fun i σ H' => ∃ v2, σ = [some (.ref o), some (.ref a), v2] ∧ SI K mm H o dx c r d cs i H') ⟨_, rfl, si0⟩ (fun i σ H' _ ⟨_, _, si⟩ => SqL.of (si.2.1 _ _ na h)) (fun i x σ H2 hx ⟨v2, e, si⟩ => ?_) stop⟩
      · exact si0.2.1 _ _ na h
      · subst e
        exact ⟨c, r, d, i, x, rfl, hx, si, fun H'' si' => ⟨_, rfl, si'⟩⟩
    · refine .inr ⟨_, rfl, a, rfl, ⟨xs, SqT.of ?_⟩, for_tup (K := K) (a := a) (xs := xs) (fun i σ H' => ∃ v2, σ = [some (.ref o), some (.ref a), v2] ∧ SI K mm H o dx c r d cs i H') ⟨_, rfl, si0⟩ (fun i σ H' _ ⟨_, _, si⟩ => SqT.of (si.2.1 _ _ na h)) (fun i x σ H2 hx ⟨v2, e, si⟩ => ?_) stop⟩
      · exact si0.2.1 _ _ na h
      · subst e
        exact ⟨c, r, d, i, x, rfl, hx, si, fun H'' si' => ⟨_, rfl, si'⟩⟩
end
end K35
set_option Elab.async false
set_option linter.all false
set_option maxRecDepth 100000
set_option maxHeartbeats 1000000
set_option exponentiation.threshold 100000
namespace Fd
open PySem PySem.Spec PyProof.Rows L2
theorem op_eqSD {X : Cx} (hu : X.A.units < cLine) : OpR X (compareOp .Eq) (fun x y H Q => ∃ a kvs z, x = .str z ∧ y = .ref a ∧ H a = some (.dK kvs) ∧ Q (.bl false) H) := by
  intro pins s σ H x y v u Q I rx ry h
  obtain ⟨a, kvs, z, rfl, rfl, ha, q⟩ := h
  cases ry
  obtain ⟨t, rfl⟩ := rx
  obtain ⟨_, h1, vs, kv, hd⟩ := dk_of I.hok ha
  obtain ⟨o, es, ep, ho, hc, hdat, _⟩ := hd
  have f : s.heap.get? a = some o ∧ o.cls = .type "dict" ∧ ∃ es ep, o.data = .dict es ep := ⟨ho, hc.1, es, ep, hdat⟩
  show wpAny (model X.prog X.w) X.A (richCompare .Eq (.str z t) (.ref a)) (EP X pins σ Q) X.xe s
  exact SeqAt.rc_eq_decline_or (k := false) (typeIs_str s z t) ⟨_, ho, hc.1⟩ (by decide) F.sub_dict_str F.slot_str_eq_refl F.slot_dict_eq
    (fun _ hq => call_meets F.slot_str_eq_refl (typeIs_str s z t) F.entry_str_eq (F.args_str_eq_2 _ _) (str_eq_declines_dict a o z t) ⟨f, hq⟩)
    (fun _ hq => call_meets F.slot_dict_eq ⟨_, ho, hc.1⟩ F.entry_dict_eq (F.args_dict_eq_2 _ _) (dict_eq_declines_str a o z t) ⟨f, hq⟩)
    (fun _ hq => wpAny_of_eq (rfl : isSame (.str z t) (.ref a) = pure false) hq) (.inr hu) ⟨.bl false, H, I, rfl, q⟩
end Fd
namespace K35
open PySem PySem.Spec PyProof.Rows L2 Fa Fb
instance : DecidableEq M04.Cue := fun a b => if h : a.nm = b.nm ∧ a.pa = b.pa ∧ a.un = b.un ∧ a.q = b.q then isTrue (by
    cases a
    cases b
    simp only [M04.Cue.mk.injEq]
    exact h) else isFalse fun e => h (by rw [e]; exact ⟨rfl, rfl, rfl, rfl⟩)
def rEqO (K : PySem.W.Frag) : R2 := fun x y H Q => rEq x y H Q ∨ (rEqD K x y H Q ∨ ∃ a kvs z, x = .str z ∧ y = .ref a ∧ H a = some (.dK kvs) ∧ Q (.bl false) H)
theorem op_eqO {X : Cx} (hu1 : X.A.units + 1 < cLine) (hu : X.A.units + 64 < cLine) : OpR X (compareOp .Eq) (rEqO X.K) := Fe.op_or op_eq (Fe.op_or (op_eqD hu) (Fd.op_eqSD (Nat.lt_of_succ_lt hu1)))
/-- no text, and unequal to each -/
def Odd (K : PySem.W.Frag) (H : Hp) (y : V) : Prop := Tx K H y false ∧ (∀ z : Str, y ≠ .str z) ∧ ∀ (a : Str) (Q : VK), PyData.strOk a = true → Q (.bl false) H → rEqO K (.str a) y H Q
def spNm (K : PySem.W.Frag) : Sp := fun vs H Q _ => ∃ o mm H0 gs, vs = [.ref o] ∧ ShAt K mm H0 H o gs ∧ ∀ l H', Same H H' → H' l = some (.lst (gs.map fun g => V.str g.nm)) → H l = none → Q (.ref l) H'
def spCs (K : PySem.W.Frag) : Sp := fun vs H Q _ => ∃ o mm H0 gs, vs = [.ref o] ∧ ShAt K mm H0 H o gs ∧ ∀ l H', Same H H' → H' l = some (.lst (gs.map fun g => V.ref g.q)) → H l = none → Q (.ref l) H'
def spSLen (K : PySem.W.Frag) : Sp := fun vs H Q _ => ∃ o mm H0 gs, vs = [.ref o] ∧ ShAt K mm H0 H o gs ∧ Q (.int (gs.length : Nat)) H
def spSIn (K : PySem.W.Frag) : Sp := fun vs H Q _ => ∃ o mm H0 gs y, vs = [.ref o, y] ∧ ShAt K mm H0 H o gs ∧ ((Tx K H y false ∧ Q (.bl false) H) ∨ ∃ z : Str, y = .str z ∧ Q (.bl (M04.num (M04.all (gs.map cv)).nums z).isSome) H)
def spSEq (K : PySem.W.Frag) : Sp := fun vs H Q _ => ∃ o mm H0 gs y, vs = [.ref o, y] ∧ ShAt K mm H0 H o gs ∧ ((∃ o2 m2 H2 hs, y = .ref o2 ∧ ShAt K m2 H2 H o2 hs ∧ ∀ H', Same H H' → Q (.bl (decide (gs.map cv = hs.map cv))) H') ∨ (∃ T, TyX K H y (.type T) ∧ PySem.W.kitOne K (.type T) (.ref (CS K)) = some false ∧ ∀ H', Same H H' → Q (.bl false) H'))
def spCu (K : PySem.W.Frag) : Sp := fun vs H Q E => ∃ o mm H0 gs y, vs = [.ref o, y] ∧ ShAt K mm H0 H o gs ∧ ((Odd K H y ∧ (∀ g ∈ gs, PyData.strOk g.nm = true) ∧ ErrL (CUn K) y H E) ∨ ∃ z : Str, y = .str z ∧ ((∀ g ∈ gs, g.nm ≠ z) → ErrL (CUn K) y H E) ∧
  ∀ (i : Nat) g, gs[i]? = some g → g.nm = z → (∀ j h, j < i → gs[j]? = some h → h.nm ≠ z) → ∀ H' w, Same H H' → H' w = some (.tup [.str g.pa, .str g.un, .ref g.a]) → Q (.ref w) H')
def spCN (K : PySem.W.Frag) : Sp := fun vs H Q E => ∃ o mm H0 gs y, vs = [.ref o, y] ∧ ShAt K mm H0 H o gs ∧ ((Tx K H y false ∧ ErrL (CUn K) y H E) ∨ ∃ z : Str, y = .str z ∧ (M04.num (M04.all (gs.map cv)).nums z = none → ErrL (CUn K) y H E) ∧ ((M04.num (M04.all (gs.map cv)).nums z).isSome = true → Q .non H))
def spCh (K : PySem.W.Frag) : Sp := fun vs H Q E => ∃ o mm H0 gs y, vs = [.ref o, y] ∧ ShAt K mm H0 H o gs ∧ ((Tx K H y false ∧ ErrL (CUn K) y H E) ∨ ∃ z : Str, y = .str z ∧ (M04.num (M04.all (gs.map cv)).nums z = none → ErrL (CUn K) y H E) ∧
  ((M04.num (M04.all (gs.map cv)).nums z).isSome = true → ∀ l H', Same H H' → H' l = some (.lst ((gs.filter fun g => decide (g.pa = z)).map fun g => V.str g.nm)) → H l = none → Q (.ref l) H'))
abbrev sSLen : Stmt := inClass (top 49) 2
abbrev sSIn : Stmt := inClass (top 49) 3
abbrev sSEq : Stmt := inClass (top 49) 4
abbrev sSNm : Stmt := inClass (top 49) 5
abbrev sSCs : Stmt := inClass (top 49) 6
abbrev sSCu : Stmt := inClass (top 49) 7
abbrev sCN : Stmt := top 52
theorem scSLen : FnScope ["self"] ["self"] (defScope sSLen) := ⟨rfl, rfl, rfl, by decide +kernel, rfl, by decide +kernel, by decide +kernel⟩
theorem scSIn : FnScope ["self", "value"] ["self", "value"] (defScope sSIn) := ⟨rfl, rfl, rfl, by decide +kernel, rfl, by decide +kernel, by decide +kernel⟩
theorem scSEq : FnScope ["self", "other"] ["self", "other"] (defScope sSEq) := ⟨rfl, rfl, rfl, by decide +kernel, rfl, by decide +kernel, by decide +kernel⟩
theorem scSNm : FnScope ["self", "cue"] ["self"] (defScope sSNm) := ⟨rfl, rfl, rfl, by decide +kernel, rfl, by decide +kernel, by decide +kernel⟩
theorem scSCs : FnScope ["self"] ["self"] (defScope sSCs) := ⟨rfl, rfl, rfl, by decide +kernel, rfl, by decide +kernel, by decide +kernel⟩
theorem scSCu : FnScope ["self", "name", "cue"] ["self", "name"] (defScope sSCu) := ⟨rfl, rfl, rfl, by decide +kernel, rfl, by decide +kernel, by decide +kernel⟩
theorem scCN : FnScope ["sheet", "name"] ["sheet", "name"] (defScope sCN) := ⟨rfl, rfl, rfl, by decide +kernel, rfl, by decide +kernel, by decide +kernel⟩
theorem dec4 {α β γ δ : Type} [DecidableEq α] [DecidableEq β] [DecidableEq γ] [DecidableEq δ] {a b : α} {c d : β} {e f : γ} {g h : δ} : (decide (a = b) && (decide (c = d) && (decide (e = f) && (decide (g = h) && true)))) = decide (a = b ∧ c = d ∧ e = f ∧ g = h) := by
  by_cases h1 : a = b <;> by_cases h2 : c = d <;> by_cases h3 : e = f <;> by_cases h4 : g = h <;> simp [h1, h2, h3, h4]
theorem cue_dec (a b : M04.Cue) : decide (a = b) = decide (a.nm = b.nm ∧ a.pa = b.pa ∧ a.un = b.un ∧ a.q = b.q) := by
  by_cases c : a = b
  · subst c
    simp
  · rw [decide_eq_false c]
    refine (decide_eq_false fun h => c ?_).symm
    cases a
    cases b
    simp only [M04.Cue.mk.injEq]
    exact h
theorem cu_eqB {K : PySem.W.Frag} {n m : Nat} {H : Hp} {g h : Cu} (a : CuOk K n H g) (b : CuOk K m H h) : Fq.DTupB (DMix K) (.ref g.q) (.ref h.q) (decide (cv g = cv h)) H := by
  refine ⟨g.q, h.q, _, _, rfl, rfl, a.1, b.1, rfl, ?_⟩
  rw [cue_dec]
  show Fq.AllB (DMix K) _ _ (decide (g.nm = h.nm ∧ g.pa = h.pa ∧ g.un = h.un ∧ vq g.t g.u = vq h.t h.u)) H
  rw [← dec4]
  exact allB_cons strB (allB_cons strB (allB_cons strB (allB_cons (amB a.2 b.2) allB_nil)))
structure SCn (P : Program) (w : World) (K : PySem.W.Frag) (mg : Str → Option Value) (base : Heap) (f : Addr) (fd : FuncData) : Prop where
  at_ : PySem.W.findIn K (.ref (CS K)) "__contains__" = some (some (.ref f))
  fn : PySem.W.isFn K (.ref f) = true
  ok : FnOk P w K mg base (L2.CX P w) 1 f fd ["self", "value"] (spSIn K)
  b : Binds K fd ["self", "value"] []
section
variable {P : Program} {w : World} {K : PySem.W.Frag} {mg : Str → Option Value} {base : Heap} {f fS fE fI : Addr} {fd fdS fdE : FuncData} {q tu : Str} {aU : Addr}
theorem ok_sLen (F : FunD K "__len__" "Sheet.__len__" (defArgs sSLen) (defBody sSLen) (defScope sSLen) [] [] f fd) (M : MF K mg) (mL : mg "len" = none) : FnOk P w K mg base (L2.CX P w) 1 f fd ["self"] (spSLen K) := by
  refine F.ok scSLen (fun vs H Q E h => ?_) (fun cdv A outer s H vs Q E hr h => ?_)
  · obtain ⟨o, mm, H0, gs, rfl, _⟩ := h
    rfl
  · obtain ⟨o, mm, H0, gs, rfl, ⟨dx, c, r, d, rs, ho, inn⟩, k⟩ := h
    refine ⟨_, (pss_one (ps_ret (pe_callB call_len rfl mL PySem.boot_len (pa_cons (pe_fld (pv 0) rfl) pa_nil)))), ?_⟩
    refine ⟨_, rfl, o, _, dx, _, _, rfl, ho, M.cl, M.n1, sh_c c r d, _, _, rfl, .inl ⟨_, SqL.of inn.cl, rfl⟩, ?_⟩
    rw [List.length_map]
    exact k
theorem ok_sIn (F : FunD K "__contains__" "Sheet.__contains__" (defArgs sSIn) (defBody sSIn) (defScope sSIn) [] [] f fd) (T : AF K mg) (V : VF K mg aU) (M : MF K mg) : FnOk P w K mg base (L2.CX P w) 1 f fd ["self", "value"] (spSIn K) := by
  refine F.ok scSIn (fun vs H Q E h => ?_) (fun cdv A outer s H vs Q E hr h => ?_)
  · obtain ⟨o, mm, H0, gs, y, rfl, _⟩ := h
    rfl
  · obtain ⟨o, mm, H0, gs, y, rfl, ⟨dx, c, r, d, rs, ho, inn⟩, k⟩ := h
    have hu1 : (A.deeper (envOfC "Sheet.__contains__" (defScope sSIn) s.heap.objs.size f cdv)).units + 1 < cLine := by
      have := hr.un
      omega
    refine ⟨_, (pss_one (ps_ret (pe_and (pe_isi T.isi (pv 1) (pe_ty V.str boot_str)) (pe_one (pe_cmp (pc_din hu1 (pv 1) (pe_fld (pv 0) rfl))))))), ?_⟩
    rcases k with ⟨⟨ty, h1, h2⟩, k⟩ | ⟨z, rfl, k⟩
    · exact ⟨_, rfl, y, _, ty, _, false, rfl, .ty "str", h1, h2, false, rfl, iteF k⟩
    · refine ⟨_, rfl, .str z, _, _, _, true, rfl, .ty "str", TyX.base (.str z), tx_str, true, rfl, iteT ?_⟩
      refine ⟨_, rfl, _, rfl, o, _, dx, _, _, rfl, ho, M.cl, M.n3, sh_d c r d, ?_⟩
      refine ⟨d, _, rfl, .inl ⟨_, Sum.inr z, Rd.of inn.dk, rfl, rfl⟩, ?_⟩
      rw [valV_num, Option.isSome_map]
      exact k
theorem ok_sEq (F : FunD K "__eq__" "Sheet.__eq__" (defArgs sSEq) (defBody sSEq) (defScope sSEq) [] [] f fd) (T : AF K mg) (M : MF K mg) (EQ : EqK P w K mg base fE fdE) (kM : PySem.W.kitOne K (.ref (CS K)) (.ref (CS K)) = some true)
    (ca : PySem.W.findIn K (.ref (CS K)) "__class__" = some (some (.builtin "object.__class__"))) (cm : PySem.W.mroIn K (CS K) (.type "object") = some true) : FnOk P w K mg base (L2.CX P w) 5 f fd ["self", "other"] (spSEq K) := by
  refine F.ok scSEq (fun vs H Q E h => ?_) (fun cdv A outer s H vs Q E hr h => ?_)
  · obtain ⟨o, mm, H0, gs, y, rfl, _⟩ := h
    rfl
  · obtain ⟨o, mm, H0, gs, y, rfl, ⟨dx, c, r, d, rs, ho, inn⟩, h⟩ := h
    have hr3 := hr.mono (show 3 ≤ 4 by decide)
    refine ⟨_, (pss_one (ps_ret (pe_and (pe_isi T.isi (pv 1) (pe_glob (v := .ref (CS K)) rfl M.g rfl)) (pe_one (pe_cmpR (Fq.op_eqB (rc_row EQ) hr3) (pe_fld (pv 0) rfl) (pe_fld (pv 1) rfl) (nomark _)))))), ?_⟩
    rcases h with ⟨o2, m2, H2, hs, rfl, ⟨dx2, c2, r2, d2, rs2, ho2, inn2⟩, k⟩ | ⟨Ty, ty, kt, k⟩
    · refine ⟨_, rfl, _, _, _, _, true, rfl, .own _, .base (.ins ho2 M.cl ca T.cn T.ct cm), kM, true, rfl, iteT ?_⟩
      refine ⟨_, rfl, o, _, dx, _, _, rfl, ho, M.cl, M.n1, sh_c c r d, _, rfl, o2, _, dx2, _, _, rfl, ho2, M.cl, M.n1, sh_c c2 r2 d2, _, ⟨c, c2, _, _, rfl, rfl, inn.cl, inn2.cl, allB_map fun g hg h hh => cu_eqB (inn.cok g hg) (inn2.cok h hh)⟩, fun H' e => k H' e⟩
    · exact ⟨_, rfl, _, _, _, _, false, rfl, .own _, ty, kt, false, rfl, iteF (k H (Same.refl _))⟩
theorem ok_sCs (F : FunD K "cues" "Sheet.cues" (defArgs sSCs) (defBody sSCs) (defScope sSCs) [] [] f fd) (M : MF K mg) (mLi : mg "list" = none) : FnOk P w K mg base (L2.CX P w) 1 f fd ["self"] (spCs K) := by
  refine F.ok scSCs (fun vs H Q E h => ?_) (fun cdv A outer s H vs Q E hr h => ?_)
  · obtain ⟨o, mm, H0, gs, rfl, _⟩ := h
    rfl
  · obtain ⟨o, mm, H0, gs, rfl, ⟨dx, c, r, d, rs, ho, inn⟩, k⟩ := h
    refine ⟨_, (pss_one (ps_ret (pe_callTy call_list_of rfl mLi (by decide +kernel : bootBuiltins "list" = some (.type "list")) (pa_cons (pe_fld (pv 0) rfl) pa_nil)))), ?_⟩
    exact ⟨_, rfl, o, _, dx, _, _, rfl, ho, M.cl, M.n1, sh_c c r d, c, _, rfl, .inl (SqL.of inn.cl), fun l hl => k l _ (Same.upd hl) upd_same hl⟩
theorem ok_sNm (F : FunD K "names" "Sheet.names" (defArgs sSNm) (defBody sSNm) (defScope sSNm) [] [] f fd) (M : MF K mg) : FnOk P w K mg base (L2.CX P w) 1 f fd ["self"] (spNm K) := by
  refine F.ok scSNm (fun vs H Q E h => ?_) (fun cdv A outer s H vs Q E hr h => ?_)
  · obtain ⟨o, mm, H0, gs, rfl, _⟩ := h
    rfl
  · obtain ⟨o, mm, H0, gs, rfl, ⟨dx, c, r, d, rs, ho, inn⟩, k⟩ := h
    refine ⟨_, (pss_one (ps_ret (pe_lc (own := [("cue", 1)]) (g := gName 1) (te := tOp (rIxT K) (tVar 1) (tC (.int 0))) (by rfl) scSNm.nd (pi_list (pe_fld (pv 0) rfl)) (blkOk_by (own := [("cue", 1)]) (N := ["self", "cue"]) (sc := defScope sSNm) (by decide +kernel)) (fun _ _ _ _ _ => (pg_name (i := 1) scSNm.nd rfl (Or.inl rfl))) (fun _ _ _ _ _ => pts_nil) (fun _ _ _ _ _ => (pe_ix ix_tup (pv 1) pe_int (fun _ _ => rfl)))))), ?_⟩
    refine ⟨_, rfl, o, _, dx, _, _, rfl, ho, M.cl, M.n1, sh_c c r d, c, rfl, ⟨_, SqL.of inn.cl⟩, fun D hD => ?_⟩
    have inn1 := inn.same (Same.upd (o := .lst []) hD)
    refine lc_list (K := K) (a := c) (xs := gs.map fun g => V.ref g.q) (fun i H' => Same H H' ∧ H' D = some (.lst ((gs.take i).map fun g => V.str g.nm))) ⟨Same.upd hD, upd_same⟩ (fun i H' _ ⟨s, _⟩ => SqL.of (s _ _ inn.cl)) ?_ ?_
    · rintro i x H1 hx ⟨s1, ha⟩
      obtain ⟨g, eg, rfl⟩ := map_at hx
      have hi := (List.getElem?_eq_some_iff.mp eg).1
      refine ⟨rfl, _, rfl, g.q, _, 0, _, rfl, rfl, SqT.of (s1 _ _ (inn.cok g (List.mem_of_getElem? eg)).1), rfl, _, ha, ?_, same_put s1 hD, ?_⟩
      · rw [List.length_map, List.length_take]
        exact Nat.lt_of_lt_of_le (show min i gs.length < 100 by have := inn.n; omega) (by decide)
      · rw [upd_same, List.take_add_one, eg, List.map_append]
        rfl
    · rintro H1 ⟨s1, ha⟩
      rw [List.length_map, List.take_length] at ha
      exact k D H1 s1 ha hD
theorem ok_sCu (F : FunD K "cue" "Sheet.cue" (defArgs sSCu) (defBody sSCu) (defScope sSCu) [] [] f fd) (M : MF K mg) (gE : mg "UnknownCue" = some (.ref (CUn K))) (XU : Xk.Txt P.main.file K q "label" tu (CUn K) fI) (htop : (P.main.scope.names.lookup ("super" : Str)).isSome = false) : FnOk P w K mg base (L2.CX P w) 3 f fd ["self", "name"] (spCu K) := by
  refine F.ok scSCu (fun vs H Q E h => ?_) (fun cdv A outer s H vs Q E hr h => ?_)
  · obtain ⟨o, mm, H0, gs, y, rfl, _⟩ := h
    rfl
  · obtain ⟨o, mm, H0, gs, y, rfl, ⟨dx, c, r, d, rs, ho, inn⟩, k⟩ := h
    have hu1 : (A.deeper (envOfC "Sheet.cue" (defScope sSCu) s.heap.objs.size f cdv)).units + 1 < cLine := by
      have := hr.un
      omega
    have hu : (A.deeper (envOfC "Sheet.cue" (defScope sSCu) s.heap.objs.size f cdv)).units + 64 < cLine := by
      have := hr.un
      omega
    have hr2 := hr.mono (show 2 ≤ 2 by decide)
    refine ⟨_, (pss_cons (ps_for (passes_of rfl) rfl (pi_list (pe_fld (pv 0) rfl)) (pg_name (i := 2) scSCu.nd rfl (Or.inl rfl))
      (pss_one (ps_if (pt_cmpR (op_eqO hu1 hu) (pe_ix ix_tup (pv 2) pe_int (fun _ _ => rfl)) (pv 1) (nomark _)) (pss_one (ps_ret (pe_slice sl_tup (pv 2) (po_some pe_int) po_none))) pss_nil)))
      (pss_one (Xk.ps_raiseX (W := fun cls d _ H => E cls d H) rfl XU gE htop hr2 (takes_of rfl rfl rfl rfl) (pa_cons (pv 1) pa_nil)))), ?_⟩
    refine ⟨_, rfl, o, _, dx, _, _, rfl, ho, M.cl, M.n1, sh_c c r d, c, rfl, ⟨_, SqL.of inn.cl⟩, ?_⟩
    refine for_list (K := K) (a := c) (xs := gs.map fun g => V.ref g.q) (fun i σ H' => ∃ v2, σ = [some (.ref o), some y, v2] ∧ H' = H ∧ ∀ z : Str, y = .str z → ∀ j g, j < i → gs[j]? = some g → g.nm ≠ z) ⟨_, rfl, rfl, fun z _ j g hj => absurd hj (Nat.not_lt_zero _)⟩ (fun i σ H' _ ⟨_, _, e, _⟩ => by rw [e]; exact SqL.of inn.cl) ?_ ?_
    · rintro i x σ H1 hx ⟨v2, rfl, rfl, bef⟩
      obtain ⟨g, eg, rfl⟩ := map_at hx
      have ht := (inn.cok g (List.mem_of_getElem? eg)).1
      refine ⟨_, rfl, g.q, _, 0, _, rfl, rfl, SqT.of ht, rfl, _, rfl, ?_⟩
      rcases k with ⟨⟨_, k2, k3⟩, ks, _⟩ | ⟨z, rfl, _, k⟩
      · exact k3 g.nm _ (ks g (List.mem_of_getElem? eg)) ⟨false, rfl, iteF ⟨_, rfl, rfl, fun z e => absurd e (k2 z)⟩⟩
      · refine .inl ⟨rfl, _, rfl, ?_⟩
        by_cases e : g.nm = z
        · rw [decide_eq_true (by rw [e])]
          refine iteT ⟨_, rfl, _, rfl, g.q, _, rfl, SqT.of ht, (by show ¬ (min 1 4 = 0 ∧ 4 = 4); decide), fun p hp => ?_⟩
          exact k i g eg e (fun j h hj eh => bef z rfl j h hj eh) _ p (Same.upd hp) upd_same
        · rw [decide_eq_false fun x => e (V.str.inj x)]
          refine iteF ⟨_, rfl, rfl, fun z' e' j h hj eh => ?_⟩
          cases e'
          by_cases c : j < i
          · exact bef z rfl j h c eh
          · rw [show j = i by omega, eg] at eh
            cases eh
            exact e
    · rintro σ H1 ⟨v2, rfl, rfl, bef⟩
      rcases k with ⟨_, _, k⟩ | ⟨z, rfl, k, _⟩
      · exact ⟨_, rfl, _, rfl, k⟩
      · refine ⟨_, rfl, _, rfl, k fun g hg => ?_⟩
        obtain ⟨j, ej⟩ := List.getElem?_of_mem hg
        exact bef z rfl j g (by rw [List.length_map]; exact (List.getElem?_eq_some_iff.mp ej).1) ej
theorem ok_cn (F : FnP K "check_known" sCN f fd) (M : MF K mg) (SC : SCn P w K mg base fS fdS) (gE : mg "UnknownCue" = some (.ref (CUn K))) (XU : Xk.Txt P.main.file K q "label" tu (CUn K) fI) (htop : (P.main.scope.names.lookup ("super" : Str)).isSome = false) : FnOk P w K mg base (L2.CX P w) 3 f fd ["sheet", "name"] (spCN K) := by
  refine F.ok scCN (fun vs H Q E h => ?_) (fun cdv A outer s H vs Q E hr h => ?_)
  · obtain ⟨o, mm, H0, gs, y, rfl, _⟩ := h
    rfl
  · obtain ⟨o, mm, H0, gs, y, rfl, sh, k⟩ := h
    have hr2 := hr.mono (show 2 ≤ 2 by decide)
    have hr1 := hr.mono (show 1 ≤ 2 by decide)
    refine ⟨_, (pss_one (ps_if (pt_cmp (Fo.pc_notInX SC.at_ SC.fn SC.ok hr1 SC.b passS (pv 1) (pv 0))) (pss_one (Xk.ps_raiseX (W := fun cls d _ H => E cls d H) rfl XU gE htop hr2 (takes_of rfl rfl rfl rfl) (pa_cons (pv 1) pa_nil))) pss_nil)), ?_⟩
    obtain ⟨dx, c, r, d, rs, ho, inn⟩ := id sh
    refine ⟨_, rfl, _, rfl, o, dx, _, rfl, ho, o, mm, H0, gs, y, rfl, sh, ?_⟩
    rcases k with ⟨tx, er⟩ | ⟨z, rfl, er, k⟩
    · exact .inl ⟨tx, false, rfl, _, rfl, iteT ⟨_, rfl, _, rfl, er⟩⟩
    · refine .inr ⟨z, rfl, _, rfl, _, rfl, ?_⟩
      cases e : M04.num (M04.all (gs.map cv)).nums z with
      | none => exact iteT ⟨_, rfl, _, rfl, er e⟩
      | some i => exact iteF (k (by rw [e]; rfl))
end
structure PrF (P : Program) (w : World) (K : PySem.W.Frag) (mg : Str → Option Value) (base : Heap) (f fld : Str) (pa fa : Addr) (fd : FuncData) : Prop where
  pr : PropOf K (CA K) f pa fa
  ok : FnOk P w K mg base (L2.CX P w) 1 fa fd ["self"] (getSp (CA K) fld)
  bi : Binds K fd ["self"] []
end K35
set_option Elab.async false
set_option linter.all false
set_option maxRecDepth 100000
set_option maxHeartbeats 4000000
set_option exponentiation.threshold 100000
namespace K35
open PySem PySem.Spec PyProof.Rows L2 Fa Fb
/-- rows that are never reached -/
theorem pss_never {X : Cx} {b : List Stmt} : PSs X b (fun _ _ _ => False) := ⟨fun _ _ _ _ _ _ h => h.elim⟩
abbrev sDec : Stmt := top 38
abbrev sAmt : Stmt := top 37
theorem scDec : FnScope ["number", "piece", "pieces", "rest"] ["number"] (defScope sDec) := ⟨rfl, rfl, rfl, by decide +kernel, rfl, by decide +kernel, by decide +kernel⟩
theorem scAmt : FnScope ["amount", "told", "sign", "below"] ["amount"] (defScope sAmt) := ⟨rfl, rfl, rfl, by decide +kernel, rfl, by decide +kernel, by decide +kernel⟩
/-- a number's text -/
def dec (i : Int) : Str := Str.ofString (toString i)
theorem dec_len {i : Int} {k : Nat} (h0 : 0 ≤ i) (hk : 0 < k) (h : i < 10 ^ k) : (dec i).length ≤ k := toString_length_le h0 hk h
def spDec : Sp := fun vs H Q _ => ∃ n : Int, vs = [.int n] ∧ 0 ≤ n ∧ n < 10 ^ 60 ∧ ∀ H', Same H H' → Q (.str (dec n)) H'
/-- an amount's text -/
def amtS (t u : Int) : Str := ((if t < 0 then ("-" : Str) else ("" : Str)) ++ dec t.natAbs) ++ (if u = 1 then ("" : Str) else ("/" : Str) ++ dec u)
def spAmt (K : PySem.W.Frag) : Sp := fun vs H Q E => ∃ x, vs = [x] ∧ ((Bad K H x ∧ Err (CV K) x H E) ∨ ∃ t u n, Arg K H x t u n ∧ t.natAbs < 10 ^ 60 ∧ u < 10 ^ 60 ∧ ∀ H', Same H H' → Q (.str (amtS t u)) H')
/-- a property of Amount with its getter -/
abbrev sIntg : Stmt := top 25
theorem scIntg : FnScope ["value", "low", "high"] ["value", "low", "high"] (defScope sIntg) := ⟨rfl, rfl, rfl, by decide +kernel, rfl, by decide +kernel, by decide +kernel⟩
def spIntg (K : PySem.W.Frag) : Sp := fun vs H Q _ => ∃ (x : V) (lo hi : Int), vs = [x, .int lo, .int hi] ∧ ((Wh K H x false ∧ Q (.bl false) H) ∨ ∃ i : Int, x = .int i ∧ Q (.bl (decide (lo ≤ i) && decide (i ≤ hi))) H)
section
variable {P : Program} {w : World} {K : PySem.W.Frag} {mg : Str → Option Value} {base : Heap} {f fS fD pT pB fT fB : Addr} {fd fdS fdD fdT fdB : FuncData}
theorem ok_dec (F : FnP K "_decimal" sDec f fd) (mS : mg "str" = none) (mR : mg "reversed" = none) : FnOk P w K mg base (L2.CX P w) 1 f fd ["number"] spDec := by
  refine F.ok scDec (fun vs H Q E h => ?_) (fun cdv A outer s H vs Q E hr h => ?_)
  · obtain ⟨n, rfl, _⟩ := h
    rfl
  · obtain ⟨n, rfl, h0, h1, q⟩ := h
    refine ⟨_, pss_cons (ps_set (i := 1) scDec.nd rfl (Or.inl rfl) (pe_op op_pow pe_int pe_int)) (pss_cons (ps_set (i := 2) scDec.nd rfl (Or.inl rfl) (pe_lst pa_nil))
      (pss_cons (ps_while (passes_of rfl) (pt_cmpR op_ge (pv 0) (pv 1) (nomark _)) pss_never)
      (pss_cons (ps_expr (pe_bm PySem.F.plainAttrs_list PySem.F.slot_list_append PySem.F.type_list_append mt_append (pv 2) (pa_cons (pe_callTy call_str_int rfl mS boot_str (pa_cons (pv 0) pa_nil)) pa_nil)))
      (pss_one (ps_ret (Fj.pe_joinRev (by rfl) pe_str rfl mR (pv 2))))))), ?_⟩
    refine ⟨_, _, rfl, rfl, ⟨by decide, by decide, by decide⟩, by decide, fun p hp => ?_⟩
    have s1 := Same.upd (o := .lst []) hp
    refine ⟨fun _ σ H' => σ = [some (.int n), some (.int (10 ^ 60)), some (.ref p), none] ∧ H' = upd H p (.lst []), ⟨0, rfl, rfl⟩, ?_⟩
    rintro m σ H' ⟨rfl, rfl⟩
    refine ⟨_, rfl, _, rfl, _, _, rfl, rfl, _, rfl, if_false_of (decide_eq_false (by omega)) ?_⟩
    have hlog : n.natAbs.log2 < 1920 := by
      by_cases z : n.natAbs = 0
      · rw [z]
        decide
      · refine (Nat.log2_lt z).mpr (Nat.lt_of_lt_of_le (show n.natAbs < 10 ^ 60 by omega) ?_)
        exact Nat.le_trans (by decide : 10 ^ 60 ≤ 2 ^ 200) (Nat.pow_le_pow_right (by decide) (by decide))
    refine ⟨_, rfl, .inl ⟨rfl, _, SqL.of upd_same⟩, _, rfl, n, rfl, hlog, p, _, _, rfl, rfl, upd_same, by decide, ?_⟩
    have hl := dec_len h0 (by decide : 0 < 60) h1
    refine ⟨⟨_, rfl⟩, _, rfl, "", p, [dec n], rfl, rfl, SqL.of upd_same, ?_, ?_⟩
    · simp only [List.map_cons, List.map_nil, List.sum_cons, List.sum_nil, List.length_cons, List.length_nil]
      have : ("" : Str).length = 0 := by decide +kernel
      omega
    · rw [upd_upd]
      exact q _ (Same.upd hp)
theorem len_app2 {a b : Str} {n m : Nat} (h1 : a.length ≤ n) (h2 : b.length ≤ m) : (a ++ b).length ≤ n + m := by
  have : (a ++ b).length = a.length + b.length := by
    show (a.cps ++ b.cps).size = _
    rw [Array.size_append]
    rfl
  omega
theorem ok_amt (F : FnP K "amount_text" sAmt f fd) (T : AF K mg) (mA : mg "abs" = none) (GS : FnOk P w K mg base (L2.CX P w) 6 fS fdS ["value"] (spAs K)) (gS : mg "as_amount" = some (.ref fS)) (kS : PySem.W.keepIn K (.ref fS) = true) (bS : Binds K fdS ["value"] [])
    (GD : FnOk P w K mg base (L2.CX P w) 1 fD fdD ["number"] spDec) (gD : mg "_decimal" = some (.ref fD)) (kD : PySem.W.keepIn K (.ref fD) = true) (bD : Binds K fdD ["number"] []) (R1 : PrF P w K mg base "top" "_top" pT fT fdT) (R2 : PrF P w K mg base "bottom" "_bottom" pB fB fdB) :
    FnOk P w K mg base (L2.CX P w) 7 f fd ["amount"] (spAmt K) := by
  refine F.ok scAmt (fun vs H Q E h => ?_) (fun cdv A outer s H vs Q E hr h => ?_)
  · obtain ⟨x, rfl, _⟩ := h
    rfl
  · obtain ⟨x, rfl, q⟩ := h
    have hr2 := hr.mono (show 2 ≤ 6 by decide)
    have hr1 := hr.mono (show 1 ≤ 6 by decide)
    refine ⟨_, pss_cons (ps_set (i := 1) scAmt.nd rfl (Or.inl rfl) (pe_callS GS hr rfl gS kS bS (fun σ => passAt (W := fun cls d _ H => E cls d H) (takes_of rfl rfl rfl rfl) σ) (pa_cons (pv 0) pa_nil)))
      (pss_cons (ps_set (i := 2) scAmt.nd rfl (Or.inl rfl) (pe_ifExp (pt_cmpR op_lt (pe_prop (pv 1) T.cl R1.pr R1.ok hr2 R1.bi .nil passL rfl) pe_int (nomark _)) pe_str pe_str))
      (pss_cons (ps_set (i := 3) scAmt.nd rfl (Or.inl rfl) (pe_ifExp (pt_cmpR op_eq (pe_prop (pv 1) T.cl R2.pr R2.ok hr2 R2.bi .nil passL rfl) pe_int (nomark _)) pe_str (pe_op op_add_str pe_str (pe_call GD hr1 rfl gD kD bD .nil passL (pa_cons (pe_prop (pv 1) T.cl R2.pr R2.ok hr2 R2.bi .nil passL rfl) pa_nil)))))
      (pss_one (ps_ret (pe_op op_add_str (pe_op op_add_str (pv 2) (pe_call GD hr1 rfl gD kD bD .nil passL (pa_cons (pe_callB call_abs rfl mA (by decide +kernel) (pa_cons (pe_prop (pv 1) T.cl R1.pr R1.ok hr2 R1.bi .nil passL rfl) pa_nil)) pa_nil))) (pv 3)))))), ?_⟩
    refine ⟨_, rfl, x, rfl, ?_⟩
    rcases q with ⟨hb, er⟩ | ⟨t, u, n, ar, ht, hu, q⟩
    · exact .inl ⟨hb, er⟩
    · refine .inr ⟨t, u, n, ar, fun z H1 s1 iz => ?_⟩
      obtain ⟨p, dx, rfl, hp, ⟨u0, _⟩, _⟩ := id iz
      have ab := absI t
      have lt : (dec t.natAbs).length ≤ 60 := dec_len (by omega) (by decide) (by omega)
      have lu : (dec u).length ≤ 60 := dec_len (by omega) (by decide) hu
      unfold amtS at q
      refine ⟨_, rfl, p, dx, _, rfl, hp, p, dx, _, _, rfl, hp, fl_top _ _, _, _, rfl, rfl, _, rfl, ?_⟩
      by_cases c1 : t < 0
      · refine if_true_of (decide_eq_true c1) ?_
        rw [if_pos c1] at q
        refine ⟨_, rfl, p, dx, _, rfl, hp, p, dx, _, _, rfl, hp, fl_bot _ _, rfl, _, rfl, ?_⟩
        by_cases c2 : u = 1
        · refine if_true_of (decide_eq_true (congrArg V.int c2)) ?_
          refine ⟨_, rfl, _, rfl, p, dx, _, rfl, hp, p, dx, _, _, rfl, hp, fl_top _ _, _, rfl, _, rfl, by rw [ab]; omega, by rw [ab]; omega, fun H2 s2 => ?_⟩
          rw [ab]
          refine ⟨_, _, rfl, rfl, ?_, _, rfl, _, _, rfl, rfl, ?_, ?_⟩
          · exact Nat.le_trans (Nat.add_le_add (show ("-" : Str).length ≤ 1 by decide +kernel) lt) (by decide)
          · exact Nat.le_trans (Nat.add_le_add (len_app2 (show ("-" : Str).length ≤ 1 by decide +kernel) lt) (show ("" : Str).length ≤ 1 by decide +kernel)) (by decide)
          · have q' := q _ (s1.trans s2)
            rw [if_pos c2] at q'
            exact q'
        · refine if_false_of (decide_eq_false fun y => c2 (V.int.inj y)) ?_
          refine ⟨_, rfl, p, dx, _, rfl, hp, p, dx, _, _, rfl, hp, fl_bot _ _, u, rfl, by omega, hu, fun H2 s2 => ?_⟩
          have hp := s2 _ _ hp
          refine ⟨_, _, rfl, rfl, Nat.le_trans (Nat.add_le_add (show ("/" : Str).length ≤ 1 by decide +kernel) lu) (by decide), ?_⟩
          refine ⟨_, rfl, _, rfl, p, dx, _, rfl, hp, p, dx, _, _, rfl, hp, fl_top _ _, _, rfl, _, rfl, by rw [ab]; omega, by rw [ab]; omega, fun H3 s3 => ?_⟩
          rw [ab]
          refine ⟨_, _, rfl, rfl, ?_, _, rfl, _, _, rfl, rfl, ?_, ?_⟩
          · exact Nat.le_trans (Nat.add_le_add (show ("-" : Str).length ≤ 1 by decide +kernel) lt) (by decide)
          · exact Nat.le_trans (Nat.add_le_add (len_app2 (show ("-" : Str).length ≤ 1 by decide +kernel) lt) (len_app2 (show ("/" : Str).length ≤ 1 by decide +kernel) lu)) (by decide)
          · have q' := q _ (s1.trans (s2.trans s3))
            rw [if_neg c2] at q'
            exact q'
      · refine if_false_of (decide_eq_false c1) ?_
        rw [if_neg c1] at q
        refine ⟨_, rfl, p, dx, _, rfl, hp, p, dx, _, _, rfl, hp, fl_bot _ _, rfl, _, rfl, ?_⟩
        by_cases c2 : u = 1
        · refine if_true_of (decide_eq_true (congrArg V.int c2)) ?_
          refine ⟨_, rfl, _, rfl, p, dx, _, rfl, hp, p, dx, _, _, rfl, hp, fl_top _ _, _, rfl, _, rfl, by rw [ab]; omega, by rw [ab]; omega, fun H2 s2 => ?_⟩
          rw [ab]
          refine ⟨_, _, rfl, rfl, ?_, _, rfl, _, _, rfl, rfl, ?_, ?_⟩
          · exact Nat.le_trans (Nat.add_le_add (show ("" : Str).length ≤ 1 by decide +kernel) lt) (by decide)
          · exact Nat.le_trans (Nat.add_le_add (len_app2 (show ("" : Str).length ≤ 1 by decide +kernel) lt) (show ("" : Str).length ≤ 1 by decide +kernel)) (by decide)
          · have q' := q _ (s1.trans s2)
            rw [if_pos c2] at q'
            exact q'
        · refine if_false_of (decide_eq_false fun y => c2 (V.int.inj y)) ?_
          refine ⟨_, rfl, p, dx, _, rfl, hp, p, dx, _, _, rfl, hp, fl_bot _ _, u, rfl, by omega, hu, fun H2 s2 => ?_⟩
          have hp := s2 _ _ hp
          refine ⟨_, _, rfl, rfl, Nat.le_trans (Nat.add_le_add (show ("/" : Str).length ≤ 1 by decide +kernel) lu) (by decide), ?_⟩
          refine ⟨_, rfl, _, rfl, p, dx, _, rfl, hp, p, dx, _, _, rfl, hp, fl_top _ _, _, rfl, _, rfl, by rw [ab]; omega, by rw [ab]; omega, fun H3 s3 => ?_⟩
          rw [ab]
          refine ⟨_, _, rfl, rfl, ?_, _, rfl, _, _, rfl, rfl, ?_, ?_⟩
          · exact Nat.le_trans (Nat.add_le_add (show ("" : Str).length ≤ 1 by decide +kernel) lt) (by decide)
          · exact Nat.le_trans (Nat.add_le_add (len_app2 (show ("" : Str).length ≤ 1 by decide +kernel) lt) (len_app2 (show ("/" : Str).length ≤ 1 by decide +kernel) lu)) (by decide)
          · have q' := q _ (s1.trans (s2.trans s3))
            rw [if_neg c2] at q'
            exact q'
variable {fW : Addr} {fdW : FuncData}
theorem ok_intg (F : FnP K "is_integer" sIntg f fd) (T : AF K mg) (FW : FnP K "is_whole" sWhole fW fdW) (gW : mg "is_whole" = some (.ref fW)) : FnOk P w K mg base (L2.CX P w) 2 f fd ["value", "low", "high"] (spIntg K) := by
  have GW : FnOk P w K mg base (L2.CX P w) 1 fW fdW ["value"] (spWhole K) := ok_whole FW T
  have bW : Binds K fdW ["value"] [] := FW.bindsN fun _ _ _ _ _ _ us hl => match us, hl with | [_], _ => rfl
  refine F.ok scIntg (fun vs H Q E h => ?_) (fun cdv A outer s H vs Q E hr h => ?_)
  · obtain ⟨x, lo, hi, rfl, _⟩ := h
    rfl
  · obtain ⟨x, lo, hi, rfl, q⟩ := h
    refine ⟨_, pss_one (ps_ret (pe_and (pe_call GW hr rfl gW FW.kp bW .nil passL (pa_cons (pv 0) pa_nil)) (pe_one (pe_chain op_le op_le (pv 1) (pv 0) (pv 2))))), ?_⟩
    rcases q with ⟨wh, q⟩ | ⟨i, rfl, q⟩
    · exact ⟨_, rfl, x, false, rfl, wh, false, rfl, iteF q⟩
    · refine ⟨_, rfl, .int i, true, rfl, wh_int i, true, rfl, iteT ⟨_, rfl, _, rfl, _, _, rfl, rfl, _, rfl, ?_⟩⟩
      by_cases c : lo ≤ i
      · refine if_true_of (decide_eq_true c) ⟨_, rfl, _, _, rfl, rfl, ?_⟩
        rw [decide_eq_true c, Bool.true_and] at q
        exact q
      · refine if_false_of (decide_eq_false c) ?_
        rw [decide_eq_false c, Bool.false_and] at q
        exact q
end
end K35

set_option Elab.async false
set_option linter.all false
set_option maxRecDepth 100000
set_option maxHeartbeats 4000000
set_option exponentiation.threshold 100000
namespace K35
open PySem PySem.Spec PyProof.Rows L2 Fa Fb
abbrev sNum : Stmt := top 40
theorem scNum : FnScope ["text", "most"] ["text", "most"] (defScope sNum) := ⟨rfl, rfl, rfl, by decide +kernel, rfl, by decide +kernel, by decide +kernel⟩
/-- one to m digits, the first one not 0 unless it is the only one -/
def isNum (z : Str) (m : Int) : Bool := (decide (1 ≤ z.length) && decide ((z.length : Int) ≤ m)) && (only z DIG && (decide (z = "0") || (match z.cps.toList.head? with | some c => decide (c ≠ 48) | none => false)))
def spNum : Sp := fun vs H Q _ => ∃ (z : Str) (m : Int), vs = [.str z, .int m] ∧ z.length ≤ 100000 ∧ ∀ H', Same H H' → Q (.bl (isNum z m)) H'
theorem sign0 (c : Nat) : (⟨#[c]⟩ : Str) = "0" ↔ c = 48 := by
  have e : ("0" : Str) = ⟨#[48]⟩ := by decide +kernel
  rw [e]
  constructor
  · intro h
    have h2 : #[c] = #[48] := congrArg Str.cps h
    exact (Array.mk.injEq .. ▸ h2 : [c] = [48]) |> fun z => (List.cons.inj z).1
  · intro h
    rw [h]
section
variable {P : Program} {w : World} {K : PySem.W.Frag} {mg : Str → Option Value} {base : Heap} {f fH : Addr} {fd fdH : FuncData} {aU : Addr}
theorem ok_num (F : FnP K "_is_number" sNum f fd) (ZV : VF K mg aU) (GH : FnOk P w K mg base (L2.CX P w) 1 fH fdH ["text", "characters"] spHas) (gH : mg "has_only" = some (.ref fH)) (kH : PySem.W.keepIn K (.ref fH) = true) (bH : Binds K fdH ["text", "characters"] []) :
    FnOk P w K mg base (L2.CX P w) 2 f fd ["text", "most"] spNum := by
  obtain ⟨t2, hD⟩ := ZV.digits
  refine F.ok scNum (fun vs H Q E h => ?_) (fun cdv A outer s H vs Q E hr h => ?_)
  · obtain ⟨z, m, rfl, _⟩ := h
    rfl
  · obtain ⟨z, m, rfl, hz, q⟩ := h
    have hz2 : z.length ≤ sizeLine := Nat.le_trans hz (by decide)
    refine ⟨_, pss_cons (ps_if (PW.pt (pw_or (pt_not (pt_chain op_le op_le pe_int (pe_callB call_len_str rfl ZV.len PySem.boot_len (pa_cons (pv 0) pa_nil)) (pv 1))) (pw_or1 (pt_not (pt_val (pe_call GH hr rfl gH kH bH .nil passL (pa_cons (pv 0) (pa_cons (pe_glob (v := .str DIG) rfl hD ⟨t2, rfl⟩) pa_nil))))))))
        (pss_one (ps_ret pe_bl)) pss_nil)
      (pss_one (ps_ret (pe_or (pe_cmpR op_eq (pv 0) pe_str (nomark _)) (pe_one (pe_cmpR op_ne (pe_ix ix_str (pv 0) pe_int (fun _ _ => rfl)) pe_str (nomark _)))))), ?_⟩
    refine ⟨_, rfl, z, rfl, hz2, _, _, rfl, rfl, _, rfl, ?_⟩
    unfold isNum at q
    by_cases c1 : 1 ≤ z.length
    · refine if_true_of (decide_eq_true (by omega)) ⟨_, rfl, _, _, rfl, rfl, _, rfl, ?_⟩
      by_cases c2 : (z.length : Int) ≤ m
      · rw [decide_eq_true c2]
        rw [decide_eq_true c1, decide_eq_true c2] at q
        refine iteF ⟨_, rfl, z, DIG, rfl, hz, fun H1 s1 => ⟨_, rfl, ?_⟩⟩
        cases c3 : only z DIG with
        | false =>
          rw [c3] at q
          exact iteT (q H1 s1)
        | true =>
          rw [c3] at q
          refine iteF ⟨_, rfl, rfl, _, rfl, ?_⟩
          by_cases c4 : z = "0"
          · rw [decide_eq_true c4] at q
            refine if_true_of (decide_eq_true (congrArg V.str c4)) ?_
            have q' := q H1 s1
            rw [← decide_eq_true (congrArg V.str c4)] at q'
            first
              | exact q'
              | (simp only [decide_eq_true c4, decide_eq_true (congrArg V.str c4)] at q' ⊢; exact q')
          · refine if_false_of (decide_eq_false fun y => c4 (V.str.inj y)) ?_
            have h0 : 0 < z.cps.toList.length := by
              have : z.cps.toList.length = z.length := by simp [Str.length]
              omega
            have hh : z.cps.toList.head? = some z.cps.toList[0] := by rw [List.head?_eq_getElem?, List.getElem?_eq_getElem h0]
            refine ⟨_, rfl, z, _, _, rfl, rfl, hz2, atI_nat (j := 0) (List.getElem?_eq_getElem h0), rfl, ?_⟩
            have q' := q H1 s1
            rw [decide_eq_false c4, hh] at q'
            have e : (!decide (V.str ⟨#[z.cps.toList[0]]⟩ = V.str "0")) = decide (z.cps.toList[0] ≠ 48) := by
              by_cases c5 : z.cps.toList[0] = 48
              · rw [decide_eq_true (congrArg V.str ((sign0 _).mpr c5)), decide_eq_false (fun h => h c5)]
                rfl
              · rw [decide_eq_false (fun y => c5 ((sign0 _).mp (V.str.inj y))), decide_eq_true c5]
                rfl
            rw [e]
            exact q'
      · rw [decide_eq_false c2]
        rw [decide_eq_false c2, Bool.and_false, Bool.false_and] at q
        exact iteT (q H (Same.refl _))
    · refine if_false_of (decide_eq_false (by omega)) ⟨_, rfl, iteT ?_⟩
      rw [decide_eq_false c1, Bool.false_and, Bool.false_and] at q
      exact q H (Same.refl _)
end
end K35

set_option Elab.async false
set_option linter.all false
set_option maxRecDepth 100000
set_option maxHeartbeats 4000000
set_option exponentiation.threshold 100000
namespace K35
open PySem PySem.Spec PyProof.Rows L2 Fa Fb NumText
theorem dig_ten : DIG.cps.toList = [48, 49, 50, 51, 52, 53, 54, 55, 56, 57] := by decide +kernel
theorem only_digits {z : Str} (h : only z DIG = true) : AllDigits z.cps.toList := fun c hc => by
  have h2 := of_decide_eq_true (List.all_eq_true.mp h c hc)
  rw [dig_ten] at h2
  simp only [List.mem_cons, List.not_mem_nil, or_false] at h2
  omega
theorem digits_fold : ∀ (cs : List Nat) (acc : Nat), AllDigits cs → cs.foldl (fun acc c => acc * 10 + (c - 48)) acc < (acc + 1) * 10 ^ cs.length
  | [], acc, _ => by
    show acc < (acc + 1) * 1
    omega
  | c :: cs, acc, h => by
    have hc := h.head
    have ih := digits_fold cs (acc * 10 + (c - 48)) h.tail
    have e : (acc + 1) * 10 ^ (c :: cs).length = ((acc + 1) * 10) * 10 ^ cs.length := by
      rw [List.length_cons, Nat.pow_succ, Nat.mul_comm (10 ^ cs.length) 10, ← Nat.mul_assoc]
    rw [List.foldl_cons, e]
    refine Nat.lt_of_lt_of_le ih (Nat.mul_le_mul_right _ ?_)
    omega
theorem digits_lt {cs : List Nat} (h : AllDigits cs) : digitsVal cs < 10 ^ cs.length := by
  have := digits_fold cs 0 h
  rw [Nat.zero_add, Nat.one_mul] at this
  exact this
theorem isNum_of {z : Str} {m : Int} (h : isNum z m = true) : AllDigits z.cps.toList ∧ z.cps.toList ≠ [] ∧ (z.length : Int) ≤ m := by
  unfold isNum at h
  simp only [Bool.and_eq_true, decide_eq_true_eq] at h
  obtain ⟨⟨h1, h2⟩, h3, _⟩ := h
  refine ⟨only_digits h3, fun e => ?_, h2⟩
  have : z.cps.toList.length = z.length := by simp [Str.length]
  rw [e] at this
  simp at this
  omega
theorem minus_rp (a : Str) : a.cps.toList = 45 :: (Txt.removeprefix a "-").cps.toList ∨ Txt.removeprefix a "-" = a := by
  have e : ("-" : Str) = ⟨#[45]⟩ := by decide +kernel
  rw [e, StrLaws.removeprefix_eq]
  by_cases c : (decide (0 + (⟨#[45]⟩ : Str).length ≤ a.length) && Builtin.Str.subAt a ⟨#[45]⟩ 0) = true
  · rw [if_pos c]
    obtain ⟨c1, c2⟩ := Bool.and_eq_true_iff.mp c
    have h0 := (StrLaws.subAt_one a 45 0).mp ⟨of_decide_eq_true c1, c2⟩
    have l1 : (⟨#[45]⟩ : Str).length = 1 := rfl
    have la : a.cps.toList.length = a.length := by simp [Str.length]
    left
    rw [l1]
    show a.cps.toList = 45 :: ((a.cps.toList.drop 1).take (a.length - 1)).toArray.toList
    rw [List.toList_toArray]
    cases hq : a.cps.toList with
    | nil =>
      rw [hq] at h0
      cases h0
    | cons x r =>
      rw [hq] at h0 la
      have hx : x = 45 := Option.some.inj h0
      rw [hx, List.drop_one, List.tail_cons, List.take_of_length_le]
      rw [List.length_cons] at la
      omega
  · rw [if_neg c]
    exact .inr rfl
/-- the whole number that a text of an optional minus and up to six digits tells -/
theorem num_top {a : Str} (h : isNum (Txt.removeprefix a "-") 6 = true) : ∃ n : Int, intText? a = some n ∧ n.natAbs < 2 ^ 64 ∧ a.length ≤ 7 := by
  obtain ⟨d, ne, l⟩ := isNum_of h
  have ld : (Txt.removeprefix a "-").cps.toList.length = (Txt.removeprefix a "-").length := by simp [Str.length]
  have la : a.cps.toList.length = a.length := by simp [Str.length]
  have lt := digits_lt d
  have lt2 : digitsVal (Txt.removeprefix a "-").cps.toList < 2 ^ 64 := Nat.lt_of_lt_of_le lt (Nat.le_trans (Nat.pow_le_pow_right (by decide) (show _ ≤ 6 by omega)) (by decide))
  rcases minus_rp a with e | e
  · have la2 : a.length ≤ 7 := by
      rw [← la, e, List.length_cons]
      omega
    refine ⟨_, intText_neg e d ne (by omega), ?_, la2⟩
    rw [Int.natAbs_neg]
    exact lt2
  · rw [e] at d ne l lt2
    exact ⟨_, intText_digits d ne (by omega), lt2, by omega⟩
theorem num_bot {b : Str} (h : isNum b 4 = true) : ∃ n : Int, intText? b = some n ∧ n.natAbs < 2 ^ 64 ∧ b.length ≤ 4 := by
  obtain ⟨d, ne, l⟩ := isNum_of h
  have lb : b.cps.toList.length = b.length := by simp [Str.length]
  have lt2 : digitsVal b.cps.toList < 2 ^ 64 := Nat.lt_of_lt_of_le (digits_lt d) (Nat.le_trans (Nat.pow_le_pow_right (by decide) (show _ ≤ 4 by omega)) (by decide))
  exact ⟨_, intText_digits d ne (by omega), lt2, by omega⟩
def numOf (z : Str) : Int := (intText? z).getD 0
/-- the fraction of a text, as it is written -/
def amtOf (z : Str) : Option (Int × Int) :=
  if (!isNum (Txt.removeprefix (Txt.partition z "/").1 "-") 6 || decide ((Txt.partition z "/").1 = "-0")) = true then none
  else if (Txt.partition z "/").2.1 = "" then some (numOf (Txt.partition z "/").1, 1)
  else if (!isNum (Txt.partition z "/").2.2 4 || !(decide (1 ≤ numOf (Txt.partition z "/").2.2) && decide (numOf (Txt.partition z "/").2.2 ≤ 1000))) = true then none
  else some (numOf (Txt.partition z "/").1, numOf (Txt.partition z "/").2.2)
abbrev sAmtOf : Stmt := top 39
theorem scAmtOf : FnScope ["text", "top", "slash", "bottom", "digits"] ["text"] (defScope sAmtOf) := ⟨rfl, rfl, rfl, by decide +kernel, rfl, by decide +kernel, by decide +kernel⟩
def spAmtOf (K : PySem.W.Frag) : Sp := fun vs H Q _ => ∃ x, vs = [x] ∧ ((Tx K H x false ∧ Q .non H) ∨ ∃ z : Str, x = .str z ∧ z.length ≤ 2000 ∧ (Txt.partition z "/").1.length ≤ 2000 ∧ (Txt.partition z "/").2.2.length ≤ 2000 ∧ (amtOf z = none → ∀ H', Same H H' → Q .non H') ∧
  ∀ a b, amtOf z = some (a, b) → ∀ y H' t u, Same H H' → IsA K H' y t u 64 → t * b = a * u → Q y H')
section
variable {P : Program} {w : World} {K : PySem.W.Frag} {mg : Str → Option Value} {base : Heap} {f fN fG : Addr} {fd fdN fdG fdI : FuncData} {aU : Addr}
theorem ok_amtof (F : FnP K "amount_of" sAmtOf f fd) (T : AF K mg) (ZV : VF K mg aU) (m6 : ∃ t, mg "MOST_TOP_DIGITS" = some (.int 6 t)) (m4 : ∃ t, mg "MOST_BOTTOM_DIGITS" = some (.int 4 t)) (m1 : ∃ t, mg "MOST_BOTTOM" = some (.int 1000 t))
    (GN : FnOk P w K mg base (L2.CX P w) 2 fN fdN ["text", "most"] spNum) (gN : mg "_is_number" = some (.ref fN)) (kN : PySem.W.keepIn K (.ref fN) = true) (bN : Binds K fdN ["text", "most"] [])
    (GG : FnOk P w K mg base (L2.CX P w) 2 fG fdG ["value", "low", "high"] (spIntg K)) (gG : mg "is_integer" = some (.ref fG)) (kG : PySem.W.keepIn K (.ref fG) = true) (bG : Binds K fdG ["value", "low", "high"] [])
    (GI : FnOk P w K mg base (L2.CX P w) 4 (aI K) fdI ["self", "top", "bottom"] (spInit K)) {ds : List Value} (hds : Vals [.int 1] ds) (bI : Binds K fdI ["self", "top", "bottom"] ds) (bI2 : Binds K fdI ["self", "top", "bottom"] []) :
    FnOk P w K mg base (L2.CX P w) 6 f fd ["text"] (spAmtOf K) := by
  obtain ⟨t6, h6⟩ := m6
  obtain ⟨t4, h4⟩ := m4
  obtain ⟨t1, h1⟩ := m1
  refine F.ok scAmtOf (fun vs H Q E h => ?_) (fun cdv A outer s H vs Q E hr h => ?_)
  · obtain ⟨x, rfl, _⟩ := h
    rfl
  · obtain ⟨x, rfl, q⟩ := h
    have hr2 := hr.mono (show 2 ≤ 5 by decide)
    refine ⟨_, pss_cons (ps_if (pt_not (pt_val (pe_isi T.isi (pv 0) (pe_ty ZV.str boot_str)))) (pss_one (ps_ret pe_non)) pss_nil)
      (pss_cons (ps_asg (pe_partition (pv 0) pe_str) (pg_tup (by rfl) (pgs_cons (pg_name (i := 1) scAmtOf.nd rfl (Or.inl rfl)) (pgs_cons (pg_name (i := 2) scAmtOf.nd rfl (Or.inl rfl)) (pgs_cons (pg_name (i := 3) scAmtOf.nd rfl (Or.inl rfl)) pgs_nil)))))
      (pss_cons (ps_set (i := 4) scAmtOf.nd rfl (Or.inl rfl) (pe_bm PySem.F.plainAttrs_str PySem.F.slot_str_removeprefix PySem.F.type_str_removeprefix mt_removeprefix (pv 1) (pa_cons pe_str pa_nil)))
      (pss_cons (ps_if (PW.pt (pw_or (pt_not (pt_val (pe_call GN hr2 rfl gN kN bN .nil passL (pa_cons (pv 4) (pa_cons (pe_glob (v := .int 6) rfl h6 ⟨t6, rfl⟩) pa_nil))))) (pw_or1 (pt_cmpR op_eq (pv 1) pe_str (nomark _))))) (pss_one (ps_ret pe_non)) pss_nil)
      (pss_cons (ps_if (pt_cmpR op_eq (pv 2) pe_str (nomark _)) (pss_one (ps_ret (pe_make T.mkA GI hr rfl T.g bI hds passL (pa_cons (pe_callTy call_int_str rfl T.int boot_int' (pa_cons (pv 1) pa_nil)) pa_nil)))) pss_nil)
      (pss_cons (ps_if (PW.pt (pw_or (pt_not (pt_val (pe_call GN hr2 rfl gN kN bN .nil passL (pa_cons (pv 3) (pa_cons (pe_glob (v := .int 4) rfl h4 ⟨t4, rfl⟩) pa_nil))))) (pw_or1 (pt_not (pt_val (pe_call GG hr2 rfl gG kG bG .nil passL (pa_cons (pe_callTy call_int_str rfl T.int boot_int' (pa_cons (pv 3) pa_nil)) (pa_cons pe_int (pa_cons (pe_glob (v := .int 1000) rfl h1 ⟨t1, rfl⟩) pa_nil))))))))) (pss_one (ps_ret pe_non)) pss_nil)
      (pss_one (ps_ret (pe_make T.mkA GI hr rfl T.g bI2 .nil passL (pa_cons (pe_callTy call_int_str rfl T.int boot_int' (pa_cons (pv 1) pa_nil)) (pa_cons (pe_callTy call_int_str rfl T.int boot_int' (pa_cons (pv 3) pa_nil)) pa_nil)))))))))), ?_⟩
    rcases q with ⟨⟨ty, g1, g2⟩, q⟩ | ⟨z, rfl, hz, hz1, hz2, qn, qs⟩
    · exact ⟨_, rfl, x, _, ty, _, false, rfl, .ty "str", g1, g2, false, rfl, iteT q⟩
    refine ⟨_, rfl, .str z, _, _, _, true, rfl, .ty "str", TyX.base (.str z), tx_str, true, rfl, iteF ?_⟩
    unfold amtOf at qn qs
    refine ⟨_, rfl, ⟨_, rfl⟩, z, "/", rfl, rfl, by decide +kernel, Nat.le_trans hz (by decide), fun p hp => ?_⟩
    generalize hP : Txt.partition z "/" = P3 at hz1 hz2 qn qs
    obtain ⟨a, sl, b⟩ := P3
    have s1 := Same.upd (o := .tup [.str a, .str sl, .str b]) hp
    refine ⟨p, _, rfl, SqT.of upd_same, rfl, _, _, rfl, _, _, rfl, _, _, rfl, rfl, ?_⟩
    have ld : (Txt.removeprefix a "-").length ≤ 100000 := Nat.le_trans (PyProof.Rows.len_removeprefix a "-") (Nat.le_trans hz1 (by decide))
    refine ⟨_, rfl, rfl, a, "-", rfl, rfl, Nat.le_trans hz1 (by decide), ?_⟩
    refine ⟨_, rfl, Txt.removeprefix a "-", 6, rfl, ld, fun H1 s2 => ⟨_, rfl, ?_⟩⟩
    cases c1 : isNum (Txt.removeprefix a "-") 6 with
    | false =>
      rw [c1] at qn
      exact iteT (qn (if_pos rfl) _ (s1.trans s2))
    | true =>
      rw [c1] at qn qs
      refine iteF ⟨_, rfl, rfl, _, rfl, ?_⟩
      by_cases c2 : a = "-0"
      · rw [decide_eq_true c2] at qn
        exact if_true_of (decide_eq_true (congrArg V.str c2)) (qn (if_pos rfl) _ (s1.trans s2))
      · refine if_false_of (decide_eq_false fun y => c2 (V.str.inj y)) ⟨_, rfl, rfl, _, rfl, ?_⟩
        have c0 : ¬ (!true || decide (a = "-0")) = true := by
          rw [decide_eq_false c2]
          decide
        rw [if_neg c0] at qn qs
        obtain ⟨n, hn, bn, la⟩ := num_top c1
        have en : numOf a = n := by
          unfold numOf
          rw [hn]
          rfl
        by_cases c3 : sl = ""
        · rw [if_pos c3, en] at qs
          refine if_true_of (decide_eq_true (congrArg V.str c3)) ⟨_, rfl, a, n, rfl, hn, by omega, ?_⟩
          refine fun y dy hy hdy hne => spInit_imp (make_fact T (n := 64) (a := n) (b := 1) (by decide) (by decide) bn (by decide) hy hdy hne) fun v0 H2 ⟨hv0, t, u, sm, iy, e⟩ => ⟨hv0, ?_⟩
          exact qs n 1 rfl (.ref y) H2 t u (s1.trans (s2.trans sm)) iy e
        · rw [if_neg c3] at qn qs
          refine if_false_of (decide_eq_false fun y => c3 (V.str.inj y)) ?_
          refine ⟨_, rfl, b, 4, rfl, Nat.le_trans hz2 (by decide), fun H2 s3 => ⟨_, rfl, ?_⟩⟩
          have sA := s1.trans (s2.trans s3)
          cases c4 : isNum b 4 with
          | false =>
            rw [c4] at qn
            exact iteT (qn (if_pos rfl) _ sA)
          | true =>
            rw [c4] at qn qs
            obtain ⟨m, hm, bm, lb⟩ := num_bot c4
            have em : numOf b = m := by
              unfold numOf
              rw [hm]
              rfl
            rw [em] at qn qs
            refine iteF ⟨_, rfl, b, m, rfl, hm, by omega, .int m, 1, 1000, rfl, .inr ⟨m, rfl, _, rfl, ?_⟩⟩
            cases c5 : (decide (1 ≤ m) && decide (m ≤ 1000)) with
            | false =>
              rw [c5] at qn
              exact iteT (qn (if_pos rfl) _ sA)
            | true =>
              rw [c5, if_neg (by decide), en] at qs
              obtain ⟨d1, d2⟩ := Bool.and_eq_true_iff.mp c5
              have d1 := of_decide_eq_true d1
              refine iteF ⟨_, rfl, a, n, rfl, hn, by omega, _, rfl, b, m, rfl, hm, by omega, ?_⟩
              refine fun y dy hy hdy hne => spInit_imp (make_fact T (n := 64) (a := n) (b := m) (by omega) (by decide) bn bm hy hdy hne) fun v0 H3 ⟨hv0, t, u, sm, iy, e⟩ => ⟨hv0, ?_⟩
              exact qs n m rfl (.ref y) H3 t u (sA.trans sm) iy e
end
end K35

set_option Elab.async false
set_option linter.all false
set_option maxRecDepth 100000
set_option maxHeartbeats 4000000
set_option exponentiation.threshold 100000
namespace K35
open PySem PySem.Spec PyProof.Rows L2 Fa Fb NumText
abbrev sNumb : Stmt := top 71
/-- a line of a top and a bottom above 0 -/
def lineS (t u : Int) : Str := dec t ++ (if u = 1 then ("" : Str) else ("/" : Str) ++ dec u)
theorem log60 {n : Int} (h : n.natAbs < 10 ^ 60) : n.natAbs.log2 < 1920 := by
  by_cases z : n.natAbs = 0
  · rw [z]
    decide
  · exact (Nat.log2_lt z).mpr (Nat.lt_of_lt_of_le h (Nat.le_trans (by decide : 10 ^ 60 ≤ 2 ^ 200) (Nat.pow_le_pow_right (by decide) (by decide))))
theorem dec_len60 {n : Int} (h : n.natAbs < 10 ^ 60) : (dec n).length ≤ 1921 := PyProof.Rows.int_text_len_1921 (log60 h)
end K35

set_option Elab.async false
set_option linter.all false
set_option maxRecDepth 100000
set_option maxHeartbeats 4000000
set_option exponentiation.threshold 100000
namespace K35
open PySem PySem.Spec PyProof.Rows L2 Fa Fb NumText
theorem scNumb : FnScope ["_law_word", "_law_most", "_law_sign"] ["_law_word", "_law_most"] (defScope sNumb) := ⟨rfl, rfl, rfl, by decide +kernel, rfl, by decide +kernel, by decide +kernel⟩
/-- the signs that are not in c -/
def odd (l : List Nat) (c : Str) : List V := (l.filter fun x => !decide (x ∈ c.cps.toList)).map fun x => V.str ⟨#[x]⟩
theorem odd_empty : ∀ (l : List Nat) (c : Str), (odd l c).isEmpty = l.all fun x => decide (x ∈ c.cps.toList)
  | [], _ => rfl
  | x :: l, c => by
    have ih := odd_empty l c
    unfold odd at ih ⊢
    by_cases h : x ∈ c.cps.toList
    · rw [List.filter_cons, decide_eq_true h, List.all_cons, decide_eq_true h, Bool.true_and]
      exact ih
    · rw [List.filter_cons, decide_eq_false h, List.all_cons, decide_eq_false h, Bool.false_and]
      rfl
theorem odd_more {l : List Nat} {i c : Nat} {s : Str} (h : l[i]? = some c) : odd (l.take (i + 1)) s = if c ∈ s.cps.toList then odd (l.take i) s else odd (l.take i) s ++ [V.str ⟨#[c]⟩] := by
  unfold odd
  rw [List.take_add_one, h]
  show (List.filter _ (_ ++ [c])).map _ = _
  rw [List.filter_append, List.map_append]
  by_cases m : c ∈ s.cps.toList
  · rw [if_pos m, List.filter_cons, decide_eq_true m]
    simp
  · rw [if_neg m, List.filter_cons, decide_eq_false m]
    simp
theorem odd_len (l : List Nat) (c : Str) : (odd l c).length ≤ l.length := by
  unfold odd
  rw [List.length_map]
  exact List.length_filter_le ..
theorem take_all (z : Str) : z.cps.toList.take z.cps.size = z.cps.toList := List.take_of_length_le (by simp)
/-- the loop that gathers the odd signs of z -/
theorem lc_odd {z c : Str} {D : Addr} {H1 : Hp} {σ : L2.St} {i : Nat} {Qd : Hp → Prop} {te : TE} {tt : TT} (hD : H1 D = none) (hz : z.cps.size ≤ 100000)
    (htt : ∀ (ch : Nat) (H : Hp) (R : Bool → Hp → Prop), R (!decide (ch ∈ c.cps.toList)) H → tt ((wipe σ [i]).set i (some (.str ⟨#[ch]⟩))) H R) (hte : ∀ (ch : Nat) (H : Hp) (R : VK), R (.str ⟨#[ch]⟩) H → te ((wipe σ [i]).set i (some (.str ⟨#[ch]⟩))) H R)
    (hw : ∀ v : V, wipe ((wipe σ [i]).set i (some v)) [i] = wipe σ [i]) (hd : ∀ H, Same H1 H → H D = some (.lst (odd z.cps.toList c)) → Qd H) :
    ∃ W : Nat → Nat → Hp → Prop, (∃ m, W 0 m (upd H1 D (.lst []))) ∧ ∀ j m H, W j m H →
      ((Its z).stop j H ∧ Qd H) ∨ ((Its z).go j H ∧ ∃ Nx : Hp → Prop, (∀ H', Nx H' → ∃ m', m' < m ∧ W (j + 1) m' H') ∧ ∀ x H', (Its z).yld j H x H' → gName i x (wipe σ [i]) H' fun σ2 H2 => wipe σ2 [i] = wipe σ [i] ∧ tt σ2 H2 fun b H3 =>
        if b = true then te σ2 H3 fun y H4 => ∃ acc, H4 D = some (.lst acc) ∧ acc.length < sizeLine ∧ Nx (upd H4 D (.lst (acc ++ [y]))) else Nx H3) := by
  refine lc_signs (fun j H' => Same H1 H' ∧ H' D = some (.lst (odd (z.cps.toList.take j) c))) ⟨Same.upd hD, upd_same⟩ ?_ ?_
  · rintro j ch H hc ⟨s1, hl⟩
    have hc2 : z.cps.toList[j]? = some ch := by rw [Array.getElem?_toList]; exact hc
    have hj := (Array.getElem?_eq_some_iff.mp hc).1
    refine ⟨hw _, htt ch H _ ?_⟩
    by_cases m : ch ∈ c.cps.toList
    · rw [decide_eq_true m]
      show Same H1 H ∧ H D = _
      refine ⟨s1, ?_⟩
      rw [odd_more hc2, if_pos m]
      exact hl
    · rw [decide_eq_false m]
      refine hte ch H _ ⟨_, hl, ?_, same_put s1 hD, ?_⟩
      · refine Nat.lt_of_le_of_lt (odd_len _ _) ?_
        rw [List.length_take]
        exact Nat.lt_of_le_of_lt (Nat.min_le_left _ _) (Nat.lt_of_lt_of_le hj (Nat.le_trans hz (by decide)))
      · rw [upd_same, odd_more hc2, if_neg m]
  · rintro H ⟨s1, hl⟩
    rw [take_all] at hl
    exact hd H s1 hl
def spNumb : Sp := fun vs H Q _ => ∃ (z : Str) (m : Int), vs = [.str z, .int m] ∧ m ≤ 6 ∧ z.length ≤ 2000 ∧ (isNum z m = false → ∀ H', Same H H' → Q .non H') ∧ (isNum z m = true → ∀ H', Same H H' → Q (.int (numOf z)) H')
theorem zero_one {z : Str} {c : Nat} (h : z.cps.toList.head? = some c) : (c = 48 ∧ z.length ≤ 1) ↔ z = "0" := by
  have e : ("0" : Str) = ⟨#[48]⟩ := by decide +kernel
  have lz : z.cps.toList.length = z.length := by simp [Str.length]
  constructor
  · rintro ⟨rfl, hl⟩
    cases hq : z.cps.toList with
    | nil =>
      rw [hq] at h
      cases h
    | cons x r =>
      rw [hq] at h lz
      have hx : x = 48 := Option.some.inj h
      cases r with
      | cons y r =>
        rw [List.length_cons, List.length_cons] at lz
        omega
      | nil =>
        rw [StrLaws.mk_of_toList hq, hx, e]
  · intro hz
    rw [hz, e] at h ⊢
    exact ⟨(Option.some.inj h).symm, by decide⟩
section
variable {P : Program} {w : World} {K : PySem.W.Frag} {mg : Str → Option Value} {base : Heap} {f : Addr} {fd : FuncData}
theorem ok_numb (F : FnP K "_law_number" sNumb f fd) (T : AF K mg) (mL : mg "len" = none) : FnOk P w K mg base (L2.CX P w) 1 f fd ["_law_word", "_law_most"] spNumb := by
  refine F.ok scNumb (fun vs H Q E h => ?_) (fun cdv A outer s H vs Q E hr h => ?_)
  · obtain ⟨z, m, rfl, _⟩ := h
    rfl
  · obtain ⟨z, m, rfl, hm, hz, qn, qs⟩ := h
    have hz2 : z.length ≤ sizeLine := Nat.le_trans hz (by decide)
    have hu : (A.deeper (envOfC "_law_number" (defScope sNumb) s.heap.objs.size f cdv)).units + 64 < cLine := by
      have := hr.un
      omega
    refine ⟨_, pss_cons (ps_if (PW.pt (pw_or (pt_not (pt_chain op_lt op_le pe_int (pe_callB call_len_str rfl mL PySem.boot_len (pa_cons (pv 0) pa_nil)) (pv 1))) (pw_or1 (pt_cmpR (Fk.op_neNil hu)
        (pe_lc (own := [("_law_sign", 2)]) (g := gName 2) (tt := tTest (tOp (fun x y H Q => ∃ (c : Nat) (z : Str), x = .str ⟨#[c]⟩ ∧ y = .str z ∧ Q (.bl (!decide (c ∈ z.cps.toList))) H) (tVar 2) (tC (.str DIG)))) (te := tVar 2) (by rfl) scNumb.nd (pi_str (pv 0))
          (blkOk_by (own := [("_law_sign", 2)]) (N := ["_law_word", "_law_most", "_law_sign"]) (sc := defScope sNumb) (by decide +kernel)) (fun _ _ _ _ _ => pg_name (i := 2) scNumb.nd rfl (Or.inl rfl)) (fun _ _ _ _ _ => pts_one (pt_cmpR op_notIn_sign (pv 2) pe_str (by rfl))) (fun _ _ _ _ _ => pv 2))
        (pe_lst pa_nil) (nomark _))))) (pss_one (ps_ret pe_non)) pss_nil)
      (pss_one (ps_ret (pe_ifExp (PW.pt (pw_and (pt_cmpR op_eq (pe_ix ix_str (pv 0) pe_int (fun _ _ => rfl)) pe_str (nomark _)) (pw_and1 (pt_cmpR op_gt (pe_callB call_len_str rfl mL PySem.boot_len (pa_cons (pv 0) pa_nil)) pe_int (nomark _))))) pe_non (pe_callTy call_int_str rfl T.int boot_int' (pa_cons (pv 0) pa_nil))))), ?_⟩
    refine ⟨_, rfl, z, rfl, hz2, _, _, rfl, rfl, _, rfl, ?_⟩
    unfold isNum at qn qs
    by_cases c1 : 1 ≤ z.length
    · refine if_true_of (decide_eq_true (by omega)) ⟨_, rfl, _, _, rfl, rfl, _, rfl, ?_⟩
      by_cases c2 : (z.length : Int) ≤ m
      · rw [decide_eq_true c2]
        rw [decide_eq_true c1, decide_eq_true c2] at qn qs
        refine iteF ⟨_, rfl, z, rfl, fun D hD => ?_⟩
        refine lc_odd (i := 2) (c := DIG) hD (Nat.le_trans hz (by decide)) (fun ch H R h => ⟨_, rfl, ch, DIG, rfl, rfl, _, rfl, h⟩) (fun ch H R h => ⟨_, rfl, h⟩) (fun v => rfl) fun H1 s1 hl => ⟨by decide, fun e he => ?_⟩
        have s2 := s1.trans (Same.upd (o := .lst []) he)
        refine ⟨D, e, _, rfl, rfl, SqL.of (Same.upd he _ _ hl), SqL.of upd_same, _, rfl, ?_⟩
        rw [odd_empty]
        change (if (!only z DIG) = true then _ else _)
        cases c3 : only z DIG with
        | false =>
          rw [c3] at qn
          exact iteT (qn rfl _ s2)
        | true =>
          rw [c3] at qn qs
          refine iteF ?_
          have h0 : 0 < z.cps.toList.length := by
            have : z.cps.toList.length = z.length := by simp [Str.length]
            omega
          have hh : z.cps.toList.head? = some z.cps.toList[0] := by rw [List.head?_eq_getElem?, List.getElem?_eq_getElem h0]
          rw [hh] at qn qs
          have zo := zero_one hh
          refine ⟨_, rfl, z, _, _, rfl, rfl, hz2, atI_nat (j := 0) (List.getElem?_eq_getElem h0), rfl, _, rfl, ?_⟩
          have fin : isNum z m = true → numOf z = numOf z := fun _ => rfl
          have good : ∀ H', Same H H' → (decide (z = "0") || decide (z.cps.toList[0] ≠ 48)) = true → (∃ v, [some (V.str z), some (V.int m), none][0]? = some (some v) ∧ ∃ a n, [v] = [V.str a] ∧ intText? a = some n ∧ a.length ≤ 640 ∧ Q (.int n) H') := fun H' s' g => by
            have ok : isNum z m = true := by
              unfold isNum
              rw [decide_eq_true c1, decide_eq_true c2, c3, hh]
              exact g
            obtain ⟨d, ne, l⟩ := isNum_of ok
            have hn := intText_digits d ne (by omega)
            have q' := qs g H' s'
            unfold numOf at q'
            rw [hn] at q'
            exact ⟨_, rfl, z, _, rfl, hn, by omega, q'⟩
          by_cases c5 : z.cps.toList[0] = 48
          · refine if_true_of (decide_eq_true (congrArg V.str ((sign0 _).mpr c5))) ⟨_, rfl, z, rfl, hz2, _, _, rfl, rfl, _, rfl, ?_⟩
            by_cases c6 : z.length ≤ 1
            · have z0 := zo.mp ⟨c5, c6⟩
              refine if_false_of (decide_eq_false (by omega)) (good _ s2 ?_)
              rw [decide_eq_true z0, Bool.true_or]
            · refine if_true_of (decide_eq_true (by omega)) (qn ?_ _ s2)
              rw [decide_eq_false fun y => c6 (zo.mpr y).2]
              exact decide_eq_false (p := z.cps.toList[0] ≠ 48) fun h => h c5
          · refine if_false_of (decide_eq_false fun y => c5 ((sign0 _).mp (V.str.inj y))) (good _ s2 ?_)
            rw [decide_eq_true c5, Bool.or_true]
      · rw [decide_eq_false c2]
        rw [decide_eq_false c2, Bool.and_false, Bool.false_and] at qn
        exact iteT (qn rfl H (Same.refl _))
    · refine if_false_of (decide_eq_false (by omega)) ⟨_, rfl, iteT ?_⟩
      rw [decide_eq_false c1, Bool.false_and, Bool.false_and] at qn
      exact qn rfl H (Same.refl _)
end
end K35

set_option Elab.async false
set_option linter.all false
set_option maxRecDepth 100000
set_option maxHeartbeats 4000000
set_option exponentiation.threshold 100000
namespace K35
open PySem PySem.Spec PyProof.Rows L2 Fa Fb NumText TL
theorem app_assoc (a b c : Str) : (a ++ b) ++ c = a ++ (b ++ c) := by
  show (⟨(a.cps ++ b.cps) ++ c.cps⟩ : Str) = ⟨a.cps ++ (b.cps ++ c.cps)⟩
  rw [Array.append_assoc]
theorem nil_app (a : Str) : ("" : Str) ++ a = a := by
  have e : ("" : Str) = ⟨#[]⟩ := by decide +kernel
  rw [e]
  show (⟨#[] ++ a.cps⟩ : Str) = a
  rw [Array.empty_append]
abbrev SL : Str := "/"
theorem sl_is : SL = ⟨#[47]⟩ := by decide +kernel
theorem sl_tl : tl SL = 47 :: [] := by decide +kernel
theorem join_app (x : Str) (a : Str) (r : List Str) : Str.join SL ((x ++ a) :: r) = x ++ Str.join SL (a :: r) := by
  cases r with
  | nil => rfl
  | cons b r =>
    show (x ++ a) ++ SL ++ Str.join SL (b :: r) = x ++ (a ++ SL ++ Str.join SL (b :: r))
    rw [app_assoc, app_assoc, app_assoc]
theorem parts_list : ∀ l : List Nat, ∃ (a : Str) (r : List Str), (∀ p ∈ a :: r, 47 ∉ tl p) ∧ (⟨l.toArray⟩ : Str) = Str.join SL (a :: r)
  | [] => ⟨⟨#[]⟩, [], by intro p hp; rw [List.mem_singleton] at hp; subst hp; simp [tl], rfl⟩
  | c :: l => by
    obtain ⟨a, r, h1, h2⟩ := parts_list l
    have e : (⟨(c :: l).toArray⟩ : Str) = (⟨#[c]⟩ : Str) ++ (⟨l.toArray⟩ : Str) := by
      show (⟨(c :: l).toArray⟩ : Str) = ⟨#[c] ++ l.toArray⟩
      simp
    by_cases hc : c = 47
    · refine ⟨⟨#[]⟩, a :: r, ?_, ?_⟩
      · intro p hp
        rcases List.mem_cons.mp hp with m | m
        · subst m
          simp [tl]
        · exact h1 p m
      · rw [e, hc, h2, ← sl_is]
        show SL ++ Str.join SL (a :: r) = (⟨#[]⟩ : Str) ++ SL ++ Str.join SL (a :: r)
        have e0 : (⟨#[]⟩ : Str) = "" := by decide +kernel
        rw [e0, nil_app]
    · refine ⟨⟨#[c]⟩ ++ a, r, ?_, ?_⟩
      · intro p hp
        rcases List.mem_cons.mp hp with m | m
        · subst m
          intro z
          have z2 : 47 ∈ (#[c] ++ a.cps).toList := z
          rw [Array.toList_append] at z2
          rcases List.mem_append.mp z2 with y | y
          · exact hc (List.mem_singleton.mp y).symm
          · exact h1 a (List.mem_cons_self ..) y
        · exact h1 p (List.mem_cons_of_mem _ m)
      · rw [e, h2, join_app]
theorem parts_of (z : Str) : ∃ (a : Str) (r : List Str), (∀ p ∈ a :: r, 47 ∉ tl p) ∧ z = Str.join SL (a :: r) := by
  have h := parts_list z.cps.toList
  have e : (⟨z.cps.toList.toArray⟩ : Str) = z := by simp
  rw [e] at h
  exact h
theorem split_parts {a : Str} {r : List Str} (h : ∀ p ∈ a :: r, 47 ∉ tl p) : Txt.split (Str.join SL (a :: r)) SL = a :: r := by
  rw [← join_eq]
  exact split_join sl_tl (by decide +kernel) (by simp) h
theorem part_parts {a : Str} {r : List Str} (h : ∀ p ∈ a :: r, 47 ∉ tl p) : Txt.partition (Str.join SL (a :: r)) SL = (match r with | [] => (a, Str.empty, Str.empty) | b :: r' => (a, SL, Str.join SL (b :: r'))) := by
  cases r with
  | nil => exact partition_none sl_tl (h a (List.mem_cons_self ..))
  | cons b r => exact partition_app sl_tl (h a (List.mem_cons_self ..))
end K35

set_option Elab.async false
set_option linter.all false
set_option maxRecDepth 100000
set_option maxHeartbeats 4000000
set_option exponentiation.threshold 100000
namespace K35
open PySem PySem.Spec PyProof.Rows L2 Fa Fb NumText TL
abbrev MI : Str := "-"
theorem mi_is : MI = ⟨#[45]⟩ := by decide +kernel
theorem tl_mi (a : Str) : tl (MI ++ a) = 45 :: tl a := by
  rw [mi_is]
  show (#[45] ++ a.cps).toList = 45 :: a.cps.toList
  rw [Array.toList_append]
  rfl
theorem rp_mi (a : Str) : Txt.removeprefix (MI ++ a) MI = a := by
  rcases minus_rp (MI ++ a) with e | e
  · have h : tl (MI ++ a) = 45 :: tl (Txt.removeprefix (MI ++ a) MI) := e
    rw [tl_mi] at h
    have h2 := (List.cons.inj h).2
    exact (StrLaws.mk_of_toList h2.symm).trans (by simp)
  · exfalso
    rw [show ("-" : Str) = ⟨#[45]⟩ from mi_is, show MI = ⟨#[45]⟩ from mi_is, StrLaws.removeprefix_eq] at e
    have c2 := (StrLaws.subAt_one (⟨#[45]⟩ ++ a) 45 0).mpr (by
      show (#[45] ++ a.cps).toList[0]? = some 45
      rw [Array.toList_append]
      rfl)
    rw [if_pos (by rw [decide_eq_true c2.1, c2.2]; rfl)] at e
    have l := congrArg Str.length e
    have l1 : (⟨#[45]⟩ : Str).length = 1 := rfl
    have l2 : ((⟨#[45]⟩ : Str) ++ a).length = 1 + a.length := by
      show (#[45] ++ a.cps).size = 1 + a.cps.size
      rw [Array.size_append]
      rfl
    rw [l1, l2] at l
    have l3 : (⟨(((⟨#[45]⟩ : Str) ++ a).cps.toList.drop 1 |>.take (1 + a.length - 1)).toArray⟩ : Str).length ≤ a.length := by
      show ((((⟨#[45]⟩ : Str) ++ a).cps.toList.drop 1 |>.take (1 + a.length - 1)).toArray).size ≤ a.length
      rw [List.size_toArray, List.length_take]
      omega
    omega
theorem rp_no {a : Str} (h : ¬ ∃ r, tl a = 45 :: r) : Txt.removeprefix a MI = a := by
  rcases minus_rp a with e | e
  · exact absurd ⟨_, e⟩ h
  · exact e
theorem num_neg {a : Str} (h : isNum a 6 = true) : numOf (MI ++ a) = - numOf a := by
  obtain ⟨d, ne, l⟩ := isNum_of h
  have la : a.cps.toList.length = a.length := by simp [Str.length]
  have lm : (MI ++ a).length = 1 + a.length := by
    have : (tl (MI ++ a)).length = 1 + a.length := by
      rw [tl_mi, List.length_cons, la]
      omega
    simpa [Str.length] using this
  unfold numOf
  rw [intText_neg (tl_mi a) d ne (by omega), intText_digits d ne (by omega)]
  rfl
theorem zero_iff {a : Str} (h : isNum a 6 = true) : numOf a = 0 ↔ a = "0" := by
  obtain ⟨d, ne, l⟩ := isNum_of h
  have la : a.cps.toList.length = a.length := by simp [Str.length]
  have e := intText_digits d ne (by omega)
  constructor
  · intro z
    unfold numOf at z
    rw [e] at z
    have z2 : digitsVal a.cps.toList = 0 := by
      have : ((digitsVal a.cps.toList : Nat) : Int) = 0 := z
      omega
    unfold isNum at h
    simp only [Bool.and_eq_true, Bool.or_eq_true, decide_eq_true_eq] at h
    rcases h.2.2 with h2 | h2
    · exact h2
    · exfalso
      cases hq : a.cps.toList with
      | nil => exact ne hq
      | cons c r =>
        rw [hq] at h2 z2 d
        have hc : c ≠ 48 := of_decide_eq_true h2
        have := digitsVal_pos (cs := r) (show 49 ≤ c by have := d.head; omega)
        omega
  · intro z
    subst z
    decide +kernel
theorem mi_zero (a : Str) : MI ++ a = "-0" ↔ a = "0" := by
  constructor
  · intro h
    have h2 := congrArg tl h
    rw [tl_mi] at h2
    have e : tl ("-0" : Str) = 45 :: tl ("0" : Str) := by decide +kernel
    rw [e] at h2
    have h3 := (List.cons.inj h2).2
    exact (StrLaws.mk_of_toList h3).trans (by simp)
  · intro h
    subst h
    decide +kernel
theorem slash_no {b : Str} {m : Int} (h : 47 ∈ tl b) : isNum b m = false := by
  cases c : isNum b m with
  | false => rfl
  | true =>
    obtain ⟨d, _, _⟩ := isNum_of c
    have := d 47 h
    omega
end K35

set_option Elab.async false
set_option linter.all false
set_option maxRecDepth 100000
set_option maxHeartbeats 4000000
set_option exponentiation.threshold 100000
namespace K35
open PySem PySem.Spec PyProof.Rows L2 Fa Fb NumText TL
def rd (mi : Bool) (a : Str) (r : List Str) : Option (Int × Int) :=
  if (!isNum a 6 || (mi && decide (a = "0"))) = true then none
  else match r with
    | [] => some (if mi = true then -numOf a else numOf a, 1)
    | [b] => if (!isNum b 4 || !(decide (1 ≤ numOf b) && decide (numOf b ≤ 1000))) = true then none else some (if mi = true then -numOf a else numOf a, numOf b)
    | _ => none
theorem sl_ne : SL ≠ "" := by decide +kernel
theorem amtOf_at (A a : Str) (r : List Str) (mi : Bool) (hp : ∀ p ∈ A :: r, 47 ∉ tl p) (h1 : Txt.removeprefix A MI = a) (h2 : isNum a 6 = true → (A = "-0" ↔ (mi = true ∧ a = "0"))) (h3 : isNum a 6 = true → numOf A = if mi = true then -numOf a else numOf a) :
    amtOf (Str.join SL (A :: r)) = rd mi a r := by
  have pp := part_parts hp
  unfold amtOf rd
  cases r with
  | nil =>
    have e : Txt.partition (Str.join SL [A]) "/" = (A, Str.empty, Str.empty) := pp
    rw [e]
    show (if (!isNum (Txt.removeprefix A "-") 6 || decide (A = "-0")) = true then none else if Str.empty = "" then some (numOf A, 1) else _) = _
    rw [show Txt.removeprefix A "-" = a from h1]
    cases c : isNum a 6 with
    | false => rfl
    | true =>
      have c2 : decide (A = "-0") = (mi && decide (a = "0")) := by
        rw [Bool.eq_iff_iff, decide_eq_true_iff, h2 c, Bool.and_eq_true, decide_eq_true_iff]
      rw [c2, h3 c, if_pos (show Str.empty = "" by decide +kernel)]
  | cons b r' =>
    have e : Txt.partition (Str.join SL (A :: b :: r')) "/" = (A, SL, Str.join SL (b :: r')) := pp
    rw [e]
    show (if (!isNum (Txt.removeprefix A "-") 6 || decide (A = "-0")) = true then none else if SL = "" then some (numOf A, 1) else _) = _
    rw [show Txt.removeprefix A "-" = a from h1, if_neg sl_ne]
    cases c : isNum a 6 with
    | false => rfl
    | true =>
      have c2 : decide (A = "-0") = (mi && decide (a = "0")) := by
        rw [Bool.eq_iff_iff, decide_eq_true_iff, h2 c, Bool.and_eq_true, decide_eq_true_iff]
      rw [c2]
      cases r' with
      | nil =>
        show (if (!true || (mi && decide (a = "0"))) = true then none else if (!isNum b 4 || !(decide (1 ≤ numOf b) && decide (numOf b ≤ 1000))) = true then none else some (numOf A, numOf b)) = _
        rw [h3 c]
      | cons q r2 =>
        have bad : isNum (Str.join SL (b :: q :: r2)) 4 = false := slash_no (by
          show 47 ∈ tl (b ++ SL ++ Str.join SL (q :: r2))
          rw [tl_append, tl_append, sl_tl]
          simp)
        show (if (!true || (mi && decide (a = "0"))) = true then none else if (!isNum (Str.join SL (b :: q :: r2)) 4 || _) = true then none else _) = _
        rw [bad]
        rfl
theorem amtOf_mi {a : Str} {r : List Str} (hp : ∀ p ∈ a :: r, 47 ∉ tl p) : amtOf (Str.join SL ((MI ++ a) :: r)) = rd true a r := by
  refine amtOf_at (MI ++ a) a r true (fun p h => ?_) (rp_mi a) (fun _ => ?_) (fun c => ?_)
  · rcases List.mem_cons.mp h with e | e
    · rw [e, tl_mi]
      intro z
      rcases List.mem_cons.mp z with y | y
      · cases y
      · exact hp a (List.mem_cons_self ..) y
    · exact hp p (List.mem_cons_of_mem _ e)
  · rw [mi_zero]
    simp
  · rw [num_neg c]
    rfl
theorem amtOf_pl {a : Str} {r : List Str} (hp : ∀ p ∈ a :: r, 47 ∉ tl p) (hn : ¬ ∃ q, tl a = 45 :: q) : amtOf (Str.join SL (a :: r)) = rd false a r := by
  refine amtOf_at a a r false hp (rp_no hn) (fun _ => ?_) (fun c => rfl)
  constructor
  · intro h
    exfalso
    apply hn
    rw [h]
    exact ⟨[48], by decide +kernel⟩
  · rintro ⟨h, _⟩
    cases h
end K35

set_option Elab.async false
set_option linter.all false
set_option maxRecDepth 100000
set_option maxHeartbeats 4000000
set_option exponentiation.threshold 100000
namespace K35
open PySem PySem.Spec PyProof.Rows L2 Fa Fb NumText TL
theorem cut_all (z : Str) : cutS z (some 0) none = z := by
  have e : HT.sIx z.length 0 (some ((0 : Nat) : Int)) = 0 := by rw [HT.sIx_nat]; omega
  show (⟨((z.cps.toList.drop (HT.sIx z.length 0 (some ((0 : Nat) : Int)))).take (z.length - HT.sIx z.length 0 (some ((0 : Nat) : Int)))).toArray⟩ : Str) = z
  rw [e, List.drop_zero, Nat.sub_zero, List.take_of_length_le (by simp [Str.length])]
theorem cut_mi (a : Str) : cutS (MI ++ a) (some 1) none = a ∧ cutS (MI ++ a) none (some 1) = MI := by
  have t : (MI ++ a).cps.toList = 45 :: a.cps.toList := tl_mi a
  have l : (MI ++ a).length = a.cps.toList.length + 1 := by
    show (MI ++ a).cps.size = _
    rw [← Array.length_toList, t, List.length_cons]
  have e : HT.sIx (MI ++ a).length 0 (some ((1 : Nat) : Int)) = 1 := by rw [HT.sIx_nat]; omega
  have e2 : HT.sIx (MI ++ a).length (MI ++ a).length (some ((1 : Nat) : Int)) = 1 := by rw [HT.sIx_nat]; omega
  constructor
  · show (⟨(((MI ++ a).cps.toList.drop (HT.sIx (MI ++ a).length 0 (some ((1 : Nat) : Int)))).take ((MI ++ a).length - HT.sIx (MI ++ a).length 0 (some ((1 : Nat) : Int)))).toArray⟩ : Str) = a
    rw [e, t, List.drop_succ_cons, List.drop_zero, l, Nat.add_sub_cancel, List.take_length]
  · show (⟨(((MI ++ a).cps.toList.drop 0).take (HT.sIx (MI ++ a).length (MI ++ a).length (some ((1 : Nat) : Int)) - 0)).toArray⟩ : Str) = MI
    rw [e2, t, mi_is]
    rfl
theorem cut_pl {z : Str} (h : ¬ ∃ q, tl z = 45 :: q) : cutS z none (some 1) ≠ MI := by
  intro e
  have e0 : HT.sIx z.length z.length (some ((1 : Nat) : Int)) = min 1 z.length := HT.sIx_nat ..
  have e1 : (⟨((z.cps.toList.drop 0).take (HT.sIx z.length z.length (some ((1 : Nat) : Int)) - 0)).toArray⟩ : Str) = MI := e
  rw [e0, mi_is] at e1
  have e2 : (z.cps.toList.take (min 1 z.length)) = [45] := by
    have := congrArg (fun y : Str => y.cps.toList) e1
    simpa using this
  apply h
  cases q : z.cps.toList with
  | nil =>
    rw [q] at e2
    cases (e2 : List.take _ [] = _) ▸ (List.take_nil (i := min 1 z.length)).symm
  | cons c r =>
    rw [q] at e2
    have lz : z.length = r.length + 1 := by
      show z.cps.size = _
      rw [← Array.length_toList, q, List.length_cons]
    rw [lz, show min 1 (r.length + 1) = 1 by omega, List.take_succ_cons] at e2
    refine ⟨r, ?_⟩
    show z.cps.toList = _
    rw [q, (List.cons.inj e2).1]
theorem sgn_of (z : Str) : (∃ y, z = MI ++ y) ∨ ¬ ∃ q, tl z = 45 :: q := by
  by_cases h : ∃ q, tl z = 45 :: q
  · left
    obtain ⟨q, hq⟩ := h
    refine ⟨⟨q.toArray⟩, ?_⟩
    have : tl (MI ++ (⟨q.toArray⟩ : Str)) = tl z := by rw [tl_mi, hq]
    have t2 : (MI ++ (⟨q.toArray⟩ : Str)).cps.toList = z.cps.toList := this
    exact (StrLaws.mk_of_toList t2.symm).trans (by simp)
  · exact Or.inr h
theorem join_len : ∀ (a : Str) (r : List Str) (p : Str), p ∈ a :: r → (tl p).length ≤ (tl (Str.join SL (a :: r))).length
  | a, [], p, h => by
    rw [List.mem_singleton] at h
    subst h
    exact Nat.le_refl _
  | a, b :: r, p, h => by
    show (tl p).length ≤ (tl (a ++ SL ++ Str.join SL (b :: r))).length
    rw [tl_append, tl_append, List.length_append, List.length_append]
    rcases List.mem_cons.mp h with m | m
    · subst m
      omega
    · have := join_len b r p m
      omega
theorem tl_len (z : Str) : (tl z).length = z.length := by simp [tl, Str.length]
abbrev sRdA : Stmt := top 72
theorem scRdA : FnScope ["_law_word", "_law_minus", "_law_parts", "_law_top", "_law_bottom"] ["_law_word"] (defScope sRdA) := ⟨rfl, rfl, rfl, by decide +kernel, rfl, by decide +kernel, by decide +kernel⟩
def spRead : Sp := fun vs H Q _ => ∃ z : Str, vs = [.str z] ∧ z.length ≤ 2000 ∧ (amtOf z = none → ∀ H', Same H H' → Q .non H') ∧
  ∀ a b, amtOf z = some (a, b) → ∀ p t u H', Same H H' → H p = none → Am.Red t u → t * b = a * u → H' p = some (.tup [.int t, .int u]) → Q (.ref p) H'
def NumV (z : Str) (m : Int) (v : V) : Prop := (isNum z m = false ∧ v = .non) ∨ (isNum z m = true ∧ v = .int (numOf z))
theorem numb_imp {z : Str} {m : Int} {H : Hp} {Q : VK} {E : XK} (hm : m ≤ 6) (hz : z.length ≤ 2000) (h : ∀ v H', Same H H' → NumV z m v → Q v H') : spNumb [.str z, .int m] H Q E :=
  ⟨z, m, rfl, hm, hz, fun c H' s => h _ H' s (.inl ⟨c, rfl⟩), fun c H' s => h _ H' s (.inr ⟨c, rfl⟩)⟩
theorem rd1 {mi : Bool} {a b : Str} (c1 : isNum a 6 = true) : rd mi a [b] = if (mi && decide (a = "0")) = true then none else if (!isNum b 4 || !(decide (1 ≤ numOf b) && decide (numOf b ≤ 1000))) = true then none else some (if mi = true then -numOf a else numOf a, numOf b) := by
  unfold rd
  rw [c1]
  rfl
theorem rd2 {mi : Bool} {a b c : Str} {r : List Str} (c1 : isNum a 6 = true) : rd mi a (b :: c :: r) = none := by
  unfold rd
  rw [c1]
  exact ite_self _
section
variable {P : Program} {w : World} {K : PySem.W.Frag} {mg : Str → Option Value} {base : Heap} {f fL fN : Addr} {fd fdL fdN : FuncData} {aU : Addr}
theorem ok_read (F : FnP K "_law_read_amount" sRdA f fd) (T : AF K mg) (ZV : VF K mg aU) (mL : mg "len" = none) (GL : Fn P w K mg base "_law_lowest" 1 ["_law_top", "_law_bottom"] spLow fL fdL) (GN : Fn P w K mg base "_law_number" 1 ["_law_word", "_law_most"] spNumb fN fdN) :
    FnOk P w K mg base (L2.CX P w) 2 f fd ["_law_word"] spRead := by
  refine F.ok scRdA (fun vs H Q E h => ?_) (fun cdv A outer s H vs Q E hr h => ?_)
  · obtain ⟨z, rfl, _⟩ := h
    rfl
  · obtain ⟨z, rfl, hz, qn, qs⟩ := h
    have hz2 : z.length + 2 ≤ sizeLine := Nat.le_trans (Nat.add_le_add_right hz 2) (by decide)
    refine ⟨_, pss_cons (ps_set (i := 1) scRdA.nd rfl (Or.inl rfl) (pe_cmpR op_eq (pe_slice sl_str (pv 0) po_none (po_some pe_int)) pe_str (nomark _)))
      (pss_cons (ps_set (i := 2) scRdA.nd rfl (Or.inl rfl) (pe_split (pe_slice sl_str (pv 0) (po_some (pe_callTy call_int1 rfl T.int boot_int' (pa_cons (pv 1) pa_nil))) po_none) pe_str))
      (pss_cons (ps_set (i := 3) scRdA.nd rfl (Or.inl rfl) (pe_call GN.ok hr rfl GN.g GN.k GN.b .nil passL (pa_cons (pe_ix ix_list (pv 2) pe_int (fun _ _ => rfl)) (pa_cons pe_int pa_nil))))
      (pss_cons (ps_set (i := 4) scRdA.nd rfl (Or.inl rfl) (pe_ifExp (pt_cmpR op_eq (pe_callB call_len_seq rfl mL PySem.boot_len (pa_cons (pv 2) pa_nil)) pe_int (nomark _)) pe_int
        (pe_call GN.ok hr rfl GN.g GN.k GN.b .nil passL (pa_cons (pe_ix ix_list (pv 2) pe_int (fun _ _ => rfl)) (pa_cons pe_int pa_nil)))))
      (pss_cons (ps_if (PW.pt (pw_or (pt_cmpR op_gt (pe_callB call_len_seq rfl mL PySem.boot_len (pa_cons (pv 2) pa_nil)) pe_int (nomark _)) (pw_or (pt_cmpR op_isN (pv 3) pe_non (nomark _)) (pw_or (pt_cmpR op_isN (pv 4) pe_non (nomark _))
          (pw_or (pt_not (pt_chain op_le op_le pe_int (pv 4) pe_int)) (pw_or1 (PW.pt (pw_and (pt_val (pv 1)) (pw_and1 (pt_cmpR op_eq (pv 3) pe_int (nomark _)))))))))))
        (pss_one (ps_ret pe_non)) pss_nil)
      (pss_one (ps_ret (pe_call GL.ok hr rfl GL.g GL.k GL.b .nil passL (pa_cons (pe_ifExp (pt_val (pv 1)) (pe_op op_sub pe_int (pv 3)) (pv 3)) (pa_cons (pv 4) pa_nil))))))))), ?_⟩
    obtain ⟨mi, a, r, e1, e2, hp, e3⟩ : ∃ (mi : Bool) (a : Str) (r : List Str), decide (V.str (cutS z none (some 1)) = V.str "-") = mi ∧ cutS z (some (if mi = true then 1 else 0)) none = Str.join SL (a :: r) ∧ (∀ p ∈ a :: r, 47 ∉ tl p) ∧ amtOf z = rd mi a r := by
      rcases sgn_of z with ⟨y, rfl⟩ | h
      · obtain ⟨a, r, hp, rfl⟩ := parts_of y
        refine ⟨true, a, r, decide_eq_true (congrArg V.str (cut_mi _).2), (cut_mi _).1, hp, ?_⟩
        rw [← join_app]
        exact amtOf_mi hp
      · obtain ⟨a, r, hp, rfl⟩ := parts_of z
        refine ⟨false, a, r, decide_eq_false fun y => cut_pl h (V.str.inj y), cut_all _, hp, amtOf_pl hp fun ⟨q, hq⟩ => h ?_⟩
        cases r with
        | nil => exact ⟨q, hq⟩
        | cons b r =>
          refine ⟨q ++ tl SL ++ tl (Str.join SL (b :: r)), ?_⟩
          show tl (a ++ SL ++ Str.join SL (b :: r)) = _
          rw [tl_append, tl_append, hq]
          rfl
    rw [e3] at qn qs
    have lj : (Str.join SL (a :: r)).length ≤ z.length := by
      rw [← e2]
      exact cutS_length ..
    have lp : ∀ p ∈ a :: r, p.length ≤ 2000 := fun p hm => by
      have := join_len a r p hm
      rw [tl_len, tl_len] at this
      omega
    refine ⟨_, rfl, _, rfl, z, rfl, Nat.le_trans (Nat.le_add_right _ 2) hz2, rfl, ?_⟩
    rw [e1]
    refine ⟨_, rfl, _, rfl, .inr ⟨mi, rfl, _, rfl, z, rfl, Nat.le_trans (Nat.le_add_right _ 2) hz2, ⟨_, rfl⟩, _, _, rfl, rfl, by decide +kernel, ?_, fun D hD => ?_⟩⟩
    · exact Nat.le_trans (Nat.add_le_add_right (cutS_length ..) 2) hz2
    rw [e2, split_parts hp]
    have s1 := Same.upd (o := .lst ((a :: r).map V.str)) hD
    have at0 : atI ((a :: r).map V.str) 0 = some (V.str a) := atI_nat (j := 0) rfl
    have at1 : ∀ b r', r = b :: r' → atI ((a :: r).map V.str) 1 = some (V.str b) := fun b r' e => by
      subst e
      exact atI_nat (j := 1) rfl
    have lenT : ∀ b c r', r = b :: c :: r' → decide ((2 : Int) < (((a :: r).map V.str).length : Int)) = true := fun b c r' e => by
      subst e
      rw [decide_eq_true_iff]
      simp
      omega
    have lenF : ∀ b, r = [b] → decide ((2 : Int) < (((a :: r).map V.str).length : Int)) = false := fun b e => by
      subst e
      simp
    have len1 : ∀ b r', r = b :: r' → decide (V.int (((a :: r).map V.str).length : Int) = V.int 1) = false := fun b r' e => by
      subst e
      refine decide_eq_false fun y => ?_
      have := V.int.inj y
      simp at this
      omega
    have lowOk : ∀ (m : Int), 1 ≤ m → m ≤ 1000 → m ≠ 0 ∧ m.natAbs < 2 ^ 8000 := fun m h1 h2 => ⟨by omega, Nat.lt_of_lt_of_le (show m.natAbs < 2 ^ 10 by omega) (Nat.pow_le_pow_right (by decide) (by decide))⟩
    refine ⟨_, rfl, D, _, 0, _, rfl, rfl, SqL.of upd_same, at0, a, 6, rfl, by decide, lp a (List.mem_cons_self ..), fun c1 H1 s2 => ?_, fun c1 H1 s2 => ?_⟩
    · have hD1 : H1 D = some (.lst ((a :: r).map V.str)) := s2 _ _ upd_same
      have sA := s1.trans s2
      have rn : rd mi a r = none := by
        unfold rd
        rw [c1]
        rfl
      cases hr' : r with
      | nil =>
        subst hr'
        refine ⟨_, rfl, D, _, rfl, .inl (SqL.of hD1), rfl, _, rfl, if_true_of (decide_eq_true rfl) ?_⟩
        exact ⟨_, rfl, D, _, rfl, .inl (SqL.of hD1), _, _, rfl, rfl, _, rfl, if_false_of (decide_eq_false (show ¬ (2 : Int) < ((List.map V.str [a]).length : Int) by simp)) ⟨_, rfl, rfl, _, rfl, if_true_of (decide_eq_true rfl) (qn rn _ sA)⟩⟩
      | cons b r' =>
        refine ⟨_, rfl, D, _, rfl, .inl (SqL.of hD1), rfl, _, rfl, if_false_of (len1 b r' hr') ⟨_, rfl, D, _, 1, _, rfl, rfl, SqL.of hD1, at1 b r' hr', b, 4, rfl, by decide, lp b (by rw [hr']; simp), fun c2 H2 s3 => ?_, fun c2 H2 s3 => ?_⟩⟩
        · refine ⟨_, rfl, D, _, rfl, .inl (SqL.of (s3 _ _ hD1)), _, _, rfl, rfl, _, rfl, ?_⟩
          cases hr2 : r' with
          | nil => exact if_false_of (lenF b (hr'.trans (by rw [hr2]))) ⟨_, rfl, rfl, _, rfl, if_true_of (decide_eq_true rfl) (qn rn _ (sA.trans s3))⟩
          | cons c r2 => exact if_true_of (lenT b c r2 (hr'.trans (by rw [hr2]))) (qn rn _ (sA.trans s3))
        · refine ⟨_, rfl, D, _, rfl, .inl (SqL.of (s3 _ _ hD1)), _, _, rfl, rfl, _, rfl, ?_⟩
          cases hr2 : r' with
          | nil => exact if_false_of (lenF b (hr'.trans (by rw [hr2]))) ⟨_, rfl, rfl, _, rfl, if_true_of (decide_eq_true rfl) (qn rn _ (sA.trans s3))⟩
          | cons c r2 => exact if_true_of (lenT b c r2 (hr'.trans (by rw [hr2]))) (qn rn _ (sA.trans s3))
    · have hD1 : H1 D = some (.lst ((a :: r).map V.str)) := s2 _ _ upd_same
      have sA := s1.trans s2
      have z1 := zero_iff c1
      cases hr' : r with
      | nil =>
        subst hr'
        refine ⟨_, rfl, D, _, rfl, .inl (SqL.of hD1), rfl, _, rfl, if_true_of (decide_eq_true rfl) ?_⟩
        refine ⟨_, rfl, D, _, rfl, .inl (SqL.of hD1), _, _, rfl, rfl, _, rfl, if_false_of (decide_eq_false (show ¬ (2 : Int) < ((List.map V.str [a]).length : Int) by simp)) ⟨_, rfl, rfl, _, rfl, if_false_of (decide_eq_false (by simp)) ⟨_, rfl, rfl, _, rfl, if_false_of (decide_eq_false (by simp)) ?_⟩⟩⟩
        refine ⟨_, rfl, _, _, rfl, rfl, _, rfl, if_true_of (decide_eq_true (by decide)) ⟨_, _, rfl, rfl, _, rfl, ?_⟩⟩
        rw [decide_eq_true (show (1 : Int) ≤ 1000 by decide)]
        have lo := lowOk 1 (by decide) (by decide)
        have r1 : mi = true → a = "0" → rd mi a [] = none := fun h1 h2 => by
          unfold rd
          rw [c1, h1, decide_eq_true h2]
          rfl
        have r2 : mi = false → rd mi a [] = some (numOf a, 1) := fun h1 => by
          unfold rd
          rw [c1, h1]
          rfl
        have r3 : mi = true → a ≠ "0" → rd mi a [] = some (-numOf a, 1) := fun h1 h2 => by
          unfold rd
          rw [c1, h1, decide_eq_false h2]
          rfl
        refine iteF ⟨_, rfl, mi, rfl, ?_⟩
        cases hmi : mi with
        | false =>
          refine iteF (iteF ⟨_, rfl, _, rfl, iteF ⟨_, rfl, _, rfl, _, _, rfl, lo.1, lo.2, fun p t u hp rr e _ _ => ?_⟩⟩)
          exact qs _ _ (r2 hmi) p t u _ ((sA).trans (Same.upd hp)) (none_of (sA) hp) rr e upd_same
        | true =>
          refine iteT ⟨_, rfl, rfl, _, rfl, ?_⟩
          by_cases c5 : numOf a = 0
          · exact if_true_of (decide_eq_true (congrArg V.int c5)) (qn (r1 hmi (z1.mp c5)) _ (sA))
          · refine if_false_of (decide_eq_false fun y => c5 (V.int.inj y)) ⟨_, rfl, _, rfl, iteT ⟨_, rfl, _, _, rfl, rfl, _, rfl, _, _, rfl, lo.1, lo.2, fun p t u hp rr e _ _ => ?_⟩⟩
            rw [Int.zero_sub] at e
            exact qs _ _ (r3 hmi fun y => c5 (z1.mpr y)) p t u _ ((sA).trans (Same.upd hp)) (none_of (sA) hp) rr e upd_same
      | cons b r' =>
        refine ⟨_, rfl, D, _, rfl, .inl (SqL.of hD1), rfl, _, rfl, if_false_of (len1 b r' hr') ⟨_, rfl, D, _, 1, _, rfl, rfl, SqL.of hD1, at1 b r' hr', b, 4, rfl, by decide, lp b (by rw [hr']; simp), fun c2 H2 s3 => ?_, fun c2 H2 s3 => ?_⟩⟩
        · have rn : rd mi a r = none := by
            rw [hr']
            cases r' with
            | nil =>
              rw [rd1 c1, c2]
              exact ite_self _
            | cons c r2 => exact rd2 c1
          refine ⟨_, rfl, D, _, rfl, .inl (SqL.of (s3 _ _ hD1)), _, _, rfl, rfl, _, rfl, ?_⟩
          cases hr2 : r' with
          | nil => exact if_false_of (lenF b (hr'.trans (by rw [hr2]))) ⟨_, rfl, rfl, _, rfl, if_false_of (decide_eq_false (by simp)) ⟨_, rfl, rfl, _, rfl, if_true_of (decide_eq_true rfl) (qn rn _ (sA.trans s3))⟩⟩
          | cons c r2 => exact if_true_of (lenT b c r2 (hr'.trans (by rw [hr2]))) (qn rn _ (sA.trans s3))
        · refine ⟨_, rfl, D, _, rfl, .inl (SqL.of (s3 _ _ hD1)), _, _, rfl, rfl, _, rfl, ?_⟩
          cases hr2 : r' with
          | cons c r2 =>
            refine if_true_of (lenT b c r2 (hr'.trans (by rw [hr2]))) (qn ?_ _ (sA.trans s3))
            rw [hr', hr2]
            exact rd2 c1
          | nil =>
            have er : r = [b] := hr'.trans (by rw [hr2])
            refine if_false_of (lenF b er) ⟨_, rfl, rfl, _, rfl, if_false_of (decide_eq_false (by simp)) ⟨_, rfl, rfl, _, rfl, if_false_of (decide_eq_false (by simp)) ?_⟩⟩
            have bad : (decide (1 ≤ numOf b) && decide (numOf b ≤ 1000)) = false → rd mi a r = none := fun h => by
              rw [er, rd1 c1, c2, h]
              exact ite_self _
            refine ⟨_, rfl, _, _, rfl, rfl, _, rfl, ?_⟩
            by_cases b1 : 1 ≤ numOf b
            · refine if_true_of (decide_eq_true b1) ⟨_, _, rfl, rfl, _, rfl, ?_⟩
              by_cases b2 : numOf b ≤ 1000
              · rw [decide_eq_true b2]
                have lo := lowOk (numOf b) b1 b2
                have r1 : mi = true → a = "0" → rd mi a r = none := fun h1 h2 => by
                  unfold rd
                  rw [c1, h1, decide_eq_true h2]
                  rfl
                have r2 : mi = false → rd mi a r = some (numOf a, numOf b) := fun h1 => by
                  rw [er, rd1 c1, h1, c2, decide_eq_true b1, decide_eq_true b2]
                  rfl
                have r3 : mi = true → a ≠ "0" → rd mi a r = some (-numOf a, numOf b) := fun h1 h2 => by
                  rw [er, rd1 c1, h1, decide_eq_false h2, c2, decide_eq_true b1, decide_eq_true b2]
                  rfl
                refine iteF ⟨_, rfl, mi, rfl, ?_⟩
                cases hmi : mi with
                | false =>
                  refine iteF (iteF ⟨_, rfl, _, rfl, iteF ⟨_, rfl, _, rfl, _, _, rfl, lo.1, lo.2, fun p t u hp rr e _ _ => ?_⟩⟩)
                  exact qs _ _ (r2 hmi) p t u _ ((sA.trans s3).trans (Same.upd hp)) (none_of (sA.trans s3) hp) rr e upd_same
                | true =>
                  refine iteT ⟨_, rfl, rfl, _, rfl, ?_⟩
                  by_cases c5 : numOf a = 0
                  · exact if_true_of (decide_eq_true (congrArg V.int c5)) (qn (r1 hmi (z1.mp c5)) _ (sA.trans s3))
                  · refine if_false_of (decide_eq_false fun y => c5 (V.int.inj y)) ⟨_, rfl, _, rfl, iteT ⟨_, rfl, _, _, rfl, rfl, _, rfl, _, _, rfl, lo.1, lo.2, fun p t u hp rr e _ _ => ?_⟩⟩
                    rw [Int.zero_sub] at e
                    exact qs _ _ (r3 hmi fun y => c5 (z1.mpr y)) p t u _ ((sA.trans s3).trans (Same.upd hp)) (none_of (sA.trans s3) hp) rr e upd_same
              · rw [decide_eq_false b2]
                refine iteT (qn (bad ?_) _ (sA.trans s3))
                rw [decide_eq_false b2, Bool.and_false]
            · refine if_false_of (decide_eq_false b1) ⟨_, rfl, iteT (qn (bad ?_) _ (sA.trans s3))⟩
              rw [decide_eq_false b1, Bool.false_and]
end
end K35

set_option Elab.async false
set_option linter.all false
set_option maxRecDepth 100000
set_option maxHeartbeats 1000000
set_option exponentiation.threshold 100000
namespace K35
open PySem PySem.Spec PyProof.Rows L2 Fa Fb
/-! ### the law's rows and cues -/
/-- a fraction of the law at p -/
structure Fr (n : Nat) (H : Hp) (p : Addr) (t u : Int) : Prop where
  at_ : H p = some (.tup [.int t, .int u])
  rd : Am.Red t u
  bt : t.natAbs < 2 ^ n
  bu : u.natAbs < 2 ^ n
/-- what is no list stays -/
theorem Fr.kt {n : Nat} {H H' : Hp} {p : Addr} {t u : Int} (h : Fr n H p t u) (k : KT H H') : Fr n H' p t u := ⟨k _ _ h.at_ (fun _ e => by cases e), h.rd, h.bt, h.bu⟩
theorem Fr.mono {n m : Nat} {H : Hp} {p : Addr} {t u : Int} (h : Fr n H p t u) (e : n ≤ m) : Fr m H p t u := ⟨h.at_, h.rd, pow_step h.bt e, pow_step h.bu e⟩
structure Li where
  q : Addr
  a : Addr
  s : Str
  t : Int
  u : Int
def LiOk (n : Nat) (H : Hp) (g : Li) : Prop := H g.q = some (.tup [.str g.s, .ref g.a]) ∧ Fr n H g.a g.t g.u ∧ PyData.strOk g.s = true
theorem LiOk.kt {n : Nat} {H H' : Hp} {g : Li} (h : LiOk n H g) (k : KT H H') : LiOk n H' g := ⟨k _ _ h.1 (fun _ e => by cases e), h.2.1.kt k, h.2.2⟩
theorem LiOk.mono {n m : Nat} {H : Hp} {g : Li} (h : LiOk n H g) (e : n ≤ m) : LiOk m H g := ⟨h.1, h.2.1.mono e, h.2.2⟩
structure LRow (n : Nat) (H : Hp) (p : Addr) (gs : List Li) : Prop where
  l : H p = some (.tup (gs.map fun g => V.ref g.q))
  ok : ∀ g ∈ gs, LiOk n H g
  n : gs.length ≤ 40
theorem LRow.kt {n : Nat} {H H' : Hp} {p : Addr} {gs : List Li} (h : LRow n H p gs) (k : KT H H') : LRow n H' p gs := ⟨k _ _ h.l (fun _ e => by cases e), fun g hg => (h.ok g hg).kt k, h.n⟩
theorem LRow.mono {n m : Nat} {H : Hp} {p : Addr} {gs : List Li} (h : LRow n H p gs) (e : n ≤ m) : LRow m H p gs := ⟨h.l, fun g hg => (h.ok g hg).mono e, h.n⟩
def lrv (gs : List Li) : M04.Row := gs.map fun g => (g.s, vq g.t g.u)
def lid (g : Li) : PyData := .tuple [.str g.s, .tuple [.int g.t, .int g.u]]
def rowd (gs : List Li) : PyData := .tuple (gs.map lid)
theorem li_dp {K : PySem.W.Frag} {n : Nat} {H : Hp} {g : Li} (h : LiOk n H g) : Dp K H (.ref g.q) (lid g) := .tup (SqT.of h.1) (.cons (.str _) (.cons (.tup (SqT.of h.2.1.at_) (.cons (.int _) (.cons (.int _) .nil))) .nil))
theorem lis_dp {K : PySem.W.Frag} {n : Nat} {H : Hp} : ∀ {gs : List Li}, (∀ g ∈ gs, LiOk n H g) → DpAll K H (gs.map fun g => V.ref g.q) (gs.map lid)
  | [], _ => .nil
  | g :: r, h => .cons (li_dp (h g List.mem_cons_self)) (lis_dp fun x hx => h x (List.mem_cons_of_mem _ hx))
theorem row_dp {K : PySem.W.Frag} {n : Nat} {H : Hp} {p : Addr} {gs : List Li} (h : LRow n H p gs) : Dp K H (.ref p) (rowd gs) := .tup (SqT.of h.l) (lis_dp h.ok)
theorem lid_lay (g : Li) (h : PyData.strOk g.s = true) : (lid g).canLay0 = true := by simp [lid, PyData.canLay0, PyData.canLayAll0, h]
theorem lid_depth (g : Li) : (lid g).depth = 2 := by simp [lid, PyData.depth, PyData.depthAll]
theorem lids_lay : ∀ gs : List Li, (∀ g ∈ gs, PyData.strOk g.s = true) → PyData.canLayAll0 (gs.map lid) = true
  | [], _ => rfl
  | g :: r, h => by simp only [List.map_cons, PyData.canLayAll0, lid_lay g (h g List.mem_cons_self), lids_lay r fun x hx => h x (List.mem_cons_of_mem _ hx), Bool.and_self]
theorem lids_depth : ∀ gs : List Li, PyData.depthAll (gs.map lid) ≤ 2
  | [] => by simp [PyData.depthAll]
  | g :: r => by
    have := lids_depth r
    simp only [List.map_cons, PyData.depthAll, lid_depth]
    omega
theorem rowd_lay (gs : List Li) (h : ∀ g ∈ gs, PyData.strOk g.s = true) : (rowd gs).canLay0 = true := by
  unfold rowd
  simp only [PyData.canLay0, lids_lay gs h]
theorem rowd_depth (gs : List Li) : (rowd gs).depth ≤ 3 := by
  have := lids_depth gs
  unfold rowd
  simp only [PyData.depth]
  omega
theorem rowd_shaped (gs : List Li) (h : ∀ g ∈ gs, PyData.strOk g.s = true) : SeqAt.shaped (rowd gs) = true := by
  unfold SeqAt.shaped
  rw [rowd_lay gs h, Bool.true_and]
  have := rowd_depth gs
  exact decide_eq_true (by omega)
theorem lid_eqv {g h : Li} (a : Am.Red g.t g.u) (b : Am.Red h.t h.u) : PyData.eqv (lid g) (lid h) = decide ((g.s, vq g.t g.u) = (h.s, vq h.t h.u)) := by
  have e : PyData.eqv (lid g) (lid h) = (decide (g.s = h.s) && (decide (g.t = h.t) && decide (g.u = h.u))) := by
    simp [lid, PyData.eqv, PyData.eqvAll]
    try rfl
  rw [e, am_dec a b, ← dec_pair, Bool.and_true]
theorem lids_eqv : ∀ {gs hs : List Li}, (∀ g ∈ gs, Am.Red g.t g.u) → (∀ g ∈ hs, Am.Red g.t g.u) → PyData.eqvAll (gs.map lid) (hs.map lid) = decide (lrv gs = lrv hs)
  | [], [], _, _ => rfl
  | [], _ :: _, _, _ => by
    rw [decide_eq_false (by simp [lrv])]
    rfl
  | _ :: _, [], _, _ => by
    rw [decide_eq_false (by simp [lrv])]
    rfl
  | g :: gs, h :: hs, p, q => by
    have ih := lids_eqv (gs := gs) (hs := hs) (fun x hx => p x (List.mem_cons_of_mem _ hx)) fun x hx => q x (List.mem_cons_of_mem _ hx)
    have e : PyData.eqvAll ((g :: gs).map lid) ((h :: hs).map lid) = (PyData.eqv (lid g) (lid h) && PyData.eqvAll (gs.map lid) (hs.map lid)) := by simp [PyData.eqvAll]
    rw [e, ih, lid_eqv (p g List.mem_cons_self) (q h List.mem_cons_self), dec_cons]
    rfl
theorem rowd_eqv {gs hs : List Li} (p : ∀ g ∈ gs, Am.Red g.t g.u) (q : ∀ g ∈ hs, Am.Red g.t g.u) : PyData.eqv (rowd gs) (rowd hs) = decide (lrv gs = lrv hs) := by
  rw [← lids_eqv p q]
  unfold rowd
  simp [PyData.eqv]
abbrev sAdd2 : Stmt := top 63
abbrev sLed : Stmt := top 65
theorem scAdd2 : FnScope ["_law_one", "_law_other"] ["_law_one", "_law_other"] (defScope sAdd2) := ⟨rfl, rfl, rfl, by decide +kernel, rfl, by decide +kernel, by decide +kernel⟩
theorem scLed : FnScope ["_law_row", "_law_unit", "_law_amount_here"] ["_law_row", "_law_unit", "_law_amount_here"] (defScope sLed) := ⟨rfl, rfl, rfl, by decide +kernel, rfl, by decide +kernel, by decide +kernel⟩
def spAdd2 : Sp := fun vs H Q _ => ∃ (p q : Addr) (t u t2 u2 : Int) (n m : Nat), vs = [.ref p, .ref q] ∧ Fr n H p t u ∧ Fr m H q t2 u2 ∧ n + m ≤ 7000 ∧ ∀ r a b H', Same H H' → Fr (n + m + 1) H' r a b → vq a b = vq t u + vq t2 u2 → Q (.ref r) H'
def spLed : Sp := fun vs H Q _ => ∃ (p a : Addr) (gs : List Li) (z : Str) (t u : Int) (n m : Nat), vs = [.ref p, .str z, .ref a] ∧ LRow n H p gs ∧ Fr m H a t u ∧ PyData.strOk z = true ∧ n + m ≤ 6000 ∧ gs.length < 40 ∧ ∀ H' l hs, Same H H' → LRow (n + m + 1) H' l hs → lrv hs = M04.ext (lrv gs) z (vq t u) → hs.length ≤ gs.length + 1 → Q (.ref l) H'
def sLedE (H : Hp) (z : Str) (Q : VK) (gs : List Li) (v : Rat) (nn : Nat) : TS := fun D σ H' => ∃ (p a : Addr) (hs : List Li) (t u : Int), σ = [some (.ref p), some (.str z), some (.ref a)] ∧ Same H H' ∧ LRow nn H' p hs ∧ Fr nn H' a t u ∧ hs.length ≤ gs.length ∧ M04.ext (lrv gs) z v = (if vq t u = 0 then lrv hs else lrv hs ++ [(z, vq t u)]) ∧ D.rt = Q
theorem lrv_last {gs : List Li} {g : Li} (h : gs[gs.length - 1]? = some g) : (lrv gs).getLast? = some (g.s, vq g.t g.u) := by
  unfold lrv
  rw [List.getLast?_eq_getElem?, List.length_map, List.getElem?_map, h]
  rfl
theorem vq_ne {t u : Int} (r : Am.Red t u) : decide (V.int t = V.int 0) = decide (vq t u = 0) := by
  by_cases c : t = 0
  · subst c
    have : u = 1 := by
      have h1 := r.2
      have h2 := r.1
      simp at h1
      omega
    subst this
    rw [decide_eq_true rfl, vq_zero]
    rfl
  · rw [decide_eq_false fun e => c (V.int.inj e)]
    refine (decide_eq_false fun e => c ?_).symm
    rw [← vq_zero] at e
    have := (vq_eq (Int.ne_of_gt r.1) (by decide)).mp e
    omega
section
variable {P : Program} {w : World} {K : PySem.W.Frag} {mg : Str → Option Value} {base : Heap} {f fF : Addr} {fd fdF : FuncData}
theorem ok_add2 (F : FnP K "_law_added" sAdd2 f fd) (LO : Fn P w K mg base "_law_lowest" 1 ["_law_top", "_law_bottom"] spLow fF fdF) : FnOk P w K mg base (L2.CX P w) 2 f fd ["_law_one", "_law_other"] spAdd2 := by
  refine F.ok scAdd2 (fun vs H Q E h => ?_) (fun cdv A outer s H vs Q E hr1 h => ?_)
  · obtain ⟨p, q, t, u, t2, u2, n, m, rfl, _⟩ := h
    rfl
  · obtain ⟨p, q, t, u, t2, u2, n, m, rfl, ⟨hp, r1, b1, b2⟩, ⟨hq, r2, b3, b4⟩, hn, k⟩ := h
    refine ⟨_, (pss_one (ps_ret (pe_call LO.ok hr1 rfl LO.g LO.k LO.b .nil passL (pa_cons (pe_op op_add (pe_op op_mulW (pe_ix ix_tup (pv 0) pe_int (fun _ _ => rfl)) (pe_ix ix_tup (pv 1) pe_int (fun _ _ => rfl))) (pe_op op_mulW (pe_ix ix_tup (pv 1) pe_int (fun _ _ => rfl)) (pe_ix ix_tup (pv 0) pe_int (fun _ _ => rfl)))) (pa_cons (pe_op op_mulW (pe_ix ix_tup (pv 0) pe_int (fun _ _ => rfl)) (pe_ix ix_tup (pv 1) pe_int (fun _ _ => rfl))) pa_nil))))), ?_⟩
    have i0 : ∀ x y : V, atI [x, y] 0 = some x := fun _ _ => rfl
    have i1 : ∀ x y : V, atI [x, y] 1 = some y := fun _ _ => rfl
    have P0 : ∀ Q' : VK, Q' (.int t) H → tOp (rIxT K) (tVar 0) (tC (.int 0)) [some (.ref p), some (.ref q)] H Q' := fun Q' h => ⟨_, rfl, p, _, _, _, rfl, rfl, SqT.of hp, i0 _ _, h⟩
    have P1 : ∀ Q' : VK, Q' (.int u) H → tOp (rIxT K) (tVar 0) (tC (.int 1)) [some (.ref p), some (.ref q)] H Q' := fun Q' h => ⟨_, rfl, p, _, _, _, rfl, rfl, SqT.of hp, i1 _ _, h⟩
    have Q0 : ∀ Q' : VK, Q' (.int t2) H → tOp (rIxT K) (tVar 1) (tC (.int 0)) [some (.ref p), some (.ref q)] H Q' := fun Q' h => ⟨_, rfl, q, _, _, _, rfl, rfl, SqT.of hq, i0 _ _, h⟩
    have Q1 : ∀ Q' : VK, Q' (.int u2) H → tOp (rIxT K) (tVar 1) (tC (.int 1)) [some (.ref p), some (.ref q)] H Q' := fun Q' h => ⟨_, rfl, q, _, _, _, rfl, rfl, SqT.of hq, i1 _ _, h⟩
    refine P0 _ (Q1 _ ⟨_, _, rfl, rfl, mulW_of b1 b4 (by omega), Q0 _ (P1 _ ⟨_, _, rfl, rfl, mulW_of b3 b2 (by omega), _, _, rfl, rfl, P1 _ (Q1 _ ⟨_, _, rfl, rfl, mulW_of b2 b4 (by omega), ?_⟩)⟩)⟩)
    have u0 := r1.1
    have u20 := r2.1
    have nz : u * u2 ≠ 0 := Int.mul_ne_zero (by omega) (by omega)
    refine ⟨_, _, rfl, nz, pow_step (abs_mul_lt b2 b4) (by omega), fun r a b hr rd e hl hb => k r a b _ (Same.upd hr) ⟨upd_same, rd, ?_, ?_⟩ ?_⟩
    · exact Nat.lt_of_le_of_lt hl (abs_add_lt (abs_mul_lt b1 b4) (by rw [Nat.add_comm]; exact abs_mul_lt b3 b2))
    · exact Nat.lt_of_le_of_lt hb (pow_step (abs_mul_lt b2 b4) (by omega))
    · exact vq_add (by omega) (by omega) (by have := rd.1; omega) e
theorem ok_led (F : FnP K "_law_led" sLed f fd) (AD : Fn P w K mg base "_law_added" 2 ["_law_one", "_law_other"] spAdd2 fF fdF) : FnOk P w K mg base (L2.CX P w) 3 f fd ["_law_row", "_law_unit", "_law_amount_here"] spLed := by
  refine F.ok scLed (fun vs H Q E h => ?_) (fun cdv A outer s H vs Q E hr h => ?_)
  · obtain ⟨p, a, gs, z, t, u, n, m, rfl, _⟩ := h
    rfl
  · obtain ⟨p, a, gs, z, t, u, n, m, rfl, hp, ha, hz, hn, hl, k⟩ := h
    have hu : (A.deeper (envOfC "_law_led" (defScope sLed) s.heap.objs.size f cdv)).units + 64 < cLine := by
      have := hr.un
      omega
    have hr2 := hr.mono (show 2 ≤ 2 by decide)
    generalize hv : vq t u = v at k
    obtain ⟨nn, hnn⟩ : ∃ nn, nn = n + m + 1 := ⟨_, rfl⟩
    refine ⟨_, (pss_cons (ps_if (PW.pt (pw_and (pt_cmpR (op_neD hu) (pv 0) (pe_tup pa_nil) (nomark _)) (pw_and1 (pt_cmpR op_eq (pe_ix ix_tup (pe_ix ix_tup (pv 0) (pe_un un_neg pe_int) (fun _ _ => rfl)) pe_int (fun _ _ => rfl)) (pv 1) (nomark _))))) (pss_one (ps_par (by rfl) scLed.nd (i := 2) (j := 0) rfl rfl (by decide) rfl rfl (pa_cons (pe_call AD.ok hr2 rfl AD.g AD.k AD.b .nil passL (pa_cons (pe_ix ix_tup (pe_ix ix_tup (pv 0) (pe_un un_neg pe_int) (fun _ _ => rfl)) pe_int (fun _ _ => rfl)) (pa_cons (pv 2) pa_nil))) (pa_cons (pe_slice sl_tupA (pv 0) po_none (po_some (pe_un un_neg pe_int))) pa_nil)) (by rfl))) pss_nil)
      (pss_imp (S := sLedE H z Q gs v nn) (pss_one (ps_ret (pe_ifExp (pt_cmpR op_ne (pe_ix ix_tup (pv 2) pe_int (fun _ _ => rfl)) pe_int (nomark _)) (pe_op op_catA (pv 0) (pe_tup (pa_cons (pe_tup (pa_cons (pv 1) (pa_cons (pv 2) pa_nil))) pa_nil))) (pv 0)))) ?fin)), ?_⟩
    case fin =>
      rintro D σ H1 ⟨p1, a1, hs, t1, u1, rfl, s1, hp1, ha1, hle, ee, hD⟩
      refine ⟨_, rfl, a1, _, 0, _, rfl, rfl, SqT.of ha1.at_, rfl, rfl, _, rfl, ?_⟩
      rw [vq_ne ha1.rd]
      by_cases c : vq t1 u1 = 0
      · rw [decide_eq_true c]
        rw [if_pos c] at ee
        refine iteF ⟨_, rfl, ?_⟩
        rw [hD]
        subst hnn
        exact k _ p1 hs s1 hp1 ee.symm (by omega)
      · rw [decide_eq_false c]
        rw [if_neg c] at ee
        refine iteT ⟨_, rfl, _, rfl, _, rfl, by show 2 ≤ sizeLine; decide, fun q hq => ⟨by show 1 ≤ sizeLine; decide, fun l hl0 => ?_⟩⟩
        have s2 := Same.upd (o := .tup [.str z, .ref a1]) hq
        have q2 : upd H1 q (.tup [.str z, .ref a1]) q = some (.tup [.str z, .ref a1]) := upd_same
        generalize upd H1 q (.tup [.str z, .ref a1]) = H2 at s2 q2 hl0 ⊢
        have s3 := Same.upd (o := .tup [.ref q]) hl0
        have l3 : upd H2 l (.tup [.ref q]) l = some (.tup [.ref q]) := upd_same
        generalize upd H2 l (.tup [.ref q]) = H3 at s3 l3 ⊢
        have s23 := s2.trans s3
        have k23 := KT.of s23
        have new : LiOk nn H3 ⟨q, a1, z, t1, u1⟩ := ⟨s3 _ _ q2, ha1.kt k23, hz⟩
        refine ⟨p1, l, _, _, rfl, rfl, SqT.of (s23 _ _ hp1.l), SqT.of l3, ?_, fun e => ?_, fun _ e => (by cases e), fun _ _ r hr0 => ?_⟩
        · rw [List.length_map]
          exact Nat.le_trans (show hs.length + 1 ≤ 100 by omega) (by decide)
        · have e0 : hs = [] := List.map_eq_nil_iff.mp e
          subst e0
          rw [hD]
          subst hnn
          refine k _ l [⟨q, a1, z, t1, u1⟩] (s1.trans s23) ⟨l3, fun g hg => ?_, by show 1 ≤ 40; decide⟩ ee.symm (by show 1 ≤ _; omega)
          rw [List.mem_singleton] at hg
          rw [hg]
          exact new
        · have s4 := Same.upd (o := .tup ((hs.map fun g => V.ref g.q) ++ [.ref q])) hr0
          rw [hD]
          subst hnn
          refine k _ r (hs ++ [⟨q, a1, z, t1, u1⟩]) (s1.trans (s23.trans s4)) ⟨by rw [upd_same, List.map_append]; rfl, fun g hg => ?_, by rw [List.length_append]; show hs.length + 1 ≤ 40; omega⟩ ?_ (by rw [List.length_append]; show hs.length + 1 ≤ _; omega)
          · rcases List.mem_append.mp hg with hg | hg
            · exact (hp1.ok g hg).kt (KT.of (s23.trans s4))
            · rw [List.mem_singleton] at hg
              rw [hg]
              exact new.kt (KT.of s4)
          · rw [ee]
            unfold lrv
            rw [List.map_append]
            rfl
    have idle : M04.part (lrv gs) z = (lrv gs, 0) → ∀ (D : Ends), D.rt = Q → ∀ H1, Same H H1 → sLedE H z Q gs v nn D [some (.ref p), some (.str z), some (.ref a)] H1 := fun pe D hD H1 s1 => by
      refine ⟨p, a, gs, t, u, rfl, s1, (hp.mono (by omega)).kt (KT.of s1), (ha.mono (by omega)).kt (KT.of s1), Nat.le_refl _, ?_, hD⟩
      unfold M04.ext
      rw [pe, hv]
      simp only [Rat.zero_add]
    refine ⟨_, rfl, by show 0 ≤ sizeLine; decide, fun e0 he0 => ?_⟩
    have s1 := Same.upd (o := .tup []) he0
    have e1 : upd H e0 (.tup []) e0 = some (.tup []) := upd_same
    generalize upd H e0 (.tup []) = H1 at s1 e1 ⊢
    have hp1 := hp.kt (KT.of s1)
    have dne : PyData.eqv (rowd gs) (.tuple []) = decide (gs = []) := by
      cases gs with
      | nil => rfl
      | cons g r =>
        rw [decide_eq_false (by simp)]
        rfl
    refine ⟨rowd gs, .tuple [], row_dp hp1, .tup (SqT.of e1) .nil, rowd_shaped gs fun g hg => (hp.ok g hg).2.2, by decide, ?_⟩
    refine ⟨_, rfl, ?_⟩
    rw [dne]
    by_cases c0 : gs = []
    · rw [decide_eq_true c0]
      refine if_false_of (by rfl) (iteF (idle ?_ _ rfl H1 s1))
      rw [c0]
      rfl
    · rw [decide_eq_false c0]
      refine if_true_of (by rfl) ?_
      have h1 : gs.length - 1 < gs.length := by
        have := List.length_pos_iff.mpr c0
        omega
      have eg : gs[gs.length - 1]? = some gs[gs.length - 1] := List.getElem?_eq_getElem h1
      generalize gs[gs.length - 1] = g at eg
      have em : (gs.map fun g => V.ref g.q)[(gs.map fun g => V.ref g.q).length - 1]? = some (V.ref g.q) := by rw [List.length_map, List.getElem?_map, eg]; rfl
      have ea : atI (gs.map fun g => V.ref g.q) (-1) = some (V.ref g.q) := atI_end em
      obtain ⟨hg1, hg2, hg3⟩ := hp1.ok g (List.mem_of_getElem? eg)
      have pt : M04.part (lrv gs) z = if g.s = z then ((lrv gs).dropLast, vq g.t g.u) else (lrv gs, 0) := by
        unfold M04.part
        rw [lrv_last eg]
      refine ⟨_, rfl, _, rfl, p, _, -1, _, rfl, rfl, SqT.of hp1.l, ea, g.q, _, 0, _, rfl, rfl, SqT.of hg1, rfl, _, rfl, rfl, _, rfl, ?_⟩
      by_cases c : g.s = z
      · rw [decide_eq_true (by rw [c])]
        rw [if_pos c] at pt
        refine iteT ⟨_, rfl, _, rfl, p, _, -1, _, rfl, rfl, SqT.of hp1.l, ea, g.q, _, 1, _, rfl, rfl, SqT.of hg1, rfl, _, rfl, ?_⟩
        refine ⟨g.a, a, g.t, g.u, t, u, n, m, rfl, hg2, ha.kt (KT.of s1), by omega, fun r t2 u2 H2 s2 fr ev => ?_⟩
        have hp2 := hp1.kt (KT.of s2)
        have ec : cutV (gs.map fun g => V.ref g.q) none (some (-1)) = (gs.dropLast).map fun g => V.ref g.q := by
          show List.take ((-1 + ((gs.map fun g => V.ref g.q).length : Int)).toNat - 0) (gs.map fun g => V.ref g.q) = _
          rw [List.length_map, Nat.sub_zero, show (-1 + (gs.length : Int)).toNat = gs.length - 1 by omega, ← List.map_take, List.dropLast_eq_take]
        have fin2 : ∀ (D : Ends), D.rt = Q → ∀ H3 l, Same H2 H3 → H3 l = some (.tup (gs.dropLast.map fun g => V.ref g.q)) → sLedE H z Q gs v nn D [some (.ref l), some (.str z), some (.ref r)] H3 := fun D hD H3 l s3 hl3 => by
          subst hnn
          refine ⟨l, r, gs.dropLast, t2, u2, rfl, s1.trans (s2.trans s3), ⟨hl3, fun g hg => ((hp2.ok g (List.dropLast_subset _ hg)).kt (KT.of s3)).mono (by omega), by rw [List.length_dropLast]; omega⟩, fr.kt (KT.of s3), by rw [List.length_dropLast]; omega, ?_, hD⟩
          unfold M04.ext
          rw [pt, ev, hv]
          unfold lrv
          rw [List.map_dropLast]
        refine ⟨_, rfl, _, rfl, _, rfl, p, _, rfl, SqT.of hp2.l, fun hw => ?_, fun hw l hl0 => ?_⟩
        · exfalso
          have h2 := hw.2
          rw [List.length_map] at h2
          have h2 : (-1 + (gs.length : Int)).toNat = gs.length := h2
          omega
        · rw [ec]
          have := fin2 { nx := fun _ H' => Q V.non H', rt := Q } rfl _ l (Same.upd hl0) upd_same
          exact ⟨_, _, rfl, this⟩
      · rw [decide_eq_false fun e => c (V.str.inj e)]
        rw [if_neg c] at pt
        exact iteF (idle pt _ rfl H1 s1)
end
end K35
set_option Elab.async false
set_option linter.all false
set_option maxRecDepth 100000
set_option maxHeartbeats 1000000
set_option exponentiation.threshold 100000
namespace K35
open PySem PySem.Spec PyProof.Rows L2 Fa Fb
structure Lc where
  q : Addr
  a : Addr
  nm : Str
  pa : Str
  un : Str
  t : Int
  u : Int
def lcv (g : Lc) : M04.Cue := ⟨g.nm, g.pa, g.un, vq g.t g.u⟩
def LcOk (n : Nat) (H : Hp) (g : Lc) : Prop := H g.q = some (.tup [.str g.nm, .str g.pa, .str g.un, .ref g.a]) ∧ Fr n H g.a g.t g.u ∧ PyData.strOk g.nm = true ∧ PyData.strOk g.pa = true ∧ PyData.strOk g.un = true
theorem LcOk.kt {n : Nat} {H H' : Hp} {g : Lc} (h : LcOk n H g) (k : KT H H') : LcOk n H' g := ⟨k _ _ h.1 (fun _ e => by cases e), h.2.1.kt k, h.2.2⟩
structure LsC (n : Nat) (H : Hp) (l : Addr) (gs : List Lc) : Prop where
  l : H l = some (.lst (gs.map fun g => V.ref g.q))
  ok : ∀ g ∈ gs, LcOk n H g
  n : gs.length ≤ 14
theorem LsC.same {n : Nat} {H H' : Hp} {l : Addr} {gs : List Lc} (h : LsC n H l gs) (s : Same H H') : LsC n H' l gs := ⟨s _ _ h.l, fun g hg => (h.ok g hg).kt (KT.of s), h.n⟩
/-- an entry of the dict: name, address, row -/
abbrev En : Type := Str × Addr × List Li
def enK (es : List En) : List (Key × V) := es.map fun e => (Sum.inr e.1, V.ref e.2.1)
def ent (es : List En) : List (Str × Option M04.Row) := es.map fun e => (e.1, some (lrv e.2.2))
structure RwsOk (N : Nat) (H : Hp) (d : Addr) (cs : List M04.Cue) (es : List En) : Prop where
  dk : H d = some (.dK (enK es))
  ok : ∀ e ∈ es, LRow N H e.2.1 e.2.2 ∧ e.2.2.length ≤ cs.length
  tab : ent es = M04.tab (M04.all cs)
theorem RwsOk.same {N : Nat} {H H' : Hp} {d : Addr} {cs : List M04.Cue} {es : List En} (h : RwsOk N H d cs es) (s : Same H H') : RwsOk N H' d cs es := ⟨s _ _ h.dk, fun e he => ⟨(h.ok e he).1.kt (KT.of s), (h.ok e he).2⟩, h.tab⟩
/-- what is found by a name -/
theorem find_en {es : List En} {s : M04.St} {x : Str} {i : Nat} {r : M04.Row} (h : ent es = M04.tab s) (e : M04.num s.nums x = some i) (er : s.rows[i]? = some r) : ∃ p hs, (x, p, hs) ∈ es ∧ lrv hs = r ∧ valV (enK es) (Sum.inr x) = some (.ref p) := by
  have f1 : (ent es).find? (fun z => decide (z.1 = x)) = (es.find? fun z => decide (z.1 = x)).map fun e => (e.1, some (lrv e.2.2)) := by
    unfold ent
    rw [List.find?_map]
    rfl
  have f2 : (M04.tab s).find? (fun z => decide (z.1 = x)) = (s.nums.find? fun z => decide (z.1 = x)).map fun z => (z.1, s.rows[z.2]?) := by
    unfold M04.tab
    rw [List.find?_map]
    rfl
  have f3 : valV (enK es) (Sum.inr x) = (es.find? fun z => decide (z.1 = x)).map fun e => V.ref e.2.1 := by
    unfold valV enK
    rw [List.find?_map, Option.map_map]
    congr 1
    congr 1
    funext z
    show decide ((Sum.inr z.1 : Key) = Sum.inr x) = decide (z.1 = x)
    by_cases c : z.1 = x
    · simp [c]
    · rw [decide_eq_false c, decide_eq_false fun e => c (Sum.inr.inj e)]
  rw [h, f2] at f1
  unfold M04.num at e
  cases en : s.nums.find? fun z => decide (z.1 = x) with
  | none => rw [en] at e; cases e
  | some z =>
    rw [en] at e f1
    cases e
    cases ee : es.find? fun z => decide (z.1 = x) with
    | none => rw [ee] at f1; cases f1
    | some w =>
      rw [ee] at f1 f3
      have f1 := Option.some.inj f1
      have wx : w.1 = x := of_decide_eq_true (List.find?_some (p := fun z : En => decide (z.1 = x)) ee)
      refine ⟨w.2.1, w.2.2, ?_, ?_, f3⟩
      · rw [← wx]
        exact List.mem_of_find?_eq_some ee
      · have this : s.rows[z.2]? = some (lrv w.2.2) := congrArg Prod.snd f1
        have er : s.rows[z.2]? = some r := er
        rw [er] at this
        exact (Option.some.inj this).symm
theorem putK_en {es : List En} {s : M04.St} {x : Str} {p : Addr} {hs : List Li} (h : ent es = M04.tab s) (e : M04.num s.nums x = none) : putK (enK es) (Sum.inr x) (V.ref p) = enK (es ++ [(x, p, hs)]) := by
  have nm : es.map (fun e => e.1) = s.nums.map (fun z => z.1) := by
    rw [← M04.tab_nm, ← h]
    unfold ent
    rw [List.map_map]
    rfl
  have : (enK es).any (fun kv => decide (kv.1 = (Sum.inr x : Key))) = false := by
    unfold enK
    rw [List.any_map, List.any_eq_false]
    intro z hz e2
    have e2 := Sum.inr.inj (of_decide_eq_true e2)
    refine M04.num_none.mp e ?_
    rw [← nm]
    exact List.mem_map.mpr ⟨z, hz, e2⟩
  unfold putK
  rw [this]
  unfold enK
  rw [List.map_append]
  rfl
theorem Fr.put {n : Nat} {H : Hp} {p a : Addr} {ob : HO} {t u : Int} (h : Fr n H p t u) (na : NoTI H a) : Fr n (upd H a ob) p t u := ⟨by rw [upd_ne (na.tup h.at_)]; exact h.at_, h.rd, h.bt, h.bu⟩
theorem LiOk.put {n : Nat} {H : Hp} {a : Addr} {ob : HO} {g : Li} (h : LiOk n H g) (na : NoTI H a) : LiOk n (upd H a ob) g := ⟨by rw [upd_ne (na.tup h.1)]; exact h.1, h.2.1.put na, h.2.2⟩
theorem LRow.put {n : Nat} {H : Hp} {p a : Addr} {ob : HO} {gs : List Li} (h : LRow n H p gs) (na : NoTI H a) : LRow n (upd H a ob) p gs := ⟨by rw [upd_ne (na.tup h.l)]; exact h.l, fun g hg => (h.ok g hg).put na, h.n⟩
abbrev sRws : Stmt := top 66
theorem scRws : FnScope ["_law_cues_here", "_law_rows_here", "_law_name", "_law_parent", "_law_unit", "_law_amount_here"] ["_law_cues_here"] (defScope sRws) := ⟨rfl, rfl, rfl, by decide +kernel, rfl, by decide +kernel, by decide +kernel⟩
def spRws (K : PySem.W.Frag) : Sp := fun vs H Q _ => ∃ l gs n, vs = [.ref l] ∧ LsC n H l gs ∧ M04.Good (gs.map lcv) ∧ 1 ≤ n ∧ n ≤ 200 ∧ ∀ d H' es, Same H H' → RwsOk ((gs.length + 1) * (n + 1)) H' d (gs.map lcv) es → Q (.ref d) H'
def sRwsB (K : PySem.W.Frag) (n : Nat) (H : Hp) (l : Addr) (gs : List Lc) : TS := fun D σ H' => ∃ (d : Addr) (i : Nat) (g : Lc) (es : List En), σ = [some (.ref l), some (.ref d), some (.str g.nm), some (.str g.pa), some (.str g.un), some (.ref g.a)] ∧ gs[i]? = some g ∧ Same H H' ∧ H d = none ∧ RwsOk ((i + 1) * (n + 1)) H' d ((gs.map lcv).take i) es ∧
  ∀ H'' es', Same H H'' → RwsOk ((i + 2) * (n + 1)) H'' d ((gs.map lcv).take (i + 1)) es' → D.nx [some (.ref l), some (.ref d), some (.str g.nm), some (.str g.pa), some (.str g.un), some (.ref g.a)] H''
theorem RwsOk.put {N : Nat} {H : Hp} {d f : Addr} {ob : HO} {xs : List V} {cs : List M04.Cue} {es : List En} (h : RwsOk N H d cs es) (hf : H f = some (.lst xs)) : RwsOk N (upd H f ob) d cs es := ⟨by
  rw [upd_ne fun e => by
    have h1 := h.dk
    rw [e, hf] at h1
    cases h1]
  exact h.dk, fun e he => ⟨(h.ok e he).1.put (.inl ⟨_, hf⟩), (h.ok e he).2⟩, h.tab⟩
/-- the list of what was found -/
structure FoOk (N : Nat) (H : Hp) (f : Addr) (fs : List (Addr × List Li)) : Prop where
  l : H f = some (.lst (fs.map fun z => V.ref z.1))
  ok : ∀ z ∈ fs, LRow N H z.1 z.2
  z : [] ∈ fs.map fun z => lrv z.2
theorem FoOk.same {N : Nat} {H H' : Hp} {f : Addr} {fs : List (Addr × List Li)} (h : FoOk N H f fs) (s : Same H H') : FoOk N H' f fs := ⟨s _ _ h.l, fun z hz => (h.ok z hz).kt (KT.of s), h.z⟩
theorem LRow.str {N : Nat} {H : Hp} {p : Addr} {gs : List Li} (h : LRow N H p gs) : ∀ g ∈ gs, PyData.strOk g.s = true := fun g hg => (h.ok g hg).2.2
theorem LRow.red {N : Nat} {H : Hp} {p : Addr} {gs : List Li} (h : LRow N H p gs) : ∀ g ∈ gs, Am.Red g.t g.u := fun g hg => (h.ok g hg).2.1.rd
theorem fo_dp {K : PySem.W.Frag} {N : Nat} {H : Hp} : ∀ {fs : List (Addr × List Li)}, (∀ z ∈ fs, LRow N H z.1 z.2) → DpAll K H (fs.map fun z => V.ref z.1) (fs.map fun z => rowd z.2)
  | [], _ => .nil
  | z :: r, h => .cons (row_dp (h z List.mem_cons_self)) (fo_dp fun x hx => h x (List.mem_cons_of_mem _ hx))
theorem fo_lay {N : Nat} {H : Hp} : ∀ {fs : List (Addr × List Li)}, (∀ z ∈ fs, LRow N H z.1 z.2) → PyData.canLayAll0 (fs.map fun z => rowd z.2) = true ∧ PyData.depthAll (fs.map fun z => rowd z.2) ≤ 3
  | [], _ => ⟨rfl, by simp [PyData.depthAll]⟩
  | z :: r, h => by
    obtain ⟨h1, h2⟩ := fo_lay (fs := r) fun x hx => h x (List.mem_cons_of_mem _ hx)
    have h3 := rowd_depth z.2
    have h4 := rowd_lay z.2 (h z List.mem_cons_self).str
    simp only [List.map_cons, PyData.canLayAll0, PyData.depthAll, h4, h1]
    exact ⟨rfl, by omega⟩
theorem fo_shaped {N : Nat} {H : Hp} {fs : List (Addr × List Li)} (h : ∀ z ∈ fs, LRow N H z.1 z.2) : SeqAt.shaped (.list (fs.map fun z => rowd z.2)) = true := by
  obtain ⟨h1, h2⟩ := fo_lay h
  unfold SeqAt.shaped
  have h3 : PyData.canLay0 (.list (fs.map fun z => rowd z.2)) = true := by simp only [PyData.canLay0, h1]
  have h4 : PyData.depth (.list (fs.map fun z => rowd z.2)) ≤ 64 := by
    simp only [PyData.depth]
    omega
  rw [h3, decide_eq_true h4]
  rfl
theorem fo_any {N : Nat} {H : Hp} {fs : List (Addr × List Li)} {p : Addr} {hs : List Li} (h : ∀ z ∈ fs, LRow N H z.1 z.2) (hp : LRow N H p hs) : ((fs.map fun z => rowd z.2).any fun z => PyData.eqv z (rowd hs)) = decide (lrv hs ∈ fs.map fun z => lrv z.2) := by
  rw [List.any_map, Bool.eq_iff_iff, List.any_eq_true, decide_eq_true_iff, List.mem_map]
  constructor
  · rintro ⟨z, hz, e⟩
    have e : PyData.eqv (rowd z.2) (rowd hs) = true := e
    rw [rowd_eqv (h z hz).red hp.red] at e
    exact ⟨z, hz, of_decide_eq_true e⟩
  · rintro ⟨z, hz, e⟩
    refine ⟨z, hz, ?_⟩
    show PyData.eqv (rowd z.2) (rowd hs) = true
    rw [rowd_eqv (h z hz).red hp.red]
    exact decide_eq_true e
theorem slA {K : PySem.W.Frag} {N : Nat} {H : Hp} {p : Addr} {hs : List Li} {m : Nat} {Q' : VK} (h : LRow N H p hs) (hm : m < hs.length) (k : ∀ H2 p2, Same H H2 → LRow N H2 p2 (hs.take (m + 1)) → Q' (.ref p2) H2) : rSlA K (.ref p) none (some (1 + m : Int)) H Q' := by
  have e2 : HT.sIx (hs.map fun g => V.ref g.q).length (hs.map fun g => V.ref g.q).length (some (1 + m : Int)) = m + 1 := by
    show (if (1 + m : Int) < 0 then ((1 + m : Int) + ((hs.map fun g => V.ref g.q).length : Int)).toNat else min (1 + m : Int).toNat (hs.map fun g => V.ref g.q).length) = m + 1
    rw [if_neg (by omega), List.length_map]
    omega
  refine ⟨p, _, rfl, SqT.of h.l, fun hw => ?_, fun hw q hq => ?_⟩
  · have h2 := hw.2
    rw [e2, List.length_map] at h2
    refine k H p (Same.refl _) ?_
    rw [h2, List.take_length]
    exact h
  · have ec : cutV (hs.map fun g => V.ref g.q) none (some (1 + m : Int)) = (hs.take (m + 1)).map fun g => V.ref g.q := by
      unfold cutV
      rw [e2]
      show List.take (m + 1 - 0) (List.drop 0 _) = _
      rw [List.drop_zero, Nat.sub_zero, List.map_take]
    rw [ec]
    have s2 := Same.upd (o := .tup ((hs.take (m + 1)).map fun g => V.ref g.q)) hq
    exact k _ q s2 ⟨upd_same, fun g hg => (h.ok g (List.mem_of_mem_take hg)).kt (KT.of s2), by rw [List.length_take]; have := h.n; omega⟩
/-- the entry of a cue -/
theorem en_at {cs : List M04.Cue} {es : List En} {i : Nat} {c : M04.Cue} (g : M04.Good cs) (h : ent es = M04.tab (M04.all cs)) (ec : cs[i]? = some c) : ∃ p hs, ((c.nm, p, hs) ∈ es ∧ valV (enK es) (Sum.inr c.nm) = some (.ref p)) ∧ lrv hs = M04.row (M04.all (cs.take i)) c := by
  have hm := M04.tab_mem g ec
  have nd : ((M04.all cs).nums.map (fun z => z.1)).Nodup := by
    rw [M04.names_all]
    exact M04.names_nodup g
  obtain ⟨z, hz, e⟩ := List.mem_map.mp hm
  have e1 : z.1 = c.nm := congrArg Prod.fst e
  have e2 : (M04.all cs).rows[z.2]? = some (M04.row (M04.all (cs.take i)) c) := congrArg Prod.snd e
  have f := M04.find_nm nd (show (z.1, z.2) ∈ (M04.all cs).nums from hz)
  have nn : M04.num (M04.all cs).nums c.nm = some z.2 := by
    unfold M04.num
    rw [← e1, f]
    rfl
  obtain ⟨p, hs, h1, h2, h3⟩ := find_en h nn e2
  exact ⟨p, hs, ⟨h1, h3⟩, h2⟩
section
variable {P : Program} {w : World} {K : PySem.W.Frag} {mg : Str → Option Value} {base : Heap} {f fF : Addr} {fd fdF : FuncData}
theorem ok_rws (F : FnP K "_law_rows" sRws f fd) (LD : Fn P w K mg base "_law_led" 3 ["_law_row", "_law_unit", "_law_amount_here"] spLed fF fdF) : FnOk P w K mg base (L2.CX P w) 4 f fd ["_law_cues_here"] (spRws K) := by
  refine F.ok scRws (fun vs H Q E h => ?_) (fun cdv A outer s H vs Q E hr h => ?_)
  · obtain ⟨l, gs, n, rfl, _⟩ := h
    rfl
  · obtain ⟨l, gs, n, rfl, hl, good, n1, n2, k⟩ := h
    have hu1 : (A.deeper (envOfC "_law_rows" (defScope sRws) s.heap.objs.size f cdv)).units + 1 < cLine := by
      have := hr.un
      omega
    have hr3 := hr.mono (show 3 ≤ 3 by decide)
    refine ⟨_, (pss_cons (ps_set (i := 1) scRws.nd rfl (Or.inl rfl) (pe_disp (pps_cons pe_str (pe_tup pa_nil) pps_nil) rfl rfl (by simp) (by decide)))
      (pss_cons (ps_for (passes_of rfl) rfl (pi_list (pv 0)) (pg_tup (by rfl) (pgs_cons (pg_name (i := 2) scRws.nd rfl (Or.inl rfl)) (pgs_cons (pg_name (i := 3) scRws.nd rfl (Or.inl rfl)) (pgs_cons (pg_name (i := 4) scRws.nd rfl (Or.inl rfl)) (pgs_cons (pg_name (i := 5) scRws.nd rfl (Or.inl rfl)) pgs_nil)))))
      (pss_imp (S := sRwsB K n H l gs) (pss_one (ps_dput hu1 (pv 1) (pv 2) (pe_call LD.ok hr3 rfl LD.g LD.k LD.b .nil passL (pa_cons (pe_dget hu1 (pv 1) (pv 3) (fun _ _ => rfl)) (pa_cons (pv 4) (pa_cons (pv 5) pa_nil)))) (by rfl))) ?body))
      (pss_one (ps_ret (pv 1))))), ?_⟩
    case body =>
      rintro D σ H1 ⟨d, i, g, es, rfl, eg, s1, d0, ro, kn⟩
      have ec : (gs.map lcv)[i]? = some (lcv g) := by rw [List.getElem?_map, eg]; rfl
      obtain ⟨g1, g2⟩ := good i _ ec
      obtain ⟨j, ej⟩ := Option.isSome_iff_exists.mp g2
      have jl : j < (M04.all ((gs.map lcv).take i)).rows.length := M04.all_ok _ _ M04.init_ok _ _ ej
      obtain ⟨p, hs, mem, ev, vv⟩ := find_en ro.tab ej (List.getElem?_eq_getElem jl)
      obtain ⟨r1, r2⟩ := ro.ok _ mem
      have hi := (List.getElem?_eq_some_iff.mp eg).1
      have hi14 := hl.n
      obtain ⟨c1, c2, c3, c4, c5⟩ := (hl.ok g (List.mem_of_getElem? eg)).kt (KT.of s1)
      have lt : ((gs.map lcv).take i).length = i := by rw [List.length_take, List.length_map]; omega
      rw [lt] at r2
      have r2 : hs.length ≤ i := r2
      have g1 : M04.num (M04.all ((gs.map lcv).take i)).nums g.nm = none := g1
      have b0 : (i + 1) * (n + 1) ≤ 14 * 201 := Nat.mul_le_mul (by omega) (by omega)
      have b2 : (i + 1) * (n + 1) + n + 1 = (i + 2) * (n + 1) := by rw [show i + 2 = (i + 1) + 1 from rfl, Nat.add_mul (i + 1) 1, Nat.one_mul]; omega
      refine ⟨_, rfl, _, rfl, d, _, rfl, .inl ⟨_, Sum.inr g.pa, Rd.of ro.dk, rfl, vv.symm⟩, _, rfl, _, rfl, ?_⟩
      refine ⟨p, g.a, hs, g.un, g.t, g.u, (i + 1) * (n + 1), n, rfl, r1, c2, c5, by omega, by omega, fun H2 l2 hs2 s2 lr2 ev2 hl2 => ?_⟩
      rw [b2] at lr2
      have ro2 := ro.same s2
      refine ⟨_, rfl, _, rfl, d, _, rfl, .inl ⟨_, Sum.inr g.nm, ro2.dk, rfl, ?_, rfl⟩, ?_⟩
      · have e1 : es.length = i + 1 := by
          have := congrArg List.length ro.tab
          rw [M04.tab_len, M04.nums_len, lt] at this
          unfold ent at this
          rw [List.length_map] at this
          exact this
        unfold enK
        rw [List.length_map]
        exact Nat.lt_of_lt_of_le (show es.length < 100 by omega) (by decide)
      · rw [putK_en (hs := hs2) ro.tab g1]
        have nd : NoTI H2 d := .inr ⟨_, ro2.dk⟩
        refine kn _ (es ++ [(g.nm, l2, hs2)]) (same_put (s1.trans s2) d0) ⟨upd_same, fun e he => ?_, ?_⟩
        · rw [M04.all_take_len ec]
          rcases List.mem_append.mp he with he | he
          · obtain ⟨y1, y2⟩ := ro2.ok e he
            exact ⟨(y1.mono (by omega)).put nd, by rw [lt] at y2; omega⟩
          · rw [List.mem_singleton] at he
            subst he
            exact ⟨lr2.put nd, by show hs2.length ≤ _; omega⟩
        · have aok : M04.AllOk (M04.all ((gs.map lcv).take i)) := M04.all_all ((gs.map lcv).take i) M04.init M04.init_all
          rw [M04.all_take ec, M04.tab_step _ aok, ← ro.tab]
          unfold ent
          rw [List.map_append]
          show _ ++ [(g.nm, some (lrv hs2))] = _
          rw [ev2]
          unfold M04.row
          have ej' : M04.num (M04.all ((gs.map lcv).take i)).nums (lcv g).pa = some j := ej
          rw [ej', Option.getD_some, List.getD_eq_getElem?_getD, List.getElem?_eq_getElem jl, Option.getD_some, ev]
          rfl
    intro d hd
    have hd0 := hd
    refine ⟨by show 0 ≤ sizeLine; decide, fun p0 hp0 => ?_⟩
    have pd : p0 ≠ d ∧ H p0 = none := by
      by_cases e : p0 = d
      · rw [e, upd_same] at hp0
        cases hp0
      · rw [upd_ne e] at hp0
        exact ⟨e, hp0⟩
    refine ⟨by rw [upd_ne (Ne.symm pd.1)]; exact upd_same, [(Sum.inr "start", .ref p0)], rfl, (by show 1 ≤ 15; decide), ?_⟩
    have em : mergeK [] [((Sum.inr ("start" : Str) : Key), V.ref p0)] = enK [("start", p0, [])] := rfl
    rw [em]
    have s1 : Same H (upd (upd (upd H d (.dK [])) p0 (.tup [])) d (.dK (enK [("start", p0, [])]))) := fun q ob hq => by
      rw [upd_ne (ne_of_none hq hd), upd_ne (ne_of_none hq pd.2), upd_ne (ne_of_none hq hd)]
      exact hq
    have d1 : upd (upd (upd H d (.dK [])) p0 (.tup [])) d (.dK (enK [("start", p0, [])])) d = some (.dK (enK [("start", p0, [])])) := upd_same
    have p1 : upd (upd (upd H d (.dK [])) p0 (.tup [])) d (.dK (enK [("start", p0, [])])) p0 = some (.tup []) := by rw [upd_ne pd.1]; exact upd_same
    show tSeq _ _ _ _ (upd (upd (upd H d (.dK [])) p0 (.tup [])) d (.dK (enK [("start", p0, [])])))
    generalize upd (upd (upd H d (.dK [])) p0 (.tup [])) d (.dK (enK [("start", p0, [])])) = H1 at s1 d1 p1
    have ro0 : RwsOk ((0 + 1) * (n + 1)) H1 d ((gs.map lcv).take 0) [("start", p0, [])] := ⟨d1, fun e he => by
      rw [List.mem_singleton] at he
      subst he
      exact ⟨⟨p1, (fun g hg => by cases hg), Nat.zero_le _⟩, Nat.le_refl _⟩, rfl⟩
    refine ⟨_, rfl, l, rfl, ⟨_, SqL.of (s1 _ _ hl.l)⟩, for_list (K := K) (a := l) (xs := gs.map fun g => V.ref g.q) (fun i σ H' => ∃ v2 v3 v4 v5 : Option V, σ = [some (.ref l), some (.ref d), v2, v3, v4, v5] ∧ Same H H' ∧ ∃ es, RwsOk ((i + 1) * (n + 1)) H' d ((gs.map lcv).take i) es) ⟨_, _, _, _, rfl, s1, _, ro0⟩ (fun i σ H' _ ⟨_, _, _, _, _, s, _⟩ => SqL.of (s _ _ hl.l)) ?_ ?_⟩
    · rintro i x σ H2 hx ⟨v2, v3, v4, v5, rfl, s2, es, ro⟩
      obtain ⟨g, eg, rfl⟩ := map_at hx
      have c1 := s2 _ _ (hl.ok g (List.mem_of_getElem? eg)).1
      exact ⟨g.q, _, rfl, SqT.of c1, rfl, _, _, rfl, _, _, rfl, _, _, rfl, _, _, rfl, rfl, d, i, g, es, rfl, eg, s2, hd0, ro, fun H'' es' s' ro' => ⟨_, _, _, _, rfl, s', es', ro'⟩⟩
    · rintro σ H2 ⟨v2, v3, v4, v5, rfl, s2, es, ro⟩
      rw [List.length_map, show (gs.map lcv).take gs.length = gs.map lcv from by rw [← List.length_map (f := lcv) (as := gs), List.take_length]] at ro
      exact ⟨_, rfl, k d H2 es s2 ro⟩
end
end K35
set_option Elab.async false
set_option linter.all false
set_option maxRecDepth 100000
set_option maxHeartbeats 1000000
set_option exponentiation.threshold 100000
namespace K35
open PySem PySem.Spec PyProof.Rows L2 Fa Fb
abbrev sMom : Stmt := top 67
theorem scMom : FnScope ["_law_cues_here", "_law_found", "_law_rows_here", "_law_cue", "_law_row", "_law_many"] ["_law_cues_here"] (defScope sMom) := ⟨rfl, rfl, rfl, by decide +kernel, rfl, by decide +kernel, by decide +kernel⟩

/-! the law's moments, told exactly -/
theorem lrv_len (gs : List Li) : (lrv gs).length = gs.length := List.length_map ..
theorem lrv_take (hs : List Li) (k : Nat) : lrv (hs.take k) = (lrv hs).take k := by
  unfold lrv
  rw [List.map_take]
def spMom (K : PySem.W.Frag) : Sp := fun vs H Q _ => ∃ l gs n, vs = [.ref l] ∧ LsC n H l gs ∧ M04.Good (gs.map lcv) ∧ 1 ≤ n ∧ n ≤ 200 ∧ ∀ p fs H', Same H H' → FoOk ((gs.length + 1) * (n + 1)) H' p fs → (fs.map fun z => lrv z.2) = (M04.all (gs.map lcv)).rows → H p = none → Q (.ref p) H'
structure MoIX (N : Nat) (H : Hp) (f d : Addr) (gs : List Lc) (es : List En) (i : Nat) (H' : Hp) (fs : List (Addr × List Li)) : Prop where
  s : Same H H'
  f0 : H f = none
  ro : RwsOk N H' d (gs.map lcv) es
  fo : FoOk N H' f fs
  ev : (fs.map fun z => lrv z.2) = (M04.all ((gs.map lcv).take i)).rows
abbrev SMo (l f d q : Addr) (v4 : Option V) : L2.St := [some (.ref l), some (.ref f), some (.ref d), some (.ref q), v4, none]
def sMomB (N : Nat) (H : Hp) (l : Addr) (gs : List Lc) : TS := fun D σ H' => ∃ (d f : Addr) (i : Nat) (g : Lc) (es : List En) (fs : List (Addr × List Li)) (v4 : Option V), σ = SMo l f d g.q v4 ∧ gs[i]? = some g ∧ H' g.q = some (.tup [.str g.nm, .str g.pa, .str g.un, .ref g.a]) ∧ MoIX N H f d gs es i H' fs ∧
  ∀ H'' f' fs' v4, MoIX N H f' d gs es (i + 1) H'' fs' → D.nx (SMo l f' d g.q v4) H''
section
variable {P : Program} {w : World} {K : PySem.W.Frag} {mg : Str → Option Value} {base : Heap} {f fF : Addr} {fd fdF : FuncData}
theorem ok_mom (F : FnP K "_law_moments" sMom f fd) (mL : mg "len" = none) (mG : mg "range" = none) (RW : Fn P w K mg base "_law_rows" 4 ["_law_cues_here"] (spRws K) fF fdF) : FnOk P w K mg base (L2.CX P w) 5 f fd ["_law_cues_here"] (spMom K) := by
  refine F.ok scMom (fun vs H Q E h => ?_) (fun cdv A outer s H vs Q E hr h => ?_)
  · obtain ⟨l, gs, n, rfl, _⟩ := h
    rfl
  · obtain ⟨l, gs, n, rfl, hl, good, n1, n2, k⟩ := h
    have hu1 : (A.deeper (envOfC "_law_moments" (defScope sMom) s.heap.objs.size f cdv)).units + 1 < cLine := by
      have := hr.un
      omega
    have hu65 : (A.deeper (envOfC "_law_moments" (defScope sMom) s.heap.objs.size f cdv)).units + 65 < cLine := by
      have := hr.un
      omega
    have hr4 := hr.mono (show 4 ≤ 4 by decide)
    obtain ⟨N, hN⟩ : ∃ N, N = (gs.length + 1) * (n + 1) := ⟨_, rfl⟩
    refine ⟨_, (pss_cons (ps_asg (pe_tup (pa_cons (pe_lst (pa_cons (pe_tup pa_nil) pa_nil)) (pa_cons (pe_call RW.ok hr4 rfl RW.g RW.k RW.b .nil passL (pa_cons (pv 0) pa_nil)) pa_nil))) (pg_tup (by rfl) (pgs_cons (pg_name (i := 1) scMom.nd rfl (Or.inr rfl)) (pgs_cons (pg_name (i := 2) scMom.nd rfl (Or.inl rfl)) pgs_nil))))
      (pss_cons (ps_for (passes_of rfl) rfl (pi_list (pv 0)) (pg_name (i := 3) scMom.nd rfl (Or.inl rfl))
      (pss_imp (S := sMomB N H l gs) (pss_cons (ps_set (i := 4) scMom.nd rfl (Or.inr rfl) (pe_dget hu1 (pv 2) (pe_ix ix_tup (pv 3) pe_int (fun _ _ => rfl)) (fun _ _ => rfl)))
      (pss_one (ps_set (i := 1) scMom.nd rfl (Or.inr rfl) (pe_op op_cat (pv 1) (pe_lc (own := [("_law_many", 5)]) (g := gName 5) (tt := tTest (tOp (rNotInD K) (tSl (rSlA K) (tVar 4) tNoPart (tPart (tVar 5))) (tVar 1))) (te := tSl (rSlA K) (tVar 4) tNoPart (tPart (tVar 5))) (by rfl) scMom.nd (pi_range2 rfl mG (pa_cons pe_int (pa_cons (pe_op op_add (pe_callB call_len rfl mL PySem.boot_len (pa_cons (pv 4) pa_nil)) pe_int) pa_nil))) (blkOk_by (own := [("_law_many", 5)]) (N := ["_law_cues_here", "_law_found", "_law_rows_here", "_law_cue", "_law_row", "_law_many"]) (sc := defScope sMom) (by decide +kernel)) (fun _ _ _ _ _ => (pg_name (i := 5) scMom.nd rfl (Or.inl rfl))) (fun _ _ _ _ _ => pts_one (pt_cmpR (op_notInD hu65) (pe_slice sl_tupA (pv 4) po_none (po_some (pv 5))) (pv 1) (by rfl))) (fun _ _ _ _ _ => (pe_slice sl_tupA (pv 4) po_none (po_some (pv 5))))))))) ?body))
      (pss_one (ps_ret (pv 1))))), ?_⟩
    have fl : ∀ (i : Nat) (fs : List (Addr × List Li)), i ≤ 15 → (fs.map fun z => lrv z.2) = (M04.all ((gs.map lcv).take i)).rows → fs.length ≤ 16 := fun i fs hi e => by
      have h1 := congrArg List.length e
      have h2 := M04.rows_len ((gs.map lcv).take i)
      rw [List.length_take] at h2
      rw [List.length_map] at h1
      omega
    case body =>
      rintro D σ H1 ⟨d, f, i, g, es, fs, v4, rfl, eg, hq, I, kn⟩
      have ec : (gs.map lcv)[i]? = some (lcv g) := by rw [List.getElem?_map, eg]; rfl
      have hi := (List.getElem?_eq_some_iff.mp eg).1
      have h14 := hl.n
      obtain ⟨p, hs, mem, ev⟩ := en_at good I.ro.tab ec
      obtain ⟨r1, r2⟩ := I.ro.ok _ mem.1
      have r1 : LRow N H1 p hs := r1
      have hs40 := r1.n
      refine ⟨_, rfl, _, rfl, g.q, _, 0, _, rfl, rfl, SqT.of hq, rfl, d, _, rfl, .inl ⟨_, Sum.inr g.nm, Rd.of I.ro.dk, rfl, mem.2.symm⟩, ?_⟩
      refine ⟨_, rfl, _, rfl, _, _, rfl, .inr ⟨_, SqT.of r1.l, rfl⟩, _, _, rfl, rfl, _, _, rfl, ⟨by decide, by decide, by rw [List.length_map]; omega, by rw [List.length_map]; omega⟩, ?_⟩
      have eN : (((hs.map fun g => V.ref g.q).length : Int) + 1 - 1).toNat = hs.length := by rw [List.length_map]; omega
      rw [eN]
      have tk : (M04.all ((gs.map lcv).take (i + 1))).rows = M04.rows (M04.all ((gs.map lcv).take i)) (lcv g) := by rw [M04.all_take ec]; rfl
      have ln : (lrv hs).length = hs.length := lrv_len hs
      obtain ⟨pc, p0⟩ := M06.all_PC ((gs.map lcv).take i)
      have evI := I.ev
      -- what the comprehension finds: nothing, or the whole row at its end
      refine fun D2 hD2 => lc_range (lo := 1) (n := hs.length) (fun m H' => Same H1 H' ∧ ∃ ns : List (Addr × List Li), H' D2 = some (.lst (ns.map fun z => V.ref z.1)) ∧ (∀ z ∈ ns, LRow N H' z.1 z.2) ∧ (ns.map fun z => lrv z.2) = (if m = hs.length ∧ lrv hs ∉ fs.map (fun z => lrv z.2) then [lrv hs] else [])) ⟨Same.upd hD2, [], upd_same, (fun z hz => by cases hz), ?_⟩ ?_ ?_
      · rw [if_neg]
        · rfl
        · rintro ⟨h0, h1⟩
          have hn : hs = [] := List.eq_nil_of_length_eq_zero h0.symm
          rw [hn, evI] at h1
          exact h1 p0
      · rintro m H2 hm ⟨s2, ns, hns, okn, evn⟩
        have fo2 := I.fo.same s2
        have row2 := r1.kt (KT.of s2)
        refine ⟨rfl, _, rfl, _, rfl, _, rfl, slA row2 hm fun H3 p3 s3 r3 => ?_⟩
        have fo3 := fo2.same s3
        refine ⟨_, rfl, rowd (hs.take (m + 1)), _, row_dp r3, .lst (SqL.of fo3.l) (fo_dp fo3.ok), rowd_shaped _ r3.str, fo_shaped fo3.ok, _, rfl, ?_⟩
        rw [fo_any fo3.ok r3]
        have evn0 : ns = [] := by
          rw [if_neg (fun h => absurd h.1 (by omega))] at evn
          exact List.map_eq_nil_iff.mp evn
        subst evn0
        by_cases c0 : lrv (hs.take (m + 1)) ∈ fs.map fun z => lrv z.2
        · rw [decide_eq_true c0]
          refine iteF ⟨s2.trans s3, [], s3 _ _ hns, (fun z hz => by cases hz), ?_⟩
          rw [if_neg]
          · rfl
          · rintro ⟨h0, h1⟩
            rw [h0, List.take_length] at c0
            exact h1 c0
        · rw [decide_eq_false c0]
          have hm1 : m + 1 = hs.length := by
            apply Classical.byContradiction
            intro h
            refine c0 ?_
            rw [evI, lrv_take, ev]
            exact M06.row_pre pc p0 (lcv g) (by rw [← ev, ln]; omega)
          refine iteT ⟨_, rfl, _, rfl, _, rfl, slA (row2.kt (KT.of s3)) hm fun H4 p4 s4 r4 => ?_⟩
          have hns4 := s4 _ _ (s3 _ _ hns)
          refine ⟨_, hns4, (by show 0 < sizeLine; decide), same_put (s2.trans (s3.trans s4)) hD2, [(p4, hs.take (m + 1))], by rw [upd_same]; rfl, fun z hz => ?_, ?_⟩
          · rw [List.mem_singleton.mp hz]
            exact r4.put (.inl ⟨_, hns4⟩)
          · rw [hm1, List.take_length] at c0 ⊢
            rw [if_pos ⟨rfl, c0⟩]
            rfl
      · rintro H2 ⟨s2, ns, hns, okn, evn⟩
        have fo2 := I.fo.same s2
        have hfs := fl i fs (by omega) evI
        have hnl : ns.length ≤ 1 := by
          have := congrArg List.length evn
          rw [List.length_map] at this
          rw [this]
          split
          · exact Nat.le_refl _
          · exact Nat.zero_le _
        refine ⟨f, D2, _, _, rfl, rfl, fo2.l, hns, ?_, fun f2 hf2 => ?_⟩
        · rw [List.length_map, List.length_map]
          exact Nat.le_trans (show fs.length + ns.length ≤ 100 by omega) (by decide)
        have s3 := Same.upd (o := .lst ((fs.map fun z => V.ref z.1) ++ ns.map fun z => V.ref z.1)) hf2
        have s13 := I.s.trans (s2.trans s3)
        refine kn _ f2 (fs ++ ns) _ ⟨s13, none_of (I.s.trans s2) hf2, I.ro.same (s2.trans s3), ⟨by rw [upd_same, List.map_append], fun z hz => ?_, ?_⟩, ?_⟩
        · rcases List.mem_append.mp hz with hz | hz
          · exact (fo2.ok z hz).kt (KT.of s3)
          · exact (okn z hz).kt (KT.of s3)
        · rw [List.map_append]
          exact List.mem_append_left _ I.fo.z
        · rw [List.map_append, evn, evI, tk]
          unfold M04.rows
          rw [← ev]
          by_cases c0 : lrv hs ∈ (M04.all ((gs.map lcv).take i)).rows
          · rw [if_neg fun h => h.2 c0, List.append_nil, if_pos c0]
          · rw [if_pos ⟨rfl, c0⟩, if_neg c0]
    refine ⟨by show 0 ≤ sizeLine; decide, fun p0 hp0 => ⟨by show 1 ≤ sizeLine; decide, fun f0 hf0 => ?_⟩⟩
    have s1 := Same.upd (o := .tup []) hp0
    have p1 : upd H p0 (.tup []) p0 = some (.tup []) := upd_same
    have f00 := none_of s1 hf0
    generalize upd H p0 (.tup []) = H1 at s1 p1 hf0 ⊢
    have s2 := Same.upd (o := .lst [.ref p0]) hf0
    have f2 : upd H1 f0 (.lst [.ref p0]) f0 = some (.lst [.ref p0]) := upd_same
    generalize upd H1 f0 (.lst [.ref p0]) = H2 at s2 f2 ⊢
    refine ⟨_, rfl, l, gs, n, rfl, hl.same (s1.trans s2), good, n1, n2, fun d H3 es s3 ro => ?_⟩
    rw [← hN] at ro
    refine ⟨by show 2 ≤ sizeLine; decide, fun tq htq => ⟨tq, _, rfl, SqT.of upd_same, rfl, _, _, rfl, _, _, rfl, rfl, ?_⟩⟩
    have s4 := Same.upd (o := .tup [.ref f0, .ref d]) htq
    have s13 := s1.trans (s2.trans (s3.trans s4))
    have ro4 := ro.same s4
    have f4 := s4 _ _ (s3 _ _ f2)
    have p4 := s4 _ _ (s3 _ _ (s2 _ _ p1))
    generalize upd H3 tq (.tup [.ref f0, .ref d]) = H4 at s4 s13 ro4 f4 p4 ⊢
    have mo0 : MoIX N H f0 d gs es 0 H4 [(p0, [])] := ⟨s13, f00, ro4, ⟨f4, fun z hz => by
      rw [List.mem_singleton] at hz
      subst hz
      exact ⟨p4, (fun g hg => by cases hg), Nat.zero_le _⟩, List.mem_singleton.mpr rfl⟩, rfl⟩
    refine ⟨_, rfl, l, rfl, ⟨_, SqL.of (s13 _ _ hl.l)⟩, for_list (K := K) (a := l) (xs := gs.map fun g => V.ref g.q) (fun i σ H' => ∃ (f : Addr) (v3 v4 : Option V) (fs : List (Addr × List Li)), σ = [some (.ref l), some (.ref f), some (.ref d), v3, v4, none] ∧ MoIX N H f d gs es i H' fs) ⟨_, _, _, _, rfl, mo0⟩ (fun i σ H' _ ⟨_, _, _, _, _, I⟩ => SqL.of (I.s _ _ hl.l)) ?_ ?_⟩
    · rintro i x σ H4 hx ⟨f, v3, v4, fs, rfl, I⟩
      obtain ⟨g, eg, rfl⟩ := map_at hx
      have c1 := I.s _ _ (hl.ok g (List.mem_of_getElem? eg)).1
      exact ⟨d, f, i, g, es, fs, v4, rfl, eg, c1, I, fun H'' f' fs' v4 I' => ⟨f', _, _, fs', rfl, I'⟩⟩
    · rintro σ H4 ⟨f, v3, v4, fs, rfl, I⟩
      have hev := I.ev
      rw [List.length_map, List.take_of_length_le (by rw [List.length_map]; exact Nat.le_refl _)] at hev
      have hfo := I.fo
      have hf0' := I.f0
      subst hN
      exact ⟨_, rfl, k f _ H4 I.s hfo hev hf0'⟩
end
end K35
set_option Elab.async false
set_option linter.all false
set_option maxRecDepth 100000
set_option maxHeartbeats 1000000
/-! text * int. -/
namespace Gd
open PySem PySem.Spec PyProof.Rows L2
variable {X : Cx}
theorem op_mulS : OpR X (binaryOp .Mult) (fun x y H Q => ∃ i j, x = .str i ∧ y = .int j ∧ MulOk i j ∧ Q (.str (Txt.mul i j)) H) := by
  intro pins s σ H x y v u Q I rx ry h
  obtain ⟨i, j, rfl, rfl, hz, q⟩ := h
  obtain ⟨t, rfl⟩ := rx
  obtain ⟨t', rfl⟩ := ry
  exact SB.mul hz fun t' tk => ⟨.str (Txt.mul i j), H, I.tok _, ⟨_, rfl⟩, q⟩
end Gd
set_option Elab.async false
set_option linter.all false
set_option maxRecDepth 100000
set_option maxHeartbeats 1000000
set_option exponentiation.threshold 100000
namespace K35
open PySem PySem.Spec PyProof.Rows L2 Fa Fb
abbrev sLam : Stmt := top 64
theorem scLam : FnScope ["_law_box_here", "_law_plain", "_law_top", "_law_bottom"] ["_law_box_here"] (defScope sLam) := ⟨rfl, rfl, rfl, by decide +kernel, rfl, by decide +kernel, by decide +kernel⟩

/-- a fraction of few digits -/
def Sm (t u : Int) : Prop := t.natAbs < 1000000 ∧ u ≤ 1000
def spLam : Sp := fun vs H Q _ => ∃ (p : Addr) (n : Nat), vs = [.ref p] ∧ Box H p n ∧ n + 7 ≤ 1000000 ∧ ∀ r t u H', Kp p H H' → Box H' p (n + 7) → Fr 20 H' r t u → Sm t u → Q (.ref r) H'
def Pq (H : Hp) (x : V) : Prop := ∃ (a : Addr) (t b : Int), x = .ref a ∧ H a = some (.tup [.int t, .int b]) ∧ t.natAbs < 1000000 ∧ 1 ≤ b ∧ b ≤ 1000
def Pqs (H : Hp) (xs : List V) : Prop := ∀ x ∈ xs, Pq H x
theorem Pqs.kp {H H' : Hp} {p : Addr} {n : Nat} {xs : List V} (h : Pqs H xs) (b : Box H p n) (k : Kp p H H') : Pqs H' xs := fun x hx => by
  obtain ⟨a, t, c, e, ha, r⟩ := h x hx
  refine ⟨a, t, c, e, k _ _ (fun z => ?_) ha, r⟩
  obtain ⟨_, _, _, hp, _⟩ := b
  rw [z, hp] at ha
  cases ha
theorem Pqs.add {H : Hp} {xs : List V} {a : Addr} {t b : Int} (h : Pqs H xs) (ha : H a = none) (h1 : t.natAbs < 1000000) (h2 : 1 ≤ b) (h3 : b ≤ 1000) : Pqs (upd H a (.tup [.int t, .int b])) (xs ++ [.ref a]) := fun x hx => by
  rcases List.mem_append.mp hx with hx | hx
  · obtain ⟨a', t', c, e, ha', r⟩ := h x hx
    exact ⟨a', t', c, e, Same.upd ha _ _ ha', r⟩
  · rw [List.mem_singleton] at hx
    exact ⟨a, t, b, hx, upd_same, h1, h2, h3⟩
theorem atI_in {α : Type} {xs : List α} {z : Int} (h0 : 0 ≤ z) (h1 : z < (xs.length : Int)) : ∃ v, atI xs z = some v ∧ v ∈ xs := by
  obtain ⟨j, rfl⟩ := Int.eq_ofNat_of_zero_le h0
  have hj : j < xs.length := by omega
  exact ⟨xs[j], atI_nat (List.getElem?_eq_getElem hj), List.getElem_mem hj⟩
section
variable {P : Program} {w : World} {K : PySem.W.Frag} {mg : Str → Option Value} {base : Heap} {f fT fL : Addr} {fd fdT fdL : FuncData}
theorem ok_lam (F : FnP K "_law_amount" sLam f fd) (GT : Fn0 P w K mg base "_law_take" 1 ["_law_box_here", "_law_many"] spTake fT fdT) (LO : Fn P w K mg base "_law_lowest" 1 ["_law_top", "_law_bottom"] spLow fL fdL) : FnOk P w K mg base (L2.CX P w) 2 f fd ["_law_box_here"] spLam := by
  refine F.ok scLam (fun vs H Q E h => ?_) (fun cdv A outer s H vs Q E hr h => ?_)
  · obtain ⟨p, n, rfl, _⟩ := h
    rfl
  · obtain ⟨p, n, rfl, hb, hn, k⟩ := h
    have hr1 := hr.mono (show 1 ≤ 1 by decide)
    refine ⟨_, (pss_cons (ps_set (i := 1) scLam.nd rfl (Or.inl rfl) (pe_lst (pa_cons (pe_tup (pa_cons pe_int (pa_cons pe_int pa_nil))) (pa_cons (pe_tup (pa_cons pe_int (pa_cons pe_int pa_nil))) (pa_cons (pe_tup (pa_cons pe_int (pa_cons pe_int pa_nil))) (pa_cons (pe_tup (pa_cons (pe_op op_add pe_int (pe_call GT.ok hr1 rfl GT.g GT.k GT.b .nil pass0 (pa_cons (pv 0) (pa_cons pe_int pa_nil)))) (pa_cons pe_int pa_nil))) (pa_cons (pe_tup (pa_cons (pe_op op_add pe_int (pe_call GT.ok hr1 rfl GT.g GT.k GT.b .nil pass0 (pa_cons (pv 0) (pa_cons pe_int pa_nil)))) (pa_cons (pe_op op_add pe_int (pe_call GT.ok hr1 rfl GT.g GT.k GT.b .nil pass0 (pa_cons (pv 0) (pa_cons pe_int pa_nil)))) pa_nil))) (pa_cons (pe_tup (pa_cons pe_int (pa_cons pe_int pa_nil))) pa_nil))))))))
      (pss_cons (ps_set (i := 1) scLam.nd rfl (Or.inl rfl) (pe_op op_cat (pv 1) (pe_lst (pa_cons (pe_tup (pa_cons pe_int (pa_cons pe_int pa_nil))) (pa_cons (pe_tup (pa_cons (pe_op op_add pe_int (pe_call GT.ok hr1 rfl GT.g GT.k GT.b .nil pass0 (pa_cons (pv 0) (pa_cons pe_int pa_nil)))) (pa_cons (pe_op op_add pe_int (pe_call GT.ok hr1 rfl GT.g GT.k GT.b .nil pass0 (pa_cons (pv 0) (pa_cons pe_int pa_nil)))) pa_nil))) pa_nil)))))
      (pss_cons (ps_asg (pe_ix ix_list (pv 1) (pe_call GT.ok hr1 rfl GT.g GT.k GT.b .nil pass0 (pa_cons (pv 0) (pa_cons pe_int pa_nil))) (fun _ _ => rfl)) (pg_tup (by rfl) (pgs_cons (pg_name (i := 2) scLam.nd rfl (Or.inl rfl)) (pgs_cons (pg_name (i := 3) scLam.nd rfl (Or.inl rfl)) pgs_nil))))
      (pss_one (ps_ret (pe_call LO.ok hr1 rfl LO.g LO.k LO.b .nil passL (pa_cons (pe_op op_mulW (pe_ix ix_list (pe_lst (pa_cons pe_int (pa_cons pe_int (pa_cons (pe_op op_sub pe_int pe_int) pa_nil)))) (pe_call GT.ok hr1 rfl GT.g GT.k GT.b .nil pass0 (pa_cons (pv 0) (pa_cons pe_int pa_nil))) (fun _ _ => rfl)) (pv 2)) (pa_cons (pv 3) pa_nil)))))))), ?_⟩
    have e3 : ∀ z : Int, 0 ≤ z → z < 3 → ∃ sg : Int, atI [V.int 1, .int 1, .int (0 - 1)] z = some (.int sg) ∧ sg.natAbs = 1 := fun z h0 h1 => by
      have c : z = 0 ∨ z = 1 ∨ z = 2 := by omega
      rcases c with rfl | rfl | rfl
      · exact ⟨1, rfl, rfl⟩
      · exact ⟨1, rfl, rfl⟩
      · exact ⟨0 - 1, rfl, rfl⟩
    have P0 : Pqs H [] := fun x hx => by cases hx
    have K0 := Kp.refl p H
    have B0 := hb
    refine ⟨by show 2 ≤ sizeLine; decide, fun q1 h1 => ?_⟩
    have P1 := P0.add (t := 1) (b := 1) h1 (by decide) (by decide) (by decide)
    have K1 := K0.trans (Kp.same (Same.upd (o := .tup [.int (1), .int (1)]) h1))
    have B1 := B0.upd (o := .tup [.int (1), .int (1)]) h1
    generalize upd H q1 (.tup [.int (1), .int (1)]) = H1 at P1 K1 B1 ⊢
    refine ⟨by show 2 ≤ sizeLine; decide, fun q2 h2 => ?_⟩
    have P2 := P1.add (t := 2) (b := 1) h2 (by decide) (by decide) (by decide)
    have K2 := K1.trans (Kp.same (Same.upd (o := .tup [.int (2), .int (1)]) h2))
    have B2 := B1.upd (o := .tup [.int (2), .int (1)]) h2
    generalize upd H1 q2 (.tup [.int (2), .int (1)]) = H2 at P2 K2 B2 ⊢
    refine ⟨by show 2 ≤ sizeLine; decide, fun q3 h3 => ?_⟩
    have P3 := P2.add (t := 1) (b := 2) h3 (by decide) (by decide) (by decide)
    have K3 := K2.trans (Kp.same (Same.upd (o := .tup [.int (1), .int (2)]) h3))
    have B3 := B2.upd (o := .tup [.int (1), .int (2)]) h3
    generalize upd H2 q3 (.tup [.int (1), .int (2)]) = H3 at P3 K3 B3 ⊢
    refine ⟨_, rfl, p, 4, _, rfl, B3, by omega, by decide, by decide, fun z4 H4 y4 x4 B4 k4 => ?_⟩
    have K4 := K3.trans (Kp.but k4)
    have P4 := P3.kp B3 (Kp.but k4)
    refine ⟨_, _, rfl, rfl, ?_⟩
    refine ⟨by show 2 ≤ sizeLine; decide, fun q5 h5 => ?_⟩
    have P5 := P4.add (t := 1 + z4) (b := 1) h5 (by omega) (by decide) (by decide)
    have K5 := K4.trans (Kp.same (Same.upd (o := .tup [.int (1 + z4), .int (1)]) h5))
    have B5 := B4.upd (o := .tup [.int (1 + z4), .int (1)]) h5
    generalize upd H4 q5 (.tup [.int (1 + z4), .int (1)]) = H5 at P5 K5 B5 ⊢
    refine ⟨_, rfl, p, 9, _, rfl, B5, by omega, by decide, by decide, fun z6 H6 y6 x6 B6 k6 => ?_⟩
    have K6 := K5.trans (Kp.but k6)
    have P6 := P5.kp B5 (Kp.but k6)
    refine ⟨_, _, rfl, rfl, ?_⟩
    refine ⟨_, rfl, p, 6, _, rfl, B6, by omega, by decide, by decide, fun z7 H7 y7 x7 B7 k7 => ?_⟩
    have K7 := K6.trans (Kp.but k7)
    have P7 := P6.kp B6 (Kp.but k7)
    refine ⟨_, _, rfl, rfl, ?_⟩
    refine ⟨by show 2 ≤ sizeLine; decide, fun q8 h8 => ?_⟩
    have P8 := P7.add (t := 1 + z6) (b := 1 + z7) h8 (by omega) (by omega) (by omega)
    have K8 := K7.trans (Kp.same (Same.upd (o := .tup [.int (1 + z6), .int (1 + z7)]) h8))
    have B8 := B7.upd (o := .tup [.int (1 + z6), .int (1 + z7)]) h8
    generalize upd H7 q8 (.tup [.int (1 + z6), .int (1 + z7)]) = H8 at P8 K8 B8 ⊢
    refine ⟨by show 2 ≤ sizeLine; decide, fun q9 h9 => ?_⟩
    have P9 := P8.add (t := 0) (b := 1) h9 (by decide) (by decide) (by decide)
    have K9 := K8.trans (Kp.same (Same.upd (o := .tup [.int (0), .int (1)]) h9))
    have B9 := B8.upd (o := .tup [.int (0), .int (1)]) h9
    generalize upd H8 q9 (.tup [.int (0), .int (1)]) = H9 at P9 K9 B9 ⊢
    refine ⟨by show 6 ≤ sizeLine; decide, fun la hla => ?_⟩
    have nla : la ≠ p := (B9.ne hla).symm
    have sla := Same.upd (o := .lst [.ref q1, .ref q2, .ref q3, .ref q5, .ref q8, .ref q9]) hla
    have K10 := K9.trans (Kp.same sla)
    have B10 := B9.sm sla
    have P10 := P9.kp B9 (Kp.same sla)
    have ela10 : upd H9 la (.lst [.ref q1, .ref q2, .ref q3, .ref q5, .ref q8, .ref q9]) la = some (.lst [.ref q1, .ref q2, .ref q3, .ref q5, .ref q8, .ref q9]) := upd_same
    generalize upd H9 la (.lst [.ref q1, .ref q2, .ref q3, .ref q5, .ref q8, .ref q9]) = H10 at K10 B10 P10 sla ela10 ⊢
    refine ⟨_, rfl, ?_⟩
    refine ⟨by show 2 ≤ sizeLine; decide, fun q11 h11 => ?_⟩
    have P11 := P10.add (t := 3) (b := 2) h11 (by decide) (by decide) (by decide)
    have K11 := K10.trans (Kp.same (Same.upd (o := .tup [.int (3), .int (2)]) h11))
    have B11 := B10.upd (o := .tup [.int (3), .int (2)]) h11
    have ela11 := Same.upd (o := .tup [.int (3), .int (2)]) h11 _ _ ela10
    generalize upd H10 q11 (.tup [.int (3), .int (2)]) = H11 at P11 K11 B11 ela11 ⊢
    refine ⟨_, rfl, p, 1000, _, rfl, B11, by omega, by decide, by decide, fun z12 H12 y12 x12 B12 k12 => ?_⟩
    have K12 := K11.trans (Kp.but k12)
    have P12 := P11.kp B11 (Kp.but k12)
    have ela12 := (k12 la nla).trans ela11
    refine ⟨_, _, rfl, rfl, ?_⟩
    refine ⟨_, rfl, p, 1000, _, rfl, B12, by omega, by decide, by decide, fun z13 H13 y13 x13 B13 k13 => ?_⟩
    have K13 := K12.trans (Kp.but k13)
    have P13 := P12.kp B12 (Kp.but k13)
    have ela13 := (k13 la nla).trans ela12
    refine ⟨_, _, rfl, rfl, ?_⟩
    refine ⟨by show 2 ≤ sizeLine; decide, fun q14 h14 => ?_⟩
    have P14 := P13.add (t := 1 + z12) (b := 1 + z13) h14 (by omega) (by omega) (by omega)
    have K14 := K13.trans (Kp.same (Same.upd (o := .tup [.int (1 + z12), .int (1 + z13)]) h14))
    have B14 := B13.upd (o := .tup [.int (1 + z12), .int (1 + z13)]) h14
    have ela14 := Same.upd (o := .tup [.int (1 + z12), .int (1 + z13)]) h14 _ _ ela13
    generalize upd H13 q14 (.tup [.int (1 + z12), .int (1 + z13)]) = H14 at P14 K14 B14 ela14 ⊢
    refine ⟨by show 2 ≤ sizeLine; decide, fun lb hlb => ?_⟩
    have nlb : lb ≠ p := (B14.ne hlb).symm
    have slb := Same.upd (o := .lst [.ref q11, .ref q14]) hlb
    have K15 := K14.trans (Kp.same slb)
    have B15 := B14.sm slb
    have P15 := P14.kp B14 (Kp.same slb)
    have elb15 : upd H14 lb (.lst [.ref q11, .ref q14]) lb = some (.lst [.ref q11, .ref q14]) := upd_same
    have ela15 := slb _ _ ela14
    generalize upd H14 lb (.lst [.ref q11, .ref q14]) = H15 at K15 B15 P15 slb elb15 ela15 ⊢
    refine ⟨la, lb, _, _, rfl, rfl, ela15, elb15, by show 6 + 2 ≤ sizeLine; decide, fun l3 hl3 => ?_⟩
    have s16 := Same.upd (o := .lst ([V.ref q1, V.ref q2, V.ref q3, V.ref q5, V.ref q8, V.ref q9] ++ [V.ref q11, V.ref q14])) hl3
    have K16 := K15.trans (Kp.same s16)
    have B16 := B15.sm s16
    have P16 := P15.kp B15 (Kp.same s16)
    have n3 : l3 ≠ p := (B15.ne hl3).symm
    have e16 : upd H15 l3 (.lst ([V.ref q1, V.ref q2, V.ref q3, V.ref q5, V.ref q8, V.ref q9] ++ [V.ref q11, V.ref q14])) l3 = some (.lst ([V.ref q1, V.ref q2, V.ref q3, V.ref q5, V.ref q8, V.ref q9] ++ [V.ref q11, V.ref q14])) := upd_same
    generalize upd H15 l3 (.lst ([V.ref q1, V.ref q2, V.ref q3, V.ref q5, V.ref q8, V.ref q9] ++ [V.ref q11, V.ref q14])) = H16 at s16 K16 B16 P16 e16 ⊢
    refine ⟨_, rfl, _, rfl, p, 8, _, rfl, B16, by omega, by decide, by decide, fun z17 H17 y17 x17 B17 k17 => ?_⟩
    have K17 := K16.trans (Kp.but k17)
    have P17 := P16.kp B16 (Kp.but k17)
    have e17 := (k17 l3 n3).trans e16
    obtain ⟨v, ev, mv⟩ := atI_in (xs := ([V.ref q1, V.ref q2, V.ref q3, V.ref q5, V.ref q8, V.ref q9] ++ [V.ref q11, V.ref q14])) y17 x17
    obtain ⟨a, t, b, rfl, ha, ht, b1, b2⟩ := P17 v mv
    refine ⟨l3, _, _, _, rfl, rfl, SqL.of e17, ev, a, _, rfl, SqT.of ha, rfl, _, _, rfl, _, _, rfl, rfl, ?_⟩
    refine ⟨_, _, rfl, rfl, by show 3 ≤ sizeLine; decide, fun l0 hl0 => ?_⟩
    have s18 := Same.upd (o := .lst [.int 1, .int 1, .int (0 - 1)]) hl0
    have e18 : upd H17 l0 (.lst [.int 1, .int 1, .int (0 - 1)]) l0 = some (.lst [.int 1, .int 1, .int (0 - 1)]) := upd_same
    have n0 : l0 ≠ p := (B17.ne hl0).symm
    have B18 := B17.sm s18
    generalize upd H17 l0 (.lst [.int 1, .int 1, .int (0 - 1)]) = H18 at s18 e18 B18 ⊢
    refine ⟨_, rfl, p, 3, _, rfl, B18, by omega, by decide, by decide, fun z19 H19 y19 x19 B19 k19 => ?_⟩
    obtain ⟨sg, es, hsg⟩ := e3 z19 y19 x19
    refine ⟨l0, _, _, _, rfl, rfl, SqL.of ((k19 l0 n0).trans e18), es, _, rfl, _, _, rfl, rfl, ?_, _, rfl, ?_⟩
    · exact mulW_of (n := 1) (m := 20) (by omega) (by omega) (by decide)
    · refine ⟨_, _, rfl, by omega, Nat.lt_of_le_of_lt (show b.natAbs ≤ 1000 by omega) (Nat.lt_of_lt_of_le (show 1000 < 2 ^ 10 by decide) (Nat.pow_le_pow_right (by decide) (by decide))), fun r t' u' hr0 rd _ hl hb => ?_⟩
      have e1 : (sg * t).natAbs = t.natAbs := by rw [Int.natAbs_mul, hsg, Nat.one_mul]
      exact k r t' u' _ (K17.trans (((Kp.same s18).trans (Kp.but k19)).trans (Kp.same (Same.upd hr0)))) ((B19.upd hr0).mono (by omega)) ⟨upd_same, rd, by omega, by omega⟩ ⟨by omega, by omega⟩
end
end K35
set_option Elab.async false
set_option linter.all false
set_option maxRecDepth 100000
set_option maxHeartbeats 1000000
set_option exponentiation.threshold 100000
namespace K35
open PySem PySem.Spec PyProof.Rows L2 Fa Fb
abbrev sLcu : Stmt := top 68
theorem scLcu : FnScope ["_law_box_here", "_law_limit", "_law_most_cues", "_law_cues_here", "_law_stem", "_law_k", "_law_names", "_law_parent", "_law_unit", "_law_amount_here", "_law_other", "_law_name", "_law_more", "_law_cue"] ["_law_box_here", "_law_limit", "_law_most_cues"] (defScope sLcu) := ⟨rfl, rfl, rfl, by decide +kernel, rfl, by decide +kernel, by decide +kernel⟩

/-! ### labels -/
abbrev cl (z : Str) : List Nat := z.cps.toList
theorem let_list : cl LET = List.range' 97 26 := by decide +kernel
theorem dig_list : cl DIG = List.range' 48 10 := by decide +kernel
theorem mem_let {c : Nat} : c ∈ cl LET ↔ 97 ≤ c ∧ c < 123 := by
  rw [let_list, List.mem_range'_1]
theorem mem_dig {c : Nat} : c ∈ cl DIG ↔ 48 ≤ c ∧ c < 58 := by
  rw [dig_list, List.mem_range'_1]
theorem cl_app (a b : Str) : cl (a ++ b) = cl a ++ cl b := by
  show (a.cps ++ b.cps).toList = _
  simp
theorem cl_ext {a b : Str} (h : cl a = cl b) : a = b := by
  cases a
  cases b
  congr 1
  exact Array.toList_inj.mp h
theorem len_cl (z : Str) : z.length = (cl z).length := by
  show z.cps.size = _
  simp
def Low (c : Nat) : Prop := 97 ≤ c ∧ c < 123
def Dg (c : Nat) : Prop := 48 ≤ c ∧ c < 58
theorem isName_of {z : Str} {c : Nat} {r : List Nat} (h : cl z = c :: r) (l : Low c) (a : ∀ x ∈ r, Low x ∨ Dg x) (n : r.length ≤ 7) : isName z = true := by
  unfold isName
  have h1 : z.length = r.length + 1 := by rw [len_cl, h]; rfl
  have h' : z.cps.toList = c :: r := h
  rw [h1, decide_eq_true (by omega), decide_eq_true (by omega), h']
  show (true && true && (decide (c ∈ LET.cps.toList) && only z (LET ++ DIG))) = true
  rw [decide_eq_true (mem_let.mpr l)]
  show only z (LET ++ DIG) = true
  unfold only
  rw [h', List.all_eq_true]
  intro x hx
  refine decide_eq_true ?_
  show x ∈ cl (LET ++ DIG)
  rw [cl_app, List.mem_append, mem_let, mem_dig]
  rcases List.mem_cons.mp hx with e | m
  · rw [e]; exact .inl l
  · exact a x m
theorem isName_str {z : Str} (h : isName z = true) : PyData.strOk z = true := by
  unfold isName at h
  rw [Bool.and_eq_true, Bool.and_eq_true] at h
  have h2 := h.2
  rw [Bool.and_eq_true] at h2
  have o := h2.2
  unfold only at o
  rw [List.all_eq_true] at o
  unfold PyData.strOk
  rw [← Array.all_toList, List.all_eq_true]
  intro x hx
  have := of_decide_eq_true (o x hx)
  have this : x ∈ cl (LET ++ DIG) := this
  rw [cl_app, List.mem_append, mem_let, mem_dig] at this
  exact decide_eq_true (by omega)
/-- names of cues: valid, no two the same, none of two words -/
structure Lb (zs : List Str) : Prop where
  nd : zs.Nodup
  ok : ∀ z ∈ zs, isName z = true ∧ z ≠ "start" ∧ z ≠ "zz9zz"
def stems : List Str := ["c", "x1", "beats"]
/-- the name of the cue of number k -/
def nmz (st : Str) (k : Nat) : Str := if st = "c" then Txt.mul "c" ((k : Int) + 1) else st ++ Str.ofString (toString (k : Int))
def nmL (st : Str) : List Str := (List.range 8).map (nmz st)
theorem nmz_all : ∀ st ∈ stems, (nmL st).Nodup ∧ ∀ z ∈ nmL st, isName z = true ∧ z ≠ "start" ∧ z ≠ "zz9zz" := by decide +kernel
theorem nmz_lb (st : Str) (h : st ∈ stems) : Lb (nmL st) := ⟨(nmz_all st h).1, (nmz_all st h).2⟩
theorem mul_ok : ∀ i : Nat, i < 8 → MulOk "c" ((i : Int) + 1) := fun i hi => by
  refine ⟨?_, fun _ _ => ?_, fun _ _ => ?_⟩
  · rw [decide_eq_false (by omega), decide_eq_false (by omega)]
    rfl
  · have h1 : (Str.length ("c" : Str) : Int) = 1 := by decide +kernel
    rw [h1]
    have c : i = 0 ∨ i = 1 ∨ i = 2 ∨ i = 3 ∨ i = 4 ∨ i = 5 ∨ i = 6 ∨ i = 7 := by omega
    rcases c with rfl | rfl | rfl | rfl | rfl | rfl | rfl | rfl <;> decide
  · have h1 : Str.length ("c" : Str) = 1 := by decide +kernel
    rw [h1]
    have c : i = 0 ∨ i = 1 ∨ i = 2 ∨ i = 3 ∨ i = 4 ∨ i = 5 ∨ i = 6 ∨ i = 7 := by omega
    rcases c with rfl | rfl | rfl | rfl | rfl | rfl | rfl | rfl <;> decide +kernel
theorem st_len : ∀ st ∈ stems, st.length ≤ 5 := by decide +kernel
theorem dig_len : ∀ i : Nat, i < 8 → (Str.ofString (toString (i : Int))).length ≤ 2 := by decide +kernel
def SmQ (q : Rat) : Prop := ∃ t u, Am.Red t u ∧ vq t u = q ∧ Sm t u
def GoodL (cs : List M04.Cue) : Prop := M04.Good cs ∧ ∀ c ∈ cs, isName c.nm = true ∧ c.nm ≠ "zz9zz" ∧ isUnit c.un = true ∧ SmQ c.q
def spLcu : Sp := fun vs H Q _ => ∃ (p : Addr) (n lim most : Nat), vs = [.ref p, .int (lim : Int), .int (most : Int)] ∧ Box H p n ∧ n + 200 ≤ 1000000 ∧ 1 ≤ lim ∧ lim ≤ 8 ∧ most ≤ 7 ∧ ∀ l gs st H', Kp p H H' → Box H' p (n + 200) → LsC 20 H' l gs → gs.length ≤ most → GoodL (gs.map lcv) → (M04.all (gs.map lcv)).rows.length ≤ lim → st ∈ stems → (∀ g ∈ gs, g.nm ∈ (nmL st).take most) → H l = none → Q (.ref l) H'
/-- behind i names -/
structure LcI (H Hb : Hp) (p : Addr) (n lim : Nat) (zs : List Str) (i : Nat) (H' : Hp) (l : Addr) (gs : List Lc) : Prop where
  k : Kp p Hb H'
  kb : Kp p H Hb
  b : Box H' p (n + 10 + i * 13)
  ls : LsC 20 H' l gs
  le : gs.length ≤ i
  good : GoodL (gs.map lcv)
  rows : (M04.all (gs.map lcv)).rows.length ≤ lim
  new : H l = none
  sub : ∀ g ∈ gs, g.nm ∈ zs.take i
abbrev SLc (p : Addr) (lim most : Nat) (l : Addr) (st : Str) (i : Nat) (v6 v7 v8 v9 v10 v11 v12 : Option V) : L2.St := [some (.ref p), some (.int (lim : Int)), some (.int (most : Int)), some (.ref l), some (.str st), some (.int (i : Int)), v6, v7, v8, v9, v10, v11, v12, none]
def sLcuB (H : Hp) (p : Addr) (n lim most : Nat) : TS := fun D σ H' => ∃ (Hb : Hp) (st : Str) (l : Addr) (gs : List Lc) (i : Nat) (v6 v7 v8 v9 v10 v11 v12 : Option V), σ = SLc p lim most l st i v6 v7 v8 v9 v10 v11 v12 ∧ st ∈ stems ∧ i < 7 ∧ LcI H Hb p n lim (nmL st) i H' l gs ∧
  ∀ H'' l' gs' v6 v7 v8 v9 v10 v11 v12, LcI H Hb p n lim (nmL st) (i + 1) H'' l' gs' → D.nx (SLc p lim most l' st i v6 v7 v8 v9 v10 v11 v12) H''
def sLcuM (H : Hp) (p : Addr) (n lim most : Nat) : TS := fun D σ H' => ∃ (Hb : Hp) (st : Str) (l : Addr) (gs : List Lc) (i : Nat) (pa un : Str) (a : Addr) (t u : Int) (v6 v10 v11 v12 : Option V), σ = SLc p lim most l st i v6 (some (.str pa)) (some (.str un)) (some (.ref a)) v10 v11 v12 ∧ st ∈ stems ∧ i < 7 ∧ Kp p Hb H' ∧ Kp p H Hb ∧ Box H' p (n + 10 + (i + 1) * 13) ∧ LsC 20 H' l gs ∧ gs.length ≤ i ∧ GoodL (gs.map lcv) ∧ (M04.all (gs.map lcv)).rows.length ≤ lim ∧ H l = none ∧ (∀ g ∈ gs, g.nm ∈ (nmL st).take i) ∧
  pa ∈ ("start" : Str) :: (gs.map lcv).map (·.nm) ∧ isUnit un = true ∧ (Fr 20 H' a t u ∧ Sm t u) ∧
  ∀ H'' l' gs' v11 v12, LcI H Hb p n lim (nmL st) (i + 1) H'' l' gs' → D.nx (SLc p lim most l' st i v6 (some (.str pa)) (some (.str un)) (some (.ref a)) v10 v11 v12) H''
def sLcuN (H : Hp) (p : Addr) (n lim most : Nat) : TS := fun D σ H' => ∃ (Hb : Hp) (st : Str) (l : Addr) (gs : List Lc) (i : Nat) (pa un : Str) (a : Addr) (t u : Int) (v6 v10 v12 : Option V), σ = SLc p lim most l st i v6 (some (.str pa)) (some (.str un)) (some (.ref a)) v10 (some (.str (nmz st i))) v12 ∧ st ∈ stems ∧ i < 7 ∧ Kp p Hb H' ∧ Kp p H Hb ∧ Box H' p (n + 10 + (i + 1) * 13) ∧ LsC 20 H' l gs ∧ gs.length ≤ i ∧ GoodL (gs.map lcv) ∧ (M04.all (gs.map lcv)).rows.length ≤ lim ∧ H l = none ∧ (∀ g ∈ gs, g.nm ∈ (nmL st).take i) ∧
  pa ∈ ("start" : Str) :: (gs.map lcv).map (·.nm) ∧ isUnit un = true ∧ (Fr 20 H' a t u ∧ Sm t u) ∧
  ∀ H'' l' gs' v12, LcI H Hb p n lim (nmL st) (i + 1) H'' l' gs' → D.nx (SLc p lim most l' st i v6 (some (.str pa)) (some (.str un)) (some (.ref a)) v10 (some (.str (nmz st i))) v12) H''
theorem unit_ok {z : Str} (h : isUnit z = true) : PyData.strOk z = true := by
  unfold isUnit at h
  rw [Bool.or_eq_true] at h
  rcases h with h | h
  · rw [of_decide_eq_true h]; decide +kernel
  · rw [of_decide_eq_true h]; decide +kernel
theorem LsC.kp {n m : Nat} {H H' : Hp} {l p : Addr} {gs : List Lc} (h : LsC n H l gs) (b : Box H p m) (k : Kp p H H') (ne : l ≠ p) : LsC n H' l gs := ⟨k _ _ ne h.l, fun g hg => (h.ok g hg).kt (KT.kp b k), h.n⟩
section
variable {P : Program} {w : World} {K : PySem.W.Frag} {mg : Str → Option Value} {base : Heap} {f fT fL fA fM : Addr} {fd fdT fdL fdA fdM : FuncData}
theorem ok_lcu (F : FnP K "_law_cues" sLcu f fd) (mL : mg "len" = none) (mG : mg "range" = none) (mS : mg "str" = none) (GT : Fn0 P w K mg base "_law_take" 1 ["_law_box_here", "_law_many"] spTake fT fdT) (AM : Fn P w K mg base "_law_amount" 2 ["_law_box_here"] spLam fA fdA) (MO : Fn P w K mg base "_law_moments" 5 ["_law_cues_here"] (spMom K) fM fdM) :
    FnOk P w K mg base (L2.CX P w) 6 f fd ["_law_box_here", "_law_limit", "_law_most_cues"] spLcu := by
  refine F.ok scLcu (fun vs H Q E h => ?_) (fun cdv A outer s H vs Q E hr h => ?_)
  · obtain ⟨p, n, lim, most, rfl, _⟩ := h
    rfl
  · obtain ⟨p, n, lim, most, rfl, hb, hn, l1, l8, m7, k⟩ := h
    have hu : (A.deeper (envOfC "_law_cues" (defScope sLcu) s.heap.objs.size f cdv)).units + 64 < cLine := by
      have := hr.un
      omega
    have hr1 := hr.mono (show 1 ≤ 5 by decide)
    have hr2 := hr.mono (show 2 ≤ 5 by decide)
    have hr5 := hr.mono (show 5 ≤ 5 by decide)
    refine ⟨_, (pss_cons (ps_par (by rfl) scLcu.nd (i := 3) (j := 4) rfl rfl (by decide) rfl rfl (pa_cons (pe_lst pa_nil) (pa_cons (pe_ix ix_list (pe_lst (pa_cons pe_str (pa_cons pe_str (pa_cons pe_str pa_nil)))) (pe_call GT.ok hr1 rfl GT.g GT.k GT.b .nil pass0 (pa_cons (pv 0) (pa_cons pe_int pa_nil))) (fun _ _ => rfl)) pa_nil)) (by rfl))
      (pss_cons (ps_for (passes_of rfl) rfl (pi_range1 rfl mG (pa_cons (pe_call GT.ok hr1 rfl GT.g GT.k GT.b .nil pass0 (pa_cons (pv 0) (pa_cons (pe_op op_add (pv 2) pe_int) pa_nil))) pa_nil)) (pg_name (i := 5) scLcu.nd rfl (Or.inl rfl))
      (pss_imp (S := sLcuB H p n lim most) (pss_cons (ps_set (i := 6) scLcu.nd rfl (Or.inl rfl) (pe_op op_cat (pe_lst (pa_cons pe_str pa_nil)) (pe_lc (own := [("_law_cue", 13)]) (g := gName 13) (te := tOp (rIxT K) (tVar 13) (tC (.int 0))) (by rfl) scLcu.nd (pi_list (pv 3)) (blkOk_by (own := [("_law_cue", 13)]) (N := ["_law_box_here", "_law_limit", "_law_most_cues", "_law_cues_here", "_law_stem", "_law_k", "_law_names", "_law_parent", "_law_unit", "_law_amount_here", "_law_other", "_law_name", "_law_more", "_law_cue"]) (sc := defScope sLcu) (by decide +kernel)) (fun _ _ _ _ _ => (pg_name (i := 13) scLcu.nd rfl (Or.inl rfl))) (fun _ _ _ _ _ => pts_nil) (fun _ _ _ _ _ => (pe_ix ix_tup (pv 13) pe_int (fun _ _ => rfl))))))
      (pss_cons (ps_set (i := 7) scLcu.nd rfl (Or.inl rfl) (pe_ix ix_list (pe_lst (pa_cons (pe_ix ix_list (pv 6) (pe_call GT.ok hr1 rfl GT.g GT.k GT.b .nil pass0 (pa_cons (pv 0) (pa_cons (pe_callB call_len rfl mL PySem.boot_len (pa_cons (pv 6) pa_nil)) pa_nil))) (fun _ _ => rfl)) (pa_cons (pe_ix ix_list (pv 6) (pe_un un_neg pe_int) (fun _ _ => rfl)) pa_nil))) (pe_call GT.ok hr1 rfl GT.g GT.k GT.b .nil pass0 (pa_cons (pv 0) (pa_cons pe_int pa_nil))) (fun _ _ => rfl)))
      (pss_cons (ps_par (by rfl) scLcu.nd (i := 8) (j := 9) rfl rfl (by decide) rfl rfl (pa_cons (pe_ix ix_list (pe_lst (pa_cons pe_str (pa_cons pe_str pa_nil))) (pe_call GT.ok hr1 rfl GT.g GT.k GT.b .nil pass0 (pa_cons (pv 0) (pa_cons pe_int pa_nil))) (fun _ _ => rfl)) (pa_cons (pe_call AM.ok hr2 rfl AM.g AM.k AM.b .nil passL (pa_cons (pv 0) pa_nil)) pa_nil)) (by rfl))
      (pss_cons (ps_if (PW.pt (pw_and (pt_cmpR (Fk.op_neNil hu) (pv 3) (pe_lst pa_nil) (nomark _)) (pw_and1 (pt_cmpR op_eq (pe_call GT.ok hr1 rfl GT.g GT.k GT.b .nil pass0 (pa_cons (pv 0) (pa_cons pe_int pa_nil))) pe_int (nomark _))))) (pss_cons (ps_set (i := 10) scLcu.nd rfl (Or.inl rfl) (pe_ix ix_list (pv 3) (pe_call GT.ok hr1 rfl GT.g GT.k GT.b .nil pass0 (pa_cons (pv 0) (pa_cons (pe_callB call_len rfl mL PySem.boot_len (pa_cons (pv 3) pa_nil)) pa_nil))) (fun _ _ => rfl)))
      (pss_one (ps_par (by rfl) scLcu.nd (i := 8) (j := 9) rfl rfl (by decide) rfl rfl (pa_cons (pe_ix ix_tup (pv 10) pe_int (fun _ _ => rfl)) (pa_cons (pe_ix ix_list (pe_lst (pa_cons (pe_tup (pa_cons (pe_op op_sub pe_int (pe_ix ix_tup (pe_ix ix_tup (pv 10) pe_int (fun _ _ => rfl)) pe_int (fun _ _ => rfl))) (pa_cons (pe_ix ix_tup (pe_ix ix_tup (pv 10) pe_int (fun _ _ => rfl)) pe_int (fun _ _ => rfl)) pa_nil))) (pa_cons (pe_ix ix_tup (pv 10) pe_int (fun _ _ => rfl)) pa_nil))) (pe_call GT.ok hr1 rfl GT.g GT.k GT.b .nil pass0 (pa_cons (pv 0) (pa_cons pe_int pa_nil))) (fun _ _ => rfl)) pa_nil)) (by rfl)))) pss_nil)
      (pss_imp (S := sLcuM H p n lim most) (pss_cons (ps_set (i := 11) scLcu.nd rfl (Or.inl rfl) (pe_ifExp (pt_cmpR op_eq (pv 4) pe_str (nomark _)) (pe_op Gd.op_mulS pe_str (pe_op op_add (pv 5) pe_int)) (pe_op op_add_str (pv 4) (pe_callTy call_str_int rfl mS boot_str (pa_cons (pv 5) pa_nil)))))
      (pss_imp (S := sLcuN H p n lim most) (pss_cons (ps_set (i := 12) scLcu.nd rfl (Or.inl rfl) (pe_op op_cat (pv 3) (pe_lst (pa_cons (pe_tup (pa_cons (pv 11) (pa_cons (pv 7) (pa_cons (pv 8) (pa_cons (pv 9) pa_nil))))) pa_nil))))
      (pss_one (ps_set (i := 3) scLcu.nd rfl (Or.inl rfl) (pe_ifExp (pt_cmpR op_le (pe_callB call_len rfl mL PySem.boot_len (pa_cons (pe_call MO.ok hr5 rfl MO.g MO.k MO.b .nil passL (pa_cons (pv 12) pa_nil)) pa_nil)) (pv 1) (nomark _)) (pv 12) (pv 3))))) ?more)) ?name))))) ?body))
      (pss_one (ps_ret (pv 3))))), ?_⟩
    case name =>
      rintro D σ H1 ⟨Hb, st, l, gs, i, pa, un, a, t, u, v6, v10, v11, v12, rfl, hst, hi, kp, kb, bx, ls, le, gd, rw8, new, sub, hpa, hun, fr, kn⟩
      have go : sLcuN H p n lim most D (SLc p lim most l st i v6 (some (.str pa)) (some (.str un)) (some (.ref a)) v10 (some (.str (nmz st i))) v12) H1 := ⟨Hb, st, l, gs, i, pa, un, a, t, u, v6, v10, v12, rfl, hst, hi, kp, kb, bx, ls, le, gd, rw8, new, sub, hpa, hun, fr, fun H'' l' gs' v12' I' => kn H'' l' gs' _ v12' I'⟩
      refine ⟨_, rfl, rfl, _, rfl, ?_⟩
      by_cases c : st = "c"
      · refine if_true_of (decide_eq_true (congrArg V.str c)) ?_
        refine ⟨_, rfl, _, _, rfl, rfl, _, _, rfl, rfl, mul_ok i (by omega), ?_⟩
        unfold nmz at go
        rw [if_pos c] at go
        exact go
      · refine if_false_of (decide_eq_false fun e => c (V.str.inj e)) ?_
        refine ⟨_, rfl, _, rfl, _, rfl, Nat.lt_of_le_of_lt (Nat.log2_le_self _) (by omega), _, _, rfl, rfl, ?_, ?_⟩
        · have h1 := st_len st hst
          have h2 := dig_len i (by omega)
          exact Nat.le_trans (Nat.add_le_add h1 h2) (by decide)
        · unfold nmz at go
          rw [if_neg c] at go
          exact go
    case more =>
      rintro D σ H1 ⟨Hb, st, l, gs, i, pa, un, a, t, u, v6, v10, v12, rfl, hst, hi, kp, kb, bx, ls, le, gd, rw8, new, sub, hpa, hun, fr, kn⟩
      have lb := nmz_lb st hst
      have enm : (nmL st)[i]? = some (nmz st i) := by
        unfold nmL
        rw [List.getElem?_map, List.getElem?_range (by omega)]
        rfl
      generalize nmz st i = nm at enm kn ⊢
      generalize nmL st = zs at enm lb sub kn ⊢
      obtain ⟨nm1, nm2, nm3⟩ := lb.ok nm (List.mem_of_getElem? enm)
      have nin : ∀ g ∈ gs, g.nm ≠ nm := fun g hg e => by
        have h1 := sub g hg
        rw [e] at h1
        obtain ⟨j, hj⟩ := List.getElem?_of_mem h1
        have hji : j < i := by
          have := (List.getElem?_eq_some_iff.mp hj).1
          rw [List.length_take] at this
          omega
        rw [List.getElem?_take_of_lt hji] at hj
        obtain ⟨h3, h4⟩ := List.getElem?_eq_some_iff.mp hj
        obtain ⟨h5, h6⟩ := List.getElem?_eq_some_iff.mp enm
        have := (List.nodup_iff_pairwise_ne.mp lb.nd)
        rw [List.pairwise_iff_getElem] at this
        exact this j i h3 h5 hji (h4.trans h6.symm)
      refine ⟨_, rfl, _, rfl, _, rfl, _, rfl, _, rfl, by show 4 ≤ sizeLine; decide, fun q hq => ⟨by show 1 ≤ sizeLine; decide, fun l2 hl2 => ?_⟩⟩
      have s2 := Same.upd (o := .tup [.str nm, .str pa, .str un, .ref a]) hq
      have q2 : upd H1 q (.tup [.str nm, .str pa, .str un, .ref a]) q = some (.tup [.str nm, .str pa, .str un, .ref a]) := upd_same
      generalize upd H1 q (.tup [.str nm, .str pa, .str un, .ref a]) = H2 at s2 q2 hl2 ⊢
      have s3 := Same.upd (o := .lst [.ref q]) hl2
      have l3 : upd H2 l2 (.lst [.ref q]) l2 = some (.lst [.ref q]) := upd_same
      generalize upd H2 l2 (.lst [.ref q]) = H3 at s3 l3 ⊢
      have s13 := s2.trans s3
      refine ⟨l, l2, _, _, rfl, rfl, s13 _ _ ls.l, l3, ?_, fun l4 hl4 => ?_⟩
      · rw [List.length_map]
        exact Nat.le_trans (show gs.length + 1 ≤ 100 by omega) (by decide)
      have s4 := Same.upd (o := .lst ((gs.map fun g => V.ref g.q) ++ [.ref q])) hl4
      have n4 : upd H3 l4 (.lst ((gs.map fun g => V.ref g.q) ++ [.ref q])) l4 = some (.lst ((gs.map fun g => V.ref g.q) ++ [.ref q])) := upd_same
      have hl40 : H l4 = none := kb.no (bx.ne (none_of s13 hl4)).symm (kp.no (bx.ne (none_of s13 hl4)).symm (none_of s13 hl4))
      generalize upd H3 l4 (.lst ((gs.map fun g => V.ref g.q) ++ [.ref q])) = H4 at s4 n4 ⊢
      have s14 := s13.trans s4
      have mnm : ∀ x ∈ (gs.map lcv).map (·.nm), ∃ g ∈ gs, g.nm = x := fun x hx => by
        obtain ⟨c, hc, e⟩ := List.mem_map.mp hx
        obtain ⟨g, hg, e2⟩ := List.mem_map.mp hc
        exact ⟨g, hg, by rw [← e, ← e2]; rfl⟩
      have pas : PyData.strOk pa = true := by
        rcases List.mem_cons.mp hpa with e | m
        · rw [e]; decide +kernel
        · obtain ⟨g, hg, e⟩ := mnm pa m
          rw [← e]
          exact isName_str (gd.2 (lcv g) (List.mem_map.mpr ⟨g, hg, rfl⟩)).1
      have ls4 : LsC 20 H4 l4 (gs ++ [⟨q, a, nm, pa, un, t, u⟩]) := ⟨by rw [n4, List.map_append]; rfl, fun g hg => by
        rcases List.mem_append.mp hg with hg | hg
        · exact (ls.ok g hg).kt (KT.of s14)
        · rw [List.mem_singleton] at hg
          rw [hg]
          exact ⟨s4 _ _ (s3 _ _ q2), fr.1.kt (KT.of s14), isName_str nm1, pas, unit_ok hun⟩, by rw [List.length_append]; show gs.length + 1 ≤ 14; omega⟩
      have gd4 : GoodL ((gs ++ [(⟨q, a, nm, pa, un, t, u⟩ : Lc)]).map lcv) := by
        rw [List.map_append]
        refine ⟨M04.good_snoc gd.1 (fun hm => ?_) hpa, fun c hc => ?_⟩
        · rcases List.mem_cons.mp hm with e | m
          · exact nm2 e
          · obtain ⟨g, hg, e⟩ := mnm _ m
            exact nin g hg e
        · rcases List.mem_append.mp hc with hc | hc
          · exact gd.2 c hc
          · have : c = lcv ⟨q, a, nm, pa, un, t, u⟩ := List.mem_singleton.mp hc
            rw [this]
            exact ⟨nm1, nm3, hun, t, u, fr.1.rd, rfl, fr.2⟩
      refine ⟨_, rfl, l4, gs ++ [⟨q, a, nm, pa, un, t, u⟩], 20, rfl, ls4, gd4.1, by decide, by decide, fun p2 xs H5 s5 fo ev _ => ?_⟩
      have lnx : xs.length = (M04.all ((gs ++ [(⟨q, a, nm, pa, un, t, u⟩ : Lc)]).map lcv)).rows.length := by rw [← ev, List.length_map]
      refine ⟨_, _, rfl, .inl ⟨_, SqL.of fo.l, rfl⟩, _, rfl, _, _, rfl, rfl, _, rfl, ?_⟩
      have s15 := s14.trans s5
      have sub4 : ∀ g ∈ gs, g.nm ∈ zs.take (i + 1) := fun g hg => by
        have := sub g hg
        exact List.mem_of_mem_take (i := i) (by rw [List.take_take, Nat.min_eq_left (Nat.le_succ i)]; exact this)
      by_cases c : xs.length ≤ lim
      · refine if_true_of (decide_eq_true (by rw [List.length_map]; omega)) ⟨_, rfl, ?_⟩
        refine kn H5 l4 (gs ++ [⟨q, a, nm, pa, un, t, u⟩]) _ ⟨kp.trans (Kp.same s15), kb, bx.sm s15, ls4.same s5, by rw [List.length_append]; show gs.length + 1 ≤ i + 1; omega, gd4, by omega, hl40, fun g hg => ?_⟩
        rcases List.mem_append.mp hg with hg | hg
        · exact sub4 g hg
        · rw [List.mem_singleton] at hg
          rw [hg, List.take_add_one, enm]
          exact List.mem_append_right _ (List.mem_singleton.mpr rfl)
      · refine if_false_of (decide_eq_false (by rw [List.length_map]; omega)) ⟨_, rfl, ?_⟩
        exact kn H5 l gs _ ⟨kp.trans (Kp.same s15), kb, bx.sm s15, ls.same s15, by omega, gd, rw8, new, sub4⟩
    case body =>
      rintro D σ H1 ⟨Hb, st, l, gs, i, v6, v7, v8, v9, v10, v11, v12, rfl, hst, hi, I, kn⟩
      have lp : l ≠ p := (hb.ne I.new).symm
      refine ⟨by show 1 ≤ sizeLine; decide, fun la hla => ?_⟩
      have K2 := I.k.trans (Kp.same (Same.upd (o := .lst [.str "start"]) hla))
      have B2 := I.b.upd (o := .lst [.str "start"]) hla
      have L2_ := I.ls.same (Same.upd (o := .lst [.str "start"]) hla)
      have A2 : upd H1 la (.lst [.str "start"]) la = some (.lst [.str "start"]) := upd_same
      generalize upd H1 la (.lst [.str "start"]) = H2 at K2 B2 L2_ A2 ⊢
      refine ⟨_, rfl, l, rfl, ⟨_, SqL.of L2_.l⟩, fun D2 hD2 => ?_⟩
      refine lc_list (K := K) (a := l) (xs := gs.map fun g => V.ref g.q) (fun j H' => Same H2 H' ∧ H' D2 = some (.lst ((gs.take j).map fun g => V.str g.nm))) ⟨Same.upd hD2, upd_same⟩ (fun j H' _ ⟨s, _⟩ => SqL.of (s _ _ L2_.l)) ?_ ?_
      · rintro j x H3 hx ⟨s3, ha⟩
        obtain ⟨g, eg, rfl⟩ := map_at hx
        have hj := (List.getElem?_eq_some_iff.mp eg).1
        refine ⟨rfl, _, rfl, g.q, _, 0, _, rfl, rfl, SqT.of (s3 _ _ (L2_.ok g (List.mem_of_getElem? eg)).1), rfl, _, ha, ?_, same_put s3 hD2, ?_⟩
        · rw [List.length_map, List.length_take]
          exact Nat.lt_of_lt_of_le (show min j gs.length < 100 by have := L2_.n; omega) (by decide)
        · rw [upd_same, List.take_add_one, eg, List.map_append]
          rfl
      · rintro H3 ⟨s3, ha⟩
        rw [List.length_map, List.take_length] at ha
        have h14 := L2_.n
        refine ⟨la, D2, _, _, rfl, rfl, s3 _ _ A2, ha, ?_, fun lk hlk => ?_⟩
        · rw [List.length_map]
          exact Nat.le_trans (show 1 + gs.length ≤ 100 by omega) (by decide)
        have s4 := Same.upd (o := .lst ([.str "start"] ++ (gs.map fun g => V.str g.nm))) hlk
        have KN : upd H3 lk (.lst ([.str "start"] ++ (gs.map fun g => V.str g.nm))) lk = some (.lst (.str "start" :: gs.map fun g => V.str g.nm)) := upd_same
        have K4 := K2.trans (Kp.same (s3.trans s4))
        have B4 := (B2.sm s3).sm s4
        have L4 := L2_.same (s3.trans s4)
        generalize upd H3 lk (.lst ([.str "start"] ++ (gs.map fun g => V.str g.nm))) = H4 at K4 B4 L4 KN ⊢
        have lkp : lk ≠ p := fun e => by
          obtain ⟨_, _, _, hp, _⟩ := B2.sm s3
          rw [← e, hlk] at hp
          cases hp
        have ksl : (V.str "start" :: gs.map fun g => V.str g.nm).length = gs.length + 1 := by rw [List.length_cons, List.length_map]
        have kin : ∀ v ∈ (V.str "start" :: gs.map fun g => V.str g.nm), ∃ z : Str, v = .str z ∧ z ∈ ("start" : Str) :: (gs.map lcv).map (·.nm) := fun v hv => by
          rcases List.mem_cons.mp hv with e | m
          · exact ⟨_, e, List.mem_cons_self⟩
          · obtain ⟨g, hg, e⟩ := List.mem_map.mp m
            exact ⟨g.nm, e.symm, List.mem_cons_of_mem _ (List.mem_map.mpr ⟨lcv g, List.mem_map.mpr ⟨g, hg, rfl⟩, rfl⟩)⟩
        refine ⟨_, rfl, _, rfl, _, rfl, _, _, rfl, .inl ⟨_, SqL.of KN, rfl⟩, p, _, _, rfl, B4, by omega, ?_, ?_, fun z5 H5 y5 x5 B5 k5 => ?_⟩
        · rw [ksl]
          omega
        · rw [ksl]
          exact Int.lt_of_le_of_lt (show ((gs.length + 1 : Nat) : Int) ≤ 100 by omega) (by decide)
        obtain ⟨v5, e5, m5⟩ := atI_in y5 x5
        have KN5 := (k5 lk lkp).trans KN
        have K5 := K4.trans (Kp.but k5)
        have L5 := L4.kp B4 (Kp.but k5) lp
        have e6 : ∃ v, atI (V.str "start" :: gs.map fun g => V.str g.nm) (-1) = some v ∧ v ∈ (V.str "start" :: gs.map fun g => V.str g.nm) := by
          have hlt : (V.str "start" :: gs.map fun g => V.str g.nm).length - 1 < (V.str "start" :: gs.map fun g => V.str g.nm).length := by rw [ksl]; omega
          exact ⟨_, atI_end (List.getElem?_eq_getElem hlt), List.getElem_mem hlt⟩
        obtain ⟨v6', e6, m6⟩ := e6
        refine ⟨lk, _, z5, v5, rfl, rfl, SqL.of KN5, e5, _, rfl, _, rfl, lk, _, -1, v6', rfl, rfl, SqL.of KN5, e6, by show 2 ≤ sizeLine; decide, fun lq hlq => ?_⟩
        have K6 := K5.trans (Kp.same (Same.upd (o := .lst [v5, v6']) hlq))
        have B6 := B5.upd (o := .lst [v5, v6']) hlq
        have L6 := L5.same (Same.upd (o := .lst [v5, v6']) hlq)
        have Q6 : upd H5 lq (.lst [v5, v6']) lq = some (.lst [v5, v6']) := upd_same
        have lqp : lq ≠ p := (B5.ne hlq).symm
        generalize upd H5 lq (.lst [v5, v6']) = H6 at K6 B6 L6 Q6 ⊢
        refine ⟨_, rfl, p, 2, _, rfl, B6, by omega, by decide, by decide, fun z7 H7 y7 x7 B7 k7 => ?_⟩
        obtain ⟨v7', e7, m7⟩ := atI_in (xs := [v5, v6']) y7 x7
        have Q7 := (k7 lq lqp).trans Q6
        have K7 := K6.trans (Kp.but k7)
        have L7 := L6.kp B6 (Kp.but k7) lp
        have pa7 : ∃ z : Str, v7' = .str z ∧ z ∈ ("start" : Str) :: (gs.map lcv).map (·.nm) := by
          rcases List.mem_cons.mp m7 with e | m
          · rw [e]; exact kin _ m5
          · rw [List.mem_singleton.mp m]; exact kin _ m6
        obtain ⟨pa, rfl, hpa⟩ := pa7
        refine ⟨lq, _, z7, _, rfl, rfl, SqL.of Q7, e7, ?_⟩
        refine ⟨by show 2 ≤ sizeLine; decide, fun lu hlu => ?_⟩
        have K8 := K7.trans (Kp.same (Same.upd (o := .lst [.str "beats", .str "seconds"]) hlu))
        have B8 := B7.upd (o := .lst [.str "beats", .str "seconds"]) hlu
        have L8 := L7.same (Same.upd (o := .lst [.str "beats", .str "seconds"]) hlu)
        have U8 : upd H7 lu (.lst [.str "beats", .str "seconds"]) lu = some (.lst [.str "beats", .str "seconds"]) := upd_same
        have lup : lu ≠ p := (B7.ne hlu).symm
        generalize upd H7 lu (.lst [.str "beats", .str "seconds"]) = H8 at K8 B8 L8 U8 ⊢
        refine ⟨_, rfl, p, 2, _, rfl, B8, by omega, by decide, by decide, fun z9 H9 y9 x9 B9 k9 => ?_⟩
        obtain ⟨v9', e9, m9⟩ := atI_in (xs := [V.str "beats", .str "seconds"]) y9 x9
        have U9 := (k9 lu lup).trans U8
        have K9 := K8.trans (Kp.but k9)
        have L9 := L8.kp B8 (Kp.but k9) lp
        have un9 : ∃ z : Str, v9' = .str z ∧ isUnit z = true := by
          rcases List.mem_cons.mp m9 with e | m
          · exact ⟨_, e, by decide +kernel⟩
          · exact ⟨_, List.mem_singleton.mp m, by decide +kernel⟩
        obtain ⟨un, rfl, hun⟩ := un9
        refine ⟨lu, _, z9, _, rfl, rfl, SqL.of U9, e9, _, rfl, p, _, rfl, B9, by omega, fun ra ta ua Ha ka Ba fra sma => ⟨_, _, rfl, ?_⟩⟩
        have Ka := K9.trans ka
        have La := L9.kp B9 ka lp
        have go : ∀ (Hx : Hp) (m : Nat) (un' : Str) (a' : Addr) (t' u' : Int) (v10' : Option V), Kp p Hb Hx → Box Hx p m → m ≤ n + 10 + (i + 1) * 13 → LsC 20 Hx l gs → isUnit un' = true → Fr 20 Hx a' t' u' → Sm t' u' → sLcuM H p n lim most D (SLc p lim most l st i (some (.ref lk)) (some (.str pa)) (some (.str un')) (some (.ref a')) v10' v11 v12) Hx := fun Hx m un' a' t' u' v10' kx bx hm lx hux frx smx =>
          ⟨Hb, st, l, gs, i, pa, un', a', t', u', _, v10', v11, v12, rfl, hst, hi, kx, I.kb, bx.mono hm, lx, I.le, I.good, I.rows, I.new, I.sub, hpa, hux, ⟨frx, smx⟩, fun H'' l' gs' v11' v12' I' => kn H'' l' gs' _ _ _ _ _ _ _ I'⟩
        refine ⟨_, rfl, by show 0 ≤ sizeLine; decide, fun le hle => ?_⟩
        have Kc := Ka.trans (Kp.same (Same.upd (o := .lst []) hle))
        have Bc := Ba.upd (o := .lst []) hle
        have Lc_ := La.same (Same.upd (o := .lst []) hle)
        have Ec : upd Ha le (.lst []) le = some (.lst []) := upd_same
        have frc := fra.kt (KT.of (Same.upd (o := .lst []) hle))
        generalize upd Ha le (.lst []) = Hc at Kc Bc Lc_ Ec frc ⊢
        refine ⟨l, le, _, rfl, rfl, SqL.of Lc_.l, SqL.of Ec, _, rfl, ?_⟩
        by_cases cg : gs = []
        · refine if_false_of (by rw [cg]; rfl) (iteF (go Hc _ un ra ta ua _ Kc Bc (by omega) Lc_ hun frc sma))
        have g0 := List.length_pos_iff.mpr cg
        refine if_true_of (by cases gs with | nil => exact absurd rfl cg | cons _ _ => rfl) ?_
        refine ⟨_, rfl, p, 5, _, rfl, Bc, by omega, by decide, by decide, fun zd Hd yd xd Bd kd => ⟨rfl, _, rfl, ?_⟩⟩
        have Kd := Kc.trans (Kp.but kd)
        have Ld := Lc_.kp Bc (Kp.but kd) lp
        have frd := frc.kt (KT.kp Bc (Kp.but kd))
        by_cases cz : zd = 0
        · rw [decide_eq_true (by rw [cz])]
          refine iteT ?_
          refine ⟨_, rfl, _, rfl, _, rfl, _, _, rfl, .inl ⟨_, SqL.of Ld.l, rfl⟩, p, _, _, rfl, Bd, by omega, ?_, ?_, fun ze He ye xe Be ke => ?_⟩
          · rw [List.length_map]
            omega
          · rw [List.length_map]
            exact Int.lt_of_le_of_lt (show ((gs.length : Nat) : Int) ≤ 100 by omega) (by decide)
          have Ke := Kd.trans (Kp.but ke)
          have Le := Ld.kp Bd (Kp.but ke) lp
          obtain ⟨ve, ee, me⟩ := atI_in ye xe
          obtain ⟨g, hg, rfl⟩ := List.mem_map.mp me
          obtain ⟨g1, g2, g3, g4, g5⟩ := Le.ok g hg
          have gun := (I.good.2 (lcv g) (List.mem_map.mpr ⟨g, hg, rfl⟩)).2.2.1
          obtain ⟨ts, us, rs_, es_, ss_⟩ := (I.good.2 (lcv g) (List.mem_map.mpr ⟨g, hg, rfl⟩)).2.2.2
          obtain ⟨rfl, rfl⟩ := vq_inj rs_ g2.rd es_
          refine ⟨l, _, ze, _, rfl, rfl, SqL.of Le.l, ee, ?_⟩
          refine ⟨_, rfl, g.q, _, 2, _, rfl, rfl, SqT.of g1, rfl, ?_⟩
          refine ⟨_, rfl, g.q, _, 3, _, rfl, rfl, SqT.of g1, rfl, g.a, _, 0, _, rfl, rfl, SqT.of g2.at_, rfl, _, _, rfl, rfl, _, rfl, g.q, _, 3, _, rfl, rfl, SqT.of g1, rfl, g.a, _, 1, _, rfl, rfl, SqT.of g2.at_, rfl, by show 2 ≤ sizeLine; decide, fun tq htq => ?_⟩
          have sf := Same.upd (o := .tup [.int (0 - g.t), .int g.u]) htq
          have frn : Fr 20 (upd He tq (.tup [.int (0 - g.t), .int g.u])) tq (0 - g.t) g.u := ⟨upd_same, ⟨g2.rd.1, by have := g2.rd.2; rwa [Int.zero_sub, Int.natAbs_neg]⟩, by have := g2.bt; rwa [Int.zero_sub, Int.natAbs_neg], g2.bu⟩
          have Kf := Ke.trans (Kp.same sf)
          have Bf := Be.sm sf
          have Lf := Le.same sf
          have g1f := sf _ _ g1
          have g2f := g2.kt (KT.of sf)
          generalize upd He tq (.tup [.int (0 - g.t), .int g.u]) = Hf at frn Kf Bf Lf g1f g2f ⊢
          refine ⟨_, rfl, g.q, _, 3, _, rfl, rfl, SqT.of g1f, rfl, by show 2 ≤ sizeLine; decide, fun lv hlv => ?_⟩
          have sg_ := Same.upd (o := .lst [.ref tq, .ref g.a]) hlv
          have Vg : upd Hf lv (.lst [.ref tq, .ref g.a]) lv = some (.lst [.ref tq, .ref g.a]) := upd_same
          have Kg := Kf.trans (Kp.same sg_)
          have Bg := Bf.sm sg_
          have Lg := Lf.same sg_
          have frg := frn.kt (KT.of sg_)
          have g2g := g2f.kt (KT.of sg_)
          have lvp : lv ≠ p := (Bf.ne hlv).symm
          generalize upd Hf lv (.lst [.ref tq, .ref g.a]) = Hg at Vg Kg Bg Lg frg g2g ⊢
          refine ⟨_, rfl, p, 2, _, rfl, Bg, by omega, by decide, by decide, fun zh Hh yh xh Bh kh => ?_⟩
          obtain ⟨vh, eh, mh⟩ := atI_in (xs := [V.ref tq, .ref g.a]) yh xh
          have Vh := (kh lv lvp).trans Vg
          have Kh := Kg.trans (Kp.but kh)
          have Lh := Lg.kp Bg (Kp.but kh) lp
          have frh : ∃ a' t' u', vh = .ref a' ∧ Fr 20 Hh a' t' u' ∧ Sm t' u' := by
            rcases List.mem_cons.mp mh with e | m
            · exact ⟨_, _, _, e, frg.kt (KT.kp Bg (Kp.but kh)), ⟨by have := ss_.1; rwa [Int.zero_sub, Int.natAbs_neg], ss_.2⟩⟩
            · exact ⟨_, _, _, List.mem_singleton.mp m, g2g.kt (KT.kp Bg (Kp.but kh)), ss_⟩
          obtain ⟨a', t', u', rfl, frh, smh⟩ := frh
          refine ⟨lv, _, zh, _, rfl, rfl, SqL.of Vh, eh, _, _, rfl, ?_⟩
          exact go Hh _ g.un a' t' u' _ Kh Bh (by omega) Lh gun frh smh
        · rw [decide_eq_false fun e => cz (V.int.inj e)]
          exact iteF (go Hd _ un ra ta ua _ Kd Bd (by omega) Ld hun frd sma)
    refine ⟨by show 0 ≤ sizeLine; decide, fun l1' hl1 => ?_⟩
    have s2 := Same.upd (o := .lst []) hl1
    have l12 : upd H l1' (.lst []) l1' = some (.lst []) := upd_same
    have l1p : l1' ≠ p := (hb.ne hl1).symm
    have b2 := hb.sm s2
    generalize upd H l1' (.lst []) = H2 at s2 l12 b2 ⊢
    refine ⟨by show 3 ≤ sizeLine; decide, fun l3 hl3 => ?_⟩
    have s3 := Same.upd (o := .lst [.str "c", .str "x1", .str "beats"]) hl3
    have e3 : upd H2 l3 (.lst [.str "c", .str "x1", .str "beats"]) l3 = some (.lst [.str "c", .str "x1", .str "beats"]) := upd_same
    have l3p : l3 ≠ p := (b2.ne hl3).symm
    have b3 := b2.sm s3
    generalize upd H2 l3 (.lst [.str "c", .str "x1", .str "beats"]) = H3 at s3 e3 b3 ⊢
    refine ⟨_, rfl, p, 3, _, rfl, b3, by omega, by decide, by decide, fun z H4 z0 z1 b4 k4 => ?_⟩
    obtain ⟨v, ev, mv⟩ := atI_in (xs := [V.str "c", .str "x1", .str "beats"]) z0 z1
    obtain ⟨st, rfl, hst⟩ : ∃ st : Str, v = .str st ∧ st ∈ stems := by
      simp only [List.mem_cons, List.not_mem_nil, or_false] at mv
      rcases mv with e | e | e
      · exact ⟨_, e, by decide +kernel⟩
      · exact ⟨_, e, by decide +kernel⟩
      · exact ⟨_, e, by decide +kernel⟩
    refine ⟨l3, _, z, _, rfl, rfl, SqL.of ((k4 l3 l3p).trans e3), ev, _, _, rfl, ?_⟩
    have s23 := s2.trans s3
    have k04 : Kp p H H4 := (Kp.same s23).trans (Kp.but k4)
    have l14 : H4 l1' = some (.lst []) := (k4 l1' l1p).trans (s3 _ _ l12)
    refine ⟨_, rfl, _, rfl, _, _, rfl, rfl, p, _, _, rfl, b4, by omega, by omega, Int.lt_of_le_of_lt (show ((most : Int) + 1) ≤ 100 by omega) (by decide), fun d H5 y5 x5 b5 k5 => ?_⟩
    have k05 := k04.trans (Kp.but k5)
    have l15 := (k5 l1' l1p).trans l14
    refine ⟨d, rfl, by omega, by omega, ?_⟩
    have li0 : LcI H H5 p n lim (nmL st) 0 H5 l1' [] := ⟨Kp.refl p H5, k05, b5.mono (by omega), ⟨l15, (fun g hg => by cases hg), Nat.zero_le _⟩, Nat.le_refl _, ⟨(fun i c e => by cases e), (fun c hc => by cases hc)⟩, l1, hl1, (fun g hg => by cases hg)⟩
    refine for_range (lo := 0) (n := d.toNat) (fun i σ H' => ∃ (l : Addr) (gs : List Lc) (v5 v6 v7 v8 v9 v10 v11 v12 : Option V), σ = [some (.ref p), some (.int (lim : Int)), some (.int (most : Int)), some (.ref l), some (.str st), v5, v6, v7, v8, v9, v10, v11, v12, none] ∧ LcI H H5 p n lim (nmL st) i H' l gs) ⟨l1', [], _, _, _, _, _, _, _, _, rfl, li0⟩ ?_ ?_
    · rintro i σ H6 hi ⟨l, gs, v5, v6, v7, v8, v9, v10, v11, v12, rfl, I⟩
      rw [Int.zero_add]
      exact ⟨H5, st, l, gs, i, _, _, _, _, _, _, _, rfl, hst, by omega, I, fun H'' l' gs' v6 v7 v8 v9 v10 v11 v12 I' => ⟨l', gs', _, _, _, _, _, _, _, _, rfl, I'⟩⟩
    · rintro σ H6 ⟨l, gs, v5, v6, v7, v8, v9, v10, v11, v12, rfl, I⟩
      have hle := I.le
      refine ⟨_, rfl, k l gs st H6 (k05.trans I.k) (I.b.mono (by omega)) I.ls (by omega) I.good I.rows hst (fun g hg => ?_) I.new⟩
      have h1 := I.sub g hg
      exact List.mem_of_mem_take (i := d.toNat) (by rw [List.take_take, Nat.min_eq_left (by omega)]; exact h1)
end
end K35
set_option Elab.async false
set_option linter.all false
set_option maxRecDepth 100000
set_option maxHeartbeats 1000000
set_option exponentiation.threshold 100000
namespace K35
open PySem PySem.Spec PyProof.Rows L2 Fa Fb
abbrev sPas : Stmt := top 69
theorem scPas : FnScope ["_law_cues_here", "_law_name", "_law_parent", "_law_unit", "_law_amount_here"] ["_law_cues_here"] (defScope sPas) := ⟨rfl, rfl, rfl, by decide +kernel, rfl, by decide +kernel, by decide +kernel⟩
/-- a passed cue -/
def PsI (K : PySem.W.Frag) (H : Hp) (it : Addr) (g : Lc) : Prop := ∃ x, H it = some (.tup [.str g.nm, .str g.pa, .str g.un, x]) ∧ Arg K H x g.t g.u 21
/-- the passed ones at r -/
structure PsL (K : PySem.W.Frag) (H : Hp) (r : Addr) (xs : List Addr) (gs : List Lc) : Prop where
  l : H r = some (.lst (xs.map V.ref))
  len : xs.length = gs.length
  ok : ∀ (i : Nat) it g, xs[i]? = some it → gs[i]? = some g → PsI K H it g
theorem IsA.kt {K : PySem.W.Frag} {H H' : Hp} {x : V} {t u : Int} {n : Nat} (h : IsA K H x t u n) (k : KT H H') : IsA K H' x t u n := by
  obtain ⟨p, dx, e, hp, r⟩ := h
  exact ⟨p, dx, e, k _ _ hp (fun _ e => by cases e), r⟩
theorem Arg.kt {K : PySem.W.Frag} {H H' : Hp} {x : V} {t u : Int} {n : Nat} (h : Arg K H x t u n) (k : KT H H') : Arg K H' x t u n := h.imp (fun h => h.kt k) id
theorem PsI.kt {K : PySem.W.Frag} {H H' : Hp} {it : Addr} {g : Lc} (h : PsI K H it g) (k : KT H H') : PsI K H' it g := let ⟨x, a, b⟩ := h; ⟨x, k _ _ a (fun _ e => by cases e), b.kt k⟩

def spPas (K : PySem.W.Frag) : Sp := fun vs H Q _ => ∃ (l : Addr) (gs : List Lc) (n : Nat), vs = [.ref l] ∧ LsC n H l gs ∧ 1 ≤ n ∧ n ≤ 200 ∧ ∀ (r : Addr) (xs : List Addr) (H' : Hp), Same H H' → H' r = some (.lst (xs.map V.ref)) → xs.length = gs.length → (∀ (i : Nat) c, (gs.map lcv)[i]? = some c → ∃ it, (xs.map V.ref)[i]? = some (V.ref it) ∧ CueArg K n H' it c) → H r = none → Q (.ref r) H'
/-- the cues of a sheet, told plainly -/
def spPln (K : PySem.W.Frag) : Sp := fun vs H Q _ => ∃ (o : Addr) (mm : Nat) (H0 : Hp) (gs : List Cu), vs = [.ref o] ∧ ShAt K mm H0 H o gs ∧ (∀ g ∈ gs, PyData.strOk g.nm = true ∧ PyData.strOk g.pa = true ∧ PyData.strOk g.un = true) ∧ gs.length ≤ 14 ∧ ∀ (r : Addr) (ls : List Lc) (H' : Hp), Same H H' → LsC mm H' r ls → ls.map lcv = gs.map cv → H r = none → Q (.ref r) H'
section
variable {P : Program} {w : World} {K : PySem.W.Frag} {mg : Str → Option Value} {base : Heap} {f f1 pT pB fT fB : Addr} {fd fd1 fdI fdT fdB : FuncData}
theorem ok_pas (F : FnP K "_law_passed" sPas f fd) (T : AF K mg) (GI : FnOk P w K mg base (L2.CX P w) 4 (aI K) fdI ["self", "top", "bottom"] (spInit K)) (b2 : Binds K fdI ["self", "top", "bottom"] []) : FnOk P w K mg base (L2.CX P w) 6 f fd ["_law_cues_here"] (spPas K) := by
  refine F.ok scPas (fun vs H Q E h => ?_) (fun cdv A outer s H vs Q E hr h => ?_)
  · obtain ⟨l, gs, n, rfl, _⟩ := h
    rfl
  · obtain ⟨l, gs, n, rfl, hl, n1, n2, k⟩ := h
    have hr5 := hr
    refine ⟨_, (pss_one (ps_ret (pe_lc (own := [("_law_name", 1), ("_law_parent", 2), ("_law_unit", 3), ("_law_amount_here", 4)]) (g := gTup K 4 (gCons (gName 1) (gCons (gName 2) (gCons (gName 3) (gCons (gName 4) gNil))))) (te := tTup (tCons (tVar 1) (tCons (tVar 2) (tCons (tVar 3) (tCons (tMake (CA K) (spInit K) [] E0 (tCons (tOp (rIxT K) (tVar 4) (tC (.int 0))) (tCons (tOp (rIxT K) (tVar 4) (tC (.int 1))) tNil))) tNil))))) (by rfl) scPas.nd (pi_list (pv 0)) (blkOk_by (own := [("_law_name", 1), ("_law_parent", 2), ("_law_unit", 3), ("_law_amount_here", 4)]) (N := ["_law_cues_here", "_law_name", "_law_parent", "_law_unit", "_law_amount_here"]) (sc := defScope sPas) (by decide +kernel)) (fun _ _ _ _ _ => (pg_tup (by rfl) (pgs_cons (pg_name (i := 1) scPas.nd rfl (Or.inl rfl)) (pgs_cons (pg_name (i := 2) scPas.nd rfl (Or.inl rfl)) (pgs_cons (pg_name (i := 3) scPas.nd rfl (Or.inl rfl)) (pgs_cons (pg_name (i := 4) scPas.nd rfl (Or.inl rfl)) pgs_nil)))))) (fun _ _ _ _ _ => pts_nil) (fun _ _ _ _ _ => (pe_tup (pa_cons (pv 1) (pa_cons (pv 2) (pa_cons (pv 3) (pa_cons (pe_make T.mkA GI hr5 rfl T.g b2 .nil passL (pa_cons (pe_ix ix_tup (pv 4) pe_int (fun _ _ => rfl)) (pa_cons (pe_ix ix_tup (pv 4) pe_int (fun _ _ => rfl)) pa_nil))) pa_nil))))))))), ?_⟩
    refine ⟨_, rfl, l, rfl, ⟨_, SqL.of hl.l⟩, fun D hD => ?_⟩
    refine lc_list (K := K) (a := l) (xs := gs.map fun g => V.ref g.q) (fun i H' => Same H H' ∧ ∃ xs : List Addr, xs.length = i ∧ H' D = some (.lst (xs.map V.ref)) ∧ ∀ (j : Nat) it g, xs[j]? = some it → gs[j]? = some g → CueArg K n H' it (lcv g)) ⟨Same.upd hD, [], rfl, upd_same, fun j it g e => by cases e⟩ (fun i H' _ ⟨s, _⟩ => SqL.of (s _ _ hl.l)) ?_ ?_
    · rintro i x H1 hx ⟨s1, xs, xn, e1, ok⟩
      obtain ⟨g, eg, rfl⟩ := map_at hx
      have hi := (List.getElem?_eq_some_iff.mp eg).1
      have h14 := hl.n
      obtain ⟨g1, g2, _⟩ := (hl.ok g (List.mem_of_getElem? eg)).kt (KT.of s1)
      refine ⟨g.q, _, rfl, SqT.of g1, rfl, _, _, rfl, _, _, rfl, _, _, rfl, _, _, rfl, rfl, rfl, ?_⟩
      refine ⟨_, rfl, _, rfl, _, rfl, _, rfl, g.a, _, 0, _, rfl, rfl, SqT.of g2.at_, rfl, _, rfl, g.a, _, 1, _, rfl, rfl, SqT.of g2.at_, rfl, fun y dy hy hd hne => spInit_imp (make_fact T (n := n) (a := g.t) (b := g.u) (Int.ne_of_gt g2.rd.1) (by omega) g2.bt g2.bu hy hd hne) fun w1 H2 ⟨hw, t1, u1, s2, ia, ev⟩ => ⟨hw, ?_⟩⟩
      obtain ⟨_, _, _, _, rd1, _⟩ := id ia
      obtain ⟨rfl, rfl⟩ := Am.uniq rd1 g2.rd ev
      refine ⟨by show 4 ≤ sizeLine; decide, fun q hq => ?_⟩
      have s3 := Same.upd (o := .tup [.str g.nm, .str g.pa, .str g.un, .ref y]) hq
      have e3 : upd H2 q (.tup [.str g.nm, .str g.pa, .str g.un, .ref y]) q = some (.tup [.str g.nm, .str g.pa, .str g.un, .ref y]) := upd_same
      generalize upd H2 q (.tup [.str g.nm, .str g.pa, .str g.un, .ref y]) = H3 at s3 e3 ⊢
      have s23 := s2.trans s3
      have e1' := s23 _ _ e1
      have kt : KT H3 (upd H3 D (.lst (xs.map V.ref ++ [V.ref q]))) := KT.put e1'
      refine ⟨_, e1', by rw [List.length_map, xn]; exact Nat.lt_of_lt_of_le (show i < 100 by omega) (by decide), same_put (s1.trans s23) hD, xs ++ [q], by rw [List.length_append, xn]; rfl, by rw [upd_same, List.map_append]; rfl, fun j it g' ej eg' => ?_⟩
      have lift : ∀ {it : Addr} {c : M04.Cue}, (∃ x t u, H3 it = some (.tup [.str c.nm, .str c.pa, .str c.un, x]) ∧ Arg K H3 x t u n ∧ vq t u = c.q) → CueArg K n (upd H3 D (.lst (xs.map V.ref ++ [V.ref q]))) it c := fun {it c} ⟨x, t, u, a1, a2, a3⟩ => ⟨x, t, u, .inr (kt _ _ a1 (fun l e => by cases e)), a2.kt kt, a3⟩
      by_cases cj : j < i
      · rw [List.getElem?_append_left (by omega)] at ej
        obtain ⟨x, t, u, a1, a2, a3⟩ := (ok j it g' ej eg').same s23
        rcases a1 with a1 | a1
        · refine ⟨x, t, u, .inl ?_, a2.kt kt, a3⟩
          rw [upd_ne fun e => ?_]
          · exact a1
          · rw [e, e1'] at a1
            have h1 := Option.some.inj a1
            have h2 := HO.lst.inj h1
            cases xs with
            | nil => cases h2
            | cons x r => cases (List.cons.inj h2).1
        · exact ⟨x, t, u, .inr (kt _ _ a1 (fun l e => by cases e)), a2.kt kt, a3⟩
      · have hj := (List.getElem?_eq_some_iff.mp ej).1
        rw [List.length_append] at hj
        have hj : j < xs.length + 1 := hj
        obtain rfl : j = i := by omega
        rw [List.getElem?_append_right (by omega), xn, Nat.sub_self] at ej
        cases ej
        rw [eg] at eg'
        cases eg'
        exact lift ⟨.ref y, g.t, g.u, e3, .inl (ia.same s3), rfl⟩
    · rintro H1 ⟨s1, xs, xn, e1, ok⟩
      rw [List.length_map] at xn
      refine k D xs H1 s1 e1 xn (fun i c e => ?_) hD
      obtain ⟨g, eg, rfl⟩ := map_at e
      have hi : i < xs.length := by
        rw [xn]
        exact (List.getElem?_eq_some_iff.mp eg).1
      exact ⟨xs[i], by rw [List.getElem?_map, List.getElem?_eq_getElem hi]; rfl, ok i _ g (List.getElem?_eq_getElem hi) eg⟩
end
end K35
set_option Elab.async false
set_option linter.all false
set_option maxRecDepth 100000
set_option maxHeartbeats 1000000
set_option exponentiation.threshold 100000
namespace K35
open PySem PySem.Spec PyProof.Rows L2 Fa Fb NumText TL
/-! ### texts of amounts, read back -/
theorem numL_head (n : Nat) (h : 0 < n) : ∃ c r, numL n = c :: r ∧ 49 ≤ c := by
  induction n using Nat.strongRecOn with
  | _ n ih =>
    by_cases c : n < 10
    · exact ⟨48 + n, [], numL_lt c, by omega⟩
    · obtain ⟨x, r, e, hx⟩ := ih (n / 10) (by omega) (by omega)
      exact ⟨x, r ++ [48 + n % 10], by rw [numL_step (by omega), e]; rfl, hx⟩
theorem dec_tl (n : Nat) : (dec (n : Int)).cps.toList = numL n := TL.tl_num n
theorem isNum_dec {n k : Nat} (hk : 0 < k) (h : n < 10 ^ k) : isNum (dec (n : Int)) (k : Int) = true := by
  have t := dec_tl n
  have l1 : (dec (n : Int)).length = (numL n).length := by
    rw [len_cl]
    exact congrArg List.length t
  have l2 := numL_len hk h
  have l3 : 1 ≤ (numL n).length := by
    cases e : numL n with
    | nil => exact absurd e (numL_ne n)
    | cons a r => simp
  have o : only (dec (n : Int)) DIG = true := by
    unfold only
    rw [t, List.all_eq_true]
    intro x hx
    have := numL_digits n x hx
    exact decide_eq_true (mem_dig.mpr (by omega))
  unfold isNum
  rw [l1, decide_eq_true l3, decide_eq_true (show ((numL n).length : Int) ≤ k by omega), o, t]
  by_cases c : n = 0
  · subst c
    have e : dec ((0 : Nat) : Int) = "0" := by decide +kernel
    rw [decide_eq_true e]
    rfl
  · obtain ⟨x, r, e, hx⟩ := numL_head n (by omega)
    rw [e]
    show (true && true && (true && (_ || decide (x ≠ 48)))) = true
    rw [decide_eq_true (show x ≠ 48 by omega)]
    simp
theorem numOf_dec {n : Nat} (h : n < 10 ^ 10) : numOf (dec (n : Int)) = n := by
  unfold numOf
  have e : intText? (dec (n : Int)) = some (n : Int) := PySem.W.KIN.num_reads (by omega) (by omega)
  rw [e]
  rfl
theorem dec_free (n s : Nat) (h : s < 48 ∨ 57 < s) : s ∉ tl (dec (n : Int)) := by
  rw [show tl (dec (n : Int)) = numL n from dec_tl n]
  exact numL_free h
theorem amtOf_amtS {t u : Int} (h : Sm t u) (hu : 0 < u) : amtOf (amtS t u) = some (t, u) := by
  have h1 : t.natAbs < 10 ^ 6 := h.1
  have a1 := isNum_dec (n := t.natAbs) (k := 6) (by decide) h1
  have a2 := numOf_dec (n := t.natAbs) (Nat.lt_trans h1 (by decide))
  have a1 : isNum (dec (t.natAbs : Int)) 6 = true := a1
  obtain ⟨m, rfl⟩ := Int.eq_ofNat_of_zero_le (show 0 ≤ u by omega)
  have h2 := h.2
  have b1 : isNum (dec (m : Int)) 4 = true := isNum_dec (n := m) (k := 4) (by decide) (show m < 10 ^ 4 by omega)
  have b2 := numOf_dec (n := m) (show m < 10 ^ 10 by omega)
  have core : ∀ mi : Bool, (mi = true → t.natAbs ≠ 0) → rd mi (dec (t.natAbs : Int)) (if (m : Int) = 1 then [] else [dec (m : Int)]) = some (if mi = true then -(t.natAbs : Int) else (t.natAbs : Int), (m : Int)) := fun mi hm => by
    have c0 : (!isNum (dec (t.natAbs : Int)) 6 || (mi && decide (dec (t.natAbs : Int) = "0"))) = false := by
      rw [a1]
      cases mi with
      | false => rfl
      | true =>
        have := hm rfl
        rw [decide_eq_false fun e => this (by have := (zero_iff a1).mpr e; omega)]
        rfl
    unfold rd
    rw [c0, if_neg (by decide)]
    by_cases cm : (m : Int) = 1
    · rw [if_pos cm, a2, cm]
    · rw [if_neg cm]
      show (if (!isNum (dec (m : Int)) 4 || !(decide (1 ≤ numOf (dec (m : Int))) && decide (numOf (dec (m : Int)) ≤ 1000))) = true then none else some (if mi = true then -numOf (dec (t.natAbs : Int)) else numOf (dec (t.natAbs : Int)), numOf (dec (m : Int)))) = _
      rw [b1, b2, a2, decide_eq_true (show (1 : Int) ≤ m by omega), decide_eq_true (show (m : Int) ≤ 1000 by omega)]
      rfl
  have hp : ∀ p ∈ dec (t.natAbs : Int) :: (if (m : Int) = 1 then [] else [dec (m : Int)]), 47 ∉ tl p := fun p hp => by
    rcases List.mem_cons.mp hp with rfl | hp
    · exact dec_free _ _ (by decide)
    · by_cases cm : (m : Int) = 1
      · rw [if_pos cm] at hp; cases hp
      · rw [if_neg cm] at hp
        rw [List.mem_singleton.mp hp]
        exact dec_free _ _ (by decide)
  have ej : ∀ x : Str, (x ++ dec (t.natAbs : Int)) ++ (if (m : Int) = 1 then ("" : Str) else ("/" : Str) ++ dec (m : Int)) = Str.join SL ((x ++ dec (t.natAbs : Int)) :: (if (m : Int) = 1 then [] else [dec (m : Int)])) := fun x => by
    by_cases cm : (m : Int) = 1
    · rw [if_pos cm, if_pos cm]
      show _ ++ ("" : Str) = _
      have e : ("" : Str) = ⟨#[]⟩ := by decide +kernel
      rw [e]
      show (⟨(x ++ dec (t.natAbs : Int)).cps ++ #[]⟩ : Str) = x ++ dec (t.natAbs : Int)
      simp
    · rw [if_neg cm, if_neg cm]
      show _ = (x ++ dec (t.natAbs : Int)) ++ SL ++ dec (m : Int)
      rw [app_assoc, app_assoc, app_assoc]
  unfold amtS
  rw [ej]
  by_cases c : t < 0
  · rw [if_pos c]
    have := amtOf_mi hp
    rw [show (("-" : Str) ++ dec (t.natAbs : Int)) = MI ++ dec (t.natAbs : Int) from rfl, this, core true (fun _ => by omega)]
    rw [if_pos rfl, show -((t.natAbs : Nat) : Int) = t by omega]
  · rw [if_neg c, nil_app, amtOf_pl hp (fun ⟨q, hq⟩ => by
      have : 45 ∈ tl (dec (t.natAbs : Int)) := by rw [hq]; exact List.mem_cons_self
      exact dec_free _ _ (by decide) this), core false (fun e => by cases e)]
    rw [if_neg (by decide), show ((t.natAbs : Nat) : Int) = t by omega]
theorem isNum_lt {z : Str} {m : Nat} (h : isNum z m = true) (hm : m ≤ 100) : 0 ≤ numOf z ∧ (numOf z).natAbs < 10 ^ m := by
  obtain ⟨d, ne, l⟩ := isNum_of h
  have lz : z.cps.toList.length = z.length := by simp [Str.length]
  have e := intText_digits d ne (by omega)
  have lt := digits_lt d
  have lt2 : digitsVal z.cps.toList < 10 ^ m := Nat.lt_of_lt_of_le lt (Nat.pow_le_pow_right (by decide) (by omega))
  unfold numOf
  rw [e]
  exact ⟨Int.natCast_nonneg _, lt2⟩
theorem amtOf_sm {z : Str} {a b : Int} (h : amtOf z = some (a, b)) : a.natAbs < 1000000 ∧ 1 ≤ b ∧ b ≤ 1000 := by
  have top : ∀ x : Str, isNum (Txt.removeprefix x "-") 6 = true → (numOf x).natAbs < 1000000 := fun x hx => by
    have k := isNum_lt (m := 6) hx (by decide)
    by_cases c : ∃ q, tl x = 45 :: q
    · obtain ⟨q, hq⟩ := c
      have ex : x = MI ++ (⟨q.toArray⟩ : Str) := by
        have : tl (MI ++ (⟨q.toArray⟩ : Str)) = tl x := by rw [tl_mi, hq]
        have t2 : (MI ++ (⟨q.toArray⟩ : Str)).cps.toList = x.cps.toList := this
        exact (StrLaws.mk_of_toList t2.symm).trans (by simp)
      rw [ex] at hx k ⊢
      rw [show ("-" : Str) = MI from rfl, rp_mi] at hx k
      rw [num_neg hx, Int.natAbs_neg]
      exact k.2
    · rw [show ("-" : Str) = MI from rfl, rp_no c] at k
      exact k.2
  unfold amtOf at h
  split at h
  · cases h
  · rename_i c1
    have c1 : isNum (Txt.removeprefix (Txt.partition z "/").1 "-") 6 = true := by
      cases e : isNum (Txt.removeprefix (Txt.partition z "/").1 "-") 6 with
      | true => rfl
      | false => rw [e] at c1; exact absurd rfl c1
    have k := top _ c1
    split at h
    · cases h
      exact ⟨k, by decide, by decide⟩
    · split at h
      · cases h
      · rename_i c2
        cases h
        refine ⟨k, ?_⟩
        cases e : isNum (Txt.partition z "/").2.2 4 with
        | false => rw [e] at c2; exact absurd rfl c2
        | true =>
          rw [e] at c2
          by_cases c3 : 1 ≤ numOf (Txt.partition z "/").2.2
          · by_cases c4 : numOf (Txt.partition z "/").2.2 ≤ 1000
            · exact ⟨c3, c4⟩
            · rw [decide_eq_false c4, Bool.and_false] at c2; exact absurd rfl c2
          · rw [decide_eq_false c3] at c2; exact absurd rfl c2
/-- the lowest terms are not longer -/
theorem red_le {t u a b : Int} (r : Am.Red t u) (hb : b ≠ 0) (e : t * b = a * u) : t.natAbs ≤ a.natAbs ∧ u.natAbs ≤ b.natAbs := by
  obtain ⟨u0, g⟩ := r
  have e2 : t.natAbs * b.natAbs = a.natAbs * u.natAbs := by
    have := congrArg Int.natAbs e
    rwa [Int.natAbs_mul, Int.natAbs_mul] at this
  have d : u.natAbs ∣ b.natAbs := by
    have : u.natAbs ∣ t.natAbs * b.natAbs := ⟨a.natAbs, by rw [e2, Nat.mul_comm]⟩
    exact (Nat.Coprime.symm (show Nat.gcd t.natAbs u.natAbs = 1 from g)).dvd_of_dvd_mul_left this
  have b0 : 0 < b.natAbs := by omega
  have h1 := Nat.le_of_dvd b0 d
  refine ⟨?_, h1⟩
  have u1 : 0 < u.natAbs := by omega
  exact Nat.le_of_mul_le_mul_right (show t.natAbs * u.natAbs ≤ a.natAbs * u.natAbs by rw [← e2]; exact Nat.mul_le_mul_left _ h1) u1
theorem sm_of {t u a b : Int} (r : Am.Red t u) (h : a.natAbs < 1000000 ∧ 1 ≤ b ∧ b ≤ 1000) (e : t * b = a * u) : Sm t u := by
  have := red_le r (show b ≠ 0 by omega) e
  have u0 := r.1
  exact ⟨by omega, by omega⟩
end K35
set_option Elab.async false
set_option linter.all false
set_option maxRecDepth 100000
set_option maxHeartbeats 4000000
/-! isinstance of a caught error of a class of one's own, the error has a dict. -/
namespace Xe
open PySem PySem.W PySem.Spec PySem.Calls PyProof.Rows
section
variable {prog : Program} {w : World} {A : Around} {E : Value → Shared → Prop} {s : Shared} {K : Frag} {x D : Addr} {ox od : Obj}
theorem classD {Q : Option Value → Shared → Prop} (ga : findIn K (.ref D) "__getattribute__" = some (some (.builtin "BaseException.__getattribute__"))) (gt : findIn K (.ref D) "__getattr__" = some none)
    (sb : subIn K (.ref D) (.type "BaseException") = some true) (hd : hasDictIn K D = true) (c1 : findIn K (.ref D) "__class__" = some (some (.builtin "object.__class__")))
    (c2 : specialIn K (.builtin "object.__class__") "__get__" = some (some (.builtin "getset_descriptor.__get__"))) (c3 : takesIn K (.builtin "object.__class__") = some true) (c4 : mroIn K D (.type "object") = some true)
    (X : K.In s.heap) (I : InstAt s.heap x ox D (some od)) (q : Q (some (.ref D)) { s with toks := s.toks + 1 }) : wpAny (model prog w) A (getAttr? (.ref x) "__class__") Q E s := by
  obtain ⟨cd, hcd, _⟩ := any_some hd
  have fo : findObj K D (some od) "__class__" = some (.bind (.builtin "getset_descriptor.__get__") (.builtin "object.__class__")) := findObj_data (by rw [hcd]; rfl) c1 c2 c3
  obtain ⟨hp, g, d, t, os⟩ := s
  have t0 := I.type (M := model prog w)
  have t1 := looks_findIn (M := model prog w) X ga
  have t2 := looks_findIn (M := model prog w) X gt
  have t3 := looks_find (M := model prog w) X I fo
  have isB : Looks (model prog w) hp (isInstance (.ref x) (.type "BaseException")) true := t0.andThen (looks_subIn X sb)
  have n0 : (false && onTheHeap (Value.builtin "BaseException.__getattribute__")) = false := rfl
  have n2 : (Value.builtin "BaseException.__getattribute__" == Value.builtin "object.__getattribute__") = false := by decide +kernel
  have n1 : (onTheHeap (Value.ref D) && Value.builtin "BaseException.__getattribute__" == Value.builtin "object.__getattribute__") = false := by
    rw [n2]
    rfl
  unfold getAttr? getAttrBy? getAttrBy
  refine wpAny_bind (wpAny_mkText (wpAny_bind (wpAny_attempt (wpAny_holding (wpAny_bind (t0.at (wpAny_bind (t1.at ?_))))))))
  show wpAny _ _ (if (onTheHeap (Value.ref D) && Value.builtin "BaseException.__getattribute__" == Value.builtin "object.__getattribute__") = true then _ else _) _ _ _
  rw [n1, if_neg Bool.false_ne_true]
  unfold getAttrByItsOwn hookBefore
  refine wpAny_bind ?_
  rw [if_pos (show onTheHeap (Value.ref D) = true from rfl)]
  refine t2.at ?_
  refine wpAny_bind (wpAny_attempt (wpAny_holding ?_))
  unfold callGetattribute
  rw [n0, if_neg Bool.false_ne_true]
  unfold boundAndCalled
  rw [PySem.F.excAttr_ValueError.ga.bind (.ref x)]
  refine wpAny_bind (wpAny_pure ?_)
  show wpAny _ _ (call (.builtin "BaseException.__getattribute__") [.ref x, .str "__class__" t]) _ _ _
  refine wpAny_call (codeAny_call_builtin PySem.F.excAttr_ValueError.ga.plain PySem.F.entry_bexc_ga ?_)
  refine @check_slot (model prog w) _ _ ⟨hp, g, d, t + 1, os⟩ "BaseException.__getattribute__" "BaseException" "__getattribute__" (.ref x) [.str "__class__" t] [] _ (by decide +kernel) (by decide +kernel) isB (PySem.F.args_bexc_ga (.ref x) (.str "__class__" t)) ?_
  unfold Builtin.«object.__getattribute__»
  refine wpAny_bind (wpAny_of_eq (a := ((Value.ref x : Value), [Value.str "__class__" t])) (by first | rfl | (simp only [slotArgs]; rfl)) ?_)
  refine wpAny_bind (wpAny_pure (wpAny_bind (t0.at (wpAny_bind (t3.at ?_)))))
  show wpAny _ _ (holding [Value.builtin "object.__class__"] (call (.builtin "getset_descriptor.__get__") [.builtin "object.__class__", .ref x, .ref D]) >>= ret) _ _ _
  refine wpAny_bind (wpAny_holding (wpAny_call (class_get (s := ⟨hp, g, d, t + 1, os⟩) (ox := ox) (od := some od) X I c4 ?_)))
  refine wpAny_pure ?_
  show wpAny _ _ (handedOut (.ref D)) _ _ _
  rw [handedOut_of (v := .ref D) rfl]
  first
    | exact wpAny_pure (wpAny_pure q)
    | exact wpAny_pure q
    | exact wpAny_pure (wpAny_bind (wpAny_pure (wpAny_pure q)))
theorem kitD (ga : findIn K (.ref D) "__getattribute__" = some (some (.builtin "BaseException.__getattribute__"))) (gt : findIn K (.ref D) "__getattr__" = some none) (sb : subIn K (.ref D) (.type "BaseException") = some true) (hd : hasDictIn K D = true)
    (c1 : findIn K (.ref D) "__class__" = some (some (.builtin "object.__class__"))) (c2 : specialIn K (.builtin "object.__class__") "__get__" = some (some (.builtin "getset_descriptor.__get__"))) (c3 : takesIn K (.builtin "object.__class__") = some true) (c4 : mroIn K D (.type "object") = some true) :
    KitX K (.ref x) (.ref D) (fun h => InstAt h x ox D (some od)) where
  ty := fun _ _ _ I => I.type
  it := fun _ _ X _ => by
    obtain ⟨cd, hcd, _⟩ := any_some hd
    unfold clsIn at hcd
    split at hcd
    · rename_i _ _ _ _ ho
      intro _ _ _ _ k q
      unfold isType loadHead
      exact wpAny_bind (wpAny_loadPart (k _ _ (X _ _ ho)) (wpAny_pure q))
    · cases hcd
  ne := fun h tp dd its n sl X htp => by
    obtain ⟨cd, hcd, _⟩ := any_some hd
    refine Bool.eq_false_iff.mpr fun q => ?_
    have e : D = tp := Value.ref.inj (beq_iff_eq.mp q)
    subst e
    unfold clsIn at hcd
    split at hcd
    · rename_i _ _ _ _ ho
      have z := (X _ _ ho).symm.trans htp
      cases z
    · cases hcd
  ca := fun X I k => classD ga gt sb hd c1 c2 c3 c4 X I k
end
end Xe
namespace Xe
open PySem PySem.Spec PyProof.Rows L2
def rIsD (K : PySem.W.Frag) (D a : Addr) (cls : Value) (d : Option Addr) : List V → Hp → VK → Prop := fun xs H Q => ∃ (c : V) (cv : Value) (b : Bool) (dd : Addr) (F : Str) (v : V), xs = [.ref a, c] ∧ cls = .ref D ∧ (∀ u, RelV c u → u = cv) ∧ d = some dd ∧ H dd = some (.xd [(F, v)]) ∧ PySem.W.kitOne K (.ref D) cv = some b ∧ Q (.bl b) H
theorem call_isD {X : Cx} {a D : Addr} {d : Option Addr} {oe : Obj} {pn : List (Addr × Obj)} {cls : Value} (C : ExcC X.K D) (hz : Zc cls d oe) (hf : ∃ vs, oe.data = .fields vs) : CallR (X.suite a ((a, oe) :: pn)) (.builtin "isinstance") (rIsD X.K D a cls d) := by
  intro pins s σ H xs us Q I r h
  obtain ⟨c, cv, b, dd, F, v, rfl, ec0, hcv, ed, ea, e, q⟩ := h
  subst ed
  subst ec0
  cases r with
  | cons rx rr =>
    cases rr with
    | cons rt rr =>
      cases rr
      cases rx
      have ec := hcv _ rt
      subst ec
      obtain ⟨hget, _⟩ := I.pin (a, oe) (List.mem_append.mpr (.inl List.mem_cons_self))
      obtain ⟨vs, hv⟩ := hf
      have hx : ObjOk X.prog X.w H s.heap dd (.xd [(F, v)]) := I.hok dd _ ea
      obtain ⟨mA, hns, hr⟩ := hx
      obtain ⟨od, ho, hl⟩ := lookIn_ns hns
      have J : PySem.W.InstAt s.heap a oe D (some od) := ⟨hget, hz.1, by unfold PySem.W.notCls; rw [hv] <;> rfl, by rw [hz.2]; exact ho⟩
      exact PySem.W.kia_one (kitD C.hg C.hk C.hs C.hd C.ha C.hn C.ht C.hm) I.kIn J e (fun z => nomatch z) fun tk => ⟨.bl b, H, I.kept (t' := tk) fun _ _ z => z, rfl, q⟩
end Xe
set_option Elab.async false
set_option linter.all false
set_option maxRecDepth 100000
set_option maxHeartbeats 4000000
/-! C(e, ..), which may raise, at the slots. -/
namespace Xm
open PySem PySem.Spec PyProof.Rows L2
section
variable {X : Cx} {CX : CXT} {k : Nat} {f C : Addr} {fd : FuncData} {ps : List Str} {sp : Sp} {E : L2.St → XK} {x : Str} {p pos : Pos} {e : Expr} {es : List Expr} {t : TA}
def tMakeX (C : Addr) (sp : Sp) (E : L2.St → XK) (t : TA) : TE := fun σ H Q => t σ H fun vs H1 => ∀ z dz, H1 z = none → H1 dz = none → dz ≠ z →
    sp (.ref z :: vs) (upd (upd H1 dz (.own z)) z (.ins C dz [])) (fun v H2 => v = .non ∧ Q (.ref z) H2) (E σ)
theorem run_makeX {pn : List (Addr × Obj)} {σ : L2.St} {H : Hp} {s : Shared} {Q : VK} {us : List Value} {vs : List V} (M : Mk X.K C f) (F : FnOk X.prog X.w X.K X.mg X.base CX k f fd ps sp) (hr : Room (k + 1) X.A) (hb : Binds X.K fd ps [])
    (px : PassesAt CX X σ (E σ)) (I : Inv X pn σ H s) (r : Vals vs us) (h : ∀ z dz, H z = none → H dz = none → dz ≠ z → sp (.ref z :: vs) (upd (upd H dz (.own z)) z (.ins C dz [])) (fun v H2 => v = .non ∧ Q (.ref z) H2) (E σ)) :
    wpAny (model X.prog X.w) X.A (call (.ref C) us) (EP X pn σ Q) X.xe s := by
  have hw := h (s.heap.objs.size + 1) s.heap.objs.size (I.hok.fresh (Nat.le_succ _)) (I.hok.fresh (Nat.le_refl _)) (Nat.ne_of_lt (Nat.lt_succ_self _))
  have J := Inv.made (C := C) I
  have rr : Vals (V.ref (s.heap.objs.size + 1) :: vs) (Value.ref (s.heap.objs.size + 1) :: us) := .cons rfl r
  have len : (Value.ref (s.heap.objs.size + 1) :: us).length = ps.length := rr.length.symm.trans (F.len _ _ _ _ hw)
  have bb := hb _ (Value.ref (s.heap.objs.size + 1) :: us) J.kIn (by rw [List.append_nil]; exact len)
  rw [List.append_nil] at bb
  refine wpAny_call (make_map (f := f) I.kIn M.makes M.init (beq_iff_eq.mp M.fn) (codeAny_mono (F.run _ X.stack _ _ ⟨Value.ref (s.heap.objs.size + 1) :: us, []⟩ (Value.ref (s.heap.objs.size + 1) :: us) _ _ (E σ) (hr.make C us []) (J.env0.make C us []) bb rr hw) fun res s2 out => ?_))
  match res, out with
  | .error er, out => exact px pn _ _ er s2 J out
  | .ok (.ret u), out =>
    obtain ⟨v, H3, I3, rv, ev, q3⟩ := J.after out
    cases ev
    exact ⟨rv, V.ref (s.heap.objs.size + 1), H3, I3, rfl, q3⟩
  | .ok .next, out => exact out.elim
  | .ok .brk, out => exact out.elim
  | .ok .cont, out => exact out.elim
theorem pe_makeX (M : Mk X.K C f) (F : FnOk X.prog X.w X.K X.mg X.base CX k f fd ps sp) (hr : Room (k + 1) X.A) (hg : Gl X x) (hm : X.mg x = some (.ref C)) (hb : Binds X.K fd ps []) (px : ∀ σ, PassesAt CX X σ (E σ)) (ha : PA X (e :: es) t)
    (nd : (x == ("__debug__" : Str)) = false := by decide) (he : starEach (e :: es) X.env = (false, eval e X.env) :: starEach es X.env := by rfl) (hpl : (backTo pos (starEach es X.env)).any (·.1) = false := by rfl) :
    PE X (.Call (.Name x p) (e :: es) [] pos) (tMakeX C sp E t) := by
  refine ⟨fun pn s σ H Q I h => ?_⟩
  refine wpAny_Call_Name_kw (ld_glob I hg hm ?_ nd)
  refine PySem.W.callWith_K (h₀ := X.base) I.ok.mod.kin M.kp (thn (ha.run pos pn s σ H _ I h) fun us s1 ⟨vs, H1, I1, r, q⟩ => ⟨I1.kIn, ?_⟩) he hpl
  exact run_makeX M F hr hb (px σ) I1 r q
end
end Xm
set_option Elab.async false
set_option linter.all false
set_option maxRecDepth 100000
set_option maxHeartbeats 1000000
set_option exponentiation.threshold 100000
namespace K35
open PySem PySem.Spec PyProof.Rows L2 Fa Fb
abbrev sChs : Stmt := top 51
theorem scChs : FnScope ["sheet"] ["sheet"] (defScope sChs) := ⟨rfl, rfl, rfl, by decide +kernel, rfl, by decide +kernel, by decide +kernel⟩
abbrev CIS (K : PySem.W.Frag) : Addr := He.ga K "InvalidSheet"
def NoSheet (K : PySem.W.Frag) (H : Hp) (y : V) : Prop := ∃ T, TyX K H y T ∧ PySem.W.kitOne K T (.ref (CS K)) = some false
def spChs (K : PySem.W.Frag) : Sp := fun vs H Q E => ∃ y, vs = [y] ∧ ((NoSheet K H y ∧ Err (CIS K) y H E) ∨ ∃ o mm H0 gs, y = .ref o ∧ ShAt K mm H0 H o gs ∧ Q .non H)
theorem Inn.base {K : PySem.W.Frag} {mm : Nat} {H1 H0 H : Hp} {c r d : Addr} {gs : List Cu} {rs : List (Addr × List It)} (h : Inn K mm H1 H c r d gs rs) (b : ∀ q, H1 q = none → H0 q = none) : Inn K mm H0 H c r d gs rs :=
  ⟨h.cl, h.cok, h.rl, fun z hz => let ⟨x, y, z', w⟩ := h.rok z hz; ⟨x, y, b _ z', w⟩, h.rv, h.dk, h.n, h.mm, b _ h.c0, b _ h.r0, b _ h.d0, h.cr, fun q z => b _ (h.old q z)⟩
theorem ShAt.base {K : PySem.W.Frag} {mm : Nat} {H1 H0 H : Hp} {o : Addr} {gs : List Cu} (h : ShAt K mm H1 H o gs) (b : ∀ q, H1 q = none → H0 q = none) : ShAt K mm H0 H o gs := let ⟨dx, c, r, d, rs, x, y⟩ := h; ⟨dx, c, r, d, rs, x, y.base b⟩
def GoodS (cs : List M04.Cue) : Prop := M04.Good cs ∧ ∀ c ∈ cs, isName c.nm = true ∧ isUnit c.un = true
theorem GoodL.s {cs : List M04.Cue} (h : GoodL cs) : GoodS cs := ⟨h.1, fun c hc => ⟨(h.2 c hc).1, (h.2 c hc).2.2.1⟩⟩
/-- a list of i tuples that tell cues -/
def Ts (K : PySem.W.Frag) (n : Nat) (H : Hp) (D : Addr) (i : Nat) (cs : List M04.Cue) : Prop := ∃ xs : List Addr, xs.length = i ∧ H D = some (.lst (xs.map V.ref)) ∧ ∀ (j : Nat) it c, xs[j]? = some it → cs[j]? = some c → CueArg K n H it c
theorem Ts.nil {K : PySem.W.Frag} {n : Nat} {H : Hp} {D : Addr} {cs : List M04.Cue} (h : H D = some (.lst [])) : Ts K n H D 0 cs := ⟨[], rfl, h, fun j it c e => by cases e⟩
theorem Ts.app {K : PySem.W.Frag} {n i : Nat} {H H3 : Hp} {D q : Addr} {cs : List M04.Cue} {c : M04.Cue} {x : V} {t u : Int} (h : Ts K n H D i cs) (s : Same H H3) (e : cs[i]? = some c) (hq : H3 q = some (.tup [.str c.nm, .str c.pa, .str c.un, x])) (ar : Arg K H3 x t u n) (ev : vq t u = c.q) :
    ∃ ys, H3 D = some (.lst ys) ∧ ys.length = i ∧ Ts K n (upd H3 D (.lst (ys ++ [V.ref q]))) D (i + 1) cs := by
  obtain ⟨xs, xn, e1, ok⟩ := h
  have e1' := s _ _ e1
  have kt : KT H3 (upd H3 D (.lst (xs.map V.ref ++ [V.ref q]))) := KT.put e1'
  refine ⟨_, e1', by rw [List.length_map, xn], xs ++ [q], by rw [List.length_append, xn]; rfl, by rw [upd_same, List.map_append]; rfl, fun j it c' ej ec' => ?_⟩
  by_cases cj : j < i
  · rw [List.getElem?_append_left (by omega)] at ej
    obtain ⟨x, t, u, a1, a2, a3⟩ := (ok j it c' ej ec').same s
    rcases a1 with a1 | a1
    · refine ⟨x, t, u, .inl ?_, a2.kt kt, a3⟩
      rw [upd_ne fun e => ?_]
      · exact a1
      · rw [e, e1'] at a1
        have h1 := Option.some.inj a1
        have h2 := HO.lst.inj h1
        cases xs with
        | nil => cases h2
        | cons x r => cases (List.cons.inj h2).1
    · exact ⟨x, t, u, .inr (kt _ _ a1 (fun l e => by cases e)), a2.kt kt, a3⟩
  · have hj := (List.getElem?_eq_some_iff.mp ej).1
    rw [List.length_append] at hj
    have hj : j < xs.length + 1 := hj
    obtain rfl : j = i := by omega
    rw [List.getElem?_append_right (by omega), xn, Nat.sub_self] at ej
    cases ej
    rw [e] at ec'
    cases ec'
    exact ⟨x, t, u, .inr (kt _ _ hq (fun l e => by cases e)), ar.kt kt, ev⟩
/-- what a made sheet does -/
def MkP (K : PySem.W.Frag) (mm : Nat) (H : Hp) (cs : List M04.Cue) (x : Addr) (Q : VK) (E : XK) : Prop := match M34.told isName [] cs with
  | some b => ∀ H', Same H H' → BadE K b H' E
  | none => if 8 < (M04.all cs).rows.length then ∀ H', Same H H' → ErrM (CTm K) (.int 8) H' E else ∀ H' gs, Same H H' → ShAt K mm H H' x gs → gs.map cv = cs → Q .non H'
theorem make_any {K : PySem.W.Frag} {mm : Nat} {cs : List M04.Cue} {H : Hp} {a : Addr} {xs : List V} {Q : VK} {E : XK} (ha : H a = some (.lst xs) ∨ H a = some (.tup xs)) (hl : xs.length = cs.length) (hi : ∀ (i : Nat) c, cs[i]? = some c → ∃ it, xs[i]? = some (V.ref it) ∧ CueArg K mm H it c) (g : ∀ c ∈ cs, isUnit c.un = true ∧ c.nm.length ≤ 1000) (n : cs.length ≤ 20) (m1 : 1 ≤ mm) (m2 : mm ≤ 200)
    {x dx : Addr} (hx : H x = none) (hdx : H dx = none) (hne : dx ≠ x) (k : MkP K mm H cs x Q E) : spSI K [.ref x, .ref a] (upd (upd H dx (.own x)) x (.ins (CS K) dx [])) Q E := by
  have s : Same H (upd (upd H dx (.own x)) x (.ins (CS K) dx [])) := fun q ob hq => by
    rw [upd_ne (ne_of_none hq hx), upd_ne (ne_of_none hq hdx)]
    exact hq
  refine ⟨x, dx, a, xs, cs, mm, rfl, upd_same, ha.imp (s _ _) (s _ _), hl, fun i c e => ?_, g, n, m1, m2, ?_⟩
  · obtain ⟨it, e1, e2⟩ := hi i c e
    exact ⟨it, e1, e2.same s⟩
  · have sb : ∀ {H'}, Bt x (upd (upd H dx (.own x)) x (.ins (CS K) dx [])) H' → Same H H' := fun bt q ob hq => bt _ _ (ne_of_none hq hx) (s _ _ hq)
    unfold MkP at k
    unfold SiP
    cases h : M34.told isName [] cs with
    | some b =>
      rw [h] at k
      exact fun H' bt => k H' (sb bt)
    | none =>
      rw [h] at k
      by_cases c8 : 8 < (M04.all cs).rows.length
      · simp only [if_pos c8] at k ⊢
        exact fun H' bt => k H' (sb bt)
      · simp only [if_neg c8] at k ⊢
        exact fun H' gs bt sh ev => k H' gs (sb bt) (sh.base fun q hq => none_of s hq) ev
theorem mkP_good {K : PySem.W.Frag} {mm : Nat} {cs : List M04.Cue} {H : Hp} {x : Addr} {Q : VK} {E : XK} (g : GoodS cs) (r8 : (M04.all cs).rows.length ≤ 8) (k : ∀ H' gs, Same H H' → ShAt K mm H H' x gs → gs.map cv = cs → Q .non H') : MkP K mm H cs x Q E := by
  unfold MkP
  rw [M34.told_of g.1 fun c hc => (g.2 c hc).1]
  show if _ then _ else _
  rw [if_neg (by omega)]
  exact k
theorem make_ts {K : PySem.W.Frag} {mm i : Nat} {cs : List M04.Cue} {H : Hp} {a : Addr} {Q : VK} {E : XK} (h : Ts K mm H a i cs) (hi : i = cs.length) (g : ∀ c ∈ cs, isUnit c.un = true ∧ c.nm.length ≤ 1000) (n : cs.length ≤ 20) (m1 : 1 ≤ mm) (m2 : mm ≤ 200)
    {x dx : Addr} (hx : H x = none) (hdx : H dx = none) (hne : dx ≠ x) (k : MkP K mm H cs x Q E) : spSI K [.ref x, .ref a] (upd (upd H dx (.own x)) x (.ins (CS K) dx [])) Q E := by
  obtain ⟨xs, xn, e1, ok⟩ := h
  refine make_any (.inl e1) (by rw [List.length_map, xn, hi]) (fun j c e => ?_) g n m1 m2 hx hdx hne k
  have hj : j < xs.length := by
    rw [xn, hi]
    exact (List.getElem?_eq_some_iff.mp e).1
  exact ⟨xs[j], by rw [List.getElem?_map, List.getElem?_eq_getElem hj]; rfl, ok j _ c (List.getElem?_eq_getElem hj) e⟩
theorem GoodS.ok {cs : List M04.Cue} (g : GoodS cs) : ∀ c ∈ cs, isUnit c.un = true ∧ c.nm.length ≤ 1000 := fun c hc => ⟨(g.2 c hc).2, Nat.le_trans (isName_len (g.2 c hc).1) (by decide)⟩
theorem Arg.mono {K : PySem.W.Frag} {H : Hp} {x : V} {t u : Int} {n m : Nat} (h : Arg K H x t u n) (e : n ≤ m) : Arg K H x t u m := h.imp (fun h => h.mono e) fun ⟨a, b, c, d⟩ => ⟨a, b, pow_step c e, by omega⟩
theorem CueArg.mono {K : PySem.W.Frag} {H : Hp} {it : Addr} {c : M04.Cue} {n m : Nat} (h : CueArg K n H it c) (e : n ≤ m) : CueArg K m H it c := let ⟨x, t, u, a, b, d⟩ := h; ⟨x, t, u, a, b.mono e, d⟩
theorem num_in {cs : List M04.Cue} {z : Str} (g : GoodS cs) {c : M04.Cue} (h : c ∈ cs) : c.pa ∈ ("start" : Str) :: cs.map (·.nm) := by
  obtain ⟨i, hi, e⟩ := List.mem_iff_getElem.mp h
  have := ((M04.good_iff cs).mp g.1 i c (by rw [List.getElem?_eq_getElem hi, e])).2
  rcases List.mem_cons.mp this with h | h
  · rw [h]; exact List.mem_cons_self
  · refine List.mem_cons_of_mem _ ?_
    rw [List.map_take] at h
    exact List.mem_of_mem_take h
theorem pa_len {cs : List M04.Cue} (g : GoodS cs) {c : M04.Cue} (h : c ∈ cs) : c.pa.length ≤ 8 := by
  rcases List.mem_cons.mp (num_in (z := "start") g h) with e | e
  · rw [e]; decide +kernel
  · obtain ⟨d, hd, ed⟩ := List.mem_map.mp e
    rw [← ed]
    exact isName_len (g.2 d hd).1
theorem len_app (a b : Str) : (a ++ b).length = a.length + b.length := by
  rw [len_cl, cl_app, List.length_append, len_cl a, len_cl b]
def KR (H H' : Hp) : Prop := ∀ q o, H q = some o → (∀ a b c : Int, o ≠ .lst [.int a, .int b, .int c]) → H' q = some o
theorem KR.kp {H H' : Hp} {p : Addr} {n : Nat} (b : Box H p n) (k : Kp p H H') : KR H H' := fun q o h ne => k q o (fun e => by
  obtain ⟨a, x, c, z, _⟩ := b
  rw [e, z] at h
  exact ne _ _ _ (Option.some.inj h).symm) h
theorem KR.kt {H H' : Hp} (k : KR H H') : KT H H' := fun q o h nl => k q o h fun a b c => nl _
theorem Inn.kp {K : PySem.W.Frag} {mm : Nat} {H0 H H' : Hp} {c r d : Addr} {gs : List Cu} {rs : List (Addr × List It)} {p : Addr} {n m : Nat} (h : Inn K mm H0 H c r d gs rs) (b : Box H p n) (k : Kp p H H') (b' : Box H' p m) : Inn K mm H0 H' c r d gs rs := by
  have kr := KR.kp b k
  have kt := kr.kt
  refine ⟨kr _ _ h.cl (fun a b c z => ?_), fun g hg => ⟨kt _ _ (h.cok g hg).1 (fun l z => by cases z), (h.cok g hg).2.kt kt⟩, kr _ _ h.rl (fun a b c z => ?_), fun z hz => ⟨⟨kr _ _ (h.rok z hz).1.l (fun a b c e => ?_), fun g hg => ⟨kt _ _ ((h.rok z hz).1.ok g hg).1 (fun l e => by cases e), ((h.rok z hz).1.ok g hg).2.kt kt⟩, (h.rok z hz).1.n⟩, (h.rok z hz).2⟩, h.rv, kr _ _ h.dk (fun a b c z => by cases z), h.n, h.mm, h.c0, h.r0, h.d0, h.cr, fun q z => h.old q (k.no (b'.ne z).symm z)⟩
  · cases gs with
    | nil => cases z
    | cons x r => cases z
  · cases rs with
    | nil => cases z
    | cons x r => cases z
  · cases hz2 : z.2 with
    | nil => rw [hz2] at e; cases e
    | cons x r => rw [hz2] at e; cases e
theorem ShAt.kp {K : PySem.W.Frag} {mm : Nat} {H0 H H' : Hp} {o : Addr} {gs : List Cu} {p : Addr} {n m : Nat} (h : ShAt K mm H0 H o gs) (b : Box H p n) (k : Kp p H H') (b' : Box H' p m) : ShAt K mm H0 H' o gs := let ⟨dx, c, r, d, rs, x, y⟩ := h; ⟨dx, c, r, d, rs, (KR.kp b k).kt _ _ x (fun l z => by cases z), y.kp b k b'⟩
def lcd (g : Lc) : PyData := .tuple [.str g.nm, .str g.pa, .str g.un, .tuple [.int g.t, .int g.u]]
theorem lc_dp {K : PySem.W.Frag} {n : Nat} {H : Hp} {g : Lc} (h : LcOk n H g) : Dp K H (.ref g.q) (lcd g) := .tup (SqT.of h.1) (.cons (.str _) (.cons (.str _) (.cons (.str _) (.cons (.tup (SqT.of h.2.1.at_) (.cons (.int _) (.cons (.int _) .nil))) .nil))))
theorem lcs_dp {K : PySem.W.Frag} {n : Nat} {H : Hp} : ∀ {gs : List Lc}, (∀ g ∈ gs, LcOk n H g) → DpAll K H (gs.map fun g => V.ref g.q) (gs.map lcd)
  | [], _ => .nil
  | g :: r, h => .cons (lc_dp (h g List.mem_cons_self)) (lcs_dp fun x hx => h x (List.mem_cons_of_mem _ hx))
theorem lcs_lay : ∀ {gs : List Lc}, (∀ g ∈ gs, PyData.strOk g.nm = true ∧ PyData.strOk g.pa = true ∧ PyData.strOk g.un = true) → PyData.canLayAll0 (gs.map lcd) = true ∧ PyData.depthAll (gs.map lcd) ≤ 2
  | [], _ => ⟨rfl, by simp [PyData.depthAll]⟩
  | g :: r, h => by
    obtain ⟨h1, h2⟩ := lcs_lay (gs := r) fun x hx => h x (List.mem_cons_of_mem _ hx)
    obtain ⟨a, b, c⟩ := h g List.mem_cons_self
    simp only [List.map_cons, lcd, PyData.canLayAll0, PyData.canLay0, PyData.depthAll, PyData.depth, a, b, c, h1]
    exact ⟨rfl, by omega⟩
theorem list_shaped {ds : List PyData} (h : PyData.canLayAll0 ds = true) (n : PyData.depthAll ds ≤ 60) : SeqAt.shaped (.list ds) = true := by
  unfold SeqAt.shaped
  have h3 : PyData.canLay0 (.list ds) = true := by simp only [PyData.canLay0, h]
  have h4 : PyData.depth (.list ds) ≤ 64 := by
    simp only [PyData.depth]
    omega
  rw [h3, decide_eq_true h4]
  rfl
structure EqS (P : Program) (w : World) (K : PySem.W.Frag) (mg : Str → Option Value) (base : Heap) (f : Addr) (fd : FuncData) : Prop where
  at_ : PySem.W.findIn K (.ref (CS K)) "__eq__" = some (some (.ref f))
  fn : PySem.W.isFn K (.ref f) = true
  ok : FnOk P w K mg base (L2.CX P w) 5 f fd ["self", "other"] (spSEq K)
  b : Binds K fd ["self", "other"] []
  ne : PySem.W.findIn K (.ref (CS K)) "__ne__" = some (some (.builtin "object.__ne__"))
  ob : PySem.W.subIn K (.ref (CS K)) (.type "object") = some true
theorem lcd_eqv {g h : Lc} (a : Am.Red g.t g.u) (b : Am.Red h.t h.u) : PyData.eqv (lcd g) (lcd h) = decide (lcv g = lcv h) := by
  have e : PyData.eqv (lcd g) (lcd h) = (decide (g.nm = h.nm) && (decide (g.pa = h.pa) && (decide (g.un = h.un) && (decide (g.t = h.t) && decide (g.u = h.u))))) := by
    simp [lcd, PyData.eqv, PyData.eqvAll]
    try rfl
  rw [e, am_dec a b, cue_dec]
  show _ = decide (g.nm = h.nm ∧ g.pa = h.pa ∧ g.un = h.un ∧ vq g.t g.u = vq h.t h.u)
  rw [← dec4, Bool.and_true]
theorem lcds_eqv : ∀ {gs hs : List Lc}, (∀ g ∈ gs, Am.Red g.t g.u) → (∀ g ∈ hs, Am.Red g.t g.u) → PyData.eqvAll (gs.map lcd) (hs.map lcd) = decide (gs.map lcv = hs.map lcv)
  | [], [], _, _ => rfl
  | [], _ :: _, _, _ => by
    rw [decide_eq_false (by simp)]
    rfl
  | _ :: _, [], _, _ => by
    rw [decide_eq_false (by simp)]
    rfl
  | g :: gs, h :: hs, p, q => by
    have ih := lcds_eqv (gs := gs) (hs := hs) (fun x hx => p x (List.mem_cons_of_mem _ hx)) fun x hx => q x (List.mem_cons_of_mem _ hx)
    have e : PyData.eqvAll ((g :: gs).map lcd) ((h :: hs).map lcd) = (PyData.eqv (lcd g) (lcd h) && PyData.eqvAll (gs.map lcd) (hs.map lcd)) := by simp [PyData.eqvAll]
    rw [e, ih, lcd_eqv (p g List.mem_cons_self) (q h List.mem_cons_self), dec_cons]
    rfl
theorem neS (v : V) : (!decide (v = v)) = false := by rw [decide_eq_true rfl]; rfl
theorem cmpL {K : PySem.W.Frag} {n m : Nat} {H : Hp} {a b : Addr} {gs hs : List Lc} (h : LsC n H a gs) (h2 : LsC m H b hs) : Dp K H (.ref a) (.list (gs.map lcd)) ∧ Dp K H (.ref b) (.list (hs.map lcd)) ∧ SeqAt.shaped (.list (gs.map lcd)) = true ∧ SeqAt.shaped (.list (hs.map lcd)) = true ∧ PyData.eqv (.list (gs.map lcd)) (.list (hs.map lcd)) = decide (gs.map lcv = hs.map lcv) := by
  have y1 := lcs_lay (gs := gs) fun g hg => (h.ok g hg).2.2
  have y2 := lcs_lay (gs := hs) fun g hg => (h2.ok g hg).2.2
  refine ⟨.lst (SqL.of h.l) (lcs_dp h.ok), .lst (SqL.of h2.l) (lcs_dp h2.ok), list_shaped y1.1 (by omega), list_shaped y2.1 (by omega), ?_⟩
  rw [← lcds_eqv (fun g hg => (h.ok g hg).2.1.rd) (fun g hg => (h2.ok g hg).2.1.rd)]
  simp [PyData.eqv]
theorem goodS_str {cs : List M04.Cue} (g : GoodS cs) : ∀ c ∈ cs, PyData.strOk c.nm = true ∧ PyData.strOk c.pa = true ∧ PyData.strOk c.un = true := fun c hc => by
  refine ⟨isName_str (g.2 c hc).1, ?_, unit_ok (g.2 c hc).2⟩
  rcases List.mem_cons.mp (num_in (z := "start") g hc) with e | e
  · rw [e]; decide +kernel
  · obtain ⟨d, hd, ed⟩ := List.mem_map.mp e
    rw [← ed]
    exact isName_str (g.2 d hd).1
theorem pln_str {gs : List Cu} (g : GoodS (gs.map cv)) : ∀ y ∈ gs, PyData.strOk y.nm = true ∧ PyData.strOk y.pa = true ∧ PyData.strOk y.un = true := fun y hy => goodS_str g (cv y) (List.mem_map_of_mem hy)
/-- the first i of these cues, told by data, in a list -/
def Ls (m : Nat) (H : Hp) (D : Addr) (i : Nat) (cs : List M04.Cue) : Prop := ∃ ls : List Lc, ls.map lcv = cs.take i ∧ ls.length = i ∧ H D = some (.lst (ls.map fun g => V.ref g.q)) ∧ ∀ g ∈ ls, LcOk m H g
theorem Ls.nil {m : Nat} {H : Hp} {D : Addr} {cs : List M04.Cue} (h : H D = some (.lst [])) : Ls m H D 0 cs := ⟨[], rfl, rfl, h, fun g hg => by cases hg⟩
theorem Ls.app {m i : Nat} {H H3 : Hp} {D q a : Addr} {cs : List M04.Cue} {c : M04.Cue} {t u : Int} (h : Ls m H D i cs) (s : Same H H3) (e : cs[i]? = some c) (hq : H3 q = some (.tup [.str c.nm, .str c.pa, .str c.un, .ref a])) (fr : Fr m H3 a t u) (s1 : PyData.strOk c.nm = true) (s2 : PyData.strOk c.pa = true) (s3 : PyData.strOk c.un = true) (ev : vq t u = c.q) :
    ∃ ys, H3 D = some (.lst ys) ∧ ys.length = i ∧ Ls m (upd H3 D (.lst (ys ++ [V.ref q]))) D (i + 1) cs := by
  obtain ⟨ls, el, en, e1, ok⟩ := h
  have e1' := s _ _ e1
  refine ⟨_, e1', by rw [List.length_map, en], ls ++ [⟨q, a, c.nm, c.pa, c.un, t, u⟩], ?_, by rw [List.length_append, en]; rfl, by rw [upd_same, List.map_append]; rfl, fun y hy => ?_⟩
  · rw [List.map_append, el, List.take_add_one, e]
    congr 1
    show [M04.Cue.mk c.nm c.pa c.un (vq t u)] = [c]
    rw [ev]
  · rcases List.mem_append.mp hy with hy | hy
    · exact ((ok y hy).kt (KT.of s)).kt (KT.put e1')
    · rw [List.mem_singleton.mp hy]
      exact LcOk.kt (H := H3) ⟨hq, fr, s1, s2, s3⟩ (KT.put e1')
theorem Ls.same {m i : Nat} {H H' : Hp} {D : Addr} {cs : List M04.Cue} (h : Ls m H D i cs) (s : Same H H') : Ls m H' D i cs := let ⟨ls, a, b, c, d⟩ := h; ⟨ls, a, b, s _ _ c, fun g hg => (d g hg).kt (KT.of s)⟩
theorem Ls.done {m i : Nat} {H : Hp} {D : Addr} {cs : List M04.Cue} (h : Ls m H D i cs) (hi : i = cs.length) (n : cs.length ≤ 14) : ∃ ls, LsC m H D ls ∧ ls.map lcv = cs := by
  obtain ⟨ls, a, b, c, d⟩ := h
  rw [hi, List.take_length] at a
  exact ⟨ls, ⟨c, d, by omega⟩, a⟩
theorem inV_strs (z : Str) (zs : List Str) : inV (.str z) (zs.map V.str) = decide (z ∈ zs) := by
  unfold inV
  rw [List.any_map, Bool.eq_iff_iff, List.any_eq_true, decide_eq_true_iff]
  constructor
  · rintro ⟨y, hy, e⟩
    have e : (y == z) = true := e
    rw [← beq_iff_eq.mp e]
    exact hy
  · intro h
    exact ⟨z, h, by show (z == z) = true; exact beq_iff_eq.mpr rfl⟩
theorem flat_strs (zs : List Str) : (zs.map V.str).all flatV = true := by
  rw [List.all_map, List.all_eq_true]
  intro x _
  rfl
theorem told_app {g : Str → Bool} : ∀ {a pre b : List M04.Cue}, M34.told g pre a = none → M34.told g pre (a ++ b) = M34.told g (pre ++ a) b
  | [], pre, b, _ => by rw [List.append_nil, List.nil_append]
  | c :: r, pre, b, h => by
    unfold M34.told at h
    cases hb : M34.bad g (M04.all pre).nums c with
    | some x => rw [hb] at h; cases h
    | none =>
      rw [hb] at h
      have ih := told_app (a := r) (pre := pre ++ [c]) (b := b) h
      rw [List.append_assoc] at ih
      show (match M34.bad g (M04.all pre).nums c with | some b => some b | none => M34.told g (pre ++ [c]) (r ++ b)) = _
      rw [hb]
      exact ih
abbrev nmsOf (cs : List M04.Cue) : List Str := ("start" : Str) :: cs.map (·.nm)
theorem isSome_in {cs : List M04.Cue} {z : Str} : (M04.num (M04.all cs).nums z).isSome = decide (z ∈ nmsOf cs) := by
  rw [Bool.eq_iff_iff, decide_eq_true_iff]
  exact M34.num_mem cs z
theorem told_names {g : Str → Bool} {cs : List M04.Cue} (h : M34.told g [] cs = none) : ∀ c ∈ cs, g c.nm = true := fun c hc => by
  obtain ⟨i, hi, e⟩ := List.mem_iff_getElem.mp hc
  exact (M34.bad_none.mp (M34.told_none.mp h i c (by rw [List.getElem?_eq_getElem hi, e]))).1
/-- what a call is told to give -/
inductive Ans | err (tag : Str) (v : V) | cues (cs : List M04.Cue)
def ansT (B : Option M34.Bad) (cs : List M04.Cue) : Ans := match B with
  | some (.name y) => .err "name" (.str y)
  | some (.dup y) => .err "twice" (.str y)
  | some (.unk y) => .err "cue" (.str y)
  | none => if 8 < (M04.all cs).rows.length then .err "many" (.int 8) else .cues cs
def AnsV (H : Hp) (r : Addr) (a : Ans) : Prop := match a with
  | .err tag v => H r = some (.lst [.str tag, v])
  | .cues cs => ∃ f ls n, H r = some (.lst [.str "cues", .ref f]) ∧ LsC n H f ls ∧ n ≤ 30 ∧ ls.map lcv = cs
theorem strOk_app {a b : Str} (h : PyData.strOk a = true) (h2 : PyData.strOk b = true) : PyData.strOk (a ++ b) = true := by
  unfold PyData.strOk at *
  rw [← Array.all_toList] at *
  have e : (a ++ b).cps.toList = a.cps.toList ++ b.cps.toList := cl_app a b
  rw [e, List.all_append, h, h2]
  rfl
theorem told_some {g : Str → Bool} : ∀ {r pre : List M04.Cue} {b : M34.Bad}, M34.told g pre r = some b → ∃ c ∈ r, b = .name c.nm ∨ b = .dup c.nm ∨ b = .unk c.pa
  | [], pre, b, h => by cases h
  | c :: r, pre, b, h => by
    unfold M34.told at h
    cases hb : M34.bad g (M04.all pre).nums c with
    | some x =>
      rw [hb] at h
      cases h
      refine ⟨c, List.mem_cons_self, ?_⟩
      unfold M34.bad at hb
      split at hb
      · exact .inl (Option.some.inj hb).symm
      · split at hb
        · exact .inr (.inl (Option.some.inj hb).symm)
        · split at hb
          · exact .inr (.inr (Option.some.inj hb).symm)
          · cases hb
    | none =>
      rw [hb] at h
      obtain ⟨d, hd, e⟩ := told_some h
      exact ⟨d, List.mem_cons_of_mem _ hd, e⟩
theorem unit_len {z : Str} (h : isUnit z = true) : z.length ≤ 100 := by
  unfold isUnit at h
  rw [Bool.or_eq_true, decide_eq_true_iff, decide_eq_true_iff] at h
  rcases h with rfl | rfl <;> decide +kernel
section
variable {P : Program} {w : World} {K : PySem.W.Frag} {mg : Str → Option Value} {base : Heap} {f f1 f2 f3 f4 fV fI : Addr} {fd fd1 fd2 fd3 fd4 fdI : FuncData} {qv tv : Str}
theorem ok_chs (F : FnP K "check_sheet" sChs f fd) (T : AF K mg) (MS : MF K mg) (gS : mg "InvalidSheet" = some (.ref (CIS K))) (XS : Xb.Txt P.main.file K qv "value" tv (CIS K) fV) (htop : (P.main.scope.names.lookup ("super" : Str)).isSome = false) (kS : PySem.W.kitOne K (.ref (CS K)) (.ref (CS K)) = some true)
    (ca : PySem.W.findIn K (.ref (CS K)) "__class__" = some (some (.builtin "object.__class__"))) (cm : PySem.W.mroIn K (CS K) (.type "object") = some true) : FnOk P w K mg base (L2.CX P w) 2 f fd ["sheet"] (spChs K) := by
  refine F.ok scChs (fun vs H Q E h => ?_) (fun cdv A outer s H vs Q E hr h => ?_)
  · obtain ⟨y, rfl, _⟩ := h
    rfl
  · obtain ⟨y, rfl, q⟩ := h
    refine ⟨_, (pss_one (ps_if (pt_not (pt_val (pe_isi T.isi (pv 0) (pe_glob (v := .ref (CS K)) rfl MS.g rfl)))) (pss_one (Xb.ps_raiseX (W := fun cls d _ H => E cls d H) rfl XS gS htop hr (takes_of rfl rfl rfl rfl) (pa_cons (pv 0) pa_nil))) pss_nil)), ?_⟩
    rcases q with ⟨⟨Ty, ty, kt⟩, er⟩ | ⟨o, mm, H0, gs, rfl, sh, k⟩
    · exact ⟨_, rfl, _, _, _, _, false, rfl, .own _, ty, kt, _, rfl, iteT ⟨_, rfl, _, rfl, er⟩⟩
    · obtain ⟨dx, c, r, d, rs, ho, inn⟩ := sh
      exact ⟨_, rfl, _, _, _, _, true, rfl, .own _, .base (.ins ho MS.cl ca T.cn T.ct cm), kS, _, rfl, iteF k⟩
end
end K35
set_option Elab.async false
set_option linter.all false
set_option maxRecDepth 100000
set_option maxHeartbeats 1000000
set_option exponentiation.threshold 100000
namespace K35
open PySem PySem.Spec PyProof.Rows L2 Fa Fb NumText TL
/-! ### lines that tell cues -/
abbrev SP : Str := " "
abbrev NL : Str := "\n"
theorem sp_tl : tl SP = 32 :: [] := by decide +kernel
theorem nl_tl : tl NL = 10 :: [] := by decide +kernel
/-- the cue of a line's words -/
def cueW : List Str → Option M04.Cue
  | [c, nm, pa, un, am] => if c = "cue" ∧ isName nm = true ∧ isName pa = true ∧ isUnit un = true then (amtOf am).map fun ab => ⟨nm, pa, un, vq ab.1 ab.2⟩ else none
  | _ => none
def lineQ (l : Str) : Option M04.Cue := cueW (Txt.split l SP)
def GoodQ (c : M04.Cue) : Prop := isName c.nm = true ∧ isName c.pa = true ∧ isUnit c.un = true ∧ SmQ c.q
theorem smQ_of {a b : Int} (h : a.natAbs < 1000000 ∧ 1 ≤ b ∧ b ≤ 1000) : SmQ (vq a b) := by
  obtain ⟨k1, k2, k3, k4, k5, k6⟩ := Am.mk a b (by omega) _ rfl
  refine ⟨_, _, k3, (vq_eq (Int.ne_of_gt k3.1) (by omega)).mpr k4, sm_of k3 h k4⟩
theorem cueW_len {ws : List Str} {c : M04.Cue} (h : cueW ws = some c) : ws.length = 5 := by
  unfold cueW at h
  split at h
  · rfl
  · cases h
theorem cueW_5 (c nm pa un am : Str) : cueW [c, nm, pa, un, am] = if c = "cue" ∧ isName nm = true ∧ isName pa = true ∧ isUnit un = true then (amtOf am).map fun ab => ⟨nm, pa, un, vq ab.1 ab.2⟩ else none := rfl
theorem cueW_good {ws : List Str} {c : M04.Cue} (h : cueW ws = some c) : GoodQ c := by
  unfold cueW at h
  split at h
  · split at h
    · rename_i k
      obtain ⟨_, k2, k3, k4⟩ := k
      rename_i am _
      cases e : amtOf am with
      | none => rw [e] at h; cases h
      | some ab =>
        rw [e] at h
        cases h
        exact ⟨k2, k3, k4, smQ_of (amtOf_sm e)⟩
    · cases h
  · cases h
theorem lineQ_good {l : Str} {c : M04.Cue} (h : lineQ l = some c) : GoodQ c := cueW_good h
def badAt (ls : List Str) : Option Nat := ls.findIdx? fun l => (lineQ l).isNone
def csOf (ls : List Str) : List M04.Cue := ls.filterMap lineQ
def ansL (ls : List Str) : Ans := match badAt ls with
  | some i => .err "line" (.int (i : Int))
  | none => ansT (M34.told isName [] (csOf ls)) (csOf ls)
/-- the lines before i tell cues -/
def Gd (ls : List Str) (i : Nat) : Prop := ∀ (j : Nat) l, j < i → ls[j]? = some l → (lineQ l).isSome = true
theorem gd_zero (ls : List Str) : Gd ls 0 := fun j l h => absurd h (Nat.not_lt_zero _)
theorem gd_succ {ls : List Str} {i : Nat} {l : Str} {c : M04.Cue} (h : Gd ls i) (e : ls[i]? = some l) (q : lineQ l = some c) : Gd ls (i + 1) := fun j x hj ex => by
  by_cases c : j < i
  · exact h j x c ex
  · obtain rfl : j = i := by omega
    rw [e] at ex
    cases ex
    rw [q]
    rfl
theorem bad_at {ls : List Str} {i : Nat} {l : Str} (h : Gd ls i) (e : ls[i]? = some l) (q : lineQ l = none) : badAt ls = some i := by
  obtain ⟨hi, e2⟩ := List.getElem?_eq_some_iff.mp e
  unfold badAt
  rw [List.findIdx?_eq_some_iff_getElem]
  refine ⟨hi, by rw [e2, q]; rfl, fun j hj => ?_⟩
  have := h j _ hj (List.getElem?_eq_getElem (Nat.lt_trans hj hi))
  rw [Option.isNone_iff_eq_none]
  intro z
  rw [z] at this
  cases this
theorem bad_none {ls : List Str} (h : Gd ls ls.length) : badAt ls = none := by
  unfold badAt
  rw [List.findIdx?_eq_none_iff]
  intro x hx
  obtain ⟨i, hi, e⟩ := List.mem_iff_getElem.mp hx
  have := h i x hi (by rw [List.getElem?_eq_getElem hi, e])
  cases q : lineQ x with
  | none => rw [q] at this; cases this
  | some c => rfl
theorem cs_at : ∀ {ls : List Str} {i : Nat} {l : Str} {c : M04.Cue}, Gd ls i → ls[i]? = some l → lineQ l = some c → (csOf ls)[i]? = some c
  | [], i, l, c, _, e, _ => by cases e
  | x :: r, 0, l, c, _, e, q => by
    cases e
    unfold csOf
    rw [List.filterMap_cons, q]
    rfl
  | x :: r, i + 1, l, c, h, e, q => by
    have hx := h 0 x (Nat.succ_pos _) rfl
    obtain ⟨d, hd⟩ := Option.isSome_iff_exists.mp hx
    unfold csOf
    rw [List.filterMap_cons, hd]
    exact cs_at (ls := r) (i := i) (fun j l hj el => h (j + 1) l (by omega) el) e q
theorem cs_len : ∀ {ls : List Str}, Gd ls ls.length → (csOf ls).length = ls.length
  | [], _ => rfl
  | x :: r, h => by
    have hx := h 0 x (Nat.succ_pos _) rfl
    obtain ⟨d, hd⟩ := Option.isSome_iff_exists.mp hx
    unfold csOf
    rw [List.filterMap_cons, hd]
    show (csOf r).length + 1 = r.length + 1
    rw [cs_len (ls := r) fun j l hj el => h (j + 1) l (by rw [List.length_cons]; omega) el]
theorem cs_le (ls : List Str) : (csOf ls).length ≤ ls.length := List.length_filterMap_le ..
theorem cs_good {ls : List Str} : ∀ c ∈ csOf ls, GoodQ c := fun c hc => by
  obtain ⟨l, _, q⟩ := List.mem_filterMap.mp hc
  exact lineQ_good q
/-! ### lines written -/
def lnS (nm pa un : Str) (t u : Int) : Str := Str.join SP [("cue" : Str), nm, pa, un, amtS t u]
theorem name_cl {z : Str} (h : isName z = true) : ∀ x ∈ tl z, Low x ∨ Dg x := fun x hx => by
  unfold isName at h
  rw [Bool.and_eq_true, Bool.and_eq_true] at h
  have h2 := h.2
  rw [Bool.and_eq_true] at h2
  have o := h2.2
  unfold only at o
  rw [List.all_eq_true] at o
  have := of_decide_eq_true (o x hx)
  have this : x ∈ cl (LET ++ DIG) := this
  rw [cl_app, List.mem_append, mem_let, mem_dig] at this
  exact this
theorem name_free {z : Str} (h : isName z = true) {s : Nat} (hs : s < 48) : s ∉ tl z := fun m => by
  rcases name_cl h s m with k | k
  · have := k.1; omega
  · have := k.1; omega
theorem unit_free {z : Str} (h : isUnit z = true) {s : Nat} (hs : s < 48) : s ∉ tl z := by
  have : isName z = true := by
    unfold isUnit at h
    rw [Bool.or_eq_true, decide_eq_true_iff, decide_eq_true_iff] at h
    rcases h with rfl | rfl <;> decide +kernel
  exact name_free this hs
theorem tl_app (a b : Str) : tl (a ++ b) = tl a ++ tl b := cl_app a b
theorem amt_free {t u : Int} (hu : 0 < u) {s : Nat} (hs : s < 45) : s ∉ tl (amtS t u) := by
  obtain ⟨m, rfl⟩ := Int.eq_ofNat_of_zero_le (show 0 ≤ u by omega)
  unfold amtS
  rw [tl_app, tl_app]
  have e0 : tl ("" : Str) = [] := by decide +kernel
  intro h
  rcases List.mem_append.mp h with h | h
  · rcases List.mem_append.mp h with h | h
    · by_cases c : t < 0
      · rw [if_pos c, show tl ("-" : Str) = [45] by decide +kernel] at h
        have := List.mem_singleton.mp h
        omega
      · rw [if_neg c, e0] at h
        cases h
    · exact dec_free _ s (by omega) h
  · by_cases c : ((m : Nat) : Int) = 1
    · rw [if_pos c, e0] at h
      cases h
    · rw [if_neg c, tl_app, show tl ("/" : Str) = [47] by decide +kernel] at h
      rcases List.mem_append.mp h with h | h
      · have := List.mem_singleton.mp h
        omega
      · exact dec_free _ s (by omega) h
theorem join_free {y : Str} {s : Nat} (hy : s ∉ tl y) : ∀ {l : List Str}, (∀ p ∈ l, s ∉ tl p) → s ∉ tl (Str.join y l)
  | [], _ => by
    show s ∉ tl (Str.join y [])
    have e : tl (Str.join y []) = [] := by
      rw [tl_join]
      rfl
    rw [e]
    exact List.not_mem_nil
  | [a], h => h a (List.mem_singleton.mpr rfl)
  | a :: b :: r, h => by
    show s ∉ tl (a ++ y ++ Str.join y (b :: r))
    rw [tl_app, tl_app]
    intro m
    rcases List.mem_append.mp m with m | m
    · rcases List.mem_append.mp m with m | m
      · exact h a List.mem_cons_self m
      · exact hy m
    · exact join_free hy (l := b :: r) (fun p hp => h p (List.mem_cons_of_mem _ hp)) m
structure PcOk (nm pa un : Str) (t u : Int) : Prop where
  nm : isName nm = true
  pa : isName pa = true
  un : isUnit un = true
  sm : Sm t u
  u0 : 0 < u
theorem ln_parts {nm pa un : Str} {t u : Int} (h : PcOk nm pa un t u) {s : Nat} (hs : s < 45) : ∀ p ∈ ([("cue" : Str), nm, pa, un, amtS t u] : List Str), s ∉ tl p := fun p hp => by
  simp only [List.mem_cons, List.not_mem_nil, or_false] at hp
  rcases hp with rfl | rfl | rfl | rfl | rfl
  · exact name_free (by decide +kernel) (by omega)
  · exact name_free h.nm (by omega)
  · exact name_free h.pa (by omega)
  · exact unit_free h.un (by omega)
  · exact amt_free h.u0 hs
theorem ln_read {nm pa un : Str} {t u : Int} (h : PcOk nm pa un t u) : lineQ (lnS nm pa un t u) = some ⟨nm, pa, un, vq t u⟩ := by
  unfold lineQ lnS
  rw [← join_eq, split_join sp_tl (by decide +kernel) (by simp) (ln_parts h (by decide)), cueW_5, if_pos ⟨rfl, h.nm, h.pa, h.un⟩, amtOf_amtS h.sm h.u0]
  rfl
theorem ln_free {nm pa un : Str} {t u : Int} (h : PcOk nm pa un t u) : 10 ∉ tl (lnS nm pa un t u) := join_free (by rw [sp_tl]; decide) (ln_parts h (by decide))
theorem ln_ne {nm pa un : Str} {t u : Int} : lnS nm pa un t u ≠ "" := fun e => by
  have h := congrArg tl e
  have e0 : tl ("" : Str) = [] := by decide +kernel
  rw [e0] at h
  have h2 : tl (("cue" : Str) ++ SP ++ Str.join SP [nm, pa, un, amtS t u]) = [] := h
  rw [tl_app, tl_app, sp_tl] at h2
  simp at h2
/-- the lines of a text -/
def linesOf (z : Str) : List Str := if z = "" then [] else Txt.split z NL
theorem join_nil (y : Str) : Str.join y [] = "" := by
  refine cl_ext ?_
  show tl (Str.join y []) = _
  rw [tl_join]
  exact (by decide +kernel : ([] : List Nat) = cl ("" : Str))
theorem lines_join {zs : List Str} (h : ∀ z ∈ zs, 10 ∉ tl z) (n : ∀ z ∈ zs, z ≠ "") : linesOf (Str.join NL zs) = zs := by
  unfold linesOf
  cases zs with
  | nil => rw [join_nil, if_pos rfl]
  | cons a r =>
    rw [if_neg, ← join_eq, split_join nl_tl (by decide +kernel) (by simp) h]
    intro e
    cases r with
    | nil => exact n a List.mem_cons_self e
    | cons b r =>
      have h2 : tl (a ++ NL ++ Str.join NL (b :: r)) = tl ("" : Str) := congrArg tl e
      rw [tl_app, tl_app, nl_tl, show tl ("" : Str) = [] by decide +kernel] at h2
      simp at h2
theorem fm_all {α β : Type} {f : α → Option β} {k : α → β} : ∀ {gs : List α}, (∀ g ∈ gs, f g = some (k g)) → gs.filterMap f = gs.map k
  | [], _ => rfl
  | g :: r, h => by
    rw [List.filterMap_cons, h g List.mem_cons_self, List.map_cons, fm_all fun x hx => h x (List.mem_cons_of_mem _ hx)]
/-- what is written is read -/
theorem read_back {α : Type} {gs : List α} (fn fp fu : α → Str) (ft fb : α → Int) (h : ∀ g ∈ gs, PcOk (fn g) (fp g) (fu g) (ft g) (fb g)) :
    badAt (gs.map fun g => lnS (fn g) (fp g) (fu g) (ft g) (fb g)) = none ∧ csOf (gs.map fun g => lnS (fn g) (fp g) (fu g) (ft g) (fb g)) = gs.map fun g => ⟨fn g, fp g, fu g, vq (ft g) (fb g)⟩ := by
  constructor
  · unfold badAt
    rw [List.findIdx?_eq_none_iff]
    intro x hx
    obtain ⟨g, hg, rfl⟩ := List.mem_map.mp hx
    rw [ln_read (h g hg)]
    rfl
  · unfold csOf
    rw [List.filterMap_map]
    refine fm_all (f := lineQ ∘ fun g => lnS (fn g) (fp g) (fu g) (ft g) (fb g)) (k := fun g => (⟨fn g, fp g, fu g, vq (ft g) (fb g)⟩ : M04.Cue)) fun g hg => ?_
    have e := ln_read (h g hg)
    rw [Function.comp_apply]
    exact e
end K35
set_option Elab.async false
set_option linter.all false
set_option maxRecDepth 100000
set_option maxHeartbeats 1000000
set_option exponentiation.threshold 100000
namespace K35
open PySem PySem.Spec PyProof.Rows L2 Fa Fb NumText TL
/-! ### split and joined again -/
abbrev one (c : Nat) : Str := ⟨#[c]⟩
theorem join_app2 (y x : Str) (a : Str) (r : List Str) : Str.join y ((x ++ a) :: r) = x ++ Str.join y (a :: r) := by
  cases r with
  | nil => rfl
  | cons b r =>
    show (x ++ a) ++ y ++ Str.join y (b :: r) = x ++ (a ++ y ++ Str.join y (b :: r))
    rw [app_assoc, app_assoc, app_assoc]
theorem parts_list2 (s : Nat) : ∀ l : List Nat, ∃ (a : Str) (r : List Str), (∀ p ∈ a :: r, s ∉ tl p) ∧ (⟨l.toArray⟩ : Str) = Str.join (one s) (a :: r)
  | [] => ⟨⟨#[]⟩, [], by intro p hp; rw [List.mem_singleton] at hp; subst hp; simp [tl], rfl⟩
  | c :: l => by
    obtain ⟨a, r, h1, h2⟩ := parts_list2 s l
    have e : (⟨(c :: l).toArray⟩ : Str) = (⟨#[c]⟩ : Str) ++ (⟨l.toArray⟩ : Str) := by
      show (⟨(c :: l).toArray⟩ : Str) = ⟨#[c] ++ l.toArray⟩
      simp
    by_cases hc : c = s
    · refine ⟨⟨#[]⟩, a :: r, ?_, ?_⟩
      · intro p hp
        rcases List.mem_cons.mp hp with m | m
        · subst m
          simp [tl]
        · exact h1 p m
      · rw [e, hc, h2]
        show one s ++ Str.join (one s) (a :: r) = (⟨#[]⟩ : Str) ++ one s ++ Str.join (one s) (a :: r)
        have e0 : (⟨#[]⟩ : Str) = "" := by decide +kernel
        rw [e0, nil_app]
    · refine ⟨⟨#[c]⟩ ++ a, r, ?_, ?_⟩
      · intro p hp
        rcases List.mem_cons.mp hp with m | m
        · subst m
          intro z
          have z2 : s ∈ (#[c] ++ a.cps).toList := z
          rw [Array.toList_append] at z2
          rcases List.mem_append.mp z2 with y | y
          · exact hc (List.mem_singleton.mp y).symm
          · exact h1 a (List.mem_cons_self ..) y
        · exact h1 p (List.mem_cons_of_mem _ m)
      · rw [e, h2, join_app2]
/-- the signs of pieces and of what stands between -/
def jl (ws : List Str) : Nat := (ws.map Str.length).sum + ws.length
theorem jl_join (y : Str) (hy : y.length = 1) : ∀ (a : Str) (r : List Str), (Str.join y (a :: r)).length + 1 = jl (a :: r)
  | a, [] => by
    show a.length + 1 = (a.length + 0) + 1
    omega
  | a, b :: r => by
    have ih := jl_join y hy b r
    show (a ++ y ++ Str.join y (b :: r)).length + 1 = _
    rw [len_app, len_app, hy]
    have e : jl (a :: b :: r) = a.length + 1 + jl (b :: r) := by
      unfold jl
      rw [List.map_cons, List.sum_cons, List.length_cons]
      omega
    omega
theorem jl_le {ws : List Str} : ws.length ≤ jl ws ∧ ∀ p ∈ ws, p.length + 1 ≤ jl ws := by
  constructor
  · unfold jl; omega
  · induction ws with
    | nil => intro p hp; cases hp
    | cons a r ih =>
      intro p hp
      have e : jl (a :: r) = a.length + 1 + jl r := by
        unfold jl
        rw [List.map_cons, List.sum_cons, List.length_cons]
        omega
      rcases List.mem_cons.mp hp with rfl | hp
      · omega
      · have := ih p hp
        omega
theorem join_le (y : Str) (hy : y.length = 1) (ws : List Str) : (Str.join y ws).length ≤ jl ws := by
  cases ws with
  | nil => rw [join_nil]; exact Nat.zero_le _
  | cons a r =>
    have := jl_join y hy a r
    omega
structure Spl (z : Str) (s : Nat) (ws : List Str) : Prop where
  ne : ws ≠ []
  free : ∀ p ∈ ws, s ∉ tl p
  jl : jl ws = z.length + 1
  mem : ∀ p ∈ ws, ∀ x ∈ tl p, x ∈ tl z
theorem mem_join (y : Str) : ∀ {ws : List Str} {p : Str}, p ∈ ws → ∀ x ∈ tl p, x ∈ tl (Str.join y ws)
  | [a], p, hp, x, hx => by
    rw [List.mem_singleton] at hp
    subst hp
    exact hx
  | a :: b :: r, p, hp, x, hx => by
    show x ∈ tl (a ++ y ++ Str.join y (b :: r))
    rw [tl_app, tl_app]
    rcases List.mem_cons.mp hp with rfl | hp
    · exact List.mem_append_left _ (List.mem_append_left _ hx)
    · exact List.mem_append_right _ (mem_join y (ws := b :: r) hp x hx)
theorem split_of {s : Nat} (hs : s < 256) (z : Str) : Spl z s (Txt.split z (one s)) := by
  obtain ⟨a, r, h1, h2⟩ := parts_list2 s z.cps.toList
  have e : (⟨z.cps.toList.toArray⟩ : Str) = z := by simp
  rw [e] at h2
  have e2 : Txt.split z (one s) = a :: r := by
    rw [h2, ← join_eq]
    exact split_join (show tl (one s) = s :: [] from rfl) (by simp [hs]) (by simp) h1
  rw [e2]
  refine ⟨by simp, h1, ?_, fun p hp x hx => ?_⟩
  · rw [h2]
    exact (jl_join (one s) rfl a r).symm
  · rw [h2]
    exact mem_join _ hp x hx
theorem sp_one : SP = one 32 := by decide +kernel
theorem nl_one : NL = one 10 := by decide +kernel
theorem words_of (z : Str) : Spl z 32 (Txt.split z SP) := by
  rw [sp_one]
  exact split_of (by decide) z
theorem lines_of (z : Str) : Spl z 10 (Txt.split z NL) := by
  rw [nl_one]
  exact split_of (by decide) z
end K35
set_option Elab.async false
set_option linter.all false
set_option maxRecDepth 100000
set_option maxHeartbeats 1000000
set_option exponentiation.threshold 100000
namespace K35
open PySem PySem.Spec PyProof.Rows L2 Fa Fb
theorem filter_take {α : Type} {p : α → Bool} {l : List α} {i : Nat} {x : α} (h : l[i]? = some x) : (l.take (i + 1)).filter p = (l.take i).filter p ++ if p x = true then [x] else [] := by
  rw [List.take_add_one, h, List.filter_append]
  congr 1
  show [x].filter p = _
  by_cases c : p x = true
  · rw [if_pos c, List.filter_cons_of_pos c]
    rfl
  · rw [if_neg c, List.filter_cons_of_neg c]
    rfl
abbrev sNmd : Stmt := top 73
theorem scNmd : FnScope ["_law_word", "_law_small", "_law_sign"] ["_law_word"] (defScope sNmd) := ⟨rfl, rfl, rfl, by decide +kernel, rfl, by decide +kernel, by decide +kernel⟩
abbrev rAS : R2 := fun x y H Q => ∃ i j, x = V.str i ∧ y = V.str j ∧ i.length + j.length ≤ sizeLine ∧ Q (V.str (i ++ j)) H
abbrev rNiS : R2 := fun x y H Q => ∃ c z, x = V.str { cps := #[c] } ∧ y = V.str z ∧ Q (V.bl !decide (c ∈ z.cps.toList)) H
def spNmd : Sp := fun vs H Q _ => ∃ z : Str, vs = [.str z] ∧ z.length ≤ 1000 ∧ ∀ H', Same H H' → Q (.bl (isName z)) H'
theorem filter_all {α : Type} {p : α → Bool} (l : List α) : (l.filter fun x => !p x).isEmpty = l.all p := by
  induction l with
  | nil => rfl
  | cons x r ih =>
    cases c : p x with
    | true => simp [c, ih]
    | false => simp [c]
section
variable {P : Program} {w : World} {K : PySem.W.Frag} {mg : Str → Option Value} {base : Heap} {f : Addr} {fd : FuncData} {aU : Addr}
theorem ok_nmd (F : FnP K "_law_is_named" sNmd f fd) (mL : mg "len" = none) : FnOk P w K mg base (L2.CX P w) 1 f fd ["_law_word"] spNmd := by
  refine F.ok scNmd (fun vs H Q E h => ?_) (fun cdv A outer s H vs Q E hr h => ?_)
  · obtain ⟨z, rfl, _⟩ := h
    rfl
  · obtain ⟨z, rfl, hz, q⟩ := h
    have hu : (A.deeper (envOfC "_law_is_named" (defScope sNmd) s.heap.objs.size f cdv)).units + 64 < cLine := by
      have := hr.un
      omega
    refine ⟨_, (pss_cons (ps_set (i := 1) scNmd.nd rfl (Or.inr rfl) pe_str)
      (pss_cons (ps_if (PW.pt (pw_or (pt_not (pt_chain op_lt op_lt pe_int (pe_callB call_len_str rfl mL PySem.boot_len (pa_cons (pv 0) pa_nil)) pe_int)) (pw_or1 (pt_cmpR op_notIn_sign (pe_ix ix_str (pv 0) pe_int (fun _ _ => rfl)) (pv 1) (by rfl))))) (pss_one (ps_ret pe_bl)) pss_nil)
      (pss_one (ps_ret (pe_cmpR (Fk.op_eqNil hu) (pe_lc (own := [("_law_sign", 2)]) (g := gName 2) (tt := tTest (tOp rNiS (tVar 2) (tOp rAS (tVar 1) (tC (.str "0123456789"))))) (te := tVar 2) (by rfl) scNmd.nd (pi_str (pv 0)) (blkOk_by (own := [("_law_sign", 2)]) (N := ["_law_word", "_law_small", "_law_sign"]) (sc := defScope sNmd) (by decide +kernel)) (fun _ _ _ _ _ => (pg_name (i := 2) scNmd.nd rfl (Or.inl rfl))) (fun _ _ _ _ _ => pts_one (pt_cmpR op_notIn_sign (pv 2) (pe_op op_add_str (pv 1) pe_str) (by rfl))) (fun _ _ _ _ _ => (pv 2))) (pe_lst pa_nil) (nomark _)))))), ?_⟩
    have hz2 : z.length ≤ sizeLine := Nat.le_trans hz (by decide)
    refine ⟨_, rfl, z, rfl, hz2, _, _, rfl, rfl, _, rfl, ?_⟩
    by_cases c1 : 1 ≤ z.length
    · refine if_true_of (decide_eq_true (by omega)) ⟨_, _, rfl, rfl, _, rfl, ?_⟩
      by_cases c2 : z.length ≤ 8
      · rw [decide_eq_true (show (z.length : Int) < 9 by omega)]
        refine iteF ?_
        have h0 : 0 < z.cps.toList.length := by
          have : z.cps.toList.length = z.length := by simp [Str.length]
          omega
        have hh : z.cps.toList.head? = some z.cps.toList[0] := by rw [List.head?_eq_getElem?, List.getElem?_eq_getElem h0]
        refine ⟨_, rfl, z, _, _, rfl, rfl, hz2, atI_nat (j := 0) (List.getElem?_eq_getElem h0), _, rfl, _, _, rfl, rfl, _, rfl, ?_⟩
        unfold isName at q
        rw [decide_eq_true c1, decide_eq_true c2, hh] at q
        by_cases c3 : z.cps.toList[0] ∈ LET.cps.toList
        · rw [decide_eq_true c3]
          refine iteF ?_
          refine ⟨_, rfl, z, rfl, fun D hD => ?_⟩
          refine lc_signs (fun i H' => Same H H' ∧ H' D = some (.lst (((z.cps.toList.take i).filter fun x => !decide (x ∈ (LET ++ DIG).cps.toList)).map fun x => L2.V.str ⟨#[x]⟩))) ⟨Same.upd hD, upd_same⟩ ?_ ?_
          · rintro i ch H1 hc ⟨s1, hl⟩
            have hc2 : z.cps.toList[i]? = some ch := by rw [Array.getElem?_toList]; exact hc
            refine ⟨rfl, _, rfl, _, rfl, LET, DIG, rfl, rfl, by decide +kernel, ch, LET ++ DIG, rfl, rfl, _, rfl, ?_⟩
            rw [filter_take hc2]
            cases c4 : decide (ch ∈ (LET ++ DIG).cps.toList) with
            | true => exact iteF ⟨s1, by rw [hl]; simp⟩
            | false =>
              refine iteT ⟨_, rfl, _, hl, ?_, same_put s1 hD, by rw [upd_same]; simp⟩
              have a1 := List.length_filter_le (fun x => !decide (x ∈ (LET ++ DIG).cps.toList)) (z.cps.toList.take i)
              have a2 : (z.cps.toList.take i).length ≤ z.length := by
                rw [List.length_take]
                have : z.cps.toList.length = z.length := by simp [Str.length]
                omega
              rw [List.length_map]
              exact Nat.lt_of_lt_of_le (show _ < 2000 by omega) (by decide)
          · rintro H1 ⟨s1, hl⟩
            rw [List.take_of_length_le (by simp)] at hl
            refine ⟨by show 0 ≤ sizeLine; decide, fun b hb => ?_⟩
            have s2 := Same.upd (o := .lst []) hb
            refine ⟨D, b, _, rfl, rfl, SqL.of (s2 _ _ hl), SqL.of upd_same, ?_⟩
            have q' := q _ (s1.trans s2)
            simp only [decide_eq_true c3, Bool.true_and] at q'
            have e5 : (((z.cps.toList.filter fun x => !decide (x ∈ (LET ++ DIG).cps.toList)).map fun x => L2.V.str ⟨#[x]⟩)).isEmpty = only z (LET ++ DIG) := by
              rw [List.isEmpty_map, filter_all]
              rfl
            show Q (.bl (List.isEmpty _)) _
            rw [e5]
            exact q'
        · rw [decide_eq_false c3]
          refine iteT ?_
          have q' := q H (Same.refl _)
          simp only [decide_eq_false c3, Bool.false_and, Bool.and_false] at q'
          exact q'
      · rw [decide_eq_false (show ¬ (z.length : Int) < 9 by omega)]
        refine iteT ?_
        have q' := q H (Same.refl _)
        unfold isName at q'
        rw [decide_eq_false c2, Bool.and_false, Bool.false_and] at q'
        exact q'
    · refine if_false_of (decide_eq_false (by omega)) ⟨_, rfl, iteT ?_⟩
      have q' := q H (Same.refl _)
      unfold isName at q'
      rw [decide_eq_false c1, Bool.false_and, Bool.false_and] at q'
      exact q'
end
end K35
set_option Elab.async false
set_option linter.all false
set_option maxRecDepth 100000
set_option maxHeartbeats 1000000
set_option exponentiation.threshold 100000
namespace K35
open PySem PySem.Spec PyProof.Rows L2 Fa Fb NumText TL
abbrev sDue : Stmt := top 74
theorem scDue : FnScope ["_law_lines", "_law_cues_here", "_law_names", "_law_at", "_law_line_here", "_law_words", "_law_amount_here", "_law_cue"] ["_law_lines"] (defScope sDue) := ⟨rfl, rfl, rfl, by decide +kernel, rfl, by decide +kernel, by decide +kernel⟩
def spDue : Sp := fun vs H Q _ => ∃ (l : Addr) (ls : List Str), vs = [.ref l] ∧ H l = some (.lst (ls.map V.str)) ∧ ls.length ≤ 14 ∧ (∀ z ∈ ls, z.length ≤ 990) ∧ ∀ r H', Same H H' → AnsV H' r (ansL ls) → Q (.ref r) H'
/-- behind i lines -/
structure DuI (H H' : Hp) (l f nmA : Addr) (ls : List Str) (i : Nat) : Prop where
  s : Same H H'
  gd : Gd ls i
  fl : Ls 20 H' f i (csOf ls)
  nl : H' nmA = some (.lst [.str "start"])
  f0 : H f = none
  n0 : H nmA = none
  fn : f ≠ nmA
/-- behind i cues -/
structure DuJ (H H' : Hp) (f nmA : Addr) (gs : List Lc) (i : Nat) : Prop where
  s : Same H H'
  lc : LsC 20 H' f gs
  nl : H' nmA = some (.lst ((nmsOf ((gs.map lcv).take i)).map V.str))
  n0 : H nmA = none
  tl : M34.told isName ((gs.map lcv).take i) ((gs.map lcv).drop i) = M34.told isName [] (gs.map lcv)
abbrev SDu (l f nmA : Addr) (v3 v4 v5 v6 v7 : Option V) : L2.St := [some (.ref l), some (.ref f), some (.ref nmA), v3, v4, v5, v6, v7]
section
variable {P : Program} {w : World} {K : PySem.W.Frag} {mg : Str → Option Value} {base : Heap} {f f1 f2 f3 : Addr} {fd fd1 fd2 fd3 : FuncData}
theorem ok_due (F : FnP K "_law_due" sDue f fd) (mL : mg "len" = none) (mE : mg "enumerate" = none) (NM : Fn P w K mg base "_law_is_named" 1 ["_law_word"] spNmd f1 fd1) (RA : Fn P w K mg base "_law_read_amount" 2 ["_law_word"] spRead f2 fd2) (MO : Fn P w K mg base "_law_moments" 5 ["_law_cues_here"] (spMom K) f3 fd3) : FnOk P w K mg base (L2.CX P w) 6 f fd ["_law_lines"] spDue := by
  refine F.ok scDue (fun vs H Q E h => ?_) (fun cdv A outer s H vs Q E hr h => ?_)
  · obtain ⟨l, ls, rfl, _⟩ := h
    rfl
  · obtain ⟨l, ls, rfl, hl, n14, zl, k⟩ := h
    have hr1 := hr.mono (show 1 ≤ 5 by decide)
    have hr2 := hr.mono (show 2 ≤ 5 by decide)
    have hr5 := hr.mono (show 5 ≤ 5 by decide)
    refine ⟨_, (pss_cons (ps_par (by rfl) scDue.nd (i := 1) (j := 2) rfl rfl (by decide) rfl rfl (pa_cons (pe_lst pa_nil) (pa_cons (pe_lst (pa_cons pe_str pa_nil)) pa_nil)) (by rfl))
      (pss_cons (ps_for (passes_of rfl) rfl (pi_enum rfl mE (pa_cons (pv 0) pa_nil)) (pg_tup (by rfl) (pgs_cons (pg_name (i := 3) scDue.nd rfl (Or.inl rfl)) (pgs_cons (pg_name (i := 4) scDue.nd rfl (Or.inl rfl)) pgs_nil)))
      (pss_cons (ps_set (i := 5) scDue.nd rfl (Or.inl rfl) (pe_split (pv 4) pe_str))
      (pss_cons (ps_if (PW.pt (pw_or (pt_cmpR op_ne (pe_callB call_len rfl mL PySem.boot_len (pa_cons (pv 5) pa_nil)) pe_int (nomark _)) (pw_or (pt_cmpR op_ne (pe_ix ix_list (pv 5) pe_int (fun _ _ => rfl)) pe_str (nomark _)) (pw_or (pt_not (pt_val (pe_call NM.ok hr1 rfl NM.g NM.k NM.b .nil passL (pa_cons (pe_ix ix_list (pv 5) pe_int (fun _ _ => rfl)) pa_nil)))) (pw_or1 (pt_not (pt_val (pe_call NM.ok hr1 rfl NM.g NM.k NM.b .nil passL (pa_cons (pe_ix ix_list (pv 5) pe_int (fun _ _ => rfl)) pa_nil))))))))) (pss_one (ps_ret (pe_lst (pa_cons pe_str (pa_cons (pv 3) pa_nil))))) pss_nil)
      (pss_cons (ps_set (i := 6) scDue.nd rfl (Or.inl rfl) (pe_call RA.ok hr2 rfl RA.g RA.k RA.b .nil passL (pa_cons (pe_ix ix_list (pv 5) pe_int (fun _ _ => rfl)) pa_nil)))
      (pss_cons (ps_if (PW.pt (pw_or (pt_cmpR op_notIn_seq (pe_ix ix_list (pv 5) pe_int (fun _ _ => rfl)) (pe_lst (pa_cons pe_str (pa_cons pe_str pa_nil))) (by rfl)) (pw_or1 (pt_cmpR op_isN (pv 6) pe_non (nomark _))))) (pss_one (ps_ret (pe_lst (pa_cons pe_str (pa_cons (pv 3) pa_nil))))) pss_nil)
      (pss_one (ps_expr (pe_bm PySem.F.plainAttrs_list PySem.F.slot_list_append PySem.F.type_list_append mt_append (pv 1) (pa_cons (pe_tup (pa_cons (pe_ix ix_list (pv 5) pe_int (fun _ _ => rfl)) (pa_cons (pe_ix ix_list (pv 5) pe_int (fun _ _ => rfl)) (pa_cons (pe_ix ix_list (pv 5) pe_int (fun _ _ => rfl)) (pa_cons (pv 6) pa_nil))))) pa_nil)))))))))
      (pss_cons (ps_for (passes_of rfl) rfl (pi_list (pv 1)) (pg_name (i := 7) scDue.nd rfl (Or.inl rfl))
      (pss_cons (ps_if (pt_cmpR op_in_seq (pe_ix ix_tup (pv 7) pe_int (fun _ _ => rfl)) (pv 2) (by rfl)) (pss_one (ps_ret (pe_lst (pa_cons pe_str (pa_cons (pe_ix ix_tup (pv 7) pe_int (fun _ _ => rfl)) pa_nil))))) pss_nil)
      (pss_cons (ps_if (pt_cmpR op_notIn_seq (pe_ix ix_tup (pv 7) pe_int (fun _ _ => rfl)) (pv 2) (by rfl)) (pss_one (ps_ret (pe_lst (pa_cons pe_str (pa_cons (pe_ix ix_tup (pv 7) pe_int (fun _ _ => rfl)) pa_nil))))) pss_nil)
      (pss_one (ps_expr (pe_bm PySem.F.plainAttrs_list PySem.F.slot_list_append PySem.F.type_list_append mt_append (pv 2) (pa_cons (pe_ix ix_tup (pv 7) pe_int (fun _ _ => rfl)) pa_nil)))))))
      (pss_one (ps_ret (pe_ifExp (pt_cmpR op_gt (pe_callB call_len rfl mL PySem.boot_len (pa_cons (pe_call MO.ok hr5 rfl MO.g MO.k MO.b .nil passL (pa_cons (pv 1) pa_nil)) pa_nil)) pe_int (nomark _)) (pe_lst (pa_cons pe_str (pa_cons pe_int pa_nil))) (pe_lst (pa_cons pe_str (pa_cons (pv 1) pa_nil))))))))), ?_⟩
    refine ⟨by show 0 ≤ sizeLine; decide, fun f hf => ⟨by show 1 ≤ sizeLine; decide, fun nmA hnm => ?_⟩⟩
    have s1 := Same.upd (o := .lst []) hf
    have e1 : upd H f (.lst []) f = some (.lst []) := upd_same
    generalize upd H f (.lst []) = H1 at s1 e1 hnm ⊢
    have s2 := Same.upd (o := .lst [.str "start"]) hnm
    have e2 : upd H1 nmA (.lst [.str "start"]) nmA = some (.lst [.str "start"]) := upd_same
    have fn : f ≠ nmA := ne_of_none e1 hnm
    have n0 := none_of s1 hnm
    generalize upd H1 nmA (.lst [.str "start"]) = H2 at s2 e2 ⊢
    have s12 := s1.trans s2
    have I0 : DuI H H2 l f nmA ls 0 := ⟨s12, gd_zero _, Ls.nil (s2 _ _ e1), e2, hf, n0, fn⟩
    refine ⟨_, _, rfl, _, rfl, l, _, rfl, SqL.of (s12 _ _ hl), ?_⟩
    refine for_it (walk_enum (K := K) (a := l) (xs := ls.map V.str)) (fun i σ H' => ∃ v3 v4 v5 v6 v7, σ = SDu l f nmA v3 v4 v5 v6 v7 ∧ DuI H H' l f nmA ls i) ⟨_, _, _, _, _, rfl, I0⟩ (fun i σ H' _ ⟨_, _, _, _, _, _, I⟩ => SqL.of (I.s _ _ hl)) ?_ ?_
    · rintro i x σ H3 H4 hi ⟨v3, v4, v5, v6, v7, rfl, I⟩ ⟨q, iv, lv, rfl, hq, rfl, ei, ev⟩
      cases ei
      obtain ⟨ln, eln, rfl⟩ := map_at ev
      have hln := List.mem_of_getElem? eln
      have hi14 : i < 14 := by rw [List.length_map] at hi; omega
      have lnl := zl ln hln
      have sp := words_of ln
      have jle := jl_le (ws := Txt.split ln " ")
      rw [show jl (Txt.split ln " ") = ln.length + 1 from sp.jl] at jle
      refine ⟨q, _, rfl, SqT.of upd_same, rfl, _, _, rfl, _, _, rfl, rfl, ?_⟩
      have s4 := Same.upd (o := .tup [.int (i : Nat), .str ln]) hq
      show tSeq _ _ _ _ (upd H3 q (.tup [.int (i : Nat), .str ln]))
      generalize upd H3 q (.tup [.int (i : Nat), .str ln]) = H4 at s4 ⊢
      refine ⟨_, rfl, ⟨_, rfl⟩, ln, " ", rfl, rfl, by decide +kernel, Nat.le_trans (show ln.length + 2 ≤ 2000 by omega) (by decide), fun wa hwa => ?_⟩
      have s5 := Same.upd (o := .lst ((Txt.split ln " ").map V.str)) hwa
      have e5 : upd H4 wa (.lst ((Txt.split ln " ").map V.str)) wa = some (.lst ((Txt.split ln " ").map V.str)) := upd_same
      show tSeq _ _ _ _ (upd H4 wa (.lst ((Txt.split ln " ").map V.str)))
      generalize upd H4 wa (.lst ((Txt.split ln " ").map V.str)) = H5 at s5 e5 ⊢
      have s35 := s4.trans s5
      have S5 := I.s.trans s35
      have bad : lineQ ln = none → ∀ (J : Hp), Same H J → ∀ r, J r = none → Q (.ref r) (upd J r (.lst [.str "line", .int (i : Nat)])) := fun en J sJ r hr' => by
        refine k r _ (sJ.trans (Same.upd hr')) ?_
        unfold ansL
        rw [bad_at I.gd eln en]
        exact upd_same
      have eq : lineQ ln = cueW (Txt.split ln " ") := rfl
      rw [eq] at bad
      obtain ⟨ws, hws⟩ : ∃ ws, ws = Txt.split ln " " := ⟨_, rfl⟩
      rw [← hws] at e5 jle bad eq
      refine ⟨_, rfl, _, (ws.map V.str).length, rfl, .inl ⟨_, SqL.of e5, rfl⟩, rfl, _, rfl, ?_⟩
      rw [List.length_map]
      by_cases c5 : ws.length = 5
      rotate_left
      · refine if_true_of (by rw [decide_eq_false fun e => c5 (by have := V.int.inj e; omega)]; rfl) ⟨_, rfl, by show 2 ≤ sizeLine; decide, fun r hr' => ?_⟩
        refine bad ?_ _ S5 r hr'
        cases e : cueW ws with
        | none => rfl
        | some c => exact absurd (cueW_len e) c5
      refine if_false_of (by rw [c5]; rfl) ?_
      obtain ⟨w0, nm, pa, un, am, rfl⟩ : ∃ a b c d e, ws = [a, b, c, d, e] := by
        match ws, c5 with
        | [a, b, c, d, e], _ => exact ⟨a, b, c, d, e, rfl⟩
      have nml := jle.2 nm (by simp)
      have pal := jle.2 pa (by simp)
      have aml := jle.2 am (by simp)
      rw [cueW_5] at bad eq
      refine ⟨_, rfl, wa, _, 0, _, rfl, rfl, SqL.of e5, rfl, rfl, _, rfl, ?_⟩
      by_cases c0 : w0 = "cue"
      rotate_left
      · refine if_true_of (by rw [decide_eq_false fun e => c0 (V.str.inj e)]; rfl) ⟨_, rfl, by show 2 ≤ sizeLine; decide, fun r hr' => ?_⟩
        exact bad (if_neg fun e => c0 e.1) _ S5 r hr'
      subst c0
      refine if_false_of (by rw [decide_eq_true rfl]; rfl) ?_
      refine ⟨_, rfl, wa, _, 1, _, rfl, rfl, SqL.of e5, rfl, nm, rfl, by omega, fun H6 s6 => ⟨_, rfl, ?_⟩⟩
      have S6 := S5.trans s6
      have e6 := s6 _ _ e5
      cases c1 : isName nm with
      | false => exact iteT ⟨_, rfl, by show 2 ≤ sizeLine; decide, fun r hr' => bad (if_neg fun e => by rw [c1] at e; cases e.2.1) _ S6 r hr'⟩
      | true =>
      refine iteF ⟨_, rfl, wa, _, 2, _, rfl, rfl, SqL.of e6, rfl, pa, rfl, by omega, fun H7 s7 => ⟨_, rfl, ?_⟩⟩
      have S7 := S6.trans s7
      have e7 := s7 _ _ e6
      cases c2 : isName pa with
      | false => exact iteT ⟨_, rfl, by show 2 ≤ sizeLine; decide, fun r hr' => bad (if_neg fun e => by rw [c2] at e; cases e.2.2.1) _ S7 r hr'⟩
      | true =>
      refine iteF ?_
      refine ⟨_, rfl, wa, _, 4, _, rfl, rfl, SqL.of e7, rfl, am, rfl, by omega, fun ea H8 s8 => ?_, fun a b ea x t u H8 s8 x0 rd e xw => ?_⟩
      · have S8 := S7.trans s8
        refine ⟨_, rfl, wa, _, 3, _, rfl, rfl, SqL.of (s8 _ _ e7), rfl, by show 2 ≤ sizeLine; decide, fun pu hpu => ⟨pu, _, rfl, .inl (SqL.of upd_same), rfl, rfl, _, rfl, ?_⟩⟩
        rw [inV_unit]
        have S9 := S8.trans (Same.upd (o := .lst [.str "beats", .str "seconds"]) hpu)
        have nn : (if ("cue" : Str) = "cue" ∧ isName nm = true ∧ isName pa = true ∧ isUnit un = true then (amtOf am).map fun ab => (⟨nm, pa, un, vq ab.1 ab.2⟩ : M04.Cue) else none) = none := by
          rw [ea]
          exact ite_self _
        cases c3 : isUnit un with
        | false => exact if_true_of rfl ⟨_, rfl, by show 2 ≤ sizeLine; decide, fun r hr' => bad nn _ S9 r hr'⟩
        | true => exact if_false_of rfl ⟨_, rfl, rfl, _, rfl, if_true_of (decide_eq_true rfl) ⟨_, rfl, by show 2 ≤ sizeLine; decide, fun r hr' => bad nn _ S9 r hr'⟩⟩
      · have S8 := S7.trans s8
        have e8 := s8 _ _ e7
        refine ⟨_, rfl, wa, _, 3, _, rfl, rfl, SqL.of e8, rfl, by show 2 ≤ sizeLine; decide, fun pu hpu => ⟨pu, _, rfl, .inl (SqL.of upd_same), rfl, rfl, _, rfl, ?_⟩⟩
        rw [inV_unit]
        have s9 := Same.upd (o := .lst [.str "beats", .str "seconds"]) hpu
        generalize upd H8 pu (.lst [.str "beats", .str "seconds"]) = H9 at s9 ⊢
        have S9 := S8.trans s9
        have e9 := s9 _ _ e8
        cases c3 : isUnit un with
        | false => exact if_true_of rfl ⟨_, rfl, by show 2 ≤ sizeLine; decide, fun r hr' => bad (if_neg fun e => by rw [c3] at e; cases e.2.2.2) _ S9 r hr'⟩
        | true =>
        rw [if_pos ⟨rfl, c1, c2, c3⟩, ea] at eq
        have eq : lineQ ln = some ⟨nm, pa, un, vq a b⟩ := eq
        have sm := sm_of rd (amtOf_sm ea) e
        refine if_false_of rfl ⟨_, rfl, rfl, _, rfl, if_false_of (decide_eq_false (by simp)) ?_⟩
        have s39 : Same H3 H9 := s35.trans (s6.trans (s7.trans (s8.trans s9)))
        have xw9 := s9 _ _ xw
        have fl9 := I.fl.same s39
        obtain ⟨ls9, a1, a2, a3, a4⟩ := id fl9
        refine ⟨_, rfl, .inl ⟨rfl, _, SqL.of a3⟩, _, rfl, wa, _, 1, _, rfl, rfl, SqL.of e9, rfl, _, rfl, wa, _, 2, _, rfl, rfl, SqL.of e9, rfl, _, rfl, wa, _, 3, _, rfl, rfl, SqL.of e9, rfl, _, rfl, by show 4 ≤ sizeLine; decide, fun q' hq' => ?_⟩
        have s10 := Same.upd (o := .tup [.str nm, .str pa, .str un, .ref x]) hq'
        have e10 : upd H9 q' (.tup [.str nm, .str pa, .str un, .ref x]) q' = some (.tup [.str nm, .str pa, .str un, .ref x]) := upd_same
        generalize upd H9 q' (.tup [.str nm, .str pa, .str un, .ref x]) = H10 at s10 e10 ⊢
        have u0 := rd.1
        have fr : Fr 20 H10 x t u := ⟨s10 _ _ xw9, rd, Nat.lt_trans sm.1 (by decide), by have := sm.2; exact Nat.lt_of_le_of_lt (show u.natAbs ≤ 1000 by omega) (by decide)⟩
        obtain ⟨ys, ey, yl, ls'⟩ := fl9.app s10 (cs_at I.gd eln eq) e10 fr (isName_str c1) (isName_str c2) (unit_ok c3) ((vq_eq (Int.ne_of_gt u0) (by have := (amtOf_sm ea).2.1; omega)).mpr e)
        refine ⟨f, ys, _, rfl, rfl, ey, by rw [yl]; exact Nat.lt_of_lt_of_le (show i < 100 by omega) (by decide), ?_⟩
        have S10 := S9.trans s10
        exact ⟨_, _, _, _, _, rfl, same_put S10 I.f0, gd_succ I.gd eln eq, ls', by rw [upd_ne (Ne.symm I.fn)]; exact (s39.trans s10) _ _ I.nl, I.f0, I.n0, I.fn⟩
    · rintro σ H3 ⟨v3, v4, v5, v6, v7, rfl, I⟩
      have gdl := I.gd
      have fll := I.fl
      rw [List.length_map] at gdl fll
      have cl := cs_len gdl
      unfold ansL at k
      rw [bad_none gdl] at k
      obtain ⟨gs, lc, lv⟩ := fll.done cl.symm (by omega)
      have gq := cs_good (ls := ls)
      rw [← lv] at k gq
      have g14 : gs.length ≤ 14 := lc.n
      have J0 : DuJ H H3 f nmA gs 0 := ⟨I.s, lc, I.nl, I.n0, rfl⟩
      refine ⟨_, rfl, f, rfl, ⟨_, SqL.of lc.l⟩, ?_⟩
      refine for_list (K := K) (a := f) (xs := gs.map fun g => V.ref g.q) (fun i σ H' => ∃ v3 v4 v5 v6 v7, σ = SDu l f nmA v3 v4 v5 v6 v7 ∧ DuJ H H' f nmA gs i) ⟨_, _, _, _, _, rfl, J0⟩ (fun i σ H' _ ⟨_, _, _, _, _, _, J⟩ => SqL.of J.lc.l) ?_ ?_
      · rintro i x σ H4 hx ⟨w3, w4, w5, w6, w7, rfl, J⟩
        obtain ⟨g, eg, rfl⟩ := map_at hx
        have hi := (List.getElem?_eq_some_iff.mp eg).1
        have hg := List.mem_of_getElem? eg
        obtain ⟨c1, c2, c3, c4, c5⟩ := J.lc.ok g hg
        have ec : (gs.map lcv)[i]? = some (lcv g) := by rw [List.getElem?_map, eg]; rfl
        have gc := gq (lcv g) (List.mem_map_of_mem hg)
        have nm1 : isName (lcv g).nm = true := gc.1
        have tl := J.tl
        rw [M34.told_take ec] at tl
        have eb : M34.bad isName (M04.all ((gs.map lcv).take i)).nums (lcv g) = if g.nm ∈ nmsOf ((gs.map lcv).take i) then some (.dup g.nm) else if g.pa ∈ nmsOf ((gs.map lcv).take i) then none else some (.unk g.pa) := by
          unfold M34.bad
          rw [isSome_in, isSome_in, if_neg (by rw [nm1]; decide)]
          show (if decide (g.nm ∈ nmsOf ((gs.map lcv).take i)) = true then _ else if decide (g.pa ∈ nmsOf ((gs.map lcv).take i)) = false then _ else none) = _
          by_cases h1 : g.nm ∈ nmsOf ((gs.map lcv).take i)
          · rw [if_pos (decide_eq_true h1), if_pos h1]
            rfl
          · rw [if_neg (by rw [decide_eq_false h1]; decide), if_neg h1]
            by_cases h2 : g.pa ∈ nmsOf ((gs.map lcv).take i)
            · rw [if_neg (by rw [decide_eq_true h2]; decide), if_pos h2]
            · rw [if_pos (decide_eq_false h2), if_neg h2]
              rfl
        rw [eb] at tl
        refine ⟨_, rfl, g.q, _, 0, _, rfl, rfl, SqT.of c1, rfl, _, rfl, nmA, _, rfl, .inl (SqL.of J.nl), rfl, flat_strs _, _, rfl, ?_⟩
        rw [inV_strs]
        by_cases h1 : g.nm ∈ nmsOf ((gs.map lcv).take i)
        · rw [if_pos h1] at tl
          refine if_true_of (decide_eq_true h1) ⟨_, rfl, g.q, _, 0, _, rfl, rfl, SqT.of c1, rfl, by show 2 ≤ sizeLine; decide, fun r hr' => ?_⟩
          refine k r _ (J.s.trans (Same.upd hr')) ?_
          unfold ansT
          rw [← tl]
          exact upd_same
        rw [if_neg h1] at tl
        refine if_false_of (decide_eq_false h1) ?_
        refine ⟨_, rfl, g.q, _, 1, _, rfl, rfl, SqT.of c1, rfl, _, rfl, nmA, _, rfl, .inl (SqL.of J.nl), rfl, flat_strs _, _, rfl, ?_⟩
        rw [inV_strs]
        by_cases h2 : g.pa ∈ nmsOf ((gs.map lcv).take i)
        rotate_left
        · rw [if_neg h2] at tl
          refine if_true_of (by rw [decide_eq_false h2]; rfl) ⟨_, rfl, g.q, _, 1, _, rfl, rfl, SqT.of c1, rfl, by show 2 ≤ sizeLine; decide, fun r hr' => ?_⟩
          refine k r _ (J.s.trans (Same.upd hr')) ?_
          unfold ansT
          rw [← tl]
          exact upd_same
        rw [if_pos h2] at tl
        refine if_false_of (by rw [decide_eq_true h2]; rfl) ?_
        refine ⟨_, rfl, .inl ⟨rfl, _, SqL.of J.nl⟩, _, rfl, g.q, _, 0, _, rfl, rfl, SqT.of c1, rfl, nmA, _, _, rfl, rfl, J.nl, ?_, ?_⟩
        · rw [List.length_map, List.length_cons, List.length_map, List.length_take, List.length_map]
          exact Nat.lt_of_lt_of_le (show _ < 100 by omega) (by decide)
        have enm : (nmsOf ((gs.map lcv).take i)).map V.str ++ [V.str g.nm] = (nmsOf ((gs.map lcv).take (i + 1))).map V.str := by
          rw [List.take_add_one, ec]
          show _ = (nmsOf ((gs.map lcv).take i ++ [lcv g])).map V.str
          unfold nmsOf
          rw [List.map_append, List.map_cons, List.map_cons, List.map_append, List.cons_append]
          rfl
        rw [enm]
        have kt : KT H4 (upd H4 nmA (.lst ((nmsOf ((gs.map lcv).take (i + 1))).map V.str))) := KT.put J.nl
        refine ⟨_, _, _, _, _, rfl, same_put J.s J.n0, ⟨by rw [upd_ne I.fn]; exact J.lc.l, fun y hy => (J.lc.ok y hy).kt kt, g14⟩, upd_same, J.n0, tl⟩
      · rintro σ H4 ⟨w3, w4, w5, w6, w7, rfl, J⟩
        have tl := J.tl
        rw [List.length_map, ← List.length_map (f := lcv), List.drop_length, List.take_length] at tl
        have tl : none = M34.told isName [] (gs.map lcv) := tl
        rw [← tl] at k
        have gd := M34.told_good tl.symm
        refine ⟨_, rfl, f, gs, 20, rfl, J.lc, gd, by decide, by decide, fun p fs H5 s5 fo ev p0 => ?_⟩
        have el : fs.length = (M04.all (gs.map lcv)).rows.length := by rw [← ev, List.length_map]
        refine ⟨_, _, rfl, .inl ⟨_, SqL.of fo.l, rfl⟩, _, _, rfl, rfl, _, rfl, ?_⟩
        rw [List.length_map]
        unfold ansT at k
        by_cases c8 : 8 < (M04.all (gs.map lcv)).rows.length
        · simp only [if_pos c8] at k
          refine if_true_of (decide_eq_true (by rw [el]; omega)) ⟨by show 2 ≤ sizeLine; decide, fun r hr' => ?_⟩
          exact k r _ ((J.s.trans s5).trans (Same.upd hr')) upd_same
        · simp only [if_neg c8] at k
          refine if_false_of (decide_eq_false (by rw [el]; omega)) ⟨_, rfl, by show 2 ≤ sizeLine; decide, fun r hr' => ?_⟩
          have sr := Same.upd (o := .lst [.str "cues", .ref f]) hr'
          exact k r _ ((J.s.trans s5).trans sr) ⟨f, gs, 20, upd_same, (J.lc.same s5).same sr, by decide, rfl⟩
end
end K35
set_option Elab.async false
set_option linter.all false
set_option maxRecDepth 100000
set_option maxHeartbeats 1000000
set_option exponentiation.threshold 100000
namespace K35
open PySem PySem.Spec PyProof.Rows L2 Fa Fb NumText TL
abbrev sCof : Stmt := top 57
theorem scCof : FnScope ["words", "name", "parent", "unit", "amount"] ["words"] (defScope sCof) := ⟨rfl, rfl, rfl, by decide +kernel, rfl, by decide +kernel, by decide +kernel⟩
theorem part_len (z : Str) : (Txt.partition z "/").1.length ≤ z.length ∧ (Txt.partition z "/").2.2.length ≤ z.length := by
  obtain ⟨a, r, hp, rfl⟩ := parts_of z
  have h1 := join_len a r a (by simp)
  rw [tl_len, tl_len] at h1
  show (Txt.partition (Str.join SL (a :: r)) SL).1.length ≤ _ ∧ (Txt.partition (Str.join SL (a :: r)) SL).2.2.length ≤ _
  rw [part_parts hp]
  cases r with
  | nil => exact ⟨h1, Nat.zero_le _⟩
  | cons b r =>
    refine ⟨h1, ?_⟩
    have e : tl (Str.join SL (a :: b :: r)) = tl a ++ tl SL ++ tl (Str.join SL (b :: r)) := by
      show tl (a ++ SL ++ Str.join SL (b :: r)) = _
      rw [tl_append, tl_append]
    have e2 := congrArg List.length e
    rw [tl_len, List.length_append, List.length_append, tl_len (Str.join SL (b :: r))] at e2
    show (Str.join SL (b :: r)).length ≤ _
    omega
def spCof (K : PySem.W.Frag) : Sp := fun vs H Q _ => ∃ (l : Addr) (ws : List Str), vs = [.ref l] ∧ H l = some (.lst (ws.map V.str)) ∧ ws.length ≤ 2000 ∧ (∀ z ∈ ws, z.length ≤ 2000) ∧ (cueW ws = none → ∀ H', Same H H' → Q .non H') ∧
  ∀ c, cueW ws = some c → ∀ q a t u H', Same H H' → H' q = some (.tup [.str c.nm, .str c.pa, .str c.un, .ref a]) → IsA K H' (.ref a) t u 20 → vq t u = c.q → Q (.ref q) H'
def sCofB (K : PySem.W.Frag) (H : Hp) (l : Addr) (ws : List Str) : TS := fun D σ H' => ∃ (nm pa un am : Str) (v : V), ws = [("cue" : Str), nm, pa, un, am] ∧ σ = [some (.ref l), some (.str nm), some (.str pa), some (.str un), some v] ∧ Same H H' ∧ nm.length ≤ 2000 ∧ pa.length ≤ 2000 ∧
  ((v = .non ∧ amtOf am = none) ∨ ∃ a b x t u, amtOf am = some (a, b) ∧ v = .ref x ∧ IsA K H' (.ref x) t u 64 ∧ t * b = a * u) ∧ (cueW [("cue" : Str), nm, pa, un, am] = none → ∀ H', Same H H' → D.rt .non H') ∧
  ∀ c, cueW [("cue" : Str), nm, pa, un, am] = some c → ∀ q a t u H', Same H H' → H' q = some (.tup [.str c.nm, .str c.pa, .str c.un, .ref a]) → IsA K H' (.ref a) t u 20 → vq t u = c.q → D.rt (.ref q) H'
theorem isA_sm {K : PySem.W.Frag} {H : Hp} {x : V} {t u : Int} {n : Nat} (h : IsA K H x t u n) (s : Sm t u) : IsA K H x t u 20 := by
  obtain ⟨p, dx, e, hp, r, _, _⟩ := h
  obtain ⟨s1, s2⟩ := s
  have u0 := r.1
  exact ⟨p, dx, e, hp, r, by omega, by omega⟩
section
variable {P : Program} {w : World} {K : PySem.W.Frag} {mg : Str → Option Value} {base : Heap} {f f1 f2 f3 : Addr} {fd fd1 fd2 fd3 : FuncData}
theorem ok_cof (F : FnP K "_cue_of" sCof f fd) (mL : mg "len" = none) (AO : Fn P w K mg base "amount_of" 6 ["text"] (spAmtOf K) f1 fd1) (NA : Fn P w K mg base "is_name" 2 ["value"] (spName K) f2 fd2) (UN : Fn P w K mg base "is_unit" 1 ["value"] (spText K isUnit) f3 fd3) : FnOk P w K mg base (L2.CX P w) 7 f fd ["words"] (spCof K) := by
  refine F.ok scCof (fun vs H Q E h => ?_) (fun cdv A outer s H vs Q E hr h => ?_)
  · obtain ⟨l, ws, rfl, _⟩ := h
    rfl
  · obtain ⟨l, ws, rfl, hl, n, wl, kn, ks⟩ := h
    have hr1 := hr.mono (show 1 ≤ 6 by decide)
    have hr2 := hr.mono (show 2 ≤ 6 by decide)
    have hr6 := hr.mono (show 6 ≤ 6 by decide)
    refine ⟨_, (pss_cons (ps_if (PW.pt (pw_or (pt_cmpR op_ne (pe_callB call_len rfl mL PySem.boot_len (pa_cons (pv 0) pa_nil)) pe_int (nomark _)) (pw_or1 (pt_cmpR op_ne (pe_ix ix_list (pv 0) pe_int (fun _ _ => rfl)) pe_str (nomark _))))) (pss_one (ps_ret pe_non)) pss_nil)
      (pss_cons (ps_asg (pe_slice sl_list (pv 0) (po_some pe_int) (po_some pe_int)) (pg_lst (by rfl) (pgs_cons (pg_name (i := 1) scCof.nd rfl (Or.inl rfl)) (pgs_cons (pg_name (i := 2) scCof.nd rfl (Or.inl rfl)) (pgs_cons (pg_name (i := 3) scCof.nd rfl (Or.inl rfl)) pgs_nil)))))
      (pss_cons (ps_set (i := 4) scCof.nd rfl (Or.inl rfl) (pe_call AO.ok hr6 rfl AO.g AO.k AO.b .nil passL (pa_cons (pe_ix ix_list (pv 0) pe_int (fun _ _ => rfl)) pa_nil)))
      (pss_imp (S := sCofB K H l ws) (pss_cons (ps_if (PW.pt (pw_or (pt_not (pt_val (pe_call NA.ok hr2 rfl NA.g NA.k NA.b .nil passL (pa_cons (pv 1) pa_nil)))) (pw_or (pt_not (pt_val (pe_call NA.ok hr2 rfl NA.g NA.k NA.b .nil passL (pa_cons (pv 2) pa_nil)))) (pw_or (pt_not (pt_val (pe_call UN.ok hr1 rfl UN.g UN.k UN.b .nil passL (pa_cons (pv 3) pa_nil)))) (pw_or1 (pt_cmpR op_isN (pv 4) pe_non (nomark _))))))) (pss_one (ps_ret pe_non)) pss_nil)
      (pss_one (ps_ret (pe_tup (pa_cons (pv 1) (pa_cons (pv 2) (pa_cons (pv 3) (pa_cons (pv 4) pa_nil)))))))) ?fin)))), ?_⟩
    case fin =>
      rintro D σ H1 ⟨nm, pa, un, am, v, _, rfl, s1, nml, pal, hv, kn, ks⟩
      rw [cueW_5] at kn ks
      refine ⟨_, rfl, .str nm, rfl, .inr ⟨nm, rfl, by omega, fun H2 s2 => ⟨_, rfl, ?_⟩⟩⟩
      cases c1 : isName nm with
      | false => exact iteT (kn (if_neg fun e => by rw [c1] at e; cases e.2.1) _ (s1.trans s2))
      | true =>
      refine iteF ⟨_, rfl, .str pa, rfl, .inr ⟨pa, rfl, by omega, fun H3 s3 => ⟨_, rfl, ?_⟩⟩⟩
      have s13 := s1.trans (s2.trans s3)
      cases c2 : isName pa with
      | false => exact iteT (kn (if_neg fun e => by rw [c2] at e; cases e.2.2.1) _ s13)
      | true =>
      refine iteF ⟨_, rfl, .str un, rfl, .inr ⟨un, rfl, ⟨_, rfl, ?_⟩⟩⟩
      cases c3 : isUnit un with
      | false => exact iteT (kn (if_neg fun e => by rw [c3] at e; cases e.2.2.2) _ s13)
      | true =>
      rw [if_pos ⟨rfl, c1, c2, c3⟩] at kn ks
      refine iteF ?_
      rcases hv with ⟨rfl, ea⟩ | ⟨a, b, x, t, u, ea, rfl, ia, e⟩
      · exact ⟨_, rfl, rfl, _, rfl, if_true_of (decide_eq_true rfl) (kn (by rw [ea]; rfl) _ s13)⟩
      · refine ⟨_, rfl, rfl, _, rfl, if_false_of (decide_eq_false (by simp)) ?_⟩
        rw [ea] at ks
        obtain ⟨_, _, _, _, rd, _⟩ := id ia
        have sm := sm_of rd (amtOf_sm ea) e
        refine ⟨_, rfl, _, rfl, _, rfl, _, rfl, by show 4 ≤ sizeLine; decide, fun q hq => ?_⟩
        exact ks _ rfl q x t u _ (s13.trans (Same.upd hq)) upd_same ((isA_sm ia sm).same ((s2.trans s3).trans (Same.upd hq))) ((vq_eq (Int.ne_of_gt rd.1) (by have := (amtOf_sm ea).2.1; omega)).mpr e)
    refine ⟨_, rfl, _, _, rfl, .inl ⟨_, SqL.of hl, rfl⟩, rfl, _, rfl, ?_⟩
    rw [List.length_map]
    by_cases c5 : ws.length = 5
    rotate_left
    · refine if_true_of (by rw [decide_eq_false fun e => c5 (by have := V.int.inj e; omega)]; rfl) ?_
      refine kn ?_ H (Same.refl _)
      cases e : cueW ws with
      | none => rfl
      | some c => exact absurd (cueW_len e) c5
    refine if_false_of (by rw [c5]; rfl) ?_
    obtain ⟨w0, nm, pa, un, am, rfl⟩ : ∃ a b c d e, ws = [a, b, c, d, e] := by
      match ws, c5 with
      | [a, b, c, d, e], _ => exact ⟨a, b, c, d, e, rfl⟩
    refine ⟨_, rfl, l, _, 0, _, rfl, rfl, SqL.of hl, rfl, rfl, _, rfl, ?_⟩
    by_cases c0 : w0 = "cue"
    rotate_left
    · refine if_true_of (by rw [decide_eq_false fun e => c0 (V.str.inj e)]; rfl) ?_
      exact kn (by rw [cueW_5]; exact if_neg fun e => c0 e.1) H (Same.refl _)
    subst c0
    refine if_false_of (by rw [decide_eq_true rfl]; rfl) ?_
    refine ⟨_, rfl, _, rfl, _, rfl, l, _, rfl, SqL.of hl, fun p hp => ?_⟩
    have s1 := Same.upd (o := .lst [V.str nm, .str pa, .str un]) hp
    have e1 : upd H p (.lst [V.str nm, .str pa, .str un]) p = some (.lst [V.str nm, .str pa, .str un]) := upd_same
    refine ⟨p, _, rfl, SqL.of upd_same, rfl, _, _, rfl, _, _, rfl, _, _, rfl, rfl, ?_⟩
    show tSeq _ _ _ _ (upd H p (.lst [V.str nm, .str pa, .str un]))
    generalize upd H p (.lst [V.str nm, .str pa, .str un]) = H1 at s1 e1 ⊢
    have pl := part_len am
    have aml : am.length ≤ 2000 := wl am (by simp)
    have nml : nm.length ≤ 2000 := wl nm (by simp)
    have pal : pa.length ≤ 2000 := wl pa (by simp)
    have hl1 := s1 _ _ hl
    refine ⟨_, rfl, l, _, 4, _, rfl, rfl, SqL.of hl1, rfl, .str am, rfl, .inr ⟨am, rfl, aml, Nat.le_trans pl.1 aml, Nat.le_trans pl.2 aml, fun ea H2 s2 => ?_, fun a b ea y H2 t u s2 ia e => ?_⟩⟩
    · exact ⟨nm, pa, un, am, .non, rfl, rfl, s1.trans s2, nml, pal, .inl ⟨rfl, ea⟩, kn, ks⟩
    · obtain ⟨x, dx, rfl, _⟩ := id ia
      exact ⟨nm, pa, un, am, .ref x, rfl, rfl, s1.trans s2, nml, pal, .inr ⟨a, b, x, t, u, ea, rfl, ia, e⟩, kn, ks⟩
end
end K35
set_option Elab.async false
set_option linter.all false
set_option maxRecDepth 100000
set_option maxHeartbeats 1000000
set_option exponentiation.threshold 100000
namespace K35
open PySem PySem.Spec PyProof.Rows L2 Fa Fb NumText TL
abbrev sSof : Stmt := top 56
theorem scSof : FnScope ["text", "cues", "index", "line", "cue"] ["text"] (defScope sSof) := ⟨rfl, rfl, rfl, by decide +kernel, rfl, by decide +kernel, by decide +kernel⟩
abbrev CIn (K : PySem.W.Frag) : Addr := He.ga K "InvalidString"
abbrev CIl (K : PySem.W.Frag) : Addr := He.ga K "InvalidLine"
def ErrI (C : Addr) (v : V) (H : Hp) (E : XK) : Prop := ∀ d, H d = none → E (.ref C) (some d) (upd H d (.xd [("index", v)]))
def AttP (K : PySem.W.Frag) (mm : Nat) (H : Hp) (cs : List M04.Cue) (Q : VK) (E : XK) : Prop := match M34.told isName [] cs with
  | some b => ∀ H', Same H H' → BadE K b H' E
  | none => if 8 < (M04.all cs).rows.length then ∀ H', Same H H' → ErrM (CTm K) (.int 8) H' E else ∀ x H' gs, Same H H' → ShAt K mm H H' x gs → gs.map cv = cs → Q (.ref x) H'
theorem attP_mk {K : PySem.W.Frag} {mm : Nat} {H H1 : Hp} {cs : List M04.Cue} {Q : VK} {E : XK} (k : AttP K mm H cs Q E) (s : Same H H1) (x : Addr) : MkP K mm H1 cs x (fun v H2 => v = .non ∧ Q (.ref x) H2) E := by
  unfold MkP
  unfold AttP at k
  cases h : M34.told isName [] cs with
  | some b =>
    rw [h] at k
    exact fun H' s' => k H' (s.trans s')
  | none =>
    rw [h] at k
    by_cases c8 : 8 < (M04.all cs).rows.length
    · simp only [if_pos c8] at k ⊢
      exact fun H' s' => k H' (s.trans s')
    · simp only [if_neg c8] at k ⊢
      exact fun H' gs s' sh ev => ⟨trivial, k x H' gs (s.trans s') (sh.base fun q hq => none_of s hq) ev⟩
def SofP (K : PySem.W.Frag) (H : Hp) (ls : List Str) (Q : VK) (E : XK) : Prop := match badAt ls with
  | some i => ∀ H', Same H H' → ErrI (CIl K) (.int (i : Int)) H' E
  | none => AttP K 20 H (csOf ls) Q E
def spSof (K : PySem.W.Frag) : Sp := fun vs H Q E => ∃ x, vs = [x] ∧ ((Tx K H x false ∧ Err (CIn K) x H E) ∨ ∃ z : Str, x = .str z ∧ z.length ≤ 1990 ∧ (linesOf z).length ≤ 14 ∧ SofP K H (linesOf z) Q E)
theorem linesOf_len {z : Str} : ∀ l ∈ linesOf z, l.length ≤ z.length := fun l hl => by
  unfold linesOf at hl
  by_cases c : z = ""
  · rw [if_pos c] at hl
    cases hl
  · rw [if_neg c] at hl
    have sp := lines_of z
    have := jl_le.2 l hl
    rw [sp.jl] at this
    omega
section
variable {P : Program} {w : World} {K : PySem.W.Frag} {mg : Str → Option Value} {base : Heap} {f f1 fI fV fL : Addr} {fd fd1 fdI : FuncData} {aU : Addr} {qv tv ql tl' : Str}
theorem ok_sof (F : FnP K "sheet_of" sSof f fd) (T : AF K mg) (V : VF K mg aU) (M : MF K mg) (mE : mg "enumerate" = none) (MKS : Mk K (CS K) fI) (CO : Fn P w K mg base "_cue_of" 7 ["words"] (spCof K) f1 fd1)
    (gIS : mg "InvalidString" = some (.ref (CIn K))) (XS : Xb.Txt P.main.file K qv "value" tv (CIn K) fV) (gIL : mg "InvalidLine" = some (.ref (CIl K))) (XL : Xb.Txt P.main.file K ql "index" tl' (CIl K) fL) (htop : (P.main.scope.names.lookup ("super" : Str)).isSome = false)
    (SI : FnOk P w K mg base (L2.CX P w) 10 fI fdI ["self", "cues"] (spSI K)) (bS : Binds K fdI ["self", "cues"] []) : FnOk P w K mg base (L2.CX P w) 12 f fd ["text"] (spSof K) := by
  refine F.ok scSof (fun vs H Q E h => ?_) (fun cdv A outer s H vs Q E hr h => ?_)
  · obtain ⟨x, rfl, _⟩ := h
    rfl
  · obtain ⟨x, rfl, c⟩ := h
    have hr2 := hr.mono (show 2 ≤ 11 by decide)
    have hr7 := hr.mono (show 7 ≤ 11 by decide)
    have hr11 := hr.mono (show 11 ≤ 11 by decide)
    refine ⟨_, (pss_cons (ps_if (pt_not (pt_val (pe_isi T.isi (pv 0) (pe_ty V.str boot_str)))) (pss_one (Xb.ps_raiseX (W := fun cls d _ H => E cls d H) rfl XS gIS htop hr2 (takes_of rfl rfl rfl rfl) (pa_cons (pv 0) pa_nil))) pss_nil)
      (pss_cons (ps_set (i := 1) scSof.nd rfl (Or.inl rfl) (pe_lst pa_nil))
      (pss_cons (ps_for (passes_of rfl) rfl (pi_enum rfl mE (pa_cons (pe_ifExp (pt_cmpR op_eq (pv 0) pe_str (nomark _)) (pe_lst pa_nil) (pe_split (pv 0) pe_str)) pa_nil)) (pg_tup (by rfl) (pgs_cons (pg_name (i := 2) scSof.nd rfl (Or.inl rfl)) (pgs_cons (pg_name (i := 3) scSof.nd rfl (Or.inl rfl)) pgs_nil)))
      (pss_cons (ps_set (i := 4) scSof.nd rfl (Or.inl rfl) (pe_call CO.ok hr7 rfl CO.g CO.k CO.b .nil passL (pa_cons (pe_split (pv 3) pe_str) pa_nil)))
      (pss_cons (ps_if (pt_cmpR op_isN (pv 4) pe_non (nomark _)) (pss_one (Xb.ps_raiseX (W := fun cls d _ H => E cls d H) rfl XL gIL htop hr2 (takes_of rfl rfl rfl rfl) (pa_cons (pv 2) pa_nil))) pss_nil)
      (pss_one (ps_expr (pe_bm PySem.F.plainAttrs_list PySem.F.slot_list_append PySem.F.type_list_append mt_append (pv 1) (pa_cons (pv 4) pa_nil)))))))
      (pss_one (ps_ret (Xm.pe_makeX MKS SI hr11 rfl M.g bS (fun σ => passAt (W := fun cls d _ H => E cls d H) (takes_of rfl rfl rfl rfl) σ) (pa_cons (pv 1) pa_nil))))))), ?_⟩
    rcases c with ⟨⟨ty, h1, h2⟩, er⟩ | ⟨z, rfl, zl, n14, k⟩
    · exact ⟨_, rfl, x, _, ty, _, false, rfl, .ty "str", h1, h2, false, rfl, iteT ⟨_, rfl, _, rfl, er⟩⟩
    refine ⟨_, rfl, .str z, _, _, _, true, rfl, .ty "str", TyX.base (.str z), tx_str, true, rfl, iteF ?_⟩
    refine ⟨by show 0 ≤ sizeLine; decide, fun l hl => ?_⟩
    have s1 := Same.upd (o := .lst []) hl
    have e1 : upd H l (.lst []) l = some (.lst []) := upd_same
    generalize upd H l (.lst []) = H1 at s1 e1 ⊢
    refine ⟨_, rfl, rfl, _, rfl, ?_⟩
    by_cases c : z = ""
    · refine if_true_of (decide_eq_true (congrArg L2.V.str c)) ⟨by show 0 ≤ sizeLine; decide, fun la hla => ?_⟩
      have nla : la ≠ l := (ne_of_none e1 hla).symm
      have s2 := Same.upd (o := .lst []) hla
      have e2 : upd H1 la (.lst []) la = some (.lst ((linesOf z).map L2.V.str)) := by
        rw [upd_same]
        unfold linesOf
        rw [if_pos c]
        rfl
      generalize upd H1 la (.lst []) = H2 at s2 e2 ⊢
      have I0 : Same H H2 ∧ Gd (linesOf z) 0 ∧ Ts K 20 H2 l 0 (csOf (linesOf z)) := ⟨s1.trans s2, gd_zero _, Ts.nil (s2 _ _ e1)⟩
      refine ⟨la, _, rfl, SqL.of e2, ?_⟩
      refine for_it (walk_enum (K := K) (a := la) (xs := (linesOf z).map L2.V.str)) (fun i σ H' => ∃ v2 v3 v4 : Option L2.V, σ = [some (.str z), some (.ref l), v2, v3, v4] ∧ H' la = some (.lst ((linesOf z).map L2.V.str)) ∧ (Same H H' ∧ Gd (linesOf z) i ∧ Ts K 20 H' l i (csOf (linesOf z)))) ⟨_, _, _, rfl, e2, I0⟩ (fun i σ H' _ ⟨_, _, _, _, e, _⟩ => SqL.of e) ?_ ?_
      · rintro i x σ H3 H4 hi ⟨v2, v3, v4, rfl, s3, sH, gd, ts⟩ ⟨q, iv, lv, rfl, hq, rfl, ei, ev⟩
        cases ei
        obtain ⟨ln, eln, rfl⟩ := map_at ev
        have hln := List.mem_of_getElem? eln
        have hi14 : i < 14 := by rw [List.length_map] at hi; omega
        have lnl := linesOf_len ln hln
        have sp := words_of ln
        have jle := jl_le (ws := Txt.split ln " ")
        rw [show jl (Txt.split ln " ") = ln.length + 1 from sp.jl] at jle
        refine ⟨q, _, rfl, SqT.of upd_same, rfl, _, _, rfl, _, _, rfl, rfl, ?_⟩
        have s4 := Same.upd (o := .tup [.int (i : Nat), .str ln]) hq
        show tSeq _ _ _ _ (upd H3 q (.tup [.int (i : Nat), .str ln]))
        generalize upd H3 q (.tup [.int (i : Nat), .str ln]) = H4 at s4 ⊢
        refine ⟨_, rfl, ⟨_, rfl⟩, ln, " ", rfl, rfl, by decide +kernel, Nat.le_trans (show ln.length + 2 ≤ 2000 by omega) (by decide), fun wa hwa => ?_⟩
        have s5 := Same.upd (o := .lst ((Txt.split ln " ").map L2.V.str)) hwa
        have e5 : upd H4 wa (.lst ((Txt.split ln " ").map L2.V.str)) wa = some (.lst ((Txt.split ln " ").map L2.V.str)) := upd_same
        generalize upd H4 wa (.lst ((Txt.split ln " ").map L2.V.str)) = H5 at s5 e5 ⊢
        have s35 := s4.trans s5
        refine ⟨wa, Txt.split ln " ", rfl, e5, by omega, fun y hy => (by have := jle.2 y hy; omega), fun en H6 s6 => ?_, fun cc ec q2 a t u H6 s6 eq ia evq => ?_⟩
        · unfold SofP at k
          rw [bad_at gd eln en] at k
          exact ⟨_, rfl, rfl, _, rfl, if_true_of (decide_eq_true rfl) ⟨_, rfl, _, rfl, k _ (sH.trans (s35.trans s6))⟩⟩
        · refine ⟨_, rfl, rfl, _, rfl, if_false_of (decide_eq_false (by simp)) ?_⟩
          have gd' := gd_succ gd eln ec
          have s36 := s35.trans s6
          obtain ⟨ys, ey, yl, ts'⟩ := ts.app s36 (cs_at gd eln ec) eq (.inl ia) evq
          refine ⟨_, rfl, .inl ⟨rfl, _, SqL.of ey⟩, _, rfl, l, ys, _, rfl, rfl, ey, by rw [yl]; exact Nat.lt_of_lt_of_le (show i < 100 by omega) (by decide), ?_⟩
          exact ⟨_, _, _, rfl, by rw [upd_ne nla]; exact s36 _ _ s3, same_put (sH.trans s36) hl, gd', ts'⟩
      · rintro σ H3 ⟨v2, v3, v4, rfl, s3, sH, gd, ts⟩
        rw [List.length_map] at gd ts
        unfold SofP at k
        rw [bad_none gd] at k
        have cl := cs_len gd
        refine ⟨_, rfl, fun x dx hx hdx hne => ?_⟩
        exact make_ts ts cl.symm (fun c hc => ⟨(cs_good c hc).2.2.1, Nat.le_trans (isName_len (cs_good c hc).1) (by decide)⟩) (by omega) (by decide) (by decide) hx hdx hne (attP_mk k sH x)
    · refine if_false_of (decide_eq_false fun e => c (L2.V.str.inj e)) ⟨_, rfl, ⟨_, rfl⟩, z, "\n", rfl, rfl, by decide +kernel, Nat.le_trans (Nat.add_le_add_right zl 2) (by decide), fun la hla => ?_⟩
      have nla : la ≠ l := (ne_of_none e1 hla).symm
      have s2 := Same.upd (o := .lst ((Txt.split z "\n").map L2.V.str)) hla
      have e2 : upd H1 la (.lst ((Txt.split z "\n").map L2.V.str)) la = some (.lst ((linesOf z).map L2.V.str)) := by
        rw [upd_same]
        unfold linesOf
        rw [if_neg c]
      generalize upd H1 la (.lst ((Txt.split z "\n").map L2.V.str)) = H2 at s2 e2 ⊢
      have I0 : Same H H2 ∧ Gd (linesOf z) 0 ∧ Ts K 20 H2 l 0 (csOf (linesOf z)) := ⟨s1.trans s2, gd_zero _, Ts.nil (s2 _ _ e1)⟩
      refine ⟨la, _, rfl, SqL.of e2, ?_⟩
      refine for_it (walk_enum (K := K) (a := la) (xs := (linesOf z).map L2.V.str)) (fun i σ H' => ∃ v2 v3 v4 : Option L2.V, σ = [some (.str z), some (.ref l), v2, v3, v4] ∧ H' la = some (.lst ((linesOf z).map L2.V.str)) ∧ (Same H H' ∧ Gd (linesOf z) i ∧ Ts K 20 H' l i (csOf (linesOf z)))) ⟨_, _, _, rfl, e2, I0⟩ (fun i σ H' _ ⟨_, _, _, _, e, _⟩ => SqL.of e) ?_ ?_
      · rintro i x σ H3 H4 hi ⟨v2, v3, v4, rfl, s3, sH, gd, ts⟩ ⟨q, iv, lv, rfl, hq, rfl, ei, ev⟩
        cases ei
        obtain ⟨ln, eln, rfl⟩ := map_at ev
        have hln := List.mem_of_getElem? eln
        have hi14 : i < 14 := by rw [List.length_map] at hi; omega
        have lnl := linesOf_len ln hln
        have sp := words_of ln
        have jle := jl_le (ws := Txt.split ln " ")
        rw [show jl (Txt.split ln " ") = ln.length + 1 from sp.jl] at jle
        refine ⟨q, _, rfl, SqT.of upd_same, rfl, _, _, rfl, _, _, rfl, rfl, ?_⟩
        have s4 := Same.upd (o := .tup [.int (i : Nat), .str ln]) hq
        show tSeq _ _ _ _ (upd H3 q (.tup [.int (i : Nat), .str ln]))
        generalize upd H3 q (.tup [.int (i : Nat), .str ln]) = H4 at s4 ⊢
        refine ⟨_, rfl, ⟨_, rfl⟩, ln, " ", rfl, rfl, by decide +kernel, Nat.le_trans (show ln.length + 2 ≤ 2000 by omega) (by decide), fun wa hwa => ?_⟩
        have s5 := Same.upd (o := .lst ((Txt.split ln " ").map L2.V.str)) hwa
        have e5 : upd H4 wa (.lst ((Txt.split ln " ").map L2.V.str)) wa = some (.lst ((Txt.split ln " ").map L2.V.str)) := upd_same
        generalize upd H4 wa (.lst ((Txt.split ln " ").map L2.V.str)) = H5 at s5 e5 ⊢
        have s35 := s4.trans s5
        refine ⟨wa, Txt.split ln " ", rfl, e5, by omega, fun y hy => (by have := jle.2 y hy; omega), fun en H6 s6 => ?_, fun cc ec q2 a t u H6 s6 eq ia evq => ?_⟩
        · unfold SofP at k
          rw [bad_at gd eln en] at k
          exact ⟨_, rfl, rfl, _, rfl, if_true_of (decide_eq_true rfl) ⟨_, rfl, _, rfl, k _ (sH.trans (s35.trans s6))⟩⟩
        · refine ⟨_, rfl, rfl, _, rfl, if_false_of (decide_eq_false (by simp)) ?_⟩
          have gd' := gd_succ gd eln ec
          have s36 := s35.trans s6
          obtain ⟨ys, ey, yl, ts'⟩ := ts.app s36 (cs_at gd eln ec) eq (.inl ia) evq
          refine ⟨_, rfl, .inl ⟨rfl, _, SqL.of ey⟩, _, rfl, l, ys, _, rfl, rfl, ey, by rw [yl]; exact Nat.lt_of_lt_of_le (show i < 100 by omega) (by decide), ?_⟩
          exact ⟨_, _, _, rfl, by rw [upd_ne nla]; exact s36 _ _ s3, same_put (sH.trans s36) hl, gd', ts'⟩
      · rintro σ H3 ⟨v2, v3, v4, rfl, s3, sH, gd, ts⟩
        rw [List.length_map] at gd ts
        unfold SofP at k
        rw [bad_none gd] at k
        have cl := cs_len gd
        refine ⟨_, rfl, fun x dx hx hdx hne => ?_⟩
        exact make_ts ts cl.symm (fun c hc => ⟨(cs_good c hc).2.2.1, Nat.le_trans (isName_len (cs_good c hc).1) (by decide)⟩) (by omega) (by decide) (by decide) hx hdx hne (attP_mk k sH x)
end
end K35
set_option Elab.async false
set_option linter.all false
set_option maxRecDepth 100000
set_option maxHeartbeats 1000000
/-! f(a, .., k = v) where what it raises is caught by the place; one keyword-only parameter. -/
namespace Gb
open PySem PySem.Spec PyProof.Rows L2
section
variable {X : Cx} {CX : CXT} {k n : Nat} {f : Addr} {fd : FuncData} {ps ks : List Str} {sp : Sp} {E : L2.St → XK} {x : Str} {p pos : Pos} {e : Expr} {es : List Expr} {kws : List Keyword} {t tk : TA} {g : List Value → List Value → List Value} {gV : List V → List V → List V}
def tCallNS (n m : Nat) (sp : Sp) (gV : List V → List V → List V) (E : L2.St → XK) (t tk : TA) : TE := fun σ H Q => t σ H fun vs H1 => tk σ H1 fun zs H2 => vs.length = n ∧ zs.length = m ∧ sp (gV vs zs) H2 Q (E σ)
theorem run_ns {pins : List (Addr × Obj)} {σ : L2.St} {H : Hp} {s : Shared} {Q : VK} {us ws : List Value} {vs zs : List V} (F : FnOk X.prog X.w X.K X.mg X.base CX k f fd ps sp) (hr : Room k X.A) (hb : KBn X.K fd ps n ks g gV) (px : PassesAt CX X σ (E σ))
    (I : Inv X pins σ H s) (r : Vals vs us) (rz : Vals zs ws) (l1 : vs.length = n) (l2 : zs.length = ks.length) (h : sp (gV vs zs) H Q (E σ)) : wpAny (model X.prog X.w) X.A (call (.ref f) us (ks.zip ws)) (EP X pins σ Q) X.xe s := by
  have r2 := hb.rel r rz
  refine wpAny_call (codeAny_mono (F.run X.A X.stack s H ⟨us, ks.zip ws⟩ (g us ws) (gV vs zs) Q (E σ) hr I.env0 (hb.to s us ws I.kIn (r.length.symm.trans l1) (rz.length.symm.trans l2)) r2 h) fun r s' hq => ?_)
  cases r with
  | error e => exact px pins H s e s' I hq
  | ok fl =>
    cases fl with
    | ret u => exact I.after hq
    | next => exact False.elim hq
    | brk => exact False.elim hq
    | cont => exact False.elim hq
theorem pe_callNS (F : FnOk X.prog X.w X.K X.mg X.base CX k f fd ps sp) (hr : Room k X.A) (hg : Gl X x) (hm : X.mg x = some (.ref f)) (hk : PySem.W.keepIn X.K (.ref f) = true) (hb : KBn X.K fd ps n ks g gV) (px : ∀ σ, PassesAt CX X σ (E σ))
    (ha : PA X (e :: es) t) (hkw : PK X kws tk) (hall : (backToKw pos (keywordEach kws X.env)).all (·.1.isSome) = true := by rfl) (hks : (backToKw pos (keywordEach kws X.env)).filterMap (·.1) = ks := by rfl)
    (hdb : (x == ("__debug__" : Str)) = false := by decide) (he : starEach (e :: es) X.env = (false, eval e X.env) :: starEach es X.env := by rfl)
    (hpl : ((backTo pos (starEach (e :: es) X.env)).any (·.1) || (backToKw pos (keywordEach kws X.env)).any (·.1.isNone)) = false := by rfl) :
    PE X (.Call (.Name x p) (e :: es) kws pos) (tCallNS n ks.length sp gV E t tk) := by
  refine ⟨fun pins s σ H Q I h => ?_⟩
  refine wpAny_Call_Name_kw (ld_glob I hg hm ?_ hdb)
  refine PySem.W.callWith_KW (h₀ := X.base) I.ok.mod.kin hk hall (thn (ha.run pos pins s σ H _ I h) fun us s1 ⟨vs, H1, I1, r, q⟩ => ?_) hpl he
  refine thn (hkw.run pos pins s1 σ H1 _ I1 q) fun ws s2 ⟨zs, H2, I2, rz, l1, l2, q2⟩ => ⟨I2.kIn, ?_⟩
  rw [hks]
  exact run_ns F hr hb (px σ) I2 r rz l1 l2 q2
end
/-- one keyword, given; no positional defaults -/
theorem kbn {K : PySem.W.Frag} {x qual : Str} {params : Arguments} {body : List Stmt} {scope : Scope} {kws : List (Str × V)} {f : Addr} {fd : FuncData} {ps : List Str} {n : Nat} {k : Str} (F : FunD K x qual params body scope [] kws f fd)
    (h : ∀ (kV doc pm : Value) (an : Option Addr) (cdv ct : Value) (us : List Value) (w : Value), us.length = n → bindArgs (PySem.W.fnOf x qual params body scope .none kV doc pm an cdv ct) ⟨us, [(k, w)]⟩ = pure (ps.zip (us ++ [w]))) : KBn K fd ps n [k] (fun us ws => us ++ ws) (fun vs zs => vs ++ zs) := by
  obtain ⟨oc, od, dV, kV, doc, pm, an, cdv, ct, osl, rfl, lk, hcd, hD, hK⟩ := F.ex
  rcases hD with ⟨_, rfl⟩ | ⟨e, _⟩
  · refine ⟨fun s us ws _ l1 l2 => ?_, fun r1 r2 => r1.append r2⟩
    match ws, l2 with
    | [w], _ => exact .of_eq (h kV doc pm an cdv ct us w l1)
  · exact absurd rfl e
/-- the keyword's default, from what stands at the def -/
def kwAt (K : PySem.W.Frag) (f : Addr) (x : Str) : Addr := match K.lookup f with
  | some ⟨_, _, .func fd, _⟩ => (match fd.kwdefaults with
    | .ref D => (match PySem.W.nsIn K D x with
      | some (some (.ref T)) => T
      | _ => 0)
    | _ => 0)
  | _ => 0
end Gb
set_option Elab.async false
set_option linter.all false
set_option maxRecDepth 100000
set_option maxHeartbeats 4000000
/-! o.m(a, ..) where what it raises is caught by the place. -/
namespace Fw
open PySem PySem.Spec PyProof.Rows L2
section
variable {X : Cx} {CX : CXT} {k : Nat} {f C : Addr} {fd : FuncData} {ps : List Str} {sp : Sp} {E : L2.St → XK}
theorem run_at {pn : List (Addr × Obj)} {σ : L2.St} {H : Hp} {s : Shared} {Q : VK} {us : List Value} {vs : List V} (F : FnOk X.prog X.w X.K X.mg X.base CX k f fd ps sp) (hr : Room k X.A) (hb : Binds X.K fd ps []) (px : PassesAt CX X σ (E σ))
    (I : Inv X pn σ H s) (r : Vals vs us) (h : sp vs H Q (E σ)) : wpAny (model X.prog X.w) X.A (call (.ref f) us) (EP X pn σ Q) X.xe s := by
  have bi := hb s us I.kIn (by rw [List.append_nil, ← r.length]; exact F.len _ _ _ _ h)
  rw [List.append_nil] at bi
  refine wpAny_call (codeAny_mono (F.run X.A X.stack s H ⟨us, []⟩ us vs Q (E σ) hr I.env0 bi r h) fun res s2 out => ?_)
  match res, out with
  | .error er, out => exact px pn H s er s2 I out
  | .ok (.ret u), out => exact I.after out
  | .ok .next, out => exact out.elim
  | .ok .brk, out => exact out.elim
  | .ok .cont, out => exact out.elim
def tMethX (C : Addr) (m : Str) (sp : Sp) (E : L2.St → XK) (ta : TE) (t : TA) : TE := fun σ H Q => ta σ H fun x H1 => ∃ a dx fs, x = .ref a ∧ H1 a = some (.ins C dx fs) ∧ fs.lookup m = none ∧ t σ H1 fun vs H2 => sp (.ref a :: vs) H2 Q (E σ)
theorem pe_methX {o e : Expr} {es : List Expr} {m : Str} {ta : TE} {t : TA} {apos pos : Pos} {pl : Sem Bool} (he : PE X o ta) (c : Cls X.K C) (hm : Meth X.K C m f) (F : FnOk X.prog X.w X.K X.mg X.base CX k f fd ps sp) (hr : Room k X.A) (hb : Binds X.K fd ps []) (px : ∀ σ, PassesAt CX X σ (E σ)) (ha : PA X (e :: es) t)
    (hst : starEach (e :: es) X.env = (false, eval e X.env) :: starEach es X.env := by rfl) (hpl : (backTo pos (starEach es X.env)).any (·.1) = false := by rfl)
    (ht : eval (.Call (.Attribute o m apos) (e :: es) [] pos) X.env = (do
      let ov ← eval o X.env
      standAt apos.atName
      let (f, first) ← holding [ov] (getMethod ov m pl)
      callWith pos f first (backTo pos (starEach (e :: es) X.env)) (backToKw pos (keywordEach [] X.env))) := by rfl) :
    PE X (.Call (.Attribute o m apos) (e :: es) [] pos) (tMethX C m sp E ta t) := by
  constructor
  intro pins s σ H Q I h
  refine PySem.W.methodCall_KW (pl := pl) (thn (he.run pins s σ H _ I h) fun u s1 z => ?_) ht
  obtain ⟨x, H1, I1, rx, a, dx, fs, ex, ea, l, q⟩ := z
  subst ex
  obtain rfl : u = Value.ref a := rx
  refine getmeth_ok I1 ea c hm l (PySem.W.callWith_K (first := [.ref a]) (h₀ := X.base) I.ok.mod.kin hm.kp (thn (ha.run pos pins s1 σ H1 _ I1 q) fun us s2 z => ?_) hst hpl)
  obtain ⟨vs, H2, I2, r, q2⟩ := z
  exact ⟨I2.kIn, run_at (us := .ref a :: us) (vs := .ref a :: vs) F hr hb (px σ) I2 (.cons rfl r) q2⟩
end
end Fw
set_option Elab.async false
set_option linter.all false
set_option maxRecDepth 100000
set_option maxHeartbeats 4000000
/-! try with several clauses «except A as e». -/
namespace Ft
open PySem PySem.Spec PyProof.Rows L2
abbrev Cl : Type := Value × (Addr → Value → Option Addr → TS)
/-- what the clauses wish, slot i the name of all of them -/
def wAll (K : PySem.W.Frag) (i : Nat) (Wo : WX) (D : Ends) : List Cl → WX
  | [] => Wo
  | (c, ts) :: r => fun cls d σ H => ∃ b, PySem.W.exmOne K cls c = some b ∧
      (b = true → ∀ a, H a = none → ts a cls d { nx := fun σ' H' => D.nx (σ'.set i none) H', rt := D.rt, bk := fun σ' H' => D.bk (σ'.set i none) H', ct := fun σ' H' => D.ct (σ'.set i none) H' } (σ.set i (some (.ref a))) H) ∧ (b = false → wAll K i Wo D r cls d σ H)
inductive Hds (X : Cx) (n : Str) : List ExceptHandler → List Cl → Prop
  | nil : Hds X n [] []
  | cons {x : Str} {c : Value} {ts : Addr → Value → Option Addr → TS} {b0 : Stmt} {su : List Stmt} {np ps : Pos} {hds : List ExceptHandler} {l : List Cl} (hc : Names X x c)
      (hs : ∀ (a : Addr) (oe : Obj) (cls : Value) (d : Option Addr) (pn : List (Addr × Obj)), Zc cls d oe → (∃ vs, oe.data = .fields vs) → PSs (X.suite a ((a, oe) :: pn)) (b0 :: su) (ts a cls d)) (r : Hds X n hds l) : Hds X n (.ExceptHandler (some (.Name x np)) (some n) (b0 :: su) ps :: hds) ((c, ts) :: l)
section
variable {X : Cx} {n : Str} {i : Nat} {body : List Stmt} {h0 : ExceptHandler} {hds : List ExceptHandler} {l : List Cl} {pos : Pos} {tb : WX → TS} {Wo : WX}
theorem ps_try_all (hst : X.stack = X.env :: X.outer) (hf : X.env.frame = some X.env.locals) (hN : X.N.Nodup) (hi : X.N[i]? = some n) (hln : X.env.kindOf n = some .local) (tk : Takes X Wo)
    (hb : ∀ (W : WX) (pn : List (Addr × Obj)) (xe : Value → Shared → Prop), Takes (X.tr pn xe) W → PassesOwn (model X.prog X.w) X.A X.env xe → PSs (X.tr pn xe) body (tb W)) (hh : Hds X n (h0 :: hds) l) :
    PS X (.Try body (h0 :: hds) [] [] pos) (fun D σ H => tb (wAll X.K i Wo D l) D σ H) := by
  constructor
  intro pn0 s σ H D I h
  have ok := I.ok
  have frames : X.A.frames = some (X.env :: X.outer) := ok.frames.trans (congrArg some hst)
  have locN : Loc X.env.scope n := .inl hln
  refine wpAny_Try_except ?_
  refine wpAny_mono ((hb (wAll X.K i Wo D l) (X.pn ++ pn0) (fun er t1 => wpAny (model X.prog X.w) X.A (noteFrame er X.env) (fun _ t2 => wpAny (model X.prog X.w) X.A (setFlight er none) (fun _ t3 =>
    wpAny (model X.prog X.w) X.A (handleBy er X.env (h0 :: hds)) (SP X pn0 D) X.xe t3) X.xe t2) X.xe t1) (fun u s2 air => ?_) PassesOwn.looking).run [] s σ H D (I.toTry _) h) (fun fl t1 done => ?_) (fun er t1 z => z)
  · obtain ⟨a, B, sI, pn1, σ1, H1, cls, d, rfl, J0, nb, up, sky, na, os, ag, w⟩ := air
    have J : Inv X pn0 σ1 H1 sI := J0.ofTry ok
    have sky2 : Sky B (X.env :: X.outer) a (Zc cls d) X.env.locals s2.heap := hst ▸ sky
    show wpAny (model X.prog X.w) X.A (noteFrame (.ref a) X.env) _ _ _
    refine Sky.land Zc.steady frames hf sky2 fun g3 fly up3 => ?_
    have J3 : Inv X pn0 σ1 H1 { s2 with heap := g3 } := J.landed nb fly.1 (up.trans up3) os ag
    obtain ⟨o3, w3, at3, z3, d3⟩ := fly.there
    have apart : a ∉ frs (X.env :: X.outer) := fun hm => by
      obtain ⟨_, o', e', nf⟩ := fly.2.2.1.mem hm
      rw [at3] at e'
      cases e'
      exact nf _ d3
    have nL : a ≠ X.env.locals := fun z => apart (List.mem_filterMap.mpr ⟨X.env, List.mem_cons_self, by rw [hf, z]⟩)
    have nF : a ∉ X.fs := fun hm => by
      obtain ⟨ev, hev, q⟩ := List.mem_filterMap.mp hm
      exact apart (List.mem_filterMap.mpr ⟨ev, List.mem_cons_of_mem _ hev, q⟩)
    have S3 := J3.suite at3 d3 na nL nF
    have go : ∀ {hs' : List ExceptHandler} {l' : List Cl}, Hds X n hs' l' → wAll X.K i Wo D l' cls d σ1 H1 → wpAny (model X.prog X.w) X.A (handleBy (.ref a) X.env hs') (SP X pn0 D) X.xe { s2 with heap := g3 } := by
      intro hs' l' hk
      induction hk with
      | nil =>
        intro w
        refine wpAny_handleBy_nil ?_
        obtain ⟨k1, k2, k3, oe, vs, T, oT, ts', he, hz, hd, hone, hr⟩ := id fly
        unfold PySem.passOn
        refine wpAny_bind (wpAny_field he hd hone ?_)
        rw [if_neg (show ¬ ((Value.ref T == Value.none) = true) by simp)]
        have away : wpAny (model X.prog X.w) X.A (setFlight (.ref a) X.env.frame) (fun _ t4 => wpAny (model X.prog X.w) X.A (throw (.ref a) : Sem Flow) (SP X pn0 D) X.xe t4) X.xe { s2 with heap := g3 } := by
          rw [hf]
          refine HandSPX.setFlight_upZ fly fun g4 hg4 up4 => wpAny_throw (tk _ _ ?_)
          exact ⟨a, B, sI, pn0, σ1, H1, cls, d, rfl, J, nb, (up.trans up3).trans up4, .inr (.inr (hst.symm ▸ hg4)), na, os, ag, w⟩
        first
          | exact wpAny_bind (wpAny_pure (wpAny_bind away))
          | exact wpAny_bind away
      | @cons x c ts b0 su np ps hds2 l2 hc hsu r ih =>
        intro w
        obtain ⟨b, hb1, hyes, hno⟩ := w
        refine wpAny_handleBy_cons (codeAny_handlers_test ?_) (by intro q; cases q)
        have tyA : PySem.W.Looks (model X.prog X.w) g3 (typeOf (.ref a)) cls := fun A Q E t k q => wpAny_typeOf_ref (k _ _ at3) (z3.1.symm ▸ q)
        have looks := PySem.W.exm_one (M := model X.prog X.w) (J3.kIn) tyA hb1
        have test : ∀ {Q E : Value → Shared → Prop}, Q c { s2 with heap := g3 } → wpAny (model X.prog X.w) (X.A.mark (some (.ref a))) (eval (.Name x np) X.env) Q E { s2 with heap := g3 } := by
          intro Q E q
          rcases hc with ⟨hg, hdbg, hm | ⟨hm, hv, hnn⟩⟩
          · exact ld_glob (X := X.suite a ((a, o3) :: (X.pn ++ pn0))) S3 hg hm q hdbg
          · exact ld_blt (X := X.suite a ((a, o3) :: (X.pn ++ pn0))) S3 hg hm hv q hnn hdbg
        refine test (looks.here ?_)
        cases b with
        | false => exact ih (hno rfl)
        | true =>
          refine codeAny_handlers_suite_as ?_
          refine HandSPX.lands_againZ fly fun g4 fly4 up4 => ?_
          have J4 : Inv X pn0 σ1 H1 { s2 with heap := g4 } := J.landed nb fly4.1 ((up.trans up3).trans up4) os ag
          obtain ⟨o4, w4, at4, z4, d4⟩ := fly4.there
          have S4 := J4.suite at4 d4 na nL nF
          refine store_ok (X := X.suite a ((a, o4) :: (X.pn ++ pn0))) (v := .ref a) S4 hN hi locN rfl (fun t5 S5 => ?_) (.inr hln)
          refine wpAny_mono ((hsu a o4 cls d (X.pn ++ pn0) z4 ⟨_, d4⟩).run [] t5 _ H1 _ S5 (hyes rfl a na)) (fun fl t6 done => ?_) (fun _ _ z => z.elim)
          have tidy : ∀ {σ6 : L2.St} {H6 : Hp} {Q : Shared → Prop}, Inv (X.suite a ((a, o4) :: (X.pn ++ pn0))) [] σ6 H6 t6 → (∀ t7, Inv X pn0 (σ6.set i none) H6 t7 → Q t7) →
              wpAny (model X.prog X.w) X.A (do bindName X.env n .none; unbindBehindTheSuite X.env n ps) (fun _ t7 => Q t7) X.xe t6 := fun {σ6 H6 Q} S6 hq => gone_ok (S6.unsuite ok) hN hi hln hq
          match fl, done with
          | .next, ⟨σ6, H6, S6, q6⟩ => exact tidy S6 fun t7 J7 => ⟨_, _, J7, q6⟩
          | .brk, ⟨σ6, H6, S6, q6⟩ => exact tidy S6 fun t7 J7 => ⟨_, _, J7, q6⟩
          | .cont, ⟨σ6, H6, S6, q6⟩ => exact tidy S6 fun t7 J7 => ⟨_, _, J7, q6⟩
          | .ret u, ⟨v6, σ6, H6, S6, r6, q6⟩ => exact tidy S6 fun t7 J7 => ⟨_, _, _, J7, r6, q6⟩
    exact go hh w
  · match fl, done with
    | .next, ⟨σ2, H2, J2, q⟩ => exact wpAny_execs_nil ⟨σ2, H2, J2.ofTry ok, q⟩
    | .brk, ⟨σ2, H2, J2, q⟩ => exact ⟨σ2, H2, J2.ofTry ok, q⟩
    | .cont, ⟨σ2, H2, J2, q⟩ => exact ⟨σ2, H2, J2.ofTry ok, q⟩
    | .ret u, ⟨v, σ2, H2, J2, r, q⟩ => exact ⟨v, σ2, H2, J2.ofTry ok, r, q⟩
end
end Ft
set_option Elab.async false
set_option linter.all false
set_option maxRecDepth 100000
set_option maxHeartbeats 1000000
set_option exponentiation.threshold 100000
namespace K35
open PySem PySem.Spec PyProof.Rows L2 Fa Fb NumText TL
abbrev sTld : Stmt := top 75
theorem scTld : FnScope ["_law_line_here", "e", "_law_sheet", "_law_name", "_law_parent", "_law_unit", "_law_far"] ["_law_line_here"] (defScope sTld) := ⟨rfl, rfl, rfl, by decide +kernel, rfl, by decide +kernel, by decide +kernel⟩
def tsT (C : Addr) (nm fld : Str) : Addr → Value → Option Addr → TS := fun a cls d => tRet (tLst (tCons (tC (.str nm)) (tCons (Xb.tByX C fld a cls d (tVar 1)) tNil)))
def clT (K : PySem.W.Frag) : List Ft.Cl := [(.ref (CIn K), tsT (CIn K) "string" "value"), (.ref (CIl K), tsT (CIl K) "line" "index"), (.ref (CDp K), tsT (CDp K) "twice" "label"), (.ref (CUn K), tsT (CUn K) "cue" "label"), (.ref (CTm K), tsT (CTm K) "many" "most")]
/-- no class of these is under an earlier one -/
def nots (K : PySem.W.Frag) : List (Addr × Addr) := [(CIl K, CIn K), (CDp K, CIn K), (CDp K, CIl K), (CUn K, CIn K), (CUn K, CIl K), (CUn K, CDp K), (CTm K, CIn K), (CTm K, CIl K), (CTm K, CDp K), (CTm K, CUn K)]
def NotX (K : PySem.W.Frag) : Prop := ∀ p ∈ nots K, PySem.W.exmOne K (.ref p.1) (.ref p.2) = some false
/-- the answer: the name and the thing -/
abbrev Rt (H : Hp) (Q : VK) (nm : Str) (y : V) : Prop := ∀ l H', Same H H' → H' l = some (.lst [.str nm, y]) → H l = none → Q (.ref l) H'
def spTld (K : PySem.W.Frag) : Sp := fun vs H Q _ => ∃ x, vs = [x] ∧ ((Tx K H x false ∧ Rt H Q "string" x) ∨ ∃ z : Str, x = .str z ∧ z.length ≤ 900 ∧ (linesOf z).length ≤ 14 ∧ ∀ r H', Same H H' → AnsV H' r (ansL (linesOf z)) → H r = none → Q (.ref r) H')
theorem told_name {g : Str → Bool} : ∀ {r pre : List M04.Cue} {y : Str}, M34.told g pre r = some (.name y) → ∃ c ∈ r, g c.nm = false
  | [], pre, y, h => by cases h
  | c :: r, pre, y, h => by
    unfold M34.told at h
    cases hb : M34.bad g (M04.all pre).nums c with
    | some x =>
      refine ⟨c, List.mem_cons_self, ?_⟩
      rw [hb] at h
      cases h
      unfold M34.bad at hb
      split at hb
      · assumption
      · split at hb
        · cases hb
        · split at hb <;> cases hb
    | none =>
      rw [hb] at h
      obtain ⟨d, hd, e⟩ := told_name h
      exact ⟨d, List.mem_cons_of_mem _ hd, e⟩
theorem goodS_cs {ls : List Str} (t : M34.told isName [] (csOf ls) = none) : GoodS (csOf ls) := ⟨M34.told_good t, fun c hc => ⟨(cs_good c hc).1, (cs_good c hc).2.2.1⟩⟩
section
variable {P : Program} {w : World} {K : PySem.W.Frag} {mg : Str → Option Value} {base : Heap} {f f1 f2 pT pB fT fB fIN fIL fDP fUC fTM : Addr} {fd fd1 fd2 fdT fdB : FuncData} {qIN tIN qIL tIL qDP tDP qUC tUC qTM tTM : Str}
theorem ok_tld (F : FnP K "_law_told" sTld f fd) (T : AF K mg) (M : MF K mg) (SO : Fn P w K mg base "sheet_of" 12 ["text"] (spSof K) f1 fd1) (CU : MeS P w K mg base "cues" 1 ["self"] (spCs K) f2 fd2) (RT : PrF P w K mg base "top" "_top" pT fT fdT) (RB : PrF P w K mg base "bottom" "_bottom" pB fB fdB)
    (gIN : mg "InvalidString" = some (.ref (CIn K))) (gIL : mg "InvalidLine" = some (.ref (CIl K))) (gDP : mg "Duplicate" = some (.ref (CDp K))) (gUC : mg "UnknownCue" = some (.ref (CUn K))) (gTM : mg "TooMany" = some (.ref (CTm K)))
    (XIN : Xb.Txt P.main.file K qIN "value" tIN (CIn K) fIN) (XIL : Xb.Txt P.main.file K qIL "index" tIL (CIl K) fIL) (XDP : Xb.Txt P.main.file K qDP "label" tDP (CDp K) fDP) (XUC : Xk.Txt P.main.file K qUC "label" tUC (CUn K) fUC) (XTM : Xl.Txt P.main.file K qTM "most" tTM (CTm K) fTM) (nx : NotX K) : FnOk P w K mg base (L2.CX P w) 13 f fd ["_law_line_here"] (spTld K) := by
  refine F.ok scTld (fun vs H Q E h => ?_) (fun cdv A outer s H vs Q E hr h => ?_)
  · obtain ⟨x, rfl, _⟩ := h
    rfl
  · obtain ⟨x, rfl, c⟩ := h
    have hr1 := hr.mono (show 1 ≤ 12 by decide)
    have hr2 := hr.mono (show 2 ≤ 12 by decide)
    have hr12 := hr.mono (show 12 ≤ 12 by decide)
    refine ⟨_, (pss_cons (Ft.ps_try_all (n := "e") (i := 1) (l := clT K) (Wo := fun cls d _ H => E cls d H) rfl rfl scTld.nd rfl rfl (takes_of rfl rfl rfl rfl)
        (fun W pn xe tk _ => pss_one (ps_set (i := 2) scTld.nd rfl (Or.inl rfl) (pe_callS SO.ok hr12 rfl SO.g SO.k SO.b (fun σ => passAt tk σ) (pa_cons (pv 0) pa_nil))))
        (.cons ⟨rfl, by decide, Or.inl gIN⟩ (fun a oe cls d pn hz hf => pss_one (ps_ret (pe_lst (pa_cons pe_str (pa_cons (Xb.pe_byX XIN hz hf (pv 1)) pa_nil)))))
          (.cons ⟨rfl, by decide, Or.inl gIL⟩ (fun a oe cls d pn hz hf => pss_one (ps_ret (pe_lst (pa_cons pe_str (pa_cons (Xb.pe_byX XIL hz hf (pv 1)) pa_nil)))))
          (.cons ⟨rfl, by decide, Or.inl gDP⟩ (fun a oe cls d pn hz hf => pss_one (ps_ret (pe_lst (pa_cons pe_str (pa_cons (Xb.pe_byX XDP hz hf (pv 1)) pa_nil)))))
          (.cons ⟨rfl, by decide, Or.inl gUC⟩ (fun a oe cls d pn hz hf => pss_one (ps_ret (pe_lst (pa_cons pe_str (pa_cons (Xk.pe_byX XUC hz hf (pv 1)) pa_nil)))))
          (.cons ⟨rfl, by decide, Or.inl gTM⟩ (fun a oe cls d pn hz hf => pss_one (ps_ret (pe_lst (pa_cons pe_str (pa_cons (Xl.pe_byX XTM hz hf (pv 1)) pa_nil)))))
          .nil)))))) (pss_one (ps_ret (pe_lst (pa_cons pe_str (pa_cons (pe_lc (own := [("_law_name", 3), ("_law_parent", 4), ("_law_unit", 5), ("_law_far", 6)]) (g := gTup K 4 (gCons (gName 3) (gCons (gName 4) (gCons (gName 5) (gCons (gName 6) gNil))))) (te := tTup (tCons (tVar 3) (tCons (tVar 4) (tCons (tVar 5) (tCons (tTup (tCons (tProp (CA K) (getSp (CA K) "_top") [] E0 (tVar 6)) (tCons (tProp (CA K) (getSp (CA K) "_bottom") [] E0 (tVar 6)) tNil))) tNil))))) (by rfl) scTld.nd (pi_list (pe_meth0 (pv 2) M.cl CU.me CU.ok hr1 CU.b .nil passL)) (blkOk_by (own := [("_law_name", 3), ("_law_parent", 4), ("_law_unit", 5), ("_law_far", 6)]) (N := ["_law_line_here", "e", "_law_sheet", "_law_name", "_law_parent", "_law_unit", "_law_far"]) (sc := defScope sTld) (by decide +kernel)) (fun _ _ _ _ _ => (pg_tup (by rfl) (pgs_cons (pg_name (i := 3) scTld.nd rfl (Or.inl rfl)) (pgs_cons (pg_name (i := 4) scTld.nd rfl (Or.inl rfl)) (pgs_cons (pg_name (i := 5) scTld.nd rfl (Or.inl rfl)) (pgs_cons (pg_name (i := 6) scTld.nd rfl (Or.inl rfl)) pgs_nil)))))) (fun _ _ _ _ _ => pts_nil) (fun _ _ _ _ _ => (pe_tup (pa_cons (pv 3) (pa_cons (pv 4) (pa_cons (pv 5) (pa_cons (pe_tup (pa_cons (pe_prop (pv 6) T.cl RT.pr RT.ok hr2 RT.bi .nil passL rfl) (pa_cons (pe_prop (pv 6) T.cl RB.pr RB.ok hr2 RB.bi .nil passL rfl) pa_nil))) pa_nil))))))) pa_nil)))))), ?_⟩
    have suite : ∀ (C : Addr) (nm fld : Str) (bad : V) (a d : Addr) (v0 : V) (H1 : Hp) (D : Ends), D.rt = Q → Same H H1 → H1 d = none → Rt H Q nm bad →
        tsT C nm fld a (.ref C) (some d) D [some v0, some (.ref a), none, none, none, none, none] (upd H1 d (.xd [(fld, bad)])) := by
      intro C nm fld bad a d v0 H1 D hD s1 hd k
      refine ⟨_, rfl, rfl, rfl, d, bad, rfl, upd_same, by show 2 ≤ sizeLine; decide, fun l hl => ?_⟩
      rw [hD]
      exact k l _ (s1.trans ((Same.upd hd).trans (Same.upd hl))) upd_same (none_of (s1.trans (Same.upd hd)) hl)
    have er0 : ∀ (bad : V) (v0 : V) (D : Ends), D.rt = Q → Rt H Q "string" bad → ∀ J, Same H J → Err (CIn K) bad J (WE (Ft.wAll K 1 (fun cls d _ H => E cls d H) D (clT K)) [some v0, none, none, none, none, none, none]) := fun bad v0 D hD k J sJ d hd =>
      ⟨true, XIN.te, fun _ a _ => suite (CIn K) "string" "value" bad a d v0 J _ hD sJ hd k, fun z => by cases z⟩
    have er1 : ∀ (bad : V) (v0 : V) (D : Ends), D.rt = Q → Rt H Q "line" bad → ∀ J, Same H J → ErrI (CIl K) bad J (WE (Ft.wAll K 1 (fun cls d _ H => E cls d H) D (clT K)) [some v0, none, none, none, none, none, none]) := fun bad v0 D hD k J sJ d hd =>
      ⟨false, nx (CIl K, CIn K) (by simp [nots]), (fun z => by cases z), fun _ => ⟨true, XIL.te, fun _ a _ => suite (CIl K) "line" "index" bad a d v0 J _ hD sJ hd k, fun z => by cases z⟩⟩
    have er2 : ∀ (bad : V) (v0 : V) (D : Ends), D.rt = Q → Rt H Q "twice" bad → ∀ J, Same H J → ErrL (CDp K) bad J (WE (Ft.wAll K 1 (fun cls d _ H => E cls d H) D (clT K)) [some v0, none, none, none, none, none, none]) := fun bad v0 D hD k J sJ d hd =>
      ⟨false, nx (CDp K, CIn K) (by simp [nots]), (fun z => by cases z), fun _ => ⟨false, nx (CDp K, CIl K) (by simp [nots]), (fun z => by cases z), fun _ => ⟨true, XDP.te, fun _ a _ => suite (CDp K) "twice" "label" bad a d v0 J _ hD sJ hd k, fun z => by cases z⟩⟩⟩
    have er3 : ∀ (bad : V) (v0 : V) (D : Ends), D.rt = Q → Rt H Q "cue" bad → ∀ J, Same H J → ErrL (CUn K) bad J (WE (Ft.wAll K 1 (fun cls d _ H => E cls d H) D (clT K)) [some v0, none, none, none, none, none, none]) := fun bad v0 D hD k J sJ d hd =>
      ⟨false, nx (CUn K, CIn K) (by simp [nots]), (fun z => by cases z), fun _ => ⟨false, nx (CUn K, CIl K) (by simp [nots]), (fun z => by cases z), fun _ => ⟨false, nx (CUn K, CDp K) (by simp [nots]), (fun z => by cases z), fun _ => ⟨true, XUC.te, fun _ a _ => suite (CUn K) "cue" "label" bad a d v0 J _ hD sJ hd k, fun z => by cases z⟩⟩⟩⟩
    have er4 : ∀ (bad : V) (v0 : V) (D : Ends), D.rt = Q → Rt H Q "many" bad → ∀ J, Same H J → ErrM (CTm K) bad J (WE (Ft.wAll K 1 (fun cls d _ H => E cls d H) D (clT K)) [some v0, none, none, none, none, none, none]) := fun bad v0 D hD k J sJ d hd =>
      ⟨false, nx (CTm K, CIn K) (by simp [nots]), (fun z => by cases z), fun _ => ⟨false, nx (CTm K, CIl K) (by simp [nots]), (fun z => by cases z), fun _ => ⟨false, nx (CTm K, CDp K) (by simp [nots]), (fun z => by cases z), fun _ => ⟨false, nx (CTm K, CUn K) (by simp [nots]), (fun z => by cases z), fun _ => ⟨true, XTM.te, fun _ a _ => suite (CTm K) "many" "most" bad a d v0 J _ hD sJ hd k, fun z => by cases z⟩⟩⟩⟩⟩
    rcases c with ⟨tx, k⟩ | ⟨z, rfl, zl, n14, k⟩
    · exact ⟨_, rfl, x, rfl, .inl ⟨tx, er0 _ _ _ rfl k _ (Same.refl _)⟩⟩
    refine ⟨_, rfl, _, rfl, .inr ⟨z, rfl, by omega, n14, ?_⟩⟩
    unfold SofP
    unfold ansL at k
    cases hb : badAt (linesOf z) with
    | some i =>
      rw [hb] at k
      exact er1 _ _ _ rfl fun r H' s' e' n' => k r H' s' e' n'
    | none =>
    rw [hb] at k
    show AttP _ _ _ _ _ _
    unfold AttP
    cases ht : M34.told isName [] (csOf (linesOf z)) with
    | some b =>
      rw [ht] at k
      cases b with
      | name y =>
        obtain ⟨c, hc, e⟩ := told_name ht
        rw [(cs_good c hc).1] at e
        cases e
      | dup y => exact er2 _ _ _ rfl fun r H' s' e' n' => k r H' s' e' n'
      | unk y => exact er3 _ _ _ rfl fun r H' s' e' n' => k r H' s' e' n'
    | none =>
      rw [ht] at k
      unfold ansT at k
      by_cases c8 : 8 < (M04.all (csOf (linesOf z))).rows.length
      · simp only [if_pos c8] at k ⊢
        exact er4 _ _ _ rfl fun r H' s' e' n' => k r H' s' e' n'
      · simp only [if_neg c8] at k ⊢
        intro o J0 gs s0 sh evS
        have gdx : GoodS (gs.map cv) := by
          rw [evS]
          exact goodS_cs ht
        have so := pln_str gdx
        have lx : gs.length ≤ 14 := by
          have := congrArg List.length evS
          rw [List.length_map] at this
          have := cs_le (linesOf z)
          omega
        obtain ⟨dx, c, r, d, rs, ho, inn⟩ := id sh
        refine ⟨_, rfl, o, dx, _, rfl, ho, sh_no c r d (by decide +kernel) (by decide +kernel) (by decide +kernel), o, 20, H, gs, rfl, sh, fun l H1 s1 hl l0 => ?_⟩
        refine ⟨l, rfl, ⟨_, SqL.of hl⟩, fun D hD => ?_⟩
        refine lc_list (K := K) (a := l) (xs := gs.map fun g => V.ref g.q) (fun i H' => Same H1 H' ∧ ∃ ls : List Lc, ls.map lcv = (gs.take i).map cv ∧ ls.length = i ∧ H' D = some (.lst (ls.map fun g => V.ref g.q)) ∧ ∀ g ∈ ls, LcOk 20 H' g) ⟨Same.upd hD, [], rfl, rfl, upd_same, fun g hg => by cases hg⟩ (fun i H' _ ⟨s, _⟩ => SqL.of (s _ _ hl)) ?_ ?_
        · rintro i x H2 hx ⟨s2, ls, ev, en, e1, ok⟩
          obtain ⟨g, eg, rfl⟩ := map_at hx
          have hi := (List.getElem?_eq_some_iff.mp eg).1
          have hg := List.mem_of_getElem? eg
          obtain ⟨g1, g2⟩ := (inn.cok g hg).same (s1.trans s2)
          obtain ⟨pa, da, epa, hpa, rd, b1, b2⟩ := id g2
          cases epa
          refine ⟨g.q, _, rfl, SqT.of g1, rfl, _, _, rfl, _, _, rfl, _, _, rfl, _, _, rfl, rfl, rfl, ?_⟩
          refine ⟨_, rfl, _, rfl, _, rfl, _, rfl, g.a, da, _, rfl, hpa, g.a, da, _, _, rfl, hpa, fl_top _ _, _, rfl, g.a, da, _, rfl, hpa, g.a, da, _, _, rfl, hpa, fl_bot _ _, by show 2 ≤ sizeLine; decide, fun q hq => ?_⟩
          have s3 := Same.upd (o := .tup [.int g.t, .int g.u]) hq
          have e3 : upd H2 q (.tup [.int g.t, .int g.u]) q = some (.tup [.int g.t, .int g.u]) := upd_same
          generalize upd H2 q (.tup [.int g.t, .int g.u]) = H3 at s3 e3 ⊢
          refine ⟨by show 4 ≤ sizeLine; decide, fun q4 hq4 => ?_⟩
          have s4 := Same.upd (o := .tup [.str g.nm, .str g.pa, .str g.un, .ref q]) hq4
          have e4 : upd H3 q4 (.tup [.str g.nm, .str g.pa, .str g.un, .ref q]) q4 = some (.tup [.str g.nm, .str g.pa, .str g.un, .ref q]) := upd_same
          generalize upd H3 q4 (.tup [.str g.nm, .str g.pa, .str g.un, .ref q]) = H4 at s4 e4 ⊢
          have s34 := s3.trans s4
          have e1' := s34 _ _ e1
          obtain ⟨so1, so2, so3⟩ := so g hg
          have new : LcOk 20 H4 ⟨q4, q, g.nm, g.pa, g.un, g.t, g.u⟩ := ⟨e4, ⟨s4 _ _ e3, rd, b1, b2⟩, so1, so2, so3⟩
          refine ⟨_, e1', by rw [List.length_map, en]; exact Nat.lt_of_lt_of_le (show i < 100 by omega) (by decide), same_put (s2.trans s34) hD, ls ++ [⟨q4, q, g.nm, g.pa, g.un, g.t, g.u⟩], ?_, by rw [List.length_append, en]; rfl, by rw [upd_same, List.map_append]; rfl, fun y hy => ?_⟩
          · rw [List.map_append, ev, List.take_add_one, eg, List.map_append]
            rfl
          · rcases List.mem_append.mp hy with hy | hy
            · exact ((ok y hy).kt (KT.of s34)).kt (KT.put e1')
            · rw [List.mem_singleton.mp hy]
              exact new.kt (KT.put e1')
        · rintro H2 ⟨s2, ls, ev, en, e1, ok⟩
          rw [List.length_map] at en ev
          rw [List.take_length] at ev
          refine ⟨by show 2 ≤ sizeLine; decide, fun la hla => ?_⟩
          have s3 := Same.upd (o := .lst [.str "cues", .ref D]) hla
          have sA := s0.trans (s1.trans s2)
          exact k la _ (sA.trans s3) ⟨D, ls, 20, upd_same, LsC.same ⟨e1, ok, by omega⟩ s3, by decide, ev.trans evS⟩ (none_of sA hla)
end
end K35
set_option Elab.async false
set_option linter.all false
set_option maxRecDepth 100000
set_option maxHeartbeats 1000000
set_option exponentiation.threshold 100000
namespace K35
open PySem PySem.Spec PyProof.Rows L2 Fa Fb NumText TL
abbrev sStx : Stmt := top 55
theorem scStx : FnScope ["sheet", "name", "parent", "unit", "amount"] ["sheet"] (defScope sStx) := ⟨rfl, rfl, rfl, by decide +kernel, rfl, by decide +kernel, by decide +kernel⟩
theorem amtS_len {t u : Int} (h : Sm t u) (u0 : 0 < u) : (amtS t u).length ≤ 12 := by
  have h1 : (dec (t.natAbs : Int)).length ≤ 6 := dec_len (by omega) (by decide) (by have := h.1; omega)
  have h2 : (dec u).length ≤ 4 := dec_len (by omega) (by decide) (by have := h.2; omega)
  have e0 : ("" : Str).length = 0 := by decide +kernel
  have e1 : ("-" : Str).length = 1 := by decide +kernel
  have e2 : ("/" : Str).length = 1 := by decide +kernel
  unfold amtS
  rw [len_app, len_app]
  by_cases c : t < 0
  · rw [if_pos c, e1]
    by_cases d : u = 1
    · rw [if_pos d, e0]; omega
    · rw [if_neg d, len_app, e2]; omega
  · rw [if_neg c, e0]
    by_cases d : u = 1
    · rw [if_pos d, e0]; omega
    · rw [if_neg d, len_app, e2]; omega
theorem unit_len8 {z : Str} (h : isUnit z = true) : z.length ≤ 8 := by
  unfold isUnit at h
  rw [Bool.or_eq_true, decide_eq_true_iff, decide_eq_true_iff] at h
  rcases h with rfl | rfl <;> decide +kernel
theorem ln_len {nm pa un : Str} {t u : Int} (h : PcOk nm pa un t u) : (lnS nm pa un t u).length ≤ 44 := by
  have h0 := join_le SP (by decide +kernel) [("cue" : Str), nm, pa, un, amtS t u]
  have h1 := isName_len h.nm
  have h2 := isName_len h.pa
  have h3 := unit_len8 h.un
  have h4 := amtS_len h.sm h.u0
  have e : jl [("cue" : Str), nm, pa, un, amtS t u] = 3 + (nm.length + (pa.length + (un.length + ((amtS t u).length + 0)))) + 5 := rfl
  unfold lnS
  omega
theorem fs_ln (nm pa un am : Str) : Str.empty ++ ("cue " : Str) ++ nm ++ (" " : Str) ++ pa ++ (" " : Str) ++ un ++ (" " : Str) ++ am = Str.join SP [("cue" : Str), nm, pa, un, am] := by
  have e : Str.empty ++ ("cue " : Str) = ("cue" : Str) ++ SP := by decide +kernel
  rw [e]
  show _ = ("cue" : Str) ++ SP ++ (nm ++ SP ++ (pa ++ SP ++ (un ++ SP ++ am)))
  simp only [app_assoc]
def tFS (K : PySem.W.Frag) : TE := fun σ H Q => tJs [tC (.str "cue "), tFmt (tVar 1), tC (.str " "), tFmt (tVar 2), tC (.str " "), tFmt (tVar 3), tC (.str " "), tFmt (tCall (spAmt K) [] E0 (tCons (tVar 4) tNil))] Str.empty σ H fun out H1 => Q (.str out) H1
def lnC (g : Cu) : Str := lnS g.nm g.pa g.un g.t g.u
def spStx (K : PySem.W.Frag) : Sp := fun vs H Q E => ∃ x, vs = [x] ∧ ((NoSheet K H x ∧ Err (CIS K) x H E) ∨ ∃ o mm H0 gs, x = .ref o ∧ ShAt K mm H0 H o gs ∧ (∀ g ∈ gs, PcOk g.nm g.pa g.un g.t g.u) ∧ gs.length ≤ 14 ∧ ∀ H', Same H H' → Q (.str (Str.join NL (gs.map lnC))) H')
section
variable {P : Program} {w : World} {K : PySem.W.Frag} {mg : Str → Option Value} {base : Heap} {f f1 f2 f3 : Addr} {fd fd1 fd2 fd3 : FuncData}
theorem ok_stx (F : FnP K "sheet_text" sStx f fd) (T : AF K mg) (M : MF K mg) (CH : Fn P w K mg base "check_sheet" 2 ["sheet"] (spChs K) f1 fd1) (CU : MeS P w K mg base "cues" 1 ["self"] (spCs K) f2 fd2) (AT : Fn P w K mg base "amount_text" 7 ["amount"] (spAmt K) f3 fd3) : FnOk P w K mg base (L2.CX P w) 8 f fd ["sheet"] (spStx K) := by
  refine F.ok scStx (fun vs H Q E h => ?_) (fun cdv A outer s H vs Q E hr h => ?_)
  · obtain ⟨x, rfl, _⟩ := h
    rfl
  · obtain ⟨x, rfl, c⟩ := h
    have hr1 := hr.mono (show 1 ≤ 7 by decide)
    have hr2 := hr.mono (show 2 ≤ 7 by decide)
    have hr7 := hr.mono (show 7 ≤ 7 by decide)
    refine ⟨_, (pss_cons (ps_expr (pe_callS CH.ok hr2 rfl CH.g CH.k CH.b (fun σ => passAt (W := fun cls d _ H => E cls d H) (takes_of rfl rfl rfl rfl) σ) (pa_cons (pv 0) pa_nil)))
      (pss_one (ps_ret (pe_join pe_str (pe_lc (own := [("name", 1), ("parent", 2), ("unit", 3), ("amount", 4)]) (g := gTup K 4 (gCons (gName 1) (gCons (gName 2) (gCons (gName 3) (gCons (gName 4) gNil))))) (te := tFS K) (by rfl) scStx.nd (pi_list (pe_meth0 (pv 0) M.cl CU.me CU.ok hr1 CU.b .nil passL)) (blkOk_by (own := [("name", 1), ("parent", 2), ("unit", 3), ("amount", 4)]) (N := ["sheet", "name", "parent", "unit", "amount"]) (sc := defScope sStx) (by decide +kernel)) (fun _ _ _ _ _ => (pg_tup (by rfl) (pgs_cons (pg_name (i := 1) scStx.nd rfl (Or.inl rfl)) (pgs_cons (pg_name (i := 2) scStx.nd rfl (Or.inl rfl)) (pgs_cons (pg_name (i := 3) scStx.nd rfl (Or.inl rfl)) (pgs_cons (pg_name (i := 4) scStx.nd rfl (Or.inl rfl)) pgs_nil)))))) (fun _ _ _ _ _ => pts_nil) (fun _ _ _ _ _ => (pe_joined (.cons pe_str (.cons (pe_fmt (pv 1)) (.cons pe_str (.cons (pe_fmt (pv 2)) (.cons pe_str (.cons (pe_fmt (pv 3)) (.cons pe_str (.cons (pe_fmt (pe_call AT.ok hr7 rfl AT.g AT.k AT.b .nil passL (pa_cons (pv 4) pa_nil))) .nil))))))))))))))), ?_⟩
    rcases c with ⟨ns, er⟩ | ⟨o, mm, H0, gs, rfl, sh, pc, n14, k⟩
    · exact ⟨_, rfl, x, rfl, .inl ⟨ns, er⟩⟩
    refine ⟨_, rfl, _, rfl, .inr ⟨o, mm, H0, gs, rfl, sh, ?_⟩⟩
    obtain ⟨dx, c, r, d, rs, ho, inn⟩ := id sh
    refine ⟨⟨_, rfl⟩, _, rfl, o, dx, _, rfl, ho, sh_no c r d (by decide +kernel) (by decide +kernel) (by decide +kernel), o, mm, H0, gs, rfl, sh, fun l H1 s1 hl l0 => ?_⟩
    refine ⟨l, rfl, ⟨_, SqL.of hl⟩, fun D hD => ?_⟩
    refine lc_list (K := K) (a := l) (xs := gs.map fun g => V.ref g.q) (fun i H' => Same H1 H' ∧ H' D = some (.lst ((gs.take i).map fun g => V.str (lnC g)))) ⟨Same.upd hD, upd_same⟩ (fun i H' _ ⟨s, _⟩ => SqL.of (s _ _ hl)) ?_ ?_
    · rintro i x H2 hx ⟨s2, e1⟩
      obtain ⟨g, eg, rfl⟩ := map_at hx
      have hi := (List.getElem?_eq_some_iff.mp eg).1
      have hg := List.mem_of_getElem? eg
      obtain ⟨g1, g2⟩ := (inn.cok g hg).same (s1.trans s2)
      have p := pc g hg
      obtain ⟨pa_, da, epa, hpa, rd, b1, b2⟩ := id g2
      refine ⟨g.q, _, rfl, SqT.of g1, rfl, _, _, rfl, _, _, rfl, _, _, rfl, _, _, rfl, rfl, rfl, ?_⟩
      have sm := p.sm
      have ln := ln_len p
      have n1 := isName_len p.nm
      have n2 := isName_len p.pa
      have n3 := unit_len8 p.un
      have n4 := amtS_len p.sm p.u0
      have sz : ∀ {y : Str}, y.length ≤ 100 → y.length ≤ sizeLine := fun h => Nat.le_trans h (by decide)
      have c4 : ("cue " : Str).length = 4 := by decide +kernel
      have c1 : (" " : Str).length = 1 := by decide +kernel
      have c0 : (Str.empty).length = 0 := by decide +kernel
      refine ⟨_, rfl, sz (by rw [len_app]; omega), _, rfl, .inl ⟨g.nm, rfl, sz (by omega), _, rfl, sz (by rw [len_app, len_app]; omega), _, rfl, sz (by rw [len_app, len_app, len_app]; omega), _, rfl, .inl ⟨g.pa, rfl, sz (by omega), _, rfl, sz (by simp only [len_app]; omega), _, rfl, sz (by simp only [len_app]; omega), _, rfl, .inl ⟨g.un, rfl, sz (by omega), _, rfl, sz (by simp only [len_app]; omega), _, rfl, sz (by simp only [len_app]; omega), _, rfl, _, rfl, .inr ⟨g.t, g.u, mm, .inl g2, Nat.lt_trans sm.1 (by decide), Int.lt_of_le_of_lt sm.2 (by decide), fun H3 s3 => .inl ⟨_, rfl, sz (by omega), _, rfl, sz (by simp only [len_app]; omega), ?_⟩⟩⟩⟩⟩⟩
      rw [fs_ln]
      refine ⟨_, s3 _ _ e1, ?_, same_put (s2.trans s3) hD, ?_⟩
      · rw [List.length_map, List.length_take]
        exact Nat.lt_of_lt_of_le (show min i gs.length < 100 by omega) (by decide)
      · rw [upd_same, List.take_add_one, eg, List.map_append]
        rfl
    · rintro H2 ⟨s2, e1⟩
      rw [List.length_map, List.take_length] at e1
      refine ⟨_, _, gs.map lnC, rfl, rfl, .inl ?_, ?_, ?_⟩
      · rw [List.map_map]
        exact SqL.of e1
      · have h1 : ∀ (xs : List Cu), (∀ g ∈ xs, PcOk g.nm g.pa g.un g.t g.u) → ((xs.map lnC).map (·.length)).sum ≤ xs.length * 44 := fun xs => by
          induction xs with
          | nil => intro _; exact Nat.zero_le _
          | cons g r ih =>
            intro h
            have a := ih fun x hx => h x (List.mem_cons_of_mem _ hx)
            have b := ln_len (h g List.mem_cons_self)
            have b : (lnC g).length ≤ 44 := b
            rw [List.map_cons, List.map_cons, List.sum_cons, List.length_cons]
            omega
        have h2 := h1 gs pc
        rw [List.length_map]
        have h3 : (NL).length = 1 := by decide +kernel
        rw [show ("\n" : Str).length = 1 from h3]
        omega
      · rw [join_eq]
        exact k H2 (s1.trans s2)
end
end K35
set_option Elab.async false
set_option linter.all false
set_option maxRecDepth 100000
set_option maxHeartbeats 4000000
/-! repr of any data, tracked or not. -/
namespace Fg
open PySem PySem.Spec PyProof.Rows L2
variable {X : Cx}
theorem call_repr_b {X : Cx} : CallR X (.builtin "repr") (fun xs H Q => ∃ b, xs = [.bl b] ∧ Q (.str (if b = true then ("True" : Str) else ("False" : Str))) H) := by
  intro pn s σ H xs us Q I r h
  obtain ⟨b, rfl, q⟩ := h
  obtain ⟨u, rfl, r1⟩ := vals1 r
  cases r1
  exact PySem.P.repr_of_bool ⟨.str _, H, I.tok _, ⟨_, rfl⟩, q⟩
theorem call_repr_n {X : Cx} : CallR X (.builtin "repr") (fun xs H Q => xs = [.non] ∧ Q (.str "None") H) := by
  intro pn s σ H xs us Q I r h
  obtain ⟨rfl, q⟩ := h
  obtain ⟨u, rfl, r1⟩ := vals1 r
  cases r1
  exact PySem.P.repr_of_none ⟨.str "None", H, I.tok _, ⟨_, rfl⟩, q⟩
/-- what repr makes of v -/
def ReprV (v : V) (H : Hp) (z : Str) : Prop := (∃ a d, v = .ref a ∧ Sv H (.ref a) d ∧ d.showable = true ∧ d.depth ≤ 20 ∧ d.shown.length ≤ sizeLine ∧ z = d.shown) ∨ (v = .non ∧ z = "None") ∨ (∃ i : Int, v = .int i ∧ i.natAbs.log2 < 1920 ∧ z = toString i) ∨ (∃ b, v = .bl b ∧ z = if b = true then ("True" : Str) else ("False" : Str))
theorem ReprV.same {v : V} {H H' : Hp} {z : Str} (h : ReprV v H z) (s : ∀ a o, H a = some o → H' a = some o) : ReprV v H' z := by
  rcases h with ⟨a, d, e, sv, r⟩ | h
  · exact .inl ⟨a, d, e, sv.same s, r⟩
  · exact .inr h
theorem call_reprV (S : SysD X.K) (G : X.A.guards = some []) (hu : X.A.units + 64 < cLine) : CallR X (.builtin "repr") (fun xs H Q => ∃ v z, xs = [v] ∧ ReprV v H z ∧ Q (.str z) H) := by
  intro pn s σ H xs us Q I r h
  obtain ⟨v, z, rfl, c, q⟩ := h
  rcases c with ⟨a, d, rfl, sv, h1, h2, h3, rfl⟩ | ⟨rfl, rfl⟩ | ⟨i, rfl, hi, rfl⟩ | ⟨b, rfl, rfl⟩
  · exact call_reprD S G hu pn s σ H _ us Q I r ⟨a, d, rfl, sv, h1, h2, h3, q⟩
  · exact call_repr_n pn s σ H _ us Q I r ⟨rfl, q⟩
  · exact SkE.call_repr_int pn s σ H _ us Q I r ⟨i, rfl, hi, q⟩
  · exact call_repr_b pn s σ H _ us Q I r ⟨b, rfl, q⟩
end Fg
set_option Elab.async false
set_option linter.all false
set_option maxRecDepth 100000
set_option maxHeartbeats 1000000
set_option exponentiation.threshold 100000
namespace K35
open PySem PySem.Spec PyProof.Rows L2 Fa Fb NumText TL
abbrev sNon : Stmt := top 77
theorem scNon : FnScope ["_law_thing", "e"] ["_law_thing"] (defScope sNon) := ⟨rfl, rfl, rfl, by decide +kernel, rfl, by decide +kernel, by decide +kernel⟩
theorem boot_repr : bootBuiltins "repr" = some (.builtin "repr") := by decide +kernel
def tsN (K : PySem.W.Frag) : Addr → Value → Option Addr → TS := fun a cls d => tRet (tOp rEq (tCB (fun xs H Q => ∃ v z, xs = [v] ∧ Fg.ReprV v H z ∧ Q (.str z) H) (tCons (Xb.tByX (CIS K) "value" a cls d (tVar 1)) tNil)) (tCB (fun xs H Q => ∃ v z, xs = [v] ∧ Fg.ReprV v H z ∧ Q (.str z) H) (tCons (tVar 0) tNil)))
def clN (K : PySem.W.Frag) : List Ft.Cl := [(.ref (CIS K), tsN K)]
def spNon (K : PySem.W.Frag) : Sp := fun vs H Q _ => ∃ y z, vs = [y] ∧ NoSheet K H y ∧ Fg.ReprV y H z ∧ ∀ H', Same H H' → Q (.bl true) H'
section
variable {P : Program} {w : World} {K : PySem.W.Frag} {mg : Str → Option Value} {base : Heap} {f f1 fIS : Addr} {fd fd1 : FuncData} {qIS tIS : Str}
theorem ok_non (F : FnP K "_law_is_none" sNon f fd) (hS : Fg.SysD K) (mR : mg "repr" = none) (ST : Fn P w K mg base "sheet_text" 8 ["sheet"] (spStx K) f1 fd1) (gIS : mg "InvalidSheet" = some (.ref (CIS K))) (XIS : Xb.Txt P.main.file K qIS "value" tIS (CIS K) fIS) : Fg.FnG P w K mg base (L2.CX P w) 9 f fd ["_law_thing"] (spNon K) := by
  refine Fg.okG F scNon (fun vs H Q E h => ?_) (fun cdv A outer s H vs Q E G hr h => ?_)
  · obtain ⟨y, z, rfl, _⟩ := h
    rfl
  · obtain ⟨y, z, rfl, ns, sv, k⟩ := h
    have hu : (A.deeper (envOfC "_law_is_none" (defScope sNon) s.heap.objs.size f cdv)).units + 64 < cLine := by
      have := hr.un
      omega
    have hr8 := hr.mono (show 8 ≤ 8 by decide)
    refine ⟨_, (pss_cons (Ft.ps_try_all (n := "e") (i := 1) (l := clN K) (Wo := fun cls d _ H => E cls d H) rfl rfl scNon.nd rfl rfl (takes_of rfl rfl rfl rfl)
        (fun W pn xe tk _ => pss_one (ps_expr (pe_callS ST.ok hr8 rfl ST.g ST.k ST.b (fun σ => passAt tk σ) (pa_cons (pv 0) pa_nil))))
        (.cons ⟨rfl, by decide, Or.inl gIS⟩ (fun a oe cls d pn hz hf => pss_one (ps_ret (pe_cmpR op_eq (pe_callB (Fg.call_reprV hS G hu) rfl mR boot_repr (pa_cons (Xb.pe_byX XIS hz hf (pv 1)) pa_nil)) (pe_callB (Fg.call_reprV hS G hu) rfl mR boot_repr (pa_cons (pv 0) pa_nil)) (nomark _)))) .nil)) (pss_one (ps_ret pe_bl))), ?_⟩
    refine ⟨_, rfl, y, rfl, .inl ⟨ns, fun dd hd => ?_⟩⟩
    refine ⟨true, XIS.te, fun _ a _ => ?_, fun z => by cases z⟩
    have sd := Same.upd (o := .xd [("value", y)]) hd
    refine ⟨_, rfl, rfl, rfl, dd, y, rfl, upd_same, y, z, rfl, sv.same sd, _, rfl, y, z, rfl, sv.same sd, rfl, ?_⟩
    rw [decide_eq_true rfl]
    exact k _ sd
end
end K35
set_option Elab.async false
set_option linter.all false
set_option maxRecDepth 100000
set_option maxHeartbeats 1000000
set_option exponentiation.threshold 100000
namespace K35
open PySem PySem.Spec PyProof.Rows L2 Fa Fb NumText TL
abbrev ShD (d : PyData) : Prop := d.showable = true ∧ d.depth ≤ 20 ∧ d.shown.length ≤ sizeLine
/-- short data -/
structure Sd (k w : Nat) (d : PyData) : Prop where
  sh : d.showable = true
  cl : d.canLay0 = true
  dp : d.depth ≤ k
  wt : d.weight ≤ w
  it : d.intsShort 13 = true
theorem Sd.mono {k w k2 w2 : Nat} {d : PyData} (h : Sd k w d) (a : k ≤ k2) (b : w ≤ w2) : Sd k2 w2 d := ⟨h.sh, h.cl, Nat.le_trans h.dp a, Nat.le_trans h.wt b, h.it⟩
theorem Sd.all {k w : Nat} : ∀ {ds : List PyData}, (∀ d ∈ ds, Sd k w d) → PyData.showableAll ds = true ∧ PyData.canLayAll0 ds = true ∧ PyData.depthAll ds ≤ k ∧ PyData.weightAll ds ≤ ds.length * (w + 1) ∧ PyData.intsShortAll 13 ds = true
  | [], _ => ⟨rfl, rfl, Nat.zero_le _, Nat.zero_le _, rfl⟩
  | d :: r, h => by
    obtain ⟨a, b, c, e, f⟩ := Sd.all fun x hx => h x (List.mem_cons_of_mem _ hx)
    obtain ⟨a1, b1, c1, e1, f1⟩ := h d List.mem_cons_self
    refine ⟨?_, ?_, ?_, ?_, ?_⟩
    · show (PyData.showable d && PyData.showableAll r) = true
      rw [a1, a]; rfl
    · show (PyData.canLay0 d && PyData.canLayAll0 r) = true
      rw [b1, b]; rfl
    · show max (PyData.depth d) (PyData.depthAll r) ≤ k
      omega
    · show PyData.weight d + 1 + PyData.weightAll r ≤ (r.length + 1) * (w + 1)
      rw [Nat.succ_mul]
      omega
    · show (PyData.intsShort 13 d && PyData.intsShortAll 13 r) = true
      rw [f1, f]; rfl
theorem Sd.list {k w m : Nat} {ds : List PyData} (h : ∀ d ∈ ds, Sd k w d) (n : ds.length ≤ m) : Sd (k + 1) (m * (w + 1)) (.list ds) := by
  obtain ⟨a, b, c, e, f⟩ := Sd.all h
  refine ⟨a, b, ?_, Nat.le_trans (show PyData.weightAll ds ≤ _ from e) (Nat.mul_le_mul_right _ n), f⟩
  show PyData.depthAll ds + 1 ≤ k + 1
  omega
theorem Sd.tuple {k w m : Nat} {ds : List PyData} (h : ∀ d ∈ ds, Sd k w d) (n : ds.length ≤ m) : Sd (k + 1) (m * (w + 1)) (.tuple ds) := by
  obtain ⟨a, b, c, e, f⟩ := Sd.all h
  refine ⟨a, b, ?_, Nat.le_trans (show PyData.weightAll ds ≤ _ from e) (Nat.mul_le_mul_right _ n), f⟩
  show PyData.depthAll ds + 1 ≤ k + 1
  omega
theorem Sd.int {i : Int} (h : i.natAbs < 10 ^ 12) : Sd 0 40 (.int i) := by
  have lg : i.natAbs.log2 < 40 := by
    by_cases c : i.natAbs = 0
    · rw [c]; decide
    · exact (Nat.log2_lt c).mpr (Nat.lt_trans h (by decide))
  refine ⟨decide_eq_true (Nat.lt_trans lg (by decide)), rfl, Nat.le_refl _, ?_, decide_eq_true (PyData.shown_int_le h)⟩
  show (if i == 0 then 0 else i.natAbs.log2 + 1) ≤ 40
  split <;> omega
theorem Sd.ok {k w : Nat} {d : PyData} (h : Sd k w d) (a : k ≤ 20) (b : w ≤ 2 ^ 20) : d.showable = true ∧ d.depth ≤ 20 ∧ d.shown.length ≤ sizeLine := by
  refine ⟨h.sh, Nat.le_trans h.dp a, PyData.shown_fits_of_layable0 (B := 13) (by decide) (by decide) ?_ h.it⟩
  show (PyData.canLay0 d && decide (PyData.depth d ≤ 64) && decide (PyData.weight d ≤ 2 ^ 20)) = true
  rw [h.cl, decide_eq_true (Nat.le_trans h.dp (Nat.le_trans a (by decide))), decide_eq_true (Nat.le_trans h.wt b)]
  rfl
theorem sv_map {α : Type} {H : Hp} {f : α → V} {g : α → PyData} : ∀ {xs : List α}, (∀ x ∈ xs, Fg.Sv H (f x) (g x)) → Fg.SvA H (xs.map f) (xs.map g)
  | [], _ => .nil
  | x :: r, h => .cons (h x List.mem_cons_self) (sv_map fun y hy => h y (List.mem_cons_of_mem _ hy))
theorem Sd.str {z : Str} {w : Nat} (h : PyData.strOk z = true) (n : z.length ≤ w) : Sd 0 w (.str z) := ⟨rfl, h, Nat.le_refl _, n, rfl⟩
theorem lcd_sd {n : Nat} {H : Hp} {g : Lc} (h : LcOk n H g) (n30 : n ≤ 30) (a : g.nm.length ≤ 100) (b : g.pa.length ≤ 100) (c : g.un.length ≤ 100) : Sd 2 900 (lcd g) := by
  have hi : ∀ i : Int, i.natAbs < 2 ^ n → i.natAbs < 10 ^ 12 := fun i hi => Nat.lt_trans (Nat.lt_of_lt_of_le hi (Nat.pow_le_pow_right (by decide) n30)) (by decide)
  have tu : Sd 1 (2 * 41) (.tuple [.int g.t, .int g.u]) := Sd.tuple (fun d hd => by
    rcases List.mem_cons.mp hd with rfl | hd
    · exact Sd.int (hi _ h.2.1.bt)
    · rw [List.mem_singleton.mp hd]
      exact Sd.int (hi _ h.2.1.bu)) (Nat.le_refl _)
  refine (Sd.tuple (k := 1) (w := 100) (m := 4) (fun d hd => ?_) (Nat.le_refl _)).mono (by decide) (by decide)
  rcases List.mem_cons.mp hd with rfl | hd
  · exact (Sd.str h.2.2.1 a).mono (by decide) (Nat.le_refl _)
  rcases List.mem_cons.mp hd with rfl | hd
  · exact (Sd.str h.2.2.2.1 b).mono (by decide) (Nat.le_refl _)
  rcases List.mem_cons.mp hd with rfl | hd
  · exact (Sd.str h.2.2.2.2 c).mono (by decide) (Nat.le_refl _)
  · rw [List.mem_singleton.mp hd]
    exact tu.mono (by decide) (by decide)
theorem lcs_sv {n : Nat} {H : Hp} : ∀ {gs : List Lc}, (∀ g ∈ gs, LcOk n H g) → Fg.SvA H (gs.map fun g => V.ref g.q) (gs.map lcd)
  | [], _ => .nil
  | g :: r, h => .cons (.tup (h g List.mem_cons_self).1 (.cons (.str _) (.cons (.str _) (.cons (.str _) (.cons (.tup (h g List.mem_cons_self).2.1.at_ (.cons (.int _) (.cons (.int _) .nil))) .nil))))) (lcs_sv fun x hx => h x (List.mem_cons_of_mem _ hx))
/-- what of an answer can be shown -/
def AnsOk : Ans → Prop
  | .err tag v => PyData.strOk tag = true ∧ tag.length ≤ 100 ∧ ((∃ y, v = .str y ∧ PyData.strOk y = true ∧ y.length ≤ 300) ∨ ∃ i : Int, v = .int i ∧ i.natAbs < 10 ^ 12)
  | .cues cs => ∀ c ∈ cs, c.nm.length ≤ 100 ∧ c.pa.length ≤ 100 ∧ c.un.length ≤ 100
theorem lcds_same : ∀ {gs hs : List Lc}, (∀ g ∈ gs, Am.Red g.t g.u) → (∀ g ∈ hs, Am.Red g.t g.u) → gs.map lcv = hs.map lcv → gs.map lcd = hs.map lcd
  | [], [], _, _, _ => rfl
  | [], _ :: _, _, _, e => by cases e
  | _ :: _, [], _, _, e => by cases e
  | g :: gs, h :: hs, p, q, e => by
    have e1 := (List.cons.inj e).1
    have e2 := (List.cons.inj e).2
    have ih := lcds_same (fun x hx => p x (List.mem_cons_of_mem _ hx)) (fun x hx => q x (List.mem_cons_of_mem _ hx)) e2
    have a1 : g.nm = h.nm := congrArg M04.Cue.nm e1
    have a2 : g.pa = h.pa := congrArg M04.Cue.pa e1
    have a3 : g.un = h.un := congrArg M04.Cue.un e1
    obtain ⟨a4, a5⟩ := vq_inj (p g List.mem_cons_self) (q h List.mem_cons_self) (congrArg M04.Cue.q e1)
    show lcd g :: gs.map lcd = lcd h :: hs.map lcd
    rw [ih]
    unfold lcd
    rw [a1, a2, a3, a4, a5]
theorem ans_two {H H2 : Hp} {r r2 : Addr} {a : Ans} (h : AnsV H r a) (h2 : AnsV H2 r2 a) (ok : AnsOk a) : ∃ d, Fg.Sv H (.ref r) d ∧ Fg.Sv H2 (.ref r2) d ∧ ShD d := by
  cases a with
  | err tag v =>
    obtain ⟨k1, k2, k3⟩ := ok
    rcases k3 with ⟨y, rfl, k3, k4⟩ | ⟨i, rfl, hi⟩
    · exact ⟨.list [.str tag, .str y], .lst h (.cons (.str _) (.cons (.str _) .nil)), .lst h2 (.cons (.str _) (.cons (.str _) .nil)), (Sd.list (k := 0) (w := 300) (m := 2) (fun d hd => by
        rcases List.mem_cons.mp hd with rfl | hd
        · exact Sd.str k1 (by omega)
        · rw [List.mem_singleton.mp hd]
          exact Sd.str k3 k4) (Nat.le_refl _)).ok (by decide) (by decide)⟩
    · exact ⟨.list [.str tag, .int i], .lst h (.cons (.str _) (.cons (.int _) .nil)), .lst h2 (.cons (.str _) (.cons (.int _) .nil)), (Sd.list (k := 0) (w := 300) (m := 2) (fun d hd => by
        rcases List.mem_cons.mp hd with rfl | hd
        · exact Sd.str k1 (by omega)
        · rw [List.mem_singleton.mp hd]
          exact (Sd.int hi).mono (Nat.le_refl _) (by decide)) (Nat.le_refl _)).ok (by decide) (by decide)⟩
  | cues cs =>
    obtain ⟨f, ls, n, e1, lc, n30, ev⟩ := h
    obtain ⟨f2, ls2, n2, e2, lc2, _, ev2⟩ := h2
    have es := lcds_same (fun g hg => (lc.ok g hg).2.1.rd) (fun g hg => (lc2.ok g hg).2.1.rd) (ev.trans ev2.symm)
    refine ⟨.list [.str "cues", .list (ls.map lcd)], .lst e1 (.cons (.str _) (.cons (.lst lc.l (lcs_sv lc.ok)) .nil)), .lst e2 (.cons (.str _) (.cons (by rw [es]; exact .lst lc2.l (lcs_sv lc2.ok)) .nil)), ?_⟩
    have inner : Sd 3 (14 * 901) (.list (ls.map lcd)) := Sd.list (fun d hd => by
      obtain ⟨g, hg, rfl⟩ := List.mem_map.mp hd
      have := ok (lcv g) (by rw [← ev]; exact List.mem_map_of_mem hg)
      exact lcd_sd (lc.ok g hg) n30 this.1 this.2.1 this.2.2) (by rw [List.length_map]; exact lc.n)
    refine (Sd.list (k := 3) (w := 14 * 901) (m := 2) (fun d hd => ?_) (Nat.le_refl _)).ok (by decide) (by decide)
    rcases List.mem_cons.mp hd with rfl | hd
    · exact (Sd.str (show PyData.strOk "cues" = true by decide +kernel) (show ("cues" : Str).length ≤ 10 by decide +kernel)).mono (by decide) (by decide)
    · rw [List.mem_singleton.mp hd]
      exact inner
def DSm : Eqv := fun x y _ => (flatV x = true ∧ flatV y = true ∧ eqV x y = true) ∨ ∃ a, x = .ref a ∧ y = .ref a
theorem monSm : Mon DSm := fun _ _ _ _ _ d => d
theorem eqG_sm {X : Cx} : EqG X 0 DSm := by
  refine EqG.or (D := DFlat) (D' := fun x y _ => ∃ a, x = .ref a ∧ y = .ref a) eqG_flat ?_
  intro A pins s σ H x y u v sb I rx ry d
  obtain ⟨a, rfl, rfl⟩ := d
  cases rx
  cases ry
  exact SeqAt.EqAt.same (A := A) (s := s) (.ref a) X.prog X.w X.xe _ ⟨rfl, H, I, Ext.rfl'⟩
theorem ansL_ok {ls : List Str} (n : ls.length ≤ 100) : AnsOk (ansL ls) := by
  have t1 : PyData.strOk "cue" = true ∧ ("cue" : Str).length ≤ 100 := by decide +kernel
  have t3 : PyData.strOk "twice" = true ∧ ("twice" : Str).length ≤ 100 := by decide +kernel
  have t4 : PyData.strOk "many" = true ∧ ("many" : Str).length ≤ 100 := by decide +kernel
  have t5 : PyData.strOk "line" = true ∧ ("line" : Str).length ≤ 100 := by decide +kernel
  have t2 : PyData.strOk "name" = true ∧ ("name" : Str).length ≤ 100 := by decide +kernel
  have nmk : ∀ {z : Str}, isName z = true → PyData.strOk z = true ∧ z.length ≤ 300 := fun h => ⟨isName_str h, Nat.le_trans (isName_len h) (by decide)⟩
  unfold ansL
  cases hb : badAt ls with
  | some i =>
    have hi : i < ls.length := by
      unfold badAt at hb
      rw [List.findIdx?_eq_some_iff_getElem] at hb
      exact hb.1
    exact ⟨t5.1, t5.2, .inr ⟨_, rfl, by show i < 10 ^ 12; exact Nat.lt_of_lt_of_le hi (Nat.le_trans n (by decide))⟩⟩
  | none =>
    show AnsOk (ansT (M34.told isName [] (csOf ls)) (csOf ls))
    unfold ansT
    cases ht : M34.told isName [] (csOf ls) with
    | some b =>
      obtain ⟨c, hc, e⟩ := told_some ht
      have k := cs_good c hc
      rcases e with rfl | rfl | rfl
      · exact ⟨t2.1, t2.2, .inl ⟨_, rfl, nmk k.1⟩⟩
      · exact ⟨t3.1, t3.2, .inl ⟨_, rfl, nmk k.1⟩⟩
      · exact ⟨t1.1, t1.2, .inl ⟨_, rfl, nmk k.2.1⟩⟩
    | none =>
      show AnsOk (if 8 < (M04.all (csOf ls)).rows.length then .err "many" (.int 8) else .cues (csOf ls))
      by_cases c8 : 8 < (M04.all (csOf ls)).rows.length
      · rw [if_pos c8]
        exact ⟨t4.1, t4.2, .inr ⟨8, rfl, by decide⟩⟩
      · rw [if_neg c8]
        exact fun c hc => ⟨Nat.le_trans (isName_len (cs_good c hc).1) (by decide), Nat.le_trans (isName_len (cs_good c hc).2.1) (by decide), unit_len (cs_good c hc).2.2.1⟩
theorem ansL_nil : ansL [] = .cues [] := by
  have h : badAt [] = none := rfl
  unfold ansL
  rw [h]
  show ansT none [] = _
  unfold ansT
  show (if 8 < (M04.all []).rows.length then Ans.err "many" (.int 8) else Ans.cues []) = _
  rw [if_neg (by decide)]
theorem ansL_cues {ls : List Str} {cs : List M04.Cue} (h : ansL ls = .cues cs) : badAt ls = none ∧ M34.told isName [] (csOf ls) = none ∧ (M04.all (csOf ls)).rows.length ≤ 8 ∧ cs = csOf ls := by
  unfold ansL at h
  cases hb : badAt ls with
  | some i => rw [hb] at h; cases h
  | none =>
    rw [hb] at h
    have h : ansT (M34.told isName [] (csOf ls)) (csOf ls) = .cues cs := h
    unfold ansT at h
    cases ht : M34.told isName [] (csOf ls) with
    | some b => rw [ht] at h; cases b <;> cases h
    | none =>
      rw [ht] at h
      by_cases c8 : 8 < (M04.all (csOf ls)).rows.length
      · simp only [if_pos c8] at h
        cases h
      · simp only [if_neg c8] at h
        exact ⟨rfl, rfl, by omega, (Ans.cues.inj h).symm⟩
/-- what stands first in an answer -/
def tagOf : Ans → Str
  | .err tag _ => tag
  | .cues _ => "cues"
theorem ansV_tag {H : Hp} {r : Addr} {a : Ans} (h : AnsV H r a) : ∃ v, H r = some (.lst [.str (tagOf a), v]) := by
  cases a with
  | err tag v => exact ⟨v, h⟩
  | cues cs => obtain ⟨f, _, _, h, _⟩ := h; exact ⟨_, h⟩
theorem tag_cues {ls : List Str} (h : tagOf (ansL ls) = "cues") : ∃ cs, ansL ls = .cues cs := by
  cases e : ansL ls with
  | cues cs => exact ⟨cs, rfl⟩
  | err tag v =>
    rw [e] at h
    have h : tag = "cues" := h
    exfalso
    have n1 : ("line" : Str) ≠ "cues" := by decide +kernel
    have n2 : ("name" : Str) ≠ "cues" := by decide +kernel
    have n3 : ("twice" : Str) ≠ "cues" := by decide +kernel
    have n4 : ("cue" : Str) ≠ "cues" := by decide +kernel
    have n5 : ("many" : Str) ≠ "cues" := by decide +kernel
    unfold ansL at e
    cases hb : badAt ls with
    | some i => rw [hb] at e; cases e; exact n1 h
    | none =>
      rw [hb] at e
      have e : ansT (M34.told isName [] (csOf ls)) (csOf ls) = .err tag v := e
      unfold ansT at e
      cases ht : M34.told isName [] (csOf ls) with
      | some b =>
        rw [ht] at e
        cases b with
        | name y => cases e; exact n2 h
        | dup y => cases e; exact n3 h
        | unk y => cases e; exact n4 h
      | none =>
        rw [ht] at e
        by_cases c8 : 8 < (M04.all (csOf ls)).rows.length
        · simp only [if_pos c8] at e
          cases e
          exact n5 h
        · simp only [if_neg c8] at e
          cases e
theorem AnsV.same {H H' : Hp} {r : Addr} {a : Ans} (h : AnsV H r a) (s : Same H H') : AnsV H' r a := by
  cases a with
  | err t v => exact s _ _ h
  | cues cs => obtain ⟨f, ls, n, a, b, c, d⟩ := h; exact ⟨f, ls, n, s _ _ a, b.same s, c, d⟩
/-! ### told cues as lines -/
theorem pc_of {K : PySem.W.Frag} {H : Hp} {n : Nat} {g : Cu} (h : CuOk K n H g) (a : isName g.nm = true) (b : isName g.pa = true) (c : isUnit g.un = true) (d : SmQ (vq g.t g.u)) : PcOk g.nm g.pa g.un g.t g.u := by
  obtain ⟨_, p, dx, _, _, rd, _⟩ := h
  obtain ⟨t, u, r2, e, s⟩ := d
  obtain ⟨rfl, rfl⟩ := vq_inj r2 rd e
  exact ⟨a, b, c, s, rd.1⟩
theorem pa_name {cs : List M04.Cue} (g : GoodS cs) {c : M04.Cue} (h : c ∈ cs) : isName c.pa = true := by
  rcases List.mem_cons.mp (num_in (z := "start") g h) with e | e
  · rw [e]; decide +kernel
  · obtain ⟨d, hd, ed⟩ := List.mem_map.mp e
    rw [← ed]
    exact (g.2 d hd).1
/-- cues that can be written -/
def WrS (cs : List M04.Cue) : Prop := ∀ c ∈ cs, GoodQ c
theorem GoodL.wr {cs : List M04.Cue} (g : GoodL cs) : WrS cs := fun c hc => ⟨(g.2 c hc).1, pa_name g.s hc, (g.2 c hc).2.2.1, (g.2 c hc).2.2.2⟩
theorem wr_pc {K : PySem.W.Frag} {mm : Nat} {H0 H : Hp} {o : Addr} {gs : List Cu} (sh : ShAt K mm H0 H o gs) (w : WrS (gs.map cv)) : ∀ g ∈ gs, PcOk g.nm g.pa g.un g.t g.u := fun g hg => by
  obtain ⟨dx, c, r, d, rs, ho, inn⟩ := sh
  obtain ⟨w1, w2, w3, w4⟩ := w (cv g) (List.mem_map_of_mem hg)
  exact pc_of (inn.cok g hg) w1 w2 w3 w4
theorem lc_pc {n : Nat} {H : Hp} {l : Addr} {gs : List Lc} (h : LsC n H l gs) (w : WrS (gs.map lcv)) : ∀ g ∈ gs, PcOk g.nm g.pa g.un g.t g.u := fun g hg => by
  obtain ⟨w1, w2, w3, w4⟩ := w (lcv g) (List.mem_map_of_mem hg)
  have rd := (h.ok g hg).2.1.rd
  obtain ⟨t, u, r2, e, s⟩ := w4
  obtain ⟨rfl, rfl⟩ := vq_inj r2 rd e
  exact ⟨w1, w2, w3, s, rd.1⟩
def lnL (g : Lc) : Str := lnS g.nm g.pa g.un g.t g.u
/-- the lines are told by the cues' values -/
theorem lines_same : ∀ {gs : List Cu} {cs : List Lc}, (∀ g ∈ gs, Am.Red g.t g.u) → (∀ g ∈ cs, Am.Red g.t g.u) → gs.map cv = cs.map lcv → gs.map lnC = cs.map lnL
  | [], [], _, _, _ => rfl
  | [], _ :: _, _, _, e => by cases e
  | _ :: _, [], _, _, e => by cases e
  | g :: gs, h :: hs, p, q, e => by
    have e1 := (List.cons.inj e).1
    have e2 := (List.cons.inj e).2
    have ih := lines_same (fun x hx => p x (List.mem_cons_of_mem _ hx)) (fun x hx => q x (List.mem_cons_of_mem _ hx)) e2
    have a1 : g.nm = h.nm := congrArg M04.Cue.nm e1
    have a2 : g.pa = h.pa := congrArg M04.Cue.pa e1
    have a3 : g.un = h.un := congrArg M04.Cue.un e1
    obtain ⟨a4, a5⟩ := vq_inj (p g List.mem_cons_self) (q h List.mem_cons_self) (congrArg M04.Cue.q e1)
    show lnC g :: gs.map lnC = lnL h :: hs.map lnL
    rw [ih]
    unfold lnC lnL
    rw [a1, a2, a3, a4, a5]
theorem sh_red {K : PySem.W.Frag} {mm : Nat} {H0 H : Hp} {o : Addr} {gs : List Cu} (sh : ShAt K mm H0 H o gs) : ∀ g ∈ gs, Am.Red g.t g.u := fun g hg => by
  obtain ⟨dx, c, r, d, rs, ho, inn⟩ := sh
  obtain ⟨_, p, dx, _, _, rd, _⟩ := inn.cok g hg
  exact rd
/-- what is written of cues is read as these -/
structure Wrt (z : Str) (cs : List M04.Cue) : Prop where
  len : z.length ≤ 700
  n : (linesOf z).length ≤ 14
  bad : badAt (linesOf z) = none
  cs : csOf (linesOf z) = cs
theorem sum_le {zs : List Str} {m : Nat} (h : ∀ z ∈ zs, z.length ≤ m) : jl zs ≤ zs.length * (m + 1) := by
  induction zs with
  | nil => exact Nat.zero_le _
  | cons a r ih =>
    have a1 := ih fun x hx => h x (List.mem_cons_of_mem _ hx)
    have a2 := h a List.mem_cons_self
    have e : jl (a :: r) = a.length + 1 + jl r := by
      unfold jl
      rw [List.map_cons, List.sum_cons, List.length_cons]
      omega
    rw [e, List.length_cons, Nat.succ_mul]
    omega
theorem wrt_of {α : Type} {gs : List α} (fn fp fu : α → Str) (ft fb : α → Int) (h : ∀ g ∈ gs, PcOk (fn g) (fp g) (fu g) (ft g) (fb g)) (n : gs.length ≤ 14) :
    Wrt (Str.join NL (gs.map fun g => lnS (fn g) (fp g) (fu g) (ft g) (fb g))) (gs.map fun g => ⟨fn g, fp g, fu g, vq (ft g) (fb g)⟩) := by
  have el := lines_join (zs := gs.map fun g => lnS (fn g) (fp g) (fu g) (ft g) (fb g)) (fun z hz => by
    obtain ⟨g, hg, rfl⟩ := List.mem_map.mp hz
    exact ln_free (h g hg)) (fun z hz => by
    obtain ⟨g, hg, rfl⟩ := List.mem_map.mp hz
    exact ln_ne)
  obtain ⟨r1, r2⟩ := read_back fn fp fu ft fb h
  have j1 := join_le NL (by decide +kernel) (gs.map fun g => lnS (fn g) (fp g) (fu g) (ft g) (fb g))
  have j2 := sum_le (zs := gs.map fun g => lnS (fn g) (fp g) (fu g) (ft g) (fb g)) (m := 44) fun z hz => by
    obtain ⟨g, hg, rfl⟩ := List.mem_map.mp hz
    exact ln_len (h g hg)
  rw [List.length_map] at j2
  exact ⟨by omega, by rw [el, List.length_map]; exact n, by rw [el]; exact r1, by rw [el]; exact r2⟩
theorem wrt_cu {gs : List Cu} (h : ∀ g ∈ gs, PcOk g.nm g.pa g.un g.t g.u) (n : gs.length ≤ 14) : Wrt (Str.join NL (gs.map lnC)) (gs.map cv) := by
  have w := wrt_of (α := Cu) Cu.nm Cu.pa Cu.un Cu.t Cu.u h n
  have e1 : (fun g : Cu => lnS (Cu.nm g) (Cu.pa g) (Cu.un g) (Cu.t g) (Cu.u g)) = lnC := by
    funext g
    unfold lnC
    rfl
  have e2 : (fun g : Cu => (⟨Cu.nm g, Cu.pa g, Cu.un g, vq (Cu.t g) (Cu.u g)⟩ : M04.Cue)) = cv := by
    funext g
    unfold cv
    rfl
  rw [e1, e2] at w
  exact w
theorem wrt_lc {gs : List Lc} (h : ∀ g ∈ gs, PcOk g.nm g.pa g.un g.t g.u) (n : gs.length ≤ 14) : Wrt (Str.join NL (gs.map lnL)) (gs.map lcv) := by
  have w := wrt_of (α := Lc) Lc.nm Lc.pa Lc.un Lc.t Lc.u h n
  have e1 : (fun g : Lc => lnS (Lc.nm g) (Lc.pa g) (Lc.un g) (Lc.t g) (Lc.u g)) = lnL := by
    funext g
    unfold lnL
    rfl
  have e2 : (fun g : Lc => (⟨Lc.nm g, Lc.pa g, Lc.un g, vq (Lc.t g) (Lc.u g)⟩ : M04.Cue)) = lcv := by
    funext g
    unfold lcv
    rfl
  rw [e1, e2] at w
  exact w
end K35
set_option Elab.async false
set_option linter.all false
set_option maxRecDepth 100000
set_option maxHeartbeats 1000000
set_option exponentiation.threshold 100000
namespace K35
open PySem PySem.Spec PyProof.Rows L2 Fa Fb NumText TL
theorem strOk_cl {z : Str} : PyData.strOk z = true ↔ ∀ x ∈ tl z, x < 0x110000 := by
  unfold PyData.strOk
  rw [← Array.all_toList, List.all_eq_true]
  exact ⟨fun h x hx => of_decide_eq_true (h x hx), fun h x hx => decide_eq_true (h x hx)⟩
theorem strOk_join {y : Str} (hy : PyData.strOk y = true) : ∀ {l : List Str}, (∀ p ∈ l, PyData.strOk p = true) → PyData.strOk (Str.join y l) = true
  | [], _ => by rw [join_nil]; decide +kernel
  | [a], h => h a (List.mem_singleton.mpr rfl)
  | a :: b :: r, h => by
    show PyData.strOk (a ++ y ++ Str.join y (b :: r)) = true
    exact strOk_app (strOk_app (h a List.mem_cons_self) hy) (strOk_join hy (l := b :: r) fun p hp => h p (List.mem_cons_of_mem _ hp))
theorem strOk_dec (n : Nat) : PyData.strOk (dec (n : Int)) = true := strOk_cl.mpr fun x hx => by
  have e : tl (dec (n : Int)) = numL n := dec_tl n
  rw [e] at hx
  have := numL_digits n x hx
  omega
theorem strOk_amt {t u : Int} (u0 : 0 < u) : PyData.strOk (amtS t u) = true := by
  obtain ⟨m, rfl⟩ := Int.eq_ofNat_of_zero_le (show 0 ≤ u by omega)
  unfold amtS
  refine strOk_app (strOk_app ?_ (strOk_dec _)) ?_
  · split <;> decide +kernel
  · split
    · decide +kernel
    · exact strOk_app (by decide +kernel) (strOk_dec _)
theorem strOk_ln {nm pa un : Str} {t u : Int} (h : PcOk nm pa un t u) : PyData.strOk (lnS nm pa un t u) = true := strOk_join (by decide +kernel) fun p hp => by
  simp only [List.mem_cons, List.not_mem_nil, or_false] at hp
  rcases hp with rfl | rfl | rfl | rfl | rfl
  · decide +kernel
  · exact isName_str h.nm
  · exact isName_str h.pa
  · exact unit_ok h.un
  · exact strOk_amt h.u0
/-- a thing that is no text -/
structure Th (K : PySem.W.Frag) (H : Hp) (x : V) : Prop where
  tx : ∀ {J}, Same H J → Tx K J x false
  sm : DSm x x H
  is : (∃ o mm H0 gs, x = .ref o ∧ ShAt K mm H0 H o gs) ∨ ∀ {J}, Same H J → NoSheet K J x ∧ ∃ z, Fg.ReprV x J z
theorem Th.same {K : PySem.W.Frag} {H H' : Hp} {x : V} (h : Th K H x) (s : Same H H') : Th K H' x := ⟨fun sJ => h.tx (s.trans sJ), h.sm, h.is.imp (fun ⟨o, mm, H0, gs, e, sh⟩ => ⟨o, mm, H0, gs, e, sh.same s⟩) fun g {J} sJ => g (s.trans sJ)⟩
theorem things35 {K : PySem.W.Frag} {mg : Str → Option Value} (T : AF K mg) (M : MF K mg) (ca : PySem.W.findIn K (.ref (CS K)) "__class__" = some (some (.builtin "object.__class__"))) (cm : PySem.W.mroIn K (CS K) (.type "object") = some true) (kSt : PySem.W.kitOne K (.ref (CS K)) (.type "str") = some false) (kTS : ∀ T ∈ tys, PySem.W.kitOne K (.type T) (.ref (CS K)) = some false)
    {H : Hp} {la d o : Addr} {zs : List Str} {mm : Nat} {H0 : Hp} {gs : List Cu} (hl : H la = some (.lst (zs.map V.str))) (zo : ∀ z ∈ zs, PyData.strOk z = true ∧ z.length ≤ 100) (z14 : zs.length ≤ 14) (hd : H d = some (.dK [])) (sh : ShAt K mm H0 H o gs) :
    ∀ x ∈ [V.non, .int 3, .bl true, .ref la, .ref d, .ref o], Th K H x := by
  have ns : ∀ {T : String} {x : V} {J : Hp}, T ∈ tys → TyX K J x (.type T) → NoSheet K J x := fun hT ty => ⟨_, ty, kTS _ hT⟩
  have tx : ∀ {T : String} {x : V} {J : Hp}, TyX K J x (.type T) → kitB T "str" = some false → Tx K J x false := fun ty a => ⟨_, ty, kit_ty a⟩
  intro x hx
  simp only [List.mem_cons, List.not_mem_nil, or_false] at hx
  rcases hx with rfl | rfl | rfl | rfl | rfl | rfl
  · exact ⟨fun {J} sJ => tx (.base .non) (by decide +kernel), .inl ⟨rfl, rfl, rfl⟩, .inr fun {J} sJ => ⟨ns (by decide) (.base .non), _, .inr (.inl ⟨rfl, rfl⟩)⟩⟩
  · exact ⟨fun {J} sJ => tx (.base (.int _)) (by decide +kernel), .inl ⟨rfl, rfl, rfl⟩, .inr fun {J} sJ => ⟨ns (by decide) (.base (.int _)), _, .inr (.inr (.inl ⟨3, rfl, by decide, rfl⟩))⟩⟩
  · exact ⟨fun {J} sJ => tx (.base (.bl _)) (by decide +kernel), .inl ⟨rfl, rfl, rfl⟩, .inr fun {J} sJ => ⟨ns (by decide) (.base (.bl _)), _, .inr (.inr (.inr ⟨true, rfl, rfl⟩))⟩⟩
  · refine ⟨fun {J} sJ => tx (T := "list") (.base (.lst (sJ _ _ hl))) (by decide +kernel), .inr ⟨_, rfl, rfl⟩, .inr fun {J} sJ => ⟨ns (T := "list") (by decide) (.base (.lst (sJ _ _ hl))), _, .inl ⟨la, .list (zs.map .str), rfl, .lst (sJ _ _ hl) (sv_map fun z _ => .str z), ?_, ?_, ?_, rfl⟩⟩⟩
    all_goals have sd := (Sd.list (k := 0) (w := 100) (m := 14) (ds := zs.map .str) (fun d hd => by
      obtain ⟨z, hz, rfl⟩ := List.mem_map.mp hd
      exact Sd.str (zo z hz).1 (zo z hz).2) (by rw [List.length_map]; exact z14)).ok (by decide) (by decide)
    · exact sd.1
    · exact sd.2.1
    · exact sd.2.2
  · exact ⟨fun {J} sJ => tx (T := "dict") (.base (.dK (sJ _ _ hd))) (by decide +kernel), .inr ⟨_, rfl, rfl⟩, .inr fun {J} sJ => ⟨ns (T := "dict") (by decide) (.base (.dK (sJ _ _ hd))), _, .inl ⟨d, .dict [], rfl, .dic (sJ _ _ hd), by decide +kernel, by decide +kernel, by decide +kernel, rfl⟩⟩⟩
  · refine ⟨fun {J} sJ => ?_, .inr ⟨_, rfl, rfl⟩, .inl ⟨o, mm, H0, gs, rfl, sh⟩⟩
    obtain ⟨dx, c, r, dd, rs, ho, inn⟩ := sh
    exact ⟨_, .base (.ins (sJ _ _ ho) M.cl ca T.cn T.ct cm), kSt⟩
end K35
set_option Elab.async false
set_option linter.all false
set_option maxRecDepth 100000
set_option maxHeartbeats 1000000
set_option exponentiation.threshold 100000
namespace K35
open PySem PySem.Spec PyProof.Rows L2 Fa Fb NumText TL
/-! ### pieces of lists and of texts -/
theorem cutV_to (xs : List V) (k : Nat) : cutV xs none (some (k : Int)) = xs.take k := by
  show (xs.drop 0).take (HT.sIx xs.length xs.length (some ((k : Nat) : Int)) - 0) = _
  rw [HT.sIx_nat, List.drop_zero, Nat.sub_zero]
  by_cases c : k ≤ xs.length
  · rw [Nat.min_eq_left c]
  · rw [Nat.min_eq_right (by omega), List.take_length, List.take_of_length_le (by omega)]
theorem cutV_from (xs : List V) (k : Nat) : cutV xs (some (k : Int)) none = xs.drop k := by
  show (xs.drop (HT.sIx xs.length 0 (some ((k : Nat) : Int)))).take (xs.length - HT.sIx xs.length 0 (some ((k : Nat) : Int))) = _
  rw [HT.sIx_nat]
  by_cases c : k ≤ xs.length
  · rw [Nat.min_eq_left c, List.take_of_length_le (by rw [List.length_drop]; omega)]
  · rw [Nat.min_eq_right (by omega), Nat.sub_self, List.take_zero, List.drop_of_length_le (by omega)]
theorem cutS_to (z : Str) (k : Nat) : cl (cutS z none (some (k : Int))) = (cl z).take k := by
  show ((z.cps.toList.drop 0).take (HT.sIx z.length z.length (some ((k : Nat) : Int)) - 0)).toArray.toList = _
  have lz : z.cps.toList.length = z.length := by simp [Str.length]
  rw [HT.sIx_nat, List.drop_zero, Nat.sub_zero, List.toList_toArray]
  by_cases c : k ≤ z.length
  · rw [Nat.min_eq_left c]
  · rw [Nat.min_eq_right (by omega), List.take_of_length_le (by omega), List.take_of_length_le (by show (cl z).length ≤ k; rw [← len_cl]; omega)]
theorem cutS_from (z : Str) (k : Nat) : cl (cutS z (some (k : Int)) none) = (cl z).drop k := by
  show ((z.cps.toList.drop (HT.sIx z.length 0 (some ((k : Nat) : Int)))).take (z.length - HT.sIx z.length 0 (some ((k : Nat) : Int)))).toArray.toList = _
  have lz : z.cps.toList.length = z.length := by simp [Str.length]
  rw [HT.sIx_nat, List.toList_toArray]
  by_cases c : k ≤ z.length
  · rw [Nat.min_eq_left c, List.take_of_length_le (by rw [List.length_drop]; omega)]
  · rw [Nat.min_eq_right (by omega), Nat.sub_self, List.take_zero, List.drop_of_length_le (by show (cl z).length ≤ k; rw [← len_cl]; omega)]
/-- a line: not long, of one line -/
def LOk (L : Nat) (z : Str) : Prop := z.length ≤ L ∧ 10 ∉ tl z
theorem LOk.mono {L M : Nat} {z : Str} (h : LOk L z) (e : L ≤ M) : LOk M z := ⟨Nat.le_trans h.1 e, h.2⟩
theorem lok_put {L : Nat} {z s : Str} (h : LOk L z) (hs : s.length ≤ 1) (h10 : 10 ∉ tl s) (k m : Nat) (km : k ≤ m) : LOk (L + 1) (cutS z none (some (k : Int)) ++ s ++ cutS z (some (m : Int)) none) := by
  have lz := len_cl z
  constructor
  · rw [len_app, len_app, len_cl (cutS z none _), len_cl (cutS z _ none), cutS_to, cutS_from, List.length_take, List.length_drop]
    have := h.1
    omega
  · rw [tl_app, tl_app]
    intro m'
    rcases List.mem_append.mp m' with m' | m'
    · rcases List.mem_append.mp m' with m' | m'
      · have m2 : 10 ∈ cl (cutS z none (some (k : Int))) := m'
        rw [cutS_to] at m2
        exact h.2 (List.mem_of_mem_take m2)
      · exact h10 m'
    · have m2 : 10 ∈ cl (cutS z (some (m : Int)) none) := m'
      rw [cutS_from] at m2
      exact h.2 (List.mem_of_mem_drop m2)
theorem jl_app (a b : List Str) : jl (a ++ b) = jl a + jl b := by
  unfold jl
  rw [List.map_append, List.sum_append, List.length_append]
  omega
theorem jl_without (ws : List Str) (k : Nat) : jl (ws.take k ++ ws.drop (k + 1)) ≤ jl ws := by
  have e : jl ws = jl (ws.take k) + jl (ws.drop k) := by rw [← jl_app, List.take_append_drop]
  have e2 : jl (ws.drop k) = jl ((ws.drop k).take 1) + jl (ws.drop (k + 1)) := by
    rw [← jl_app]
    have : ws.drop (k + 1) = (ws.drop k).drop 1 := by rw [List.drop_drop, Nat.add_comm]
    rw [this, List.take_append_drop]
  rw [jl_app]
  omega
theorem jl_set (ws : List Str) (k : Nat) (x : Str) : jl (ws.set k x) ≤ jl ws + x.length := by
  by_cases c : k < ws.length
  · have e : ws.set k x = ws.take k ++ [x] ++ ws.drop (k + 1) := by
      rw [List.set_eq_take_append_cons_drop, if_pos c]
      simp
    have e1 : jl ws = jl (ws.take k) + jl (ws.drop k) := by rw [← jl_app, List.take_append_drop]
    have e2 : ws.drop k = ws[k] :: ws.drop (k + 1) := List.drop_eq_getElem_cons c
    have e3 : jl (ws[k] :: ws.drop (k + 1)) = ws[k].length + 1 + jl (ws.drop (k + 1)) := by
      unfold jl
      rw [List.map_cons, List.sum_cons, List.length_cons]
      omega
    have e4 : jl [x] = x.length + 1 := by
      show x.length + 0 + 1 = _
      omega
    rw [e, jl_app, jl_app, e4]
    rw [e2, e3] at e1
    omega
  · rw [List.set_eq_of_length_le (by omega)]
    omega
/-- words of a line, put together again -/
theorem lok_join {L M : Nat} {z : Str} {ws : List Str} (h : LOk L z) (n : jl ws ≤ z.length + 1 + M) (m : ∀ p ∈ ws, 10 ∉ tl p) : LOk (L + M) (Str.join SP ws) := by
  constructor
  · cases ws with
    | nil => rw [join_nil]; exact Nat.zero_le _
    | cons a r =>
      have := jl_join SP (by decide +kernel) a r
      have := h.1
      omega
  · exact join_free (by rw [sp_tl]; decide) m
end K35
set_option Elab.async false
set_option linter.all false
set_option maxRecDepth 100000
set_option maxHeartbeats 1000000
set_option exponentiation.threshold 100000
namespace K35
open PySem PySem.Spec PyProof.Rows L2 Fa Fb NumText TL
abbrev sBnt : Stmt := top 76
theorem scBnt : FnScope ["_law_box_here", "_law_lines", "_law_found", "_law_at", "_law_way", "_law_words", "_law_spot", "_law_place", "_law_odds", "_law_line_here", "_law_sign"] ["_law_box_here", "_law_lines"] (defScope sBnt) := ⟨rfl, rfl, rfl, by decide +kernel, rfl, by decide +kernel, by decide +kernel⟩
def LsS (H : Hp) (l : Addr) (L : Nat) (zs : List Str) : Prop := H l = some (.lst (zs.map V.str)) ∧ ∀ z ∈ zs, LOk L z
def spBnt : Sp := fun vs H Q _ => ∃ (p l : Addr) (n L : Nat) (zs : List Str), vs = [.ref p, .ref l] ∧ Box H p n ∧ n + 8 ≤ 1000000 ∧ LsS H l L zs ∧ l ≠ p ∧ zs ≠ [] ∧ zs.length ≤ 10 ∧ L ≤ 400 ∧
  ∀ r ys H', Kp p H H' → Box H' p (n + 8) → LsS H' r (L + 20) ys → ys.length ≤ zs.length + 1 → r ≠ p → H r = none → Q (.ref r) H'
theorem ixn_nat {n j : Nat} (hj : j < n) : ixN n (j : Int) = some j := by
  unfold ixN
  rw [if_pos (by omega), if_pos (by omega)]
  simp
theorem odds_ok : ∀ z ∈ (["cue", "start", "beats", "zz9", "01", "1/0", "-0", "1/1001", "A", "", "7/2", "1000000"] : List Str), z.length ≤ 7 ∧ 10 ∉ tl z := by decide +kernel
theorem more_ok : ∀ z ∈ (["", " ", "cue", "cue a start beats"] : List Str), z.length ≤ 17 ∧ 10 ∉ tl z := by decide +kernel
section
variable {P : Program} {w : World} {K : PySem.W.Frag} {mg : Str → Option Value} {base : Heap} {f f1 : Addr} {fd fd1 : FuncData}
theorem ok_bnt (F : FnP K "_law_bent" sBnt f fd) (mL : mg "len" = none) (mLi : mg "list" = none) (GT : Fn0 P w K mg base "_law_take" 1 ["_law_box_here", "_law_many"] spTake f1 fd1) : FnOk P w K mg base (L2.CX P w) 2 f fd ["_law_box_here", "_law_lines"] spBnt := by
  refine F.ok scBnt (fun vs H Q E h => ?_) (fun cdv A outer s H vs Q E hr h => ?_)
  · obtain ⟨p, l, n, L, zs, rfl, _⟩ := h
    rfl
  · obtain ⟨p, l, n, L, zs, rfl, hb, hn, ⟨hl, lok⟩, lp, z0, z10, L4, k⟩ := h
    have hr1 := hr.mono (show 1 ≤ 1 by decide)
    refine ⟨_, (pss_cons (ps_par3 (by rfl) scBnt.nd (i := 2) (j := 3) (l := 4) rfl rfl rfl (by decide) (by decide) (by decide) rfl rfl rfl (pa_cons (pe_callTy call_list_of rfl mLi (by decide +kernel : bootBuiltins "list" = some (.type "list")) (pa_cons (pv 1) pa_nil)) (pa_cons (pe_call GT.ok hr1 rfl GT.g GT.k GT.b .nil pass0 (pa_cons (pv 0) (pa_cons (pe_callB call_len rfl mL PySem.boot_len (pa_cons (pv 1) pa_nil)) pa_nil))) (pa_cons (pe_call GT.ok hr1 rfl GT.g GT.k GT.b .nil pass0 (pa_cons (pv 0) (pa_cons pe_int pa_nil))) pa_nil))) (by rfl))
      (pss_cons (ps_set (i := 5) scBnt.nd rfl (Or.inl rfl) (pe_split (pe_ix ix_list (pv 2) (pv 3) (fun _ _ => rfl)) pe_str))
      (pss_cons (ps_set (i := 6) scBnt.nd rfl (Or.inl rfl) (pe_call GT.ok hr1 rfl GT.g GT.k GT.b .nil pass0 (pa_cons (pv 0) (pa_cons (pe_callB call_len rfl mL PySem.boot_len (pa_cons (pv 5) pa_nil)) pa_nil))))
      (pss_cons (ps_if (pt_cmpR op_eq (pv 4) pe_int (nomark _)) (pss_one (ps_ret (pe_op op_cat (pe_slice sl_list (pv 2) po_none (po_some (pv 3))) (pe_slice sl_list (pv 2) (po_some (pe_op op_add (pv 3) pe_int)) po_none)))) pss_nil)
      (pss_cons (ps_if (pt_cmpR op_eq (pv 4) pe_int (nomark _)) (pss_one (ps_ret (pe_op op_cat (pv 2) (pe_lst (pa_cons (pe_ix ix_list (pv 2) (pv 3) (fun _ _ => rfl)) pa_nil))))) pss_nil)
      (pss_cons (ps_if (pt_cmpR op_eq (pv 4) pe_int (nomark _)) (pss_cons (ps_set (i := 7) scBnt.nd rfl (Or.inl rfl) (pe_call GT.ok hr1 rfl GT.g GT.k GT.b .nil pass0 (pa_cons (pv 0) (pa_cons (pe_op op_add (pe_callB call_len rfl mL PySem.boot_len (pa_cons (pv 1) pa_nil)) pe_int) pa_nil))))
      (pss_one (ps_ret (pe_op op_cat (pe_op op_cat (pe_slice sl_list (pv 2) po_none (po_some (pv 7))) (pe_lst (pa_cons (pe_ix ix_list (pe_lst (pa_cons pe_str (pa_cons pe_str (pa_cons pe_str (pa_cons pe_str pa_nil))))) (pe_call GT.ok hr1 rfl GT.g GT.k GT.b .nil pass0 (pa_cons (pv 0) (pa_cons pe_int pa_nil))) (fun _ _ => rfl)) pa_nil))) (pe_slice sl_list (pv 2) (po_some (pv 7)) po_none))))) pss_nil)
      (pss_cons (ps_if (pt_cmpR op_eq (pv 4) pe_int (nomark _)) (pss_one (ps_asg (pe_tup (pa_cons (pe_ix ix_list (pv 2) (pe_op op_sub (pv 3) pe_int) (fun _ _ => rfl)) (pa_cons (pe_ix ix_list (pv 2) (pv 3) (fun _ _ => rfl)) pa_nil))) (pg_tup (by rfl) (pgs_cons (pg_sub (pv 2) (pv 3) set_list) (pgs_cons (pg_sub (pv 2) (pe_op op_sub (pv 3) pe_int) set_list) pgs_nil))))) (pss_one (ps_if (pt_cmpR op_eq (pv 4) pe_int (nomark _)) (pss_one (ps_asg (pe_join pe_str (pe_op op_cat (pe_slice sl_list (pv 5) po_none (po_some (pv 6))) (pe_slice sl_list (pv 5) (po_some (pe_op op_add (pv 6) pe_int)) po_none))) (pg_sub (pv 2) (pv 3) set_list))) (pss_one (ps_if (pt_cmpR op_eq (pv 4) pe_int (nomark _)) (pss_cons (ps_set (i := 8) scBnt.nd rfl (Or.inl rfl) (pe_lst (pa_cons pe_str (pa_cons pe_str (pa_cons pe_str (pa_cons pe_str (pa_cons pe_str (pa_cons pe_str (pa_cons pe_str (pa_cons pe_str (pa_cons pe_str (pa_cons pe_str (pa_cons pe_str (pa_cons pe_str pa_nil))))))))))))))
      (pss_cons (ps_asg (pe_ix ix_list (pv 8) (pe_call GT.ok hr1 rfl GT.g GT.k GT.b .nil pass0 (pa_cons (pv 0) (pa_cons pe_int pa_nil))) (fun _ _ => rfl)) (pg_sub (pv 5) (pv 6) set_list))
      (pss_one (ps_asg (pe_join pe_str (pv 5)) (pg_sub (pv 2) (pv 3) set_list))))) (pss_cons (ps_par (by rfl) scBnt.nd (i := 9) (j := 10) rfl rfl (by decide) rfl rfl (pa_cons (pe_ix ix_list (pv 2) (pv 3) (fun _ _ => rfl)) (pa_cons (pe_ix ix_str pe_str (pe_call GT.ok hr1 rfl GT.g GT.k GT.b .nil pass0 (pa_cons (pv 0) (pa_cons pe_int pa_nil))) (fun _ _ => rfl)) pa_nil)) (by rfl))
      (pss_cons (ps_set (i := 7) scBnt.nd rfl (Or.inl rfl) (pe_call GT.ok hr1 rfl GT.g GT.k GT.b .nil pass0 (pa_cons (pv 0) (pa_cons (pe_op op_add (pe_callB call_len_str rfl mL PySem.boot_len (pa_cons (pv 9) pa_nil)) pe_int) pa_nil))))
      (pss_one (ps_asg (pe_op op_add_str (pe_op op_add_str (pe_slice sl_str (pv 9) po_none (po_some (pv 7))) (pv 10)) (pe_slice sl_str (pv 9) (po_some (pe_op op_sub (pe_op op_add (pv 7) (pv 4)) pe_int)) po_none)) (pg_sub (pv 2) (pv 3) set_list))))))))))
      (pss_one (ps_ret (pv 2)))))))))), ?_⟩
    have zl : 0 < zs.length := List.length_pos_iff.mpr z0
    refine ⟨_, rfl, l, _, rfl, .inl (SqL.of hl), fun f hf => ?_⟩
    have s1 := Same.upd (o := .lst (zs.map V.str)) hf
    have e1 : upd H f (.lst (zs.map V.str)) f = some (.lst (zs.map V.str)) := upd_same
    have fp : f ≠ p := (hb.ne hf).symm
    have B1 := hb.sm s1
    have K1 : Kp p H _ := Kp.same s1
    generalize upd H f (.lst (zs.map V.str)) = H1 at s1 e1 B1 K1 ⊢
    have hl1 := s1 _ _ hl
    refine ⟨_, rfl, _, rfl, _, _, rfl, .inl ⟨_, SqL.of hl1, rfl⟩, p, _, _, rfl, B1, by omega, ?_, ?_, fun z2 H2 y2 x2 B2 k2 => ?_⟩
    · rw [List.length_map]; omega
    · rw [List.length_map]; exact Int.lt_of_le_of_lt (show ((zs.length : Nat) : Int) ≤ 100 by omega) (by decide)
    rw [List.length_map] at x2
    obtain ⟨j, rfl⟩ := Int.eq_ofNat_of_zero_le y2
    have hj : j < zs.length := by omega
    have K2 := K1.trans (Kp.but k2)
    have e2 := (k2 f fp).trans e1
    refine ⟨_, rfl, p, 8, _, rfl, B2, by omega, by decide, by decide, fun wy H3 y3 x3 B3 k3 => ?_⟩
    have K3 := K2.trans (Kp.but k3)
    have e3 := (k3 f fp).trans e2
    have hl3 : H3 l = some (.lst (zs.map V.str)) := (k3 l lp).trans ((k2 l lp).trans hl1)
    refine ⟨_, _, _, rfl, ?_⟩
    have K4 := K3
    have B4 := B3
    have e4 := e3
    have hl4 := hl3
    obtain ⟨H4, hH4⟩ : ∃ H4, H4 = H3 := ⟨_, rfl⟩
    rw [← hH4] at K4 B4 e4 hl4 ⊢
    have hat : ∀ {i : Nat} (hi : i < zs.length), atI (zs.map V.str) (i : Int) = some (V.str zs[i]) := fun hi => atI_nat (by rw [List.getElem?_map, List.getElem?_eq_getElem hi]; rfl)
    obtain ⟨Z, hZ⟩ : ∃ Z, Z = zs[j] := ⟨_, rfl⟩
    have hZm : Z ∈ zs := by rw [hZ]; exact List.getElem_mem hj
    have lZ := lok Z hZm
    have atj := hat hj
    rw [← hZ] at atj
    have sp := words_of Z
    have jle := jl_le (ws := Txt.split Z " ")
    have spj : jl (Txt.split Z " ") = Z.length + 1 := sp.jl
    rw [spj] at jle
    refine ⟨_, rfl, _, rfl, f, _, _, _, rfl, rfl, SqL.of e4, atj, ⟨_, rfl⟩, Z, " ", rfl, rfl, by decide +kernel, Nat.le_trans (show Z.length + 2 ≤ 2000 by have := lZ.1; omega) (by decide), fun wa hwa => ?_⟩
    obtain ⟨ws, hws⟩ : ∃ ws, ws = Txt.split Z " " := ⟨_, rfl⟩
    have wne : ws ≠ [] := by rw [hws]; exact sp.ne
    have wmem : ∀ q ∈ ws, 10 ∉ tl q := fun q hq m => lZ.2 (sp.mem q (by rw [← show ws = Txt.split Z SP from hws]; exact hq) 10 m)
    rw [← hws] at spj jle ⊢
    have s5 := Same.upd (o := .lst (ws.map V.str)) hwa
    have K5 := K4.trans (Kp.same s5)
    have B5 := B4.sm s5
    have e5 := s5 _ _ e4
    have hl5 := s5 _ _ hl4
    have w5 : upd H4 wa (.lst (ws.map V.str)) wa = some (.lst (ws.map V.str)) := upd_same
    have wp : wa ≠ p := (B4.ne hwa).symm
    have fw : f ≠ wa := ne_of_none e4 hwa
    have wa0 : H wa = none := K4.no wp hwa
    show tSeq _ _ _ _ (upd H4 wa (.lst (ws.map V.str)))
    generalize upd H4 wa (.lst (ws.map V.str)) = H5 at s5 K5 B5 e5 hl5 w5 ⊢
    have wl : 0 < ws.length := List.length_pos_iff.mpr wne
    have wl2 : ws.length ≤ 402 := by have := jle.1; have := lZ.1; omega
    refine ⟨_, rfl, _, rfl, _, _, rfl, .inl ⟨_, SqL.of w5, rfl⟩, p, _, _, rfl, B5, by omega, ?_, ?_, fun z6 H6 y6 x6 B6 k6 => ?_⟩
    · rw [List.length_map]; omega
    · rw [List.length_map]; exact Int.lt_of_le_of_lt (show ((ws.length : Nat) : Int) ≤ 1000 by omega) (by decide)
    rw [List.length_map] at x6
    obtain ⟨m, rfl⟩ := Int.eq_ofNat_of_zero_le y6
    have hm : m < ws.length := by omega
    have K6 := K5.trans (Kp.but k6)
    have e6 := (k6 f fp).trans e5
    have w6 := (k6 wa wp).trans w5
    have hl6 := (k6 l lp).trans hl5
    have cw : wy = 0 ∨ wy = 1 ∨ wy = 2 ∨ wy = 3 ∨ wy = 4 ∨ wy = 5 ∨ wy = 6 ∨ wy = 7 := by omega
    have mem6 : ∀ {M : Nat}, L ≤ M → ∀ z ∈ zs, LOk M z := fun h z hz => (lok z hz).mono h
    have mapTake : ∀ (c : Nat), (zs.map V.str).take c = (zs.take c).map V.str := fun c => List.map_take.symm
    have mapDrop : ∀ (c : Nat), (zs.map V.str).drop c = (zs.drop c).map V.str := fun c => List.map_drop.symm
    -- the ways that change one line
    have fin : ∀ (σ : L2.St) (ys : List Str) (H7 : Hp), Kp p H H7 → Box H7 p (n + 8) → (∀ y ∈ ys, LOk (L + 20) y) → ys.length = zs.length → H7 f = some (.lst (ys.map V.str)) → σ[2]? = some (some (.ref f)) → tRet (tVar 2) { nx := fun _ H' => Q V.non H', rt := Q } σ H7 := fun σ ys H7 K7 B7 ly yl e7 hσ =>
      ⟨_, hσ, k f ys H7 K7 B7 ⟨e7, ly⟩ (by omega) fp hf⟩
    have set1 : ∀ {x : Str}, LOk (L + 20) x → ∀ y ∈ zs.set j x, LOk (L + 20) y := fun lx y hy => by
      rcases List.mem_or_eq_of_mem_set hy with h | h
      · exact mem6 (by omega) y h
      · rw [h]; exact lx
    have setM : ∀ (x : Str), (zs.map V.str).set j (V.str x) = (zs.set j x).map V.str := fun x => List.map_set.symm
    have ixj : ixN (zs.map V.str).length (j : Int) = some j := ixn_nat (by rw [List.length_map]; exact hj)
    have sumB : ∀ (us : List Str), jl us ≤ 1000 → (us.map fun x => x.length).sum + us.length * (" " : Str).length ≤ 16777216 := fun us h => by
      rw [show (" " : Str).length = 1 by decide +kernel]
      have e : jl us = (us.map Str.length).sum + us.length := rfl
      have e2 : (us.map fun x => x.length).sum = (us.map Str.length).sum := rfl
      rw [e2]
      omega
    have Zl := lZ.1
    rcases cw with rfl | rfl | rfl | rfl | rfl | rfl | rfl | rfl
    · refine ⟨_, rfl, rfl, _, rfl, if_true_of rfl ?_⟩
      refine ⟨_, rfl, _, rfl, _, rfl, f, _, rfl, SqL.of e6, fun q1 h1 => ?_⟩
      rw [cutV_to, mapTake]
      have s7 := Same.upd (o := .lst ((zs.take j).map V.str)) h1
      have x7 : upd H6 q1 (.lst ((zs.take j).map V.str)) q1 = some (.lst ((zs.take j).map V.str)) := upd_same
      have e7 := s7 _ _ e6
      have K7 := K6.trans (Kp.same s7)
      have B7 := B6.sm s7
      generalize upd H6 q1 (.lst ((zs.take j).map V.str)) = H7 at s7 x7 e7 K7 B7 ⊢
      refine ⟨_, rfl, _, rfl, _, _, rfl, rfl, _, rfl, f, _, rfl, SqL.of e7, fun q2 h2 => ?_⟩
      rw [show ((j : Int) + 1) = ((j + 1 : Nat) : Int) by omega, cutV_from, mapDrop]
      have s8 := Same.upd (o := .lst ((zs.drop (j + 1)).map V.str)) h2
      have x8 : upd H7 q2 (.lst ((zs.drop (j + 1)).map V.str)) q2 = some (.lst ((zs.drop (j + 1)).map V.str)) := upd_same
      have K8 := K7.trans (Kp.same s8)
      have B8 := B7.sm s8
      have y8 := s8 _ _ x7
      generalize upd H7 q2 (.lst ((zs.drop (j + 1)).map V.str)) = H8 at s8 x8 K8 B8 y8 ⊢
      refine ⟨q1, q2, _, _, rfl, rfl, y8, x8, ?_, fun l3 hl3 => ?_⟩
      · rw [List.length_map, List.length_map, List.length_take, List.length_drop]
        exact Nat.le_trans (show _ ≤ 100 by omega) (by decide)
      have s9 := Same.upd (o := .lst ((zs.take j).map V.str ++ (zs.drop (j + 1)).map V.str)) hl3
      refine k l3 (zs.take j ++ zs.drop (j + 1)) _ (K8.trans (Kp.same s9)) ((B8.sm s9).mono (by omega)) ⟨by rw [upd_same, List.map_append], fun z hz => ?_⟩ (by rw [List.length_append, List.length_take, List.length_drop]; omega) (B8.ne hl3).symm (K8.no (B8.ne hl3).symm hl3)
      rcases List.mem_append.mp hz with h | h
      · exact mem6 (by omega) z (List.mem_of_mem_take h)
      · exact mem6 (by omega) z (List.mem_of_mem_drop h)
    · refine ⟨_, rfl, rfl, _, rfl, if_false_of rfl ⟨_, rfl, rfl, _, rfl, if_true_of rfl ?_⟩⟩
      refine ⟨_, rfl, _, rfl, _, rfl, f, _, _, _, rfl, rfl, SqL.of e6, atj, by show 1 ≤ sizeLine; decide, fun q1 h1 => ?_⟩
      have s7 := Same.upd (o := .lst [V.str Z]) h1
      have x7 : upd H6 q1 (.lst [V.str Z]) q1 = some (.lst [V.str Z]) := upd_same
      have e7 := s7 _ _ e6
      have K7 := K6.trans (Kp.same s7)
      have B7 := B6.sm s7
      generalize upd H6 q1 (.lst [V.str Z]) = H7 at s7 x7 e7 K7 B7 ⊢
      refine ⟨f, q1, _, _, rfl, rfl, e7, x7, ?_, fun l3 hl3 => ?_⟩
      · rw [List.length_map]
        exact Nat.le_trans (show zs.length + 1 ≤ 100 by omega) (by decide)
      have s9 := Same.upd (o := .lst (zs.map V.str ++ [V.str Z])) hl3
      refine k l3 (zs ++ [Z]) _ (K7.trans (Kp.same s9)) ((B7.sm s9).mono (by omega)) ⟨by rw [upd_same, List.map_append]; rfl, fun z hz => ?_⟩ (by rw [List.length_append]; exact Nat.le_refl _) (B7.ne hl3).symm (K7.no (B7.ne hl3).symm hl3)
      rcases List.mem_append.mp hz with h | h
      · exact mem6 (by omega) z h
      · rw [List.mem_singleton.mp h]; exact lZ.mono (by omega)
    · refine ⟨_, rfl, rfl, _, rfl, if_false_of rfl ⟨_, rfl, rfl, _, rfl, if_false_of rfl ⟨_, rfl, rfl, _, rfl, if_true_of rfl ?_⟩⟩⟩
      refine ⟨_, rfl, _, rfl, _, _, rfl, .inl ⟨_, SqL.of hl6, rfl⟩, _, _, rfl, rfl, p, _, _, rfl, B6, by omega, ?_, ?_, fun z7 H7 y7 x7 B7 k7 => ?_⟩
      · rw [List.length_map]; omega
      · rw [List.length_map]; exact Int.lt_of_le_of_lt (show ((zs.length : Nat) : Int) + 1 ≤ 100 by omega) (by decide)
      obtain ⟨c, rfl⟩ := Int.eq_ofNat_of_zero_le y7
      have K7 := K6.trans (Kp.but k7)
      have e7 := (k7 f fp).trans e6
      refine ⟨_, rfl, _, rfl, _, rfl, f, _, rfl, SqL.of e7, fun q1 h1 => ?_⟩
      rw [cutV_to, mapTake]
      have s8 := Same.upd (o := .lst ((zs.take c).map V.str)) h1
      have x8 : upd H7 q1 (.lst ((zs.take c).map V.str)) q1 = some (.lst ((zs.take c).map V.str)) := upd_same
      have q1p : q1 ≠ p := (B7.ne h1).symm
      have e8 := s8 _ _ e7
      have K8 := K7.trans (Kp.same s8)
      have B8 := B7.sm s8
      generalize upd H7 q1 (.lst ((zs.take c).map V.str)) = H8 at s8 x8 e8 K8 B8 ⊢
      refine ⟨by show 4 ≤ sizeLine; decide, fun qo ho => ?_⟩
      have s9 := Same.upd (o := .lst [V.str "", .str " ", .str "cue", .str "cue a start beats"]) ho
      have x9 : upd H8 qo (.lst [V.str "", .str " ", .str "cue", .str "cue a start beats"]) qo = some (.lst [V.str "", .str " ", .str "cue", .str "cue a start beats"]) := upd_same
      have qop : qo ≠ p := (B8.ne ho).symm
      have e9 := s9 _ _ e8
      have y9 := s9 _ _ x8
      have K9 := K8.trans (Kp.same s9)
      have B9 := B8.sm s9
      generalize upd H8 qo (.lst [V.str "", .str " ", .str "cue", .str "cue a start beats"]) = H9 at s9 x9 e9 y9 K9 B9 ⊢
      refine ⟨_, rfl, p, 4, _, rfl, B9, by omega, by decide, by decide, fun za Ha ya xa Ba ka => ?_⟩
      have Ka := K9.trans (Kp.but ka)
      have ea := (ka f fp).trans e9
      have xqa := (ka qo qop).trans x9
      have yqa := (ka q1 q1p).trans y9
      obtain ⟨v, ev, mv⟩ := atI_in (xs := ([("" : Str), " ", "cue", "cue a start beats"] : List Str).map V.str) ya xa
      obtain ⟨x, hx, rfl⟩ := List.mem_map.mp mv
      have hx2 := more_ok x hx
      refine ⟨qo, _, _, _, rfl, rfl, SqL.of xqa, ev, by show 1 ≤ sizeLine; decide, fun q2 h2 => ?_⟩
      have sb := Same.upd (o := .lst [V.str x]) h2
      have xb : upd Ha q2 (.lst [V.str x]) q2 = some (.lst [V.str x]) := upd_same
      have eb := sb _ _ ea
      have yb := sb _ _ yqa
      have Kb := Ka.trans (Kp.same sb)
      have Bb := Ba.sm sb
      generalize upd Ha q2 (.lst [V.str x]) = Hb at sb xb eb yb Kb Bb ⊢
      refine ⟨q1, q2, _, _, rfl, rfl, yb, xb, ?_, fun q3 h3 => ?_⟩
      · rw [List.length_map, List.length_take]
        exact Nat.le_trans (show _ ≤ 100 by show min c zs.length + 1 ≤ 100; omega) (by decide)
      have sc := Same.upd (o := .lst ((zs.take c).map V.str ++ [V.str x])) h3
      have xc : upd Hb q3 (.lst ((zs.take c).map V.str ++ [V.str x])) q3 = some (.lst ((zs.take c).map V.str ++ [V.str x])) := upd_same
      have ec := sc _ _ eb
      have Kc := Kb.trans (Kp.same sc)
      have Bc := Bb.sm sc
      generalize upd Hb q3 (.lst ((zs.take c).map V.str ++ [V.str x])) = Hc at sc xc ec Kc Bc ⊢
      refine ⟨_, rfl, _, rfl, _, rfl, f, _, rfl, SqL.of ec, fun q4 h4 => ?_⟩
      rw [cutV_from, mapDrop]
      have sd := Same.upd (o := .lst ((zs.drop c).map V.str)) h4
      have xd : upd Hc q4 (.lst ((zs.drop c).map V.str)) q4 = some (.lst ((zs.drop c).map V.str)) := upd_same
      have yd := sd _ _ xc
      have Kd := Kc.trans (Kp.same sd)
      have Bd := Bc.sm sd
      generalize upd Hc q4 (.lst ((zs.drop c).map V.str)) = Hd at sd xd yd Kd Bd ⊢
      refine ⟨q3, q4, _, _, rfl, rfl, yd, xd, ?_, fun l3 hl3 => ?_⟩
      · rw [List.length_append, List.length_map, List.length_map, List.length_take, List.length_drop]
        exact Nat.le_trans (show _ ≤ 100 by show min c zs.length + 1 + (zs.length - c) ≤ 100; omega) (by decide)
      have se := Same.upd (o := .lst ((zs.take c).map V.str ++ [V.str x] ++ (zs.drop c).map V.str)) hl3
      refine k l3 (zs.take c ++ [x] ++ zs.drop c) _ (Kd.trans (Kp.same se)) ((Bd.sm se).mono (by omega)) ⟨by rw [upd_same, List.map_append, List.map_append]; rfl, fun z hz => ?_⟩ (by rw [List.length_append, List.length_append, List.length_take, List.length_drop]; show min c zs.length + 1 + (zs.length - c) ≤ zs.length + 1; have : (c : Int) < ((zs.map V.str).length : Int) + 1 := x7; rw [List.length_map] at this; omega) (Bd.ne hl3).symm (Kd.no (Bd.ne hl3).symm hl3)
      rcases List.mem_append.mp hz with h | h
      · rcases List.mem_append.mp h with h | h
        · exact mem6 (by omega) z (List.mem_of_mem_take h)
        · rw [List.mem_singleton.mp h]
          exact ⟨by omega, hx2.2⟩
      · exact mem6 (by omega) z (List.mem_of_mem_drop h)
    · refine ⟨_, rfl, rfl, _, rfl, if_false_of rfl ⟨_, rfl, rfl, _, rfl, if_false_of rfl ⟨_, rfl, rfl, _, rfl, if_false_of rfl ⟨_, rfl, rfl, _, rfl, if_true_of rfl ?_⟩⟩⟩⟩
      obtain ⟨Y, i2, hYm, atY, ix2⟩ : ∃ (Y : Str) (i2 : Nat), Y ∈ zs ∧ atI (zs.map V.str) ((j : Int) - 1) = some (V.str Y) ∧ ixN (zs.map V.str).length ((j : Int) - 1) = some i2 := by
        by_cases c : j = 0
        · subst c
          have hl' : zs.length - 1 < zs.length := by omega
          refine ⟨zs[zs.length - 1], zs.length - 1, List.getElem_mem hl', atI_end (by rw [List.length_map, List.getElem?_map, List.getElem?_eq_getElem hl']; rfl), ?_⟩
          rw [List.length_map]
          unfold ixN
          rw [if_neg (by omega), if_pos (by omega)]
          congr 1
          omega
        · have hl' : j - 1 < zs.length := by omega
          rw [show (j : Int) - 1 = ((j - 1 : Nat) : Int) by omega]
          exact ⟨zs[j - 1], j - 1, List.getElem_mem hl', hat hl', ixn_nat (by rw [List.length_map]; exact hl')⟩
      refine ⟨_, rfl, _, rfl, _, _, rfl, rfl, f, _, _, _, rfl, rfl, SqL.of e6, atY, _, rfl, _, rfl, f, _, _, _, rfl, rfl, SqL.of e6, atj, by show 2 ≤ sizeLine; decide, fun tq htq => ?_⟩
      have s7 := Same.upd (o := .tup [V.str Y, V.str Z]) htq
      have e7 := s7 _ _ e6
      have K7 := K6.trans (Kp.same s7)
      have B7 := B6.sm s7
      refine ⟨tq, _, rfl, SqT.of upd_same, rfl, _, _, rfl, ?_⟩
      generalize upd H6 tq (.tup [V.str Y, V.str Z]) = H7 at s7 e7 K7 B7 ⊢
      refine ⟨_, rfl, _, rfl, f, _, _, j, rfl, rfl, e7, ixj, ?_⟩
      rw [setM]
      have e8 : upd H7 f (.lst ((zs.set j Y).map V.str)) f = some (.lst ((zs.set j Y).map V.str)) := upd_same
      have s8 : Kp p H (upd H7 f (.lst ((zs.set j Y).map V.str))) := fun q o n' h => by rw [upd_ne (ne_of_none h hf)]; exact K7 q o n' h
      have B8 : Box (upd H7 f (.lst ((zs.set j Y).map V.str))) p (n + 1 + 1 + 1) := B7.put fp
      generalize upd H7 f (.lst ((zs.set j Y).map V.str)) = H8 at e8 s8 B8 ⊢
      refine ⟨_, _, rfl, ?_⟩
      refine ⟨_, rfl, _, rfl, _, _, rfl, rfl, f, _, _, i2, rfl, rfl, e8, (by rw [List.length_map, List.length_set, ← List.length_map (f := V.str)]; exact ix2), ?_⟩
      rw [show ((zs.set j Y).map V.str).set i2 (V.str Z) = ((zs.set j Y).set i2 Z).map V.str from List.map_set.symm]
      refine ⟨rfl, fin _ ((zs.set j Y).set i2 Z) _ (fun q o n' h => by rw [upd_ne (ne_of_none h hf)]; exact s8 q o n' h) ((B8.put fp).mono (by omega)) (fun y hy => ?_) (by rw [List.length_set, List.length_set]) upd_same rfl⟩
      rcases List.mem_or_eq_of_mem_set hy with h | h
      · exact set1 (mem6 (by omega) Y hYm) y h
      · rw [h]; exact lZ.mono (by omega)
    · refine ⟨_, rfl, rfl, _, rfl, if_false_of rfl ⟨_, rfl, rfl, _, rfl, if_false_of rfl ⟨_, rfl, rfl, _, rfl, if_false_of rfl ⟨_, rfl, rfl, _, rfl, if_false_of rfl ⟨_, rfl, rfl, _, rfl, if_true_of rfl ?_⟩⟩⟩⟩⟩
      refine ⟨⟨_, rfl⟩, _, rfl, _, rfl, _, rfl, wa, _, rfl, SqL.of w6, fun q1 h1 => ?_⟩
      rw [cutV_to, show (ws.map V.str).take m = (ws.take m).map V.str from List.map_take.symm]
      have s7 := Same.upd (o := .lst ((ws.take m).map V.str)) h1
      have x7 : upd H6 q1 (.lst ((ws.take m).map V.str)) q1 = some (.lst ((ws.take m).map V.str)) := upd_same
      have e7 := s7 _ _ e6
      have w7 := s7 _ _ w6
      have K7 := K6.trans (Kp.same s7)
      have B7 := B6.sm s7
      generalize upd H6 q1 (.lst ((ws.take m).map V.str)) = H7 at s7 x7 e7 w7 K7 B7 ⊢
      refine ⟨_, rfl, _, rfl, _, _, rfl, rfl, _, rfl, wa, _, rfl, SqL.of w7, fun q2 h2 => ?_⟩
      rw [show ((m : Int) + 1) = ((m + 1 : Nat) : Int) by omega, cutV_from, show (ws.map V.str).drop (m + 1) = (ws.drop (m + 1)).map V.str from List.map_drop.symm]
      have s8 := Same.upd (o := .lst ((ws.drop (m + 1)).map V.str)) h2
      have x8 : upd H7 q2 (.lst ((ws.drop (m + 1)).map V.str)) q2 = some (.lst ((ws.drop (m + 1)).map V.str)) := upd_same
      have e8 := s8 _ _ e7
      have K8 := K7.trans (Kp.same s8)
      have B8 := B7.sm s8
      have y8 := s8 _ _ x7
      generalize upd H7 q2 (.lst ((ws.drop (m + 1)).map V.str)) = H8 at s8 x8 e8 K8 B8 y8 ⊢
      refine ⟨q1, q2, _, _, rfl, rfl, y8, x8, ?_, fun l3 hl3 => ?_⟩
      · rw [List.length_map, List.length_map, List.length_take, List.length_drop]
        exact Nat.le_trans (show _ ≤ 1000 by omega) (by decide)
      rw [← List.map_append]
      have s9 := Same.upd (o := .lst ((ws.take m ++ ws.drop (m + 1)).map V.str)) hl3
      have x9 : upd H8 l3 (.lst ((ws.take m ++ ws.drop (m + 1)).map V.str)) l3 = some (.lst ((ws.take m ++ ws.drop (m + 1)).map V.str)) := upd_same
      have e9 := s9 _ _ e8
      have K9 := K8.trans (Kp.same s9)
      have B9 := B8.sm s9
      generalize upd H8 l3 (.lst ((ws.take m ++ ws.drop (m + 1)).map V.str)) = H9 at s9 x9 e9 K9 B9 ⊢
      have jw := jl_without ws m
      have lx : LOk (L + 0) (Str.join SP (ws.take m ++ ws.drop (m + 1))) := lok_join lZ (by omega) fun q hq => by
        rcases List.mem_append.mp hq with h | h
        · exact wmem q (List.mem_of_mem_take h)
        · exact wmem q (List.mem_of_mem_drop h)
      refine ⟨" ", l3, _, rfl, rfl, .inl (SqL.of x9), sumB _ (by omega), ?_⟩
      rw [join_eq]
      refine ⟨_, rfl, _, rfl, f, _, _, j, rfl, rfl, e9, ixj, ?_⟩
      rw [setM]
      exact fin _ (zs.set j _) _ (fun q o n' h => by rw [upd_ne (ne_of_none h hf)]; exact K9 q o n' h) ((B9.put fp).mono (by omega)) (set1 (lx.mono (by omega))) (by rw [List.length_set]) upd_same rfl
    · refine ⟨_, rfl, rfl, _, rfl, if_false_of rfl ⟨_, rfl, rfl, _, rfl, if_false_of rfl ⟨_, rfl, rfl, _, rfl, if_false_of rfl ⟨_, rfl, rfl, _, rfl, if_false_of rfl ⟨_, rfl, rfl, _, rfl, if_false_of rfl ⟨_, rfl, rfl, _, rfl, if_true_of rfl ?_⟩⟩⟩⟩⟩⟩
      refine ⟨by show 12 ≤ sizeLine; decide, fun qo ho => ?_⟩
      have s7 := Same.upd (o := .lst [V.str "cue", .str "start", .str "beats", .str "zz9", .str "01", .str "1/0", .str "-0", .str "1/1001", .str "A", .str "", .str "7/2", .str "1000000"]) ho
      have x7 : upd H6 qo (.lst [V.str "cue", .str "start", .str "beats", .str "zz9", .str "01", .str "1/0", .str "-0", .str "1/1001", .str "A", .str "", .str "7/2", .str "1000000"]) qo = some (.lst [V.str "cue", .str "start", .str "beats", .str "zz9", .str "01", .str "1/0", .str "-0", .str "1/1001", .str "A", .str "", .str "7/2", .str "1000000"]) := upd_same
      have qop : qo ≠ p := (B6.ne ho).symm
      have e7 := s7 _ _ e6
      have w7 := s7 _ _ w6
      have K7 := K6.trans (Kp.same s7)
      have B7 := B6.sm s7
      generalize upd H6 qo (.lst [V.str "cue", .str "start", .str "beats", .str "zz9", .str "01", .str "1/0", .str "-0", .str "1/1001", .str "A", .str "", .str "7/2", .str "1000000"]) = H7 at s7 x7 e7 w7 K7 B7 ⊢
      refine ⟨_, rfl, _, rfl, p, 12, _, rfl, B7, by omega, by decide, by decide, fun za Ha ya xa Ba ka => ?_⟩
      have Ka := K7.trans (Kp.but ka)
      have ea := (ka f fp).trans e7
      have wwa := (ka wa wp).trans w7
      have xqa := (ka qo qop).trans x7
      obtain ⟨v, ev, mv⟩ := atI_in (xs := ([("cue" : Str), "start", "beats", "zz9", "01", "1/0", "-0", "1/1001", "A", "", "7/2", "1000000"] : List Str).map V.str) ya xa
      obtain ⟨x, hx, rfl⟩ := List.mem_map.mp mv
      have hx2 := odds_ok x hx
      have fwa : f ≠ wa := fw
      refine ⟨qo, _, _, _, rfl, rfl, SqL.of xqa, ev, _, rfl, _, rfl, wa, _, _, m, rfl, rfl, wwa, ixn_nat (by rw [List.length_map]; exact hm), ?_⟩
      rw [show (ws.map V.str).set m (V.str x) = (ws.set m x).map V.str from List.map_set.symm]
      have xb : upd Ha wa (.lst ((ws.set m x).map V.str)) wa = some (.lst ((ws.set m x).map V.str)) := upd_same
      have eb : upd Ha wa (.lst ((ws.set m x).map V.str)) f = some (.lst (zs.map V.str)) := by rw [upd_ne fw]; exact ea
      have Kb : Kp p H (upd Ha wa (.lst ((ws.set m x).map V.str))) := fun q o n' h => by rw [upd_ne (ne_of_none h wa0)]; exact Ka q o n' h
      have Bb := Ba.put (o := .lst ((ws.set m x).map V.str)) wp
      generalize upd Ha wa (.lst ((ws.set m x).map V.str)) = Hb at xb eb Kb Bb ⊢
      have js := jl_set ws m x
      have lx : LOk (L + 7) (Str.join SP (ws.set m x)) := lok_join lZ (by omega) fun q hq => by
        rcases List.mem_or_eq_of_mem_set hq with h | h
        · exact wmem q h
        · rw [h]; exact hx2.2
      refine ⟨⟨_, rfl⟩, _, rfl, " ", wa, _, rfl, rfl, .inl (SqL.of xb), sumB _ (by omega), ?_⟩
      rw [join_eq]
      refine ⟨_, rfl, _, rfl, f, _, _, j, rfl, rfl, eb, ixj, ?_⟩
      rw [setM]
      exact fin _ (zs.set j _) _ (fun q o n' h => by rw [upd_ne (ne_of_none h hf)]; exact Kb q o n' h) ((Bb.put fp).mono (by omega)) (set1 (lx.mono (by omega))) (by rw [List.length_set]) upd_same rfl
    · refine ⟨_, rfl, rfl, _, rfl, if_false_of rfl ⟨_, rfl, rfl, _, rfl, if_false_of rfl ⟨_, rfl, rfl, _, rfl, if_false_of rfl ⟨_, rfl, rfl, _, rfl, if_false_of rfl ⟨_, rfl, rfl, _, rfl, if_false_of rfl ⟨_, rfl, rfl, _, rfl, if_false_of rfl ?_⟩⟩⟩⟩⟩⟩
      refine ⟨_, rfl, _, rfl, f, _, _, _, rfl, rfl, SqL.of e6, atj, _, rfl, p, 8, _, rfl, B6, by omega, by decide, by decide, fun za Ha ya xa Ba ka => ?_⟩
      have Ka := K6.trans (Kp.but ka)
      have ea := (ka f fp).trans e6
      have l8 : ((" /-0az9Z" : Str).cps.toList).length = 8 := by decide +kernel
      obtain ⟨c, ec, mc⟩ := atI_in (xs := (" /-0az9Z" : Str).cps.toList) ya (by rw [l8]; exact xa)
      have c10 : c ≠ 10 := (by decide +kernel : ∀ c ∈ (" /-0az9Z" : Str).cps.toList, c ≠ 10) c mc
      refine ⟨" /-0az9Z", _, c, rfl, rfl, by decide +kernel, ec, _, _, rfl, ?_⟩
      refine ⟨_, rfl, _, rfl, Z, rfl, Nat.le_trans (show Z.length ≤ 1000 by omega) (by decide), _, _, rfl, rfl, p, _, _, rfl, Ba, by omega, by omega, Int.lt_of_le_of_lt (show ((Z.length : Nat) : Int) + 1 ≤ 1000 by omega) (by decide), fun zb Hb yb xb Bb kb => ?_⟩
      obtain ⟨a, rfl⟩ := Int.eq_ofNat_of_zero_le yb
      have Kb := Ka.trans (Kp.but kb)
      have eb := (kb f fp).trans ea
      have ZS : Z.length ≤ sizeLine := Nat.le_trans (show Z.length ≤ 1000 by omega) (by decide)
      have e7 : ((a : Int) + 6 - 6) = ((a + 0 : Nat) : Int) := by omega
      have lx := lok_put (s := ⟨#[c]⟩) lZ (Nat.le_refl _) (by show 10 ∉ [c]; simp; omega) a (a + 0) (by omega)
      have t1 : (cutS Z none (some (a : Int))).length ≤ Z.length := by rw [len_cl, cutS_to, List.length_take, ← len_cl]; omega
      have t2 : (cutS Z (some ((a + 0 : Nat) : Int)) none).length ≤ Z.length := by rw [len_cl, cutS_from, List.length_drop, ← len_cl]; omega
      have t3 : (⟨#[c]⟩ : Str).length = 1 := rfl
      refine ⟨_, rfl, _, rfl, _, rfl, Z, rfl, ZS, _, rfl, _, _, rfl, rfl, Nat.le_trans (show _ ≤ 1000 by rw [t3]; omega) (by decide), _, rfl, _, rfl, _, rfl, _, _, rfl, rfl, _, _, rfl, rfl, _, rfl, Z, rfl, ZS, ?_⟩
      rw [e7]
      refine ⟨_, _, rfl, rfl, Nat.le_trans (show _ ≤ 2000 by rw [len_app, t3]; omega) (by decide), ?_⟩
      refine ⟨_, rfl, _, rfl, f, _, _, j, rfl, rfl, eb, ixj, ?_⟩
      rw [setM]
      exact fin _ (zs.set j _) _ (fun q o n' h => by rw [upd_ne (ne_of_none h hf)]; exact Kb q o n' h) ((Bb.put fp).mono (by omega)) (set1 (lx.mono (by omega))) (by rw [List.length_set]) upd_same rfl
    · refine ⟨_, rfl, rfl, _, rfl, if_false_of rfl ⟨_, rfl, rfl, _, rfl, if_false_of rfl ⟨_, rfl, rfl, _, rfl, if_false_of rfl ⟨_, rfl, rfl, _, rfl, if_false_of rfl ⟨_, rfl, rfl, _, rfl, if_false_of rfl ⟨_, rfl, rfl, _, rfl, if_false_of rfl ?_⟩⟩⟩⟩⟩⟩
      refine ⟨_, rfl, _, rfl, f, _, _, _, rfl, rfl, SqL.of e6, atj, _, rfl, p, 8, _, rfl, B6, by omega, by decide, by decide, fun za Ha ya xa Ba ka => ?_⟩
      have Ka := K6.trans (Kp.but ka)
      have ea := (ka f fp).trans e6
      have l8 : ((" /-0az9Z" : Str).cps.toList).length = 8 := by decide +kernel
      obtain ⟨c, ec, mc⟩ := atI_in (xs := (" /-0az9Z" : Str).cps.toList) ya (by rw [l8]; exact xa)
      have c10 : c ≠ 10 := (by decide +kernel : ∀ c ∈ (" /-0az9Z" : Str).cps.toList, c ≠ 10) c mc
      refine ⟨" /-0az9Z", _, c, rfl, rfl, by decide +kernel, ec, _, _, rfl, ?_⟩
      refine ⟨_, rfl, _, rfl, Z, rfl, Nat.le_trans (show Z.length ≤ 1000 by omega) (by decide), _, _, rfl, rfl, p, _, _, rfl, Ba, by omega, by omega, Int.lt_of_le_of_lt (show ((Z.length : Nat) : Int) + 1 ≤ 1000 by omega) (by decide), fun zb Hb yb xb Bb kb => ?_⟩
      obtain ⟨a, rfl⟩ := Int.eq_ofNat_of_zero_le yb
      have Kb := Ka.trans (Kp.but kb)
      have eb := (kb f fp).trans ea
      have ZS : Z.length ≤ sizeLine := Nat.le_trans (show Z.length ≤ 1000 by omega) (by decide)
      have e7 : ((a : Int) + 7 - 6) = ((a + 1 : Nat) : Int) := by omega
      have lx := lok_put (s := ⟨#[c]⟩) lZ (Nat.le_refl _) (by show 10 ∉ [c]; simp; omega) a (a + 1) (by omega)
      have t1 : (cutS Z none (some (a : Int))).length ≤ Z.length := by rw [len_cl, cutS_to, List.length_take, ← len_cl]; omega
      have t2 : (cutS Z (some ((a + 1 : Nat) : Int)) none).length ≤ Z.length := by rw [len_cl, cutS_from, List.length_drop, ← len_cl]; omega
      have t3 : (⟨#[c]⟩ : Str).length = 1 := rfl
      refine ⟨_, rfl, _, rfl, _, rfl, Z, rfl, ZS, _, rfl, _, _, rfl, rfl, Nat.le_trans (show _ ≤ 1000 by rw [t3]; omega) (by decide), _, rfl, _, rfl, _, rfl, _, _, rfl, rfl, _, _, rfl, rfl, _, rfl, Z, rfl, ZS, ?_⟩
      rw [e7]
      refine ⟨_, _, rfl, rfl, Nat.le_trans (show _ ≤ 2000 by rw [len_app, t3]; omega) (by decide), ?_⟩
      refine ⟨_, rfl, _, rfl, f, _, _, j, rfl, rfl, eb, ixj, ?_⟩
      rw [setM]
      exact fin _ (zs.set j _) _ (fun q o n' h => by rw [upd_ne (ne_of_none h hf)]; exact Kb q o n' h) ((Bb.put fp).mono (by omega)) (set1 (lx.mono (by omega))) (by rw [List.length_set]) upd_same rfl
end
end K35
set_option Elab.async false
set_option linter.all false
set_option maxRecDepth 100000
set_option maxHeartbeats 1000000
set_option exponentiation.threshold 100000
namespace K35
open PySem PySem.Spec PyProof.Rows L2 Fa Fb NumText TL
abbrev sLln : Stmt := top 70
theorem scLln : FnScope ["_law_cue", "_law_name", "_law_parent", "_law_unit", "_law_amount_here", "_law_far"] ["_law_cue"] (defScope sLln) := ⟨rfl, rfl, rfl, by decide +kernel, rfl, by decide +kernel, by decide +kernel⟩
theorem ofs_app (a b : String) : Str.ofString (a ++ b) = Str.ofString a ++ Str.ofString b := by
  rw [Str.ofString_eq_toList, Str.ofString_eq_toList, Str.ofString_eq_toList, String.toList_append, List.map_append]
  show _ = (⟨_ ++ _⟩ : Str)
  simp
theorem dec_neg {n : Int} (h : n < 0) : dec n = ("-" : Str) ++ dec (0 - n) := by
  unfold dec
  rw [toString_neg h, ofs_app]
theorem line_amt (t u : Int) : lineS t u = amtS t u := by
  unfold lineS amtS
  by_cases h : t < 0
  · rw [if_pos h, dec_neg h, show ((t.natAbs : Nat) : Int) = 0 - t by omega]
  · rw [if_neg h, nil_app, show ((t.natAbs : Nat) : Int) = t by omega]
def spLln : Sp := fun vs H Q _ => ∃ (g : Lc) (n : Nat), vs = [.ref g.q] ∧ LcOk n H g ∧ PcOk g.nm g.pa g.un g.t g.u ∧ ∀ H', Same H H' → Q (.str (lnS g.nm g.pa g.un g.t g.u)) H'
section
variable {P : Program} {w : World} {K : PySem.W.Frag} {mg : Str → Option Value} {base : Heap} {f : Addr} {fd : FuncData}
theorem ok_lln (F : FnP K "_law_line" sLln f fd) (mS : mg "str" = none) : FnOk P w K mg base (L2.CX P w) 1 f fd ["_law_cue"] spLln := by
  refine F.ok scLln (fun vs H Q E h => ?_) (fun cdv A outer s H vs Q E hr h => ?_)
  · obtain ⟨g, n, rfl, _⟩ := h
    rfl
  · obtain ⟨g, n, rfl, ok, p, k⟩ := h
    refine ⟨_, (pss_cons (ps_asg (pv 0) (pg_tup (by rfl) (pgs_cons (pg_name (i := 1) scLln.nd rfl (Or.inl rfl)) (pgs_cons (pg_name (i := 2) scLln.nd rfl (Or.inl rfl)) (pgs_cons (pg_name (i := 3) scLln.nd rfl (Or.inl rfl)) (pgs_cons (pg_name (i := 4) scLln.nd rfl (Or.inl rfl)) pgs_nil))))))
      (pss_cons (ps_set (i := 5) scLln.nd rfl (Or.inl rfl) (pe_op op_add_str (pe_callTy call_str_int rfl mS boot_str (pa_cons (pe_ix ix_tup (pv 4) pe_int (fun _ _ => rfl)) pa_nil)) (pe_ifExp (pt_cmpR op_eq (pe_ix ix_tup (pv 4) pe_int (fun _ _ => rfl)) pe_int (nomark _)) pe_str (pe_op op_add_str pe_str (pe_callTy call_str_int rfl mS boot_str (pa_cons (pe_ix ix_tup (pv 4) pe_int (fun _ _ => rfl)) pa_nil))))))
      (pss_one (ps_ret (pe_join pe_str (pe_lst (pa_cons pe_str (pa_cons (pv 1) (pa_cons (pv 2) (pa_cons (pv 3) (pa_cons (pv 5) pa_nil))))))))))), ?_⟩
    obtain ⟨g1, g2, _⟩ := id ok
    have ga := g2.at_
    have sm := p.sm
    have al := amtS_len p.sm p.u0
    have n1 := isName_len p.nm
    have n2 := isName_len p.pa
    have n3 := unit_len8 p.un
    have lt : (dec g.t).length ≤ 1921 := dec_len60 (Nat.lt_trans sm.1 (by decide))
    have lu : (dec g.u).length ≤ 1921 := dec_len60 (by have := sm.2; have := p.u0; exact Nat.lt_of_le_of_lt (show g.u.natAbs ≤ 1000 by omega) (by decide))
    have e0 : ("" : Str).length = 0 := by decide +kernel
    have e1 : ("/" : Str).length = 1 := by decide +kernel
    have fin : ∀ (D : Ends), D.rt = Q → ∀ far : Str, far = amtS g.t g.u → tRet (tM1 (fun x xs H Q => ∃ a p ys, x = V.str a ∧ xs = [V.ref p] ∧ (SqL K H p (List.map V.str ys) ∨ SqT K H p (List.map V.str ys)) ∧ (List.map (fun x => x.length) ys).sum + ys.length * a.length ≤ 16777216 ∧ Q (V.str (Txt.join a ys)) H) (tC (.str " ")) (tLst (tCons (tC (.str "cue")) (tCons (tVar 1) (tCons (tVar 2) (tCons (tVar 3) (tCons (tVar 5) tNil))))))) D [some (.ref g.q), some (.str g.nm), some (.str g.pa), some (.str g.un), some (.ref g.a), some (.str far)] H := fun D hD far e => by
      subst e
      refine ⟨⟨_, rfl⟩, _, rfl, _, rfl, _, rfl, _, rfl, by show 5 ≤ sizeLine; decide, fun l hl => ⟨" ", l, [("cue" : Str), g.nm, g.pa, g.un, amtS g.t g.u], rfl, rfl, .inl (SqL.of upd_same), ?_, ?_⟩⟩
      · show (("cue" : Str).length + (g.nm.length + (g.pa.length + (g.un.length + ((amtS g.t g.u).length + 0))))) + 5 * (" " : Str).length ≤ 16777216
        rw [show ("cue" : Str).length = 3 by decide +kernel, show (" " : Str).length = 1 by decide +kernel]
        omega
      · rw [join_eq, hD]
        exact k _ (Same.upd hl)
    refine ⟨_, rfl, g.q, _, rfl, SqT.of g1, rfl, _, _, rfl, _, _, rfl, _, _, rfl, _, _, rfl, rfl, ?_⟩
    refine ⟨_, rfl, g.a, _, 0, _, rfl, rfl, SqT.of ga, rfl, g.t, rfl, log60 (Nat.lt_trans sm.1 (by decide)), _, rfl, g.a, _, 1, _, rfl, rfl, SqT.of ga, rfl, rfl, _, rfl, ?_⟩
    have la := line_amt g.t g.u
    unfold lineS at la
    by_cases c : g.u = 1
    · rw [if_pos c] at la
      refine if_true_of (decide_eq_true (congrArg V.int c)) ⟨_, _, rfl, rfl, ?_, fin _ rfl _ la⟩
      exact Nat.le_trans (show _ ≤ 2000 by rw [e0]; show (dec g.t).length + 0 ≤ 2000; omega) (by decide)
    · rw [if_neg c] at la
      refine if_false_of (decide_eq_false fun y => c (V.int.inj y)) ⟨_, rfl, g.a, _, 1, _, rfl, rfl, SqT.of ga, rfl, g.u, rfl, log60 (by have := sm.2; have := p.u0; exact Nat.lt_of_le_of_lt (show g.u.natAbs ≤ 1000 by omega) (by decide)), _, _, rfl, rfl, ?_, _, _, rfl, rfl, ?_, fin _ rfl _ la⟩
      · exact Nat.le_trans (show _ ≤ 4000 by rw [e1]; show 1 + (dec g.u).length ≤ 4000; omega) (by decide)
      · exact Nat.le_trans (show _ ≤ 6000 by rw [len_app, e1]; show (dec g.t).length + (1 + (dec g.u).length) ≤ 6000; omega) (by decide)
end
end K35
set_option Elab.async false
set_option linter.all false
set_option maxRecDepth 100000
set_option maxHeartbeats 8000000
set_option exponentiation.threshold 100000
namespace K35
open PySem PySem.Spec PyProof.Rows L2 Fa Fb NumText TL
abbrev sLaw : Stmt := top 78
theorem scLaw : FnScope ["_law_script", "_law_k", "_law_box_here", "_law_cues_here", "_law_lines", "_law_sheet", "_law_turn", "_law_some", "_law_lap", "_law_line_here", "_law_due_here", "_law_found", "_law_thing", "_law_cue"] ["_law_script"] (defScope sLaw) := ⟨rfl, rfl, rfl, by decide +kernel, rfl, by decide +kernel, by decide +kernel⟩
structure FnS2 (P : Program) (w : World) (K : PySem.W.Frag) (mg : Str → Option Value) (base : Heap) (x : Str) (lev : Nat) (ps : List Str) (sp : Sp) (f : Addr) (fd : FuncData) : Prop where
  ok : Fg.FnG P w K mg base (L2.CX P w) lev f fd ps sp
  g : mg x = some (.ref f)
  k : PySem.W.keepIn K (.ref f) = true
  b : Binds K fd ps []
abbrev aS (K : PySem.W.Frag) : Addr := He.ma K (CS K) "__init__"
def spLaw (K : PySem.W.Frag) : Sp := fun vs H Q _ => ∃ (a : Addr) (ns : List Int), vs = [.ref a] ∧ SqL K H a (ns.map V.int) ∧ ns.length ≤ 63 ∧ ∀ H', Q (.bl true) H'
theorem sof_ok {K : PySem.W.Frag} {H : Hp} {ls : List Str} {Q : VK} {E : XK} (b : badAt ls = none) (t : M34.told isName [] (csOf ls) = none) (r : (M04.all (csOf ls)).rows.length ≤ 8) (k : ∀ x H' gs, Same H H' → ShAt K 20 H H' x gs → gs.map cv = csOf ls → Q (.ref x) H') : SofP K H ls Q E := by
  unfold SofP
  rw [b]
  show AttP K 20 H (csOf ls) Q E
  unfold AttP
  rw [t]
  show if 8 < (M04.all (csOf ls)).rows.length then _ else _
  rw [if_neg (by omega)]
  exact k
/-- the law's cues, lines and sheet -/
structure LwE (K : PySem.W.Frag) (H : Hp) (p l la o : Addr) (gs : List Cu) (cs : List Lc) (m : Nat) : Prop where
  bx : Box H p m
  lc : LsC 20 H l cs
  lp : l ≠ p
  ll : H la = some (.lst ((cs.map lnL).map V.str))
  lap : la ≠ p
  gd : GoodL (cs.map lcv)
  sh : ∃ H0, ShAt K 20 H0 H o gs
  ev : gs.map cv = cs.map lcv
  r8 : (M04.all (cs.map lcv)).rows.length ≤ 8
  n7 : cs.length ≤ 7
theorem LwE.kp {K : PySem.W.Frag} {H H' : Hp} {p l la o : Addr} {gs : List Cu} {cs : List Lc} {m m' : Nat} (h : LwE K H p l la o gs cs m) (k : Kp p H H') (b : Box H' p m') : LwE K H' p l la o gs cs m' :=
  { h with bx := b, lc := h.lc.kp h.bx k h.lp, ll := k _ _ h.lap h.ll, sh := let ⟨H0, s⟩ := h.sh; ⟨H0, s.kp h.bx k b⟩ }
theorem LwE.same {K : PySem.W.Frag} {H H' : Hp} {p l la o : Addr} {gs : List Cu} {cs : List Lc} {m : Nat} (h : LwE K H p l la o gs cs m) (s : Same H H') : LwE K H' p l la o gs cs m := h.kp (Kp.same s) (h.bx.sm s)
theorem LwE.pc {K : PySem.W.Frag} {H : Hp} {p l la o : Addr} {gs : List Cu} {cs : List Lc} {m : Nat} (h : LwE K H p l la o gs cs m) : ∀ g ∈ gs, PcOk g.nm g.pa g.un g.t g.u := let ⟨_, s⟩ := h.sh; wr_pc s (by rw [h.ev]; exact h.gd.wr)
theorem LwE.n {K : PySem.W.Frag} {H : Hp} {p l la o : Addr} {gs : List Cu} {cs : List Lc} {m : Nat} (h : LwE K H p l la o gs cs m) : gs.length ≤ 7 := by
  have := congrArg List.length h.ev
  rw [List.length_map, List.length_map] at this
  have := h.n7
  omega
abbrev SLw (a : Addr) (kk : Option V) (p l la o : Addr) (v6 v7 v8 v9 v10 v11 v12 : Option V) : L2.St := [some (.ref a), kk, some (.ref p), some (.ref l), some (.ref la), some (.ref o), v6, v7, v8, v9, v10, v11, v12, none]
def sLw1 (K : PySem.W.Frag) : TS := fun D σ H' => ∃ a kk p l la o gs cs m v6 v7 v8 v9 v10 v11 v12, σ = SLw a kk p l la o v6 v7 v8 v9 v10 v11 v12 ∧ LwE K H' p l la o gs cs m ∧ m ≤ 1000 ∧ ∀ v6 v7 v8 v9 v10 v11 v12 H'', Kp p H' H'' → D.nx (SLw a kk p l la o v6 v7 v8 v9 v10 v11 v12) H''
def sLw2 (K : PySem.W.Frag) : TS := fun D σ H' => ∃ a kk p l la o gs cs m v6 v7 v8 v9 v10 v11 v12, σ = SLw a kk p l la o v6 v7 v8 v9 v10 v11 v12 ∧ LwE K H' p l la o gs cs m ∧ ∀ v12 H'', Kp p H' H'' → D.nx (SLw a kk p l la o v6 v7 v8 v9 v10 v11 v12) H''
def sLw3 (K : PySem.W.Frag) : TS := fun D σ H' => ∃ a kk p l la o v6 q v8 v9 v10 v11 v12 ys, σ = SLw a kk p l la o v6 (some (.ref q)) v8 v9 v10 v11 v12 ∧ LsS H' q 84 ys ∧ ys.length ≤ 9 ∧ ∀ v9 v10 v11 H'', Same H' H'' → D.nx (SLw a kk p l la o v6 (some (.ref q)) v8 v9 v10 v11 v12) H''
def sLw4 (K : PySem.W.Frag) : TS := fun D σ H' => ∃ a kk p l la o v6 v7 v8 Z r v11 v12, σ = SLw a kk p l la o v6 v7 v8 (some (.str Z)) (some (.ref r)) v11 v12 ∧ Z.length ≤ 900 ∧ (linesOf Z).length ≤ 14 ∧ AnsV H' r (ansL (linesOf Z)) ∧ ∀ v11 H'', Same H' H'' → D.nx (SLw a kk p l la o v6 v7 v8 (some (.str Z)) (some (.ref r)) v11 v12) H''
theorem split_ys {ys : List Str} (h : ∀ z ∈ ys, 10 ∉ tl z) (n : Str.join NL ys ≠ "") : Txt.split (Str.join NL ys) NL = ys := by
  cases ys with
  | nil => exact absurd (join_nil NL) n
  | cons a r =>
    rw [← join_eq]
    exact split_join nl_tl (by decide +kernel) (by simp) h
section
variable {P : Program} {w : World} {K : PySem.W.Frag} {mg : Str → Option Value} {base : Heap} {f f1 f2 f3 f4 f5 f6 f7 f8 f9 fa fb fc fe fg : Addr} {fd fd1 fd2 fd3 fd4 fd5 fd6 fd7 fd8 fd9 fda fdb fdc fde fdg fdI : FuncData}
theorem ok_law (F : FnP K "law" sLaw f fd) (hS : Fg.SysD K) (T : AF K mg) (M : MF K mg) (MKS : Mk K (CS K) (aS K)) (mL : mg "len" = none) (mG : mg "range" = none) (mMax : mg "max" = none) (mMin : mg "min" = none) (mR : mg "repr" = none) (kTS : ∀ T ∈ tys, PySem.W.kitOne K (.type T) (.ref (CS K)) = some false) (kSS : PySem.W.kitOne K (.ref (CS K)) (.ref (CS K)) = some true) (ca : PySem.W.findIn K (.ref (CS K)) "__class__" = some (some (.builtin "object.__class__"))) (cm : PySem.W.mroIn K (CS K) (.type "object") = some true) (kSt : PySem.W.kitOne K (.ref (CS K)) (.type "str") = some false)
    (BC : Fn0 P w K mg base "_law_cell" 1 ["_law_script", "_law_k"] (spCel K) f1 fd1) (BB : Fn0 P w K mg base "_law_box" 1 ["_law_cell_here"] spBox f2 fd2) (GT : Fn0 P w K mg base "_law_take" 1 ["_law_box_here", "_law_many"] spTake f3 fd3) (LC : Fn P w K mg base "_law_cues" 6 ["_law_box_here", "_law_limit", "_law_most_cues"] spLcu f4 fd4) (PA : Fn P w K mg base "_law_passed" 6 ["_law_cues_here"] (spPas K) f5 fd5)
    (LN : Fn P w K mg base "_law_line" 1 ["_law_cue"] spLln f6 fd6) (ST : Fn P w K mg base "sheet_text" 8 ["sheet"] (spStx K) f7 fd7) (SO : Fn P w K mg base "sheet_of" 12 ["text"] (spSof K) f8 fd8) (BE : Fn P w K mg base "_law_bent" 2 ["_law_box_here", "_law_lines"] spBnt f9 fd9) (DU : Fn P w K mg base "_law_due" 6 ["_law_lines"] spDue fa fda) (TL : Fn P w K mg base "_law_told" 13 ["_law_line_here"] (spTld K) fb fdb)
    (NO : FnS2 P w K mg base "_law_is_none" 9 ["_law_thing"] (spNon K) fc fdc) (EQS : EqS P w K mg base fg fdg) (SI : FnOk P w K mg base (L2.CX P w) 10 (aS K) fdI ["self", "cues"] (spSI K)) (bS : Binds K fdI ["self", "cues"] []) : Fg.FnG P w K mg base (L2.CX P w) 15 f fd ["_law_script"] (spLaw K) := by
  refine Fg.okG F scLaw (fun vs H Q E h => ?_) (fun cdv A outer s H vs Q E G hr h => ?_)
  · obtain ⟨a, ns, rfl, _⟩ := h
    rfl
  · obtain ⟨a, ns, rfl, ha, hn, q⟩ := h
    have hu : (A.deeper (envOfC "law" (defScope sLaw) s.heap.objs.size f cdv)).units + 64 < cLine := by
      have := hr.un
      omega
    have hr1 := hr.mono (show 1 ≤ 14 by decide)
    have hr2 := hr.mono (show 2 ≤ 14 by decide)
    have hr6 := hr.mono (show 6 ≤ 14 by decide)
    have hr7 := hr.mono (show 7 ≤ 14 by decide)
    have hr8 := hr.mono (show 8 ≤ 14 by decide)
    have hr9 := hr.mono (show 9 ≤ 14 by decide)
    have hr11 := hr.mono (show 11 ≤ 14 by decide)
    have hr12 := hr.mono (show 12 ≤ 14 by decide)
    have hr13 := hr.mono (show 13 ≤ 14 by decide)
    refine ⟨_, (pss_cons (ps_for (passes_of rfl) rfl (pi_range1 rfl mG (pa_cons (pe_callB (call_max2 rfl) rfl mMax (by decide +kernel) (pa_cons pe_int (pa_cons (pe_callB (call_min2 rfl) rfl mMin (by decide +kernel) (pa_cons pe_int (pa_cons (pe_callB call_len rfl mL PySem.boot_len (pa_cons (pv 0) pa_nil)) pa_nil))) pa_nil))) pa_nil)) (pg_name (i := 1) scLaw.nd rfl (Or.inl rfl))
      (pss_cons (ps_set (i := 2) scLaw.nd rfl (Or.inl rfl) (pe_call BB.ok hr1 rfl BB.g BB.k BB.b .nil pass0 (pa_cons (pe_call BC.ok hr1 rfl BC.g BC.k BC.b .nil pass0 (pa_cons (pv 0) (pa_cons (pv 1) pa_nil))) pa_nil)))
      (pss_cons (ps_set (i := 3) scLaw.nd rfl (Or.inl rfl) (pe_call LC.ok hr6 rfl LC.g LC.k LC.b .nil passL (pa_cons (pv 2) (pa_cons pe_int (pa_cons pe_int pa_nil)))))
      (pss_cons (ps_setLc (i := 4) (own := [("_law_cue", 13)]) (g := gName 13) (te := tCall spLln [] E0 (tCons (tVar 13) tNil)) (by rfl) scLaw.nd rfl rfl (sw_true rfl rfl rfl (by decide +kernel)) (pi_list (pv 3)) (blkOk_by (own := [("_law_cue", 13)]) (N := ["_law_script", "_law_k", "_law_box_here", "_law_cues_here", "_law_lines", "_law_sheet", "_law_turn", "_law_some", "_law_lap", "_law_line_here", "_law_due_here", "_law_found", "_law_thing", "_law_cue"]) (sc := defScope sLaw) (by decide +kernel)) (fun _ _ _ _ _ => (pg_name (i := 13) scLaw.nd rfl (Or.inl rfl))) (fun _ _ _ _ _ => pts_nil) (fun _ _ _ _ _ => (pe_call LN.ok hr1 rfl LN.g LN.k LN.b .nil passL (pa_cons (pv 13) pa_nil))))
      (pss_cons (ps_set (i := 5) scLaw.nd rfl (Or.inl rfl) (pe_make MKS SI hr11 rfl M.g bS .nil passL (pa_cons (pe_call PA.ok hr6 rfl PA.g PA.k PA.b .nil passL (pa_cons (pv 3) pa_nil)) pa_nil)))
      (pss_cons (ps_if (PW.pt (pw_or (pt_cmpR op_ne (pe_call ST.ok hr8 rfl ST.g ST.k ST.b .nil passL (pa_cons (pv 5) pa_nil)) (pe_join pe_str (pv 4)) (nomark _)) (pw_or1 (pt_cmp (Fn.pe_neX EQS.at_ EQS.fn EQS.ne EQS.ob EQS.ok hr7 EQS.b passS (pe_call SO.ok hr12 rfl SO.g SO.k SO.b .nil passL (pa_cons (pe_join pe_str (pv 4)) pa_nil)) (pv 5)))))) (pss_one (ps_ret pe_bl)) pss_nil)
      (pss_imp (S := sLw1 K) (pss_cons (ps_for (passes_of rfl) rfl (pi_range1 rfl mG (pa_cons pe_int pa_nil)) (pg_name (i := 6) scLaw.nd rfl (Or.inl rfl))
      (pss_cons (ps_set (i := 7) scLaw.nd rfl (Or.inl rfl) (pv 4))
      (pss_cons (ps_for (passes_of rfl) rfl (pi_range1 rfl mG (pa_cons (pe_op op_add pe_int (pe_call GT.ok hr1 rfl GT.g GT.k GT.b .nil pass0 (pa_cons (pv 2) (pa_cons pe_int pa_nil)))) pa_nil)) (pg_name (i := 8) scLaw.nd rfl (Or.inl rfl))
      (pss_one (ps_set (i := 7) scLaw.nd rfl (Or.inl rfl) (pe_ifExp (pt_cmpR (Fk.op_neNil hu) (pv 7) (pe_lst pa_nil) (nomark _)) (pe_call BE.ok hr2 rfl BE.g BE.k BE.b .nil passL (pa_cons (pv 2) (pa_cons (pv 7) pa_nil))) (pv 7)))))
      (pss_imp (S := sLw3 K) (pss_cons (ps_set (i := 9) scLaw.nd rfl (Or.inl rfl) (pe_join pe_str (pv 7)))
      (pss_cons (ps_set (i := 10) scLaw.nd rfl (Or.inl rfl) (pe_ifExp (pt_cmpR op_ne (pv 9) pe_str (nomark _)) (pe_call DU.ok hr6 rfl DU.g DU.k DU.b .nil passL (pa_cons (pe_split (pv 9) pe_str) pa_nil)) (pe_lst (pa_cons pe_str (pa_cons (pe_lst pa_nil) pa_nil)))))
      (pss_imp (S := sLw4 K) (pss_cons (ps_set (i := 11) scLaw.nd rfl (Or.inl rfl) (pe_call TL.ok hr13 rfl TL.g TL.k TL.b .nil passL (pa_cons (pv 9) pa_nil)))
      (pss_cons (ps_if (pt_cmpR op_ne (pe_callB (Fg.call_reprD hS G hu) rfl mR boot_repr (pa_cons (pv 11) pa_nil)) (pe_callB (Fg.call_reprD hS G hu) rfl mR boot_repr (pa_cons (pv 10) pa_nil)) (nomark _)) (pss_one (ps_ret pe_bl)) pss_nil)
      (pss_one (ps_if (PW.pt (pw_and (pt_cmpR op_eq (pe_ix ix_list (pv 10) pe_int (fun _ _ => rfl)) pe_str (nomark _)) (pw_and1 (pt_cmp (Fn.pe_neX EQS.at_ EQS.fn EQS.ne EQS.ob EQS.ok hr7 EQS.b passS (pe_call SO.ok hr12 rfl SO.g SO.k SO.b .nil passL (pa_cons (pe_call ST.ok hr8 rfl ST.g ST.k ST.b .nil passL (pa_cons (pe_call SO.ok hr12 rfl SO.g SO.k SO.b .nil passL (pa_cons (pv 9) pa_nil)) pa_nil)) pa_nil)) (pe_call SO.ok hr12 rfl SO.g SO.k SO.b .nil passL (pa_cons (pv 9) pa_nil))))))) (pss_one (ps_ret pe_bl)) pss_nil)))) ?c4))) ?c3))))
      (pss_imp (S := sLw2 K) (pss_one (ps_for (passes_of rfl) rfl (pi_list (pe_lst (pa_cons pe_non (pa_cons pe_int (pa_cons pe_bl (pa_cons (pv 4) (pa_cons pe_dnewK (pa_cons (pv 5) pa_nil)))))))) (pg_name (i := 12) scLaw.nd rfl (Or.inl rfl))
      (pss_one (ps_if (PW.pt (pw_or (pt_cmpR (Fe.op_neG monSm eqG_sm hr1) (pe_call TL.ok hr13 rfl TL.g TL.k TL.b .nil passL (pa_cons (pv 12) pa_nil)) (pe_lst (pa_cons pe_str (pa_cons (pv 12) pa_nil))) (nomark _)) (pw_or1 (PW.pt (pw_and (pt_not (pt_val (pe_isi T.isi (pv 12) (pe_glob (v := .ref (CS K)) rfl M.g rfl)))) (pw_and1 (pt_not (pt_val (Fg.pe_callG G NO.ok hr9 rfl NO.g NO.k NO.b passS (pa_cons (pv 12) pa_nil)))))))))) (pss_one (ps_ret pe_bl)) pss_nil)))) ?c2)) ?c1)))))))
      (pss_one (ps_ret (pe_and (pe_cmpR (op_eqD hu) (pe_call TL.ok hr13 rfl TL.g TL.k TL.b .nil passL (pa_cons pe_str pa_nil)) (pe_lst (pa_cons pe_str (pa_cons pe_int pa_nil))) (nomark _)) (pe_one (pe_cmpR op_eq (pe_call ST.ok hr8 rfl ST.g ST.k ST.b .nil passL (pa_cons (pe_make MKS SI hr11 rfl M.g bS .nil passL (pa_cons (pe_lst pa_nil) pa_nil)) pa_nil)) pe_str (nomark _))))))), ?_⟩
    case c4 =>
      rintro D σ H1 ⟨a, kk, p, l, la, o, v6, v7, v8, Z, r, v11, v12, rfl, zl, n14, av, kn⟩
      refine ⟨_, rfl, .str Z, rfl, .inr ⟨Z, rfl, zl, n14, fun r2 H2 s2 av2 r20 => ?_⟩⟩
      obtain ⟨d, sv1, sv2, k1, k2, k3⟩ := ans_two av2 (av.same s2) (ansL_ok (by omega))
      refine ⟨_, rfl, r2, d, rfl, sv1, k1, k2, k3, _, rfl, r, d, rfl, sv2, k1, k2, k3, rfl, _, rfl, if_false_of (by rw [decide_eq_true rfl]; rfl) ?_⟩
      obtain ⟨v, er⟩ := ansV_tag (av.same s2)
      refine ⟨_, rfl, r, _, 0, _, rfl, rfl, SqL.of er, rfl, rfl, _, rfl, ?_⟩
      by_cases ct : tagOf (ansL (linesOf Z)) = "cues"
      rotate_left
      · exact if_false_of (decide_eq_false fun e => ct (V.str.inj e)) (iteF (kn _ _ s2))
      obtain ⟨cs, ecs⟩ := tag_cues ct
      obtain ⟨b, tl, r8, _⟩ := ansL_cues ecs
      have wq := cs_good (ls := linesOf Z)
      have cle := cs_le (linesOf Z)
      refine if_true_of (decide_eq_true (congrArg V.str ct)) ?_
      refine ⟨_, rfl, .str Z, rfl, .inr ⟨Z, rfl, by omega, n14, sof_ok b tl r8 fun o1 H3 g1 s3 sh1 ev1 => ?_⟩⟩
      have pc1 := wr_pc sh1 (by rw [ev1]; exact wq)
      have n1 : g1.length ≤ 14 := by
        have := congrArg List.length ev1
        rw [List.length_map] at this
        omega
      have wr : Wrt (Str.join NL (g1.map lnC)) (g1.map cv) := wrt_cu pc1 n1
      refine ⟨.ref o1, rfl, .inr ⟨o1, 20, _, g1, rfl, sh1, pc1, n1, fun H4 s4 => ?_⟩⟩
      have wl := wr.len
      have wc : csOf (linesOf (Str.join NL (g1.map lnC))) = csOf (linesOf Z) := wr.cs.trans ev1
      refine ⟨.str _, rfl, .inr ⟨_, rfl, by omega, wr.n, sof_ok wr.bad (by rw [wc]; exact tl) (by rw [wc]; exact r8) fun o2 H5 g2 s5 sh2 ev2 => ?_⟩⟩
      refine ⟨_, rfl, .str Z, rfl, .inr ⟨Z, rfl, by omega, n14, sof_ok b tl r8 fun o3 H6 g3 s6 sh3 ev3 => ?_⟩⟩
      have sh2' := sh2.same s6
      obtain ⟨dz, _, _, _, _, hox, _⟩ := id sh2'
      obtain ⟨dy, _, _, _, _, hoy, _⟩ := id sh3
      refine ⟨o2, dz, _, rfl, hox, .inl ⟨o3, dy, _, rfl, hoy⟩, o2, 20, _, g2, _, rfl, sh2', .inl ⟨o3, 20, _, g3, rfl, sh3, fun H7 s7 => ⟨_, rfl, _, rfl, ?_⟩⟩⟩
      rw [ev2, ev3, wc]
      refine if_false_of (by rw [decide_eq_true rfl]; rfl) ?_
      exact kn _ _ (s2.trans (s3.trans (s4.trans (s5.trans (s6.trans s7)))))
    case c3 =>
      rintro D σ H1 ⟨a, kk, p, l, la, o, v6, q, v8, v9, v10, v11, v12, ys, rfl, ⟨hq, yo⟩, y9, kn⟩
      have j1 := join_le NL (by decide +kernel) ys
      have j2 := sum_le (zs := ys) (m := 84) fun z hz => (yo z hz).1
      have sm : (ys.map fun x => x.length).sum + ys.length * ("\n" : Str).length ≤ 16777216 := by
        rw [show ("\n" : Str).length = 1 by decide +kernel]
        have e : jl ys = (ys.map Str.length).sum + ys.length := rfl
        have e2 : (ys.map fun x => x.length).sum = (ys.map Str.length).sum := rfl
        rw [e2]
        omega
      refine ⟨⟨_, rfl⟩, _, rfl, "\n", q, ys, rfl, rfl, .inl (SqL.of hq), sm, ?_⟩
      rw [join_eq]
      obtain ⟨Z, hZ⟩ : ∃ Z, Z = Str.join NL ys := ⟨_, rfl⟩
      rw [show Str.join "\n" ys = Z from hZ.symm]
      have zl : Z.length ≤ 900 := by rw [hZ]; omega
      have sp : Z ≠ "" → Txt.split Z NL = ys := fun h => by
        rw [hZ] at h ⊢
        exact split_ys (fun z hz => (yo z hz).2) h
      refine ⟨_, rfl, rfl, _, rfl, ?_⟩
      by_cases c : Z = ""
      · have el : linesOf Z = [] := by
          unfold linesOf
          rw [if_pos c]
        refine if_false_of (by rw [decide_eq_true (congrArg V.str c)]; rfl) ⟨by show 0 ≤ sizeLine; decide, fun f hf => ⟨by show 2 ≤ sizeLine; decide, fun r hr' => ?_⟩⟩
        have s2 := Same.upd (o := .lst []) hf
        have e2 : upd H1 f (.lst []) f = some (.lst []) := upd_same
        generalize upd H1 f (.lst []) = H2 at s2 e2 hr' ⊢
        have s3 := Same.upd (o := .lst [.str "cues", .ref f]) hr'
        refine ⟨a, kk, p, l, la, o, v6, _, v8, Z, r, v11, v12, rfl, zl, by rw [el]; decide, ?_, fun v11 H'' s'' => kn _ _ _ _ (s2.trans (s3.trans s''))⟩
        rw [el, ansL_nil]
        exact ⟨f, [], 20, upd_same, ⟨s3 _ _ e2, (fun g hg => by cases hg), by decide⟩, by decide, rfl⟩
      · have el : linesOf Z = Txt.split Z NL := by
          unfold linesOf
          rw [if_neg c]
        have ey := sp c
        refine if_true_of (by rw [decide_eq_false fun e => c (V.str.inj e)]; rfl) ⟨_, rfl, ⟨_, rfl⟩, Z, "\n", rfl, rfl, by decide +kernel, Nat.le_trans (show Z.length + 2 ≤ 2000 by omega) (by decide), fun wa hwa => ?_⟩
        have s2 := Same.upd (o := .lst ((Txt.split Z "\n").map V.str)) hwa
        refine ⟨wa, Txt.split Z "\n", rfl, upd_same, ?_, ?_, fun r H3 s3 av => ?_⟩
        · rw [show Txt.split Z "\n" = ys from ey]; omega
        · rw [show Txt.split Z "\n" = ys from ey]
          exact fun z hz => by have := (yo z hz).1; omega
        · refine ⟨a, kk, p, l, la, o, v6, _, v8, Z, r, v11, v12, rfl, zl, by rw [el, ey]; omega, ?_, fun v11 H'' s'' => kn _ _ _ _ (s2.trans (s3.trans s''))⟩
          rw [el]
          exact av
    case c2 =>
      rintro D σ H1 ⟨a, kk, p, l, la, o, gs, cs, m, v6, v7, v8, v9, v10, v11, v12, rfl, e, kn⟩
      refine ⟨_, rfl, fun d hd => ⟨_, rfl, by show 6 ≤ sizeLine; decide, fun q hq => ?_⟩⟩
      have s2 := Same.upd (o := .dK []) hd
      have e2 : upd H1 d (.dK []) d = some (.dK []) := upd_same
      generalize upd H1 d (.dK []) = H2 at s2 e2 hq ⊢
      have s3 := Same.upd (o := .lst [.non, .int 3, .bl true, .ref la, .ref d, .ref o]) hq
      have e3 : upd H2 q (.lst [.non, .int 3, .bl true, .ref la, .ref d, .ref o]) q = some (.lst [.non, .int 3, .bl true, .ref la, .ref d, .ref o]) := upd_same
      have e23 := s3 _ _ e2
      generalize upd H2 q (.lst [.non, .int 3, .bl true, .ref la, .ref d, .ref o]) = H3 at s3 e3 e23 ⊢
      have E3 := e.same (s2.trans s3)
      obtain ⟨H0, sh⟩ := E3.sh
      have pcL := lc_pc E3.lc E3.gd.wr
      have n7 := E3.n7
      have th := things35 T M ca cm kSt kTS E3.ll (fun z hz => by
        obtain ⟨g, hg, rfl⟩ := List.mem_map.mp hz
        exact ⟨strOk_ln (pcL g hg), Nat.le_trans (ln_len (pcL g hg)) (by decide)⟩) (by rw [List.length_map]; omega) e23 sh
      refine ⟨q, rfl, ⟨_, SqL.of e3⟩, ?_⟩
      refine for_list (K := K) (a := q) (xs := [.non, .int 3, .bl true, .ref la, .ref d, .ref o]) (fun i σ H' => ∃ w12, σ = SLw a kk p l la o v6 v7 v8 v9 v10 v11 w12 ∧ Same H3 H') ⟨_, rfl, Same.refl _⟩ (fun i σ H' _ ⟨_, _, s⟩ => SqL.of (s _ _ e3)) ?_ ?_
      · rintro i x σ H4 hx ⟨w12, rfl, s4⟩
        have thx := (th x (List.mem_of_getElem? hx)).same s4
        refine ⟨_, rfl, x, rfl, .inl ⟨thx.tx (Same.refl _), fun r H5 s5 er r0 => ?_⟩⟩
        refine ⟨_, rfl, by show 2 ≤ sizeLine; decide, fun r2 hr2 => ?_⟩
        have s6 := Same.upd (o := .lst [.str "string", x]) hr2
        have e6 : upd H5 r2 (.lst [.str "string", x]) r2 = some (.lst [.str "string", x]) := upd_same
        generalize upd H5 r2 (.lst [.str "string", x]) = H6 at s6 e6 ⊢
        refine ⟨⟨r, r2, _, _, rfl, rfl, s6 _ _ er, e6, Prs.cons (.inl ⟨rfl, rfl, by decide +kernel⟩) (Prs.cons thx.sm Prs.nil)⟩, fun H7 s7 => ⟨_, rfl, if_false_of rfl ?_⟩⟩
        have s47 : Same H4 H7 := s5.trans (s6.trans s7)
        have th7 := thx.same s47
        rcases th7.is with ⟨o', mm, H00, gs', rfl, sh'⟩ | g
        · obtain ⟨dx, c, r', dd, rs, ho, inn⟩ := sh'
          refine ⟨_, rfl, _, _, _, _, true, rfl, .own _, .base (.ins ho M.cl ca T.cn T.ct cm), kSS, _, rfl, iteF ?_⟩
          exact iteF ⟨_, rfl, s4.trans s47⟩
        · obtain ⟨⟨Ty, ty, kt⟩, z, rv⟩ := g (Same.refl _)
          refine ⟨_, rfl, _, _, _, _, false, rfl, .own _, ty, kt, _, rfl, iteT ?_⟩
          refine ⟨_, rfl, x, z, rfl, ⟨Ty, ty, kt⟩, rv, fun H8 s8 => ⟨_, rfl, iteF ?_⟩⟩
          exact ⟨_, rfl, s4.trans (s47.trans s8)⟩
      · rintro σ H4 ⟨w12, rfl, s4⟩
        exact kn _ _ (Kp.same (s2.trans (s3.trans s4)))
    case c1 =>
      rintro D σ H1 ⟨a, kk, p, l, la, o, gs, cs, m, v6, v7, v8, v9, v10, v11, v12, rfl, e, hm, kn⟩
      refine ⟨8, rfl, by decide, by decide, ?_⟩
      refine for_range (lo := 0) (n := 8) (fun i σ H' => ∃ v6 v7 v8 v9 v10 v11 v12 : Option V, σ = SLw a kk p l la o v6 v7 v8 v9 v10 v11 v12 ∧ Kp p H1 H' ∧ Box H' p (m + i * 20)) ⟨_, _, _, _, _, _, _, rfl, Kp.refl p H1, e.bx.mono (by omega)⟩ ?_ ?_
      · rintro i σ H2 hi ⟨v6, v7, v8, v9, v10, v11, v12, rfl, k2, b2⟩
        have E2 := e.kp k2 b2
        refine ⟨_, rfl, ?_⟩
        refine ⟨_, rfl, p, 2, _, rfl, b2, by omega, by decide, by decide, fun z H3 y3 x3 B3 k3 => ⟨_, _, rfl, rfl, _, rfl, ?_, ?_, ?_⟩⟩
        · omega
        · omega
        have E3 := E2.kp (Kp.but k3) B3
        have pcL := lc_pc E3.lc E3.gd.wr
        have n7 := E3.n7
        refine for_range (lo := 0) (n := (1 + z).toNat) (fun j σ H' => ∃ (q : Addr) (ys : List Str) (v8 : Option V), σ = SLw a kk p l la o (some (.int (0 + (i : Int)))) (some (.ref q)) v8 v9 v10 v11 v12 ∧ Kp p H3 H' ∧ Box H' p (m + i * 20 + 1 + 8 * j) ∧ LsS H' q (44 + 20 * j) ys ∧ ys.length ≤ 7 + j ∧ q ≠ p) ⟨la, cs.map lnL, _, rfl, Kp.refl p H3, B3, ⟨E3.ll, fun y hy => ?_⟩, by rw [List.length_map]; omega, E3.lap⟩ ?_ ?_
        · obtain ⟨g, hg, rfl⟩ := List.mem_map.mp hy
          exact ⟨ln_len (pcL g hg), ln_free (pcL g hg)⟩
        · rintro j σ H4 hj ⟨q, ys, w8, rfl, k4, b4, ⟨hq, yo⟩, yl, qp⟩
          have hj2 : j < 2 := by omega
          refine ⟨_, rfl, by show 0 ≤ sizeLine; decide, fun le hle => ?_⟩
          have s5 := Same.upd (o := .lst []) hle
          have e5 : upd H4 le (.lst []) le = some (.lst []) := upd_same
          have b5 := b4.sm s5
          have k5 := k4.trans (Kp.same s5)
          have hq5 := s5 _ _ hq
          generalize upd H4 le (.lst []) = H5 at s5 e5 b5 k5 hq5 ⊢
          refine ⟨q, le, _, rfl, rfl, SqL.of hq5, SqL.of e5, _, rfl, ?_⟩
          by_cases c : ys = []
          · refine if_false_of (by rw [c]; rfl) ⟨_, rfl, q, ys, _, rfl, k5, b5.mono (by omega), ⟨hq5, fun y hy => (yo y hy).mono (by omega)⟩, by omega, qp⟩
          · refine if_true_of (by cases ys with | nil => exact absurd rfl c | cons _ _ => rfl) ?_
            refine ⟨_, rfl, _, rfl, p, q, _, _, ys, rfl, b5, by omega, ⟨hq5, yo⟩, qp, c, by omega, by omega, fun r ys' H6 k6 b6 ls6 l6 rp r0 => ?_⟩
            exact ⟨r, ys', _, rfl, k5.trans k6, b6.mono (by omega), ⟨ls6.1, fun y hy => (ls6.2 y hy).mono (by omega)⟩, by omega, rp⟩
        · rintro σ H4 ⟨q, ys, w8, rfl, k4, b4, ⟨hq, yo⟩, yl, qp⟩
          refine ⟨a, kk, p, l, la, o, _, q, _, _, _, _, _, ys, rfl, ⟨hq, fun y hy => (yo y hy).mono (by omega)⟩, by omega, fun v9 v10 v11 H'' s'' => ?_⟩
          exact ⟨_, _, _, _, _, _, _, rfl, k2.trans ((Kp.but k3).trans (k4.trans (Kp.same s''))), (b4.sm s'').mono (by omega)⟩
      · rintro σ H2 ⟨v6, v7, v8, v9, v10, v11, v12, rfl, k2, b2⟩
        exact ⟨a, kk, p, l, la, o, gs, cs, _, _, _, _, _, _, _, _, rfl, e.kp k2 b2, fun v12 H'' k'' => kn _ _ _ _ _ _ _ _ (k2.trans k'')⟩
    refine ⟨_, rfl, _, (ns.map V.int).length, rfl, .inl ⟨_, ha, rfl⟩, _, _, rfl, _, _, rfl, _, rfl, ?_, ?_, ?_⟩
    · split <;> (try split) <;> omega
    · split <;> (try split) <;> omega
    refine for_range (lo := 0) (n := Int.toNat (if (if ((ns.map V.int).length : Int) < 6 then ((ns.map V.int).length : Int) else 6) > 2 then (if ((ns.map V.int).length : Int) < 6 then ((ns.map V.int).length : Int) else 6) else 2)) (fun i σ H' => Same H H' ∧ ∃ v1 v2 v3 v4 v5 v6 v7 v8 v9 v10 v11 v12 : Option V, σ = [some (.ref a), v1, v2, v3, v4, v5, v6, v7, v8, v9, v10, v11, v12, none]) ⟨Same.refl _, _, _, _, _, _, _, _, _, _, _, _, _, rfl⟩ ?_ ?_
    rotate_left
    · rintro σ H1 ⟨s1, v1, v2, v3, v4, v5, v6, v7, v8, v9, v10, v11, v12, rfl⟩
      have el : linesOf "\n" = ([("" : Str), ""] : List Str) := by decide +kernel
      have q0 : lineQ "" = none := by
        have : (lineQ "").isNone = true := by decide +kernel
        exact Option.isNone_iff_eq_none.mp this
      have ea : ansL (linesOf "\n") = .err "line" (.int 0) := by
        rw [el]
        unfold ansL
        rw [bad_at (i := 0) (l := "") (gd_zero _) rfl q0]
        rfl
      refine ⟨.str "\n", rfl, .inr ⟨"\n", rfl, by decide +kernel, by rw [el]; decide, fun r H2 s2 av r0 => ?_⟩⟩
      rw [ea] at av
      have er : H2 r = some (.lst [.str "line", .int 0]) := av
      refine ⟨by show 2 ≤ sizeLine; decide, fun r2 hr2 => ?_⟩
      have s3 := Same.upd (o := .lst [.str "line", .int 0]) hr2
      have e3 : upd H2 r2 (.lst [.str "line", .int 0]) r2 = some (.lst [.str "line", .int 0]) := upd_same
      have er3 := s3 _ _ er
      generalize upd H2 r2 (.lst [.str "line", .int 0]) = H3 at s3 e3 er3 ⊢
      refine ⟨.list [.str "line", .int 0], .list [.str "line", .int 0], .lst (SqL.of er3) (.cons (.str _) (.cons (.int _) .nil)), .lst (SqL.of e3) (.cons (.str _) (.cons (.int _) .nil)), by decide +kernel, by decide +kernel, ?_⟩
      refine ⟨true, rfl, iteT ?_⟩
      refine ⟨by show 0 ≤ sizeLine; decide, fun l2 hl2 => ?_⟩
      have s4 := Same.upd (o := .lst []) hl2
      have x4 : upd H3 l2 (.lst []) l2 = some (.lst []) := upd_same
      generalize upd H3 l2 (.lst []) = H4 at s4 x4 ⊢
      have g0 : GoodS [] := ⟨fun i c e => (by cases e), fun c hc => (by cases hc)⟩
      refine fun o3 dx hx hdx hne => ?_
      refine make_any (mm := 1) (cs := []) (.inl x4) rfl (fun i c e => by cases e) g0.ok (by decide) (by decide) (by decide) hx hdx hne (mkP_good g0 (by decide +kernel) fun H5 gs3 s5 sh5 ev5 => ⟨rfl, ?_⟩)
      have gl3 : gs3 = [] := List.map_eq_nil_iff.mp ev5
      subst gl3
      refine ⟨.ref o3, rfl, .inr ⟨o3, 1, _, [], rfl, sh5, (fun g hg => by cases hg), by decide, fun H6 s6 => ?_⟩⟩
      rw [List.map_nil, join_nil]
      exact ⟨rfl, q H6⟩
    rintro j σ H1 hj0 ⟨s1, v1, v2, v3, v4, v5, v6, v7, v8, v9, v10, v11, v12, rfl⟩
    have hj : j < 6 := by
      revert hj0
      split <;> (try split) <;> omega
    rw [Int.zero_add]
    refine ⟨_, rfl, _, rfl, a, ns, j, rfl, ha.ext s1, by omega, fun c => ⟨c, rfl, fun p H2 hp1 hk2 hb2 => ?_⟩⟩
    refine ⟨_, rfl, p, 0, 8, 7, rfl, hb2, by decide, by decide, by decide, by decide, fun l cs st H3 k3 b3 lc3 n7 gd r8 hst hnm l0 => ?_⟩
    have lp : l ≠ p := (hb2.ne l0).symm
    have pcL := lc_pc lc3 gd.wr
    have sall : ∀ J, Kp p H2 J → Same H J := fun J kJ q' o' hq => by
      have h1 := s1 _ _ hq
      have qp : q' ≠ p := fun e => by
        rw [e, hp1] at h1
        cases h1
      exact kJ _ _ qp ((hk2 q' qp).trans h1)
    -- the lines
    refine ⟨_, rfl, l, rfl, ⟨_, SqL.of lc3.l⟩, fun D hD => ?_⟩
    refine lc_list (K := K) (a := l) (xs := cs.map fun g => V.ref g.q) (fun i H' => Same H3 H' ∧ H' D = some (.lst ((cs.take i).map fun g => V.str (lnL g)))) ⟨Same.upd hD, upd_same⟩ (fun i H' _ ⟨s, _⟩ => SqL.of (s _ _ lc3.l)) ?_ ?_
    · rintro i x H4 hx ⟨s4, e4⟩
      obtain ⟨g, eg, rfl⟩ := map_at hx
      have hi := (List.getElem?_eq_some_iff.mp eg).1
      have hg := List.mem_of_getElem? eg
      refine ⟨rfl, _, rfl, g, 20, rfl, (lc3.ok g hg).kt (KT.of s4), pcL g hg, fun H5 s5 => ?_⟩
      refine ⟨_, s5 _ _ e4, ?_, same_put (s4.trans s5) hD, ?_⟩
      · rw [List.length_map, List.length_take]
        exact Nat.lt_of_lt_of_le (show min i cs.length < 100 by omega) (by decide)
      · rw [upd_same, List.take_add_one, eg, List.map_append]
        rfl
    rintro H4 ⟨s4, e4⟩
    rw [List.length_map, List.take_length] at e4
    have e4 : H4 D = some (.lst ((cs.map lnL).map V.str)) := by rw [List.map_map]; exact e4
    have Dp_ : D ≠ p := (b3.ne hD).symm
    have k4 := k3.trans (Kp.same s4)
    have b4 := b3.sm s4
    have lc4 := lc3.same s4
    -- the sheet
    refine ⟨_, rfl, l, cs, 20, rfl, lc4, by decide, by decide, fun r xs H5 s5 hr' xl xi r0 => ?_⟩
    refine fun o dx hx hdx hne => ?_
    refine make_any (mm := 20) (cs := cs.map lcv) (.inl hr') (by rw [List.length_map, List.length_map, xl]) xi gd.s.ok (by rw [List.length_map]; omega) (by decide) (by decide) hx hdx hne (mkP_good gd.s r8 fun H6 gs s6 sh6 ev6 => ⟨rfl, ?_⟩)
    have s56 := s5.trans s6
    have E6 : LwE K H6 p l D o gs cs (0 + 200) := ⟨b4.sm s56, lc4.same s56, lp, s56 _ _ e4, Dp_, gd, ⟨_, sh6⟩, ev6, r8, n7⟩
    have k6 := k4.trans (Kp.same s56)
    have pc6 := E6.pc
    have n6 := E6.n
    -- its text
    refine ⟨_, rfl, _, rfl, .inr ⟨o, 20, _, gs, rfl, sh6, pc6, by omega, fun H7 s7 => ?_⟩⟩
    have E7 := E6.same s7
    have wr : Wrt (Str.join NL (cs.map lnL)) (cs.map lcv) := wrt_lc pcL (by omega)
    have els : gs.map lnC = cs.map lnL := lines_same (sh_red sh6) (fun g hg => (lc3.ok g hg).2.1.rd) ev6
    have sm : ((cs.map lnL).map fun x => x.length).sum + (cs.map lnL).length * ("\n" : Str).length ≤ 16777216 := by
      rw [show ("\n" : Str).length = 1 by decide +kernel]
      have j2 := sum_le (zs := cs.map lnL) (m := 44) fun z hz => by
        obtain ⟨g, hg, rfl⟩ := List.mem_map.mp hz
        exact ln_len (pcL g hg)
      rw [List.length_map] at j2
      have e : jl (cs.map lnL) = ((cs.map lnL).map Str.length).sum + (cs.map lnL).length := rfl
      have e2 : ((cs.map lnL).map fun x => x.length).sum = ((cs.map lnL).map Str.length).sum := rfl
      rw [e2]
      omega
    refine ⟨⟨_, rfl⟩, _, rfl, "\n", D, cs.map lnL, rfl, rfl, .inl (SqL.of E7.ll), sm, rfl, _, rfl, ?_⟩
    rw [els, join_eq]
    refine if_false_of (by rw [decide_eq_true rfl]; rfl) ?_
    -- read again
    refine ⟨⟨_, rfl⟩, _, rfl, "\n", D, cs.map lnL, rfl, rfl, .inl (SqL.of E7.ll), sm, ?_⟩
    rw [join_eq]
    have wl : (Str.join "\n" (cs.map lnL)).length ≤ 700 := wr.len
    have tn : M34.told isName [] (csOf (linesOf (Str.join NL (cs.map lnL)))) = none := by
      rw [wr.cs]
      exact M34.told_of gd.1 fun c hc => (gd.2 c hc).1
    refine ⟨.str _, rfl, .inr ⟨_, rfl, by omega, wr.n, sof_ok wr.bad tn (by rw [wr.cs]; exact r8) fun o2 H8 g2 s8 sh8 ev8 => ?_⟩⟩
    have E8 := E7.same s8
    obtain ⟨H08, sh8o⟩ := E8.sh
    obtain ⟨dz, _, _, _, _, hox, _⟩ := id sh8
    obtain ⟨dy, _, _, _, _, hoy, _⟩ := id sh8o
    refine ⟨_, rfl, o2, dz, _, rfl, hox, .inl ⟨o, dy, _, rfl, hoy⟩, o2, 20, _, g2, _, rfl, sh8, .inl ⟨o, 20, H08, gs, rfl, sh8o, fun H9 s9 => ⟨_, rfl, _, rfl, ?_⟩⟩⟩
    rw [ev8, wr.cs, ev6]
    refine if_false_of (by rw [decide_eq_true rfl]; rfl) ?_
    have E9 := E8.same s9
    refine ⟨a, _, p, l, D, o, gs, cs, _, v6, v7, v8, v9, v10, v11, v12, rfl, E9, by decide, fun w6 w7 w8 w9 w10 w11 w12 H'' k'' => ?_⟩
    exact ⟨sall _ (k6.trans ((Kp.same (s7.trans (s8.trans s9))).trans k'')), _, _, _, _, _, _, _, _, _, _, _, _, rfl⟩
end
end K35
set_option Elab.async false
set_option linter.all false
set_option maxRecDepth 100000
set_option maxHeartbeats 0
set_option exponentiation.threshold 100000
namespace K35
open PySem PySem.Spec PyProof.Rows L2 Fa Fb
theorem strsB_ok : ∀ (us : List Value) (zs : List Str), strsB us zs = true → Vals (zs.map V.str) us
  | [], [], _ => .nil
  | .str x t :: l, z :: r, h => by
    obtain ⟨a, b⟩ := He.ba h
    have e := of_decide_eq_true a
    subst e
    exact .cons ⟨t, rfl⟩ (strsB_ok l r b)
theorem tupB_of {K : PySem.W.Frag} {a : Addr} {zs : List Str} (h : tupB K a zs = true) (H : Hp) : SqT K H a (zs.map V.str) := by
  unfold tupB at h
  split at h
  · rename_i t d its n sl e
    obtain ⟨h1, h⟩ := He.ba h
    obtain ⟨h2, h3⟩ := He.ba h
    have e1 := of_decide_eq_true h1
    subst e1
    exact .inr ⟨_, its, n, e, rfl, rfl, of_decide_eq_true h2, strsB_ok _ _ h3⟩
  · cases h
theorem prB_of {K : PySem.W.Frag} {f : Str} (h : prB K f = true) : PropOf K (CA K) f (pa K f) (ga2 K f) := by
  obtain ⟨h1, h⟩ := He.ba h
  obtain ⟨h2, h⟩ := He.ba h
  obtain ⟨h3, h4⟩ := He.ba h
  refine ⟨He.eqO_ok h1, He.eqO_ok h2, of_decide_eq_true h3, ?_⟩
  have h5 : (match PySem.W.recIn K (pa K f) "property" with
  | some (.ref g :: _) => decide (g = ga2 K f)
  | _ => false) = true := h4
  split at h5
  · rename_i g r e
    exact ⟨r, by rw [e, of_decide_eq_true h5]⟩
  · cases h5
theorem sysB_of {K : PySem.W.Frag} (h : sysB K = true) : Fg.SysD K := by
  unfold sysB at h
  split at h
  · rename_i c dd es ep sl e
    exact ⟨c, dd, es, ep, sl, e⟩
  · cases h
theorem meB_of {K : PySem.W.Frag} {m : Str} (h : meB K m = true) : Meth K (CA K) m (He.ma K (CA K) m) := by
  obtain ⟨h1, h⟩ := He.ba h
  obtain ⟨h2, h3⟩ := He.ba h
  exact ⟨He.eqO_ok h1, h2, h3⟩
theorem nm_most : Xb.Nm "most" := ⟨rfl, rfl, rfl, rfl, by decide, by decide, by decide, fun _ _ _ _ _ _ _ _ _ _ _ _ _ => rfl⟩
theorem nm_index : Xb.Nm "index" := ⟨rfl, rfl, rfl, rfl, by decide, by decide, by decide, fun _ _ _ _ _ _ _ _ _ _ _ _ _ => rfl⟩
theorem nm_label : Xb.Nm "label" := ⟨rfl, rfl, rfl, rfl, by decide, by decide, by decide, fun _ _ _ _ _ _ _ _ _ _ _ _ _ => rfl⟩
theorem smB_of {K : PySem.W.Frag} {m : Str} (h : smB K m = true) : Meth K (CS K) m (He.ma K (CS K) m) := by
  obtain ⟨h1, h⟩ := He.ba h
  obtain ⟨h2, h3⟩ := He.ba h
  exact ⟨He.eqO_ok h1, h2, h3⟩
theorem opF_of {K : PySem.W.Frag} {nm : String} {m : Str} (h : opB K nm m = true) (sf : PySem.W.selfFirst K (CA K) = true) (sub : ∀ T ∈ tys, PySem.W.subIn K (.type T) (.ref (CA K)) = some false) : OpF K nm (He.ma K (CA K) m) := by
  obtain ⟨h1, h⟩ := He.ba h
  obtain ⟨h2, h⟩ := He.ba h
  obtain ⟨h3, h4⟩ := He.ba h
  refine ⟨⟨sf, He.eqO_ok h1, h2, He.eqO_ok h3⟩, fun T hT => ?_⟩
  obtain ⟨a, b⟩ := He.ba (List.all_eq_true.mp h4 T hT)
  obtain ⟨fo, hfo⟩ := Option.isSome_iff_exists.mp a
  obtain ⟨ro, hro⟩ := Option.isSome_iff_exists.mp b
  exact ⟨fo, ro, hfo, hro, sub T hT⟩
end K35
set_option Elab.async false
set_option linter.all false
set_option maxRecDepth 100000
set_option maxHeartbeats 4000000
set_option exponentiation.threshold 100000
namespace K35
open PySem PySem.Spec PyProof.Rows L2 Fa Fb
abbrev PP : Program := PySem.Challenge.pw_anytempo_k35_texts_of_sheets
theorem facts {w : World} {K : PySem.W.Frag} {h : Heap} {mg : Str → Option Value} {f : Addr} (X : K.In h) (G : h.Ns mainGlobals mg) (hfa : mg ("law" : Str) = some (.ref f)) (c : Hd.obsK ds chk K = Hd.valK ds) :
    ∃ fd : FuncData, (∀ (s : Shared) (v : Value), BindsTo s fd ⟨[v], []⟩ [("_law_script", v)]) ∧ ∀ base : Heap, K.In base → base.Ns mainGlobals mg → Fg.FnG PP w K mg base (L2.CX PP w) 15 f fd ["_law_script"] (spLaw K) := by
  have ck : Hd.allB _ = true := Hd.says_chk c
  have cg := Hd.allB_at ck 0
  have cf := Hd.allB_at ck 1
  have cc : Hd.allB _ = true := (Hd.allB_at ck 2)
  have cm : Hd.allB _ = true := (Hd.allB_at ck 3)
  have glo : ∀ x ∈ glos, mg x = some (.ref (He.ga K x)) := fun x hx => PySem.W.mg_of X G (He.eqO_ok (List.all_eq_true.mp cg x hx))
  have fre : ∀ x ∈ frees, mg x = none := fun x hx => PySem.W.mg_none_of X G (He.eqO_ok (List.all_eq_true.mp cf x hx))
  have G_Amount := glo "Amount" (by simp [glos, glos0, glos1, glos2])
  have G_Sheet := glo "Sheet" (by simp [glos, glos0, glos1, glos2])
  have G_InvalidInteger := glo "InvalidInteger" (by simp [glos, glos0, glos1, glos2])
  have G_InvalidAmount := glo "InvalidAmount" (by simp [glos, glos0, glos1, glos2])
  have G_InvalidUnit := glo "InvalidUnit" (by simp [glos, glos0, glos1, glos2])
  have G_InvalidSheet := glo "InvalidSheet" (by simp [glos, glos0, glos1, glos2])
  have G_InvalidName := glo "InvalidName" (by simp [glos, glos0, glos1, glos2])
  have G_InvalidString := glo "InvalidString" (by simp [glos, glos0, glos1, glos2])
  have G_InvalidLine := glo "InvalidLine" (by simp [glos, glos0, glos1, glos2])
  have G_Duplicate := glo "Duplicate" (by simp [glos, glos0, glos1, glos2])
  have G_TooMany := glo "TooMany" (by simp [glos, glos0, glos1, glos2])
  have G_UnknownCue := glo "UnknownCue" (by simp [glos, glos0, glos1, glos2])
  have G_UNITS := glo "UNITS" (by simp [glos, glos0, glos1, glos2])
  have G__law_cell := glo "_law_cell" (by simp [glos, glos0, glos1, glos2])
  have G__law_box := glo "_law_box" (by simp [glos, glos0, glos1, glos2])
  have G__law_take := glo "_law_take" (by simp [glos, glos0, glos1, glos2])
  have G_is_whole := glo "is_whole" (by simp [glos, glos0, glos1, glos2])
  have G_is_amount := glo "is_amount" (by simp [glos, glos0, glos1, glos2])
  have G_as_amount := glo "as_amount" (by simp [glos, glos0, glos1, glos2])
  have G_has_only := glo "has_only" (by simp [glos, glos0, glos1, glos2])
  have G_is_name := glo "is_name" (by simp [glos, glos0, glos1, glos2])
  have G_is_unit := glo "is_unit" (by simp [glos, glos0, glos1, glos2])
  have G_check_unit := glo "check_unit" (by simp [glos, glos0, glos1, glos2])
  have G__law_lowest := glo "_law_lowest" (by simp [glos, glos0, glos1, glos2])
  have G__decimal := glo "_decimal" (by simp [glos, glos0, glos1, glos2])
  have G_amount_text := glo "amount_text" (by simp [glos, glos0, glos1, glos2])
  have G_is_integer := glo "is_integer" (by simp [glos, glos0, glos1, glos2])
  have G__is_number := glo "_is_number" (by simp [glos, glos0, glos1, glos2])
  have G_amount_of := glo "amount_of" (by simp [glos, glos0, glos1, glos2])
  have G__law_number := glo "_law_number" (by simp [glos, glos0, glos1, glos2])
  have G__law_read_amount := glo "_law_read_amount" (by simp [glos, glos0, glos1, glos2])
  have G_is_listing := glo "is_listing" (by simp [glos, glos0, glos1, glos2])
  have G_parted := glo "parted" (by simp [glos, glos0, glos1, glos2])
  have G_extended := glo "extended" (by simp [glos, glos0, glos1, glos2])
  have G_check_cue := glo "check_cue" (by simp [glos, glos0, glos1, glos2])
  have G__law_added := glo "_law_added" (by simp [glos, glos0, glos1, glos2])
  have G__law_led := glo "_law_led" (by simp [glos, glos0, glos1, glos2])
  have G__law_rows := glo "_law_rows" (by simp [glos, glos0, glos1, glos2])
  have G__law_moments := glo "_law_moments" (by simp [glos, glos0, glos1, glos2])
  have G__law_amount := glo "_law_amount" (by simp [glos, glos0, glos1, glos2])
  have G__law_cues := glo "_law_cues" (by simp [glos, glos0, glos1, glos2])
  have G__law_passed := glo "_law_passed" (by simp [glos, glos0, glos1, glos2])
  have G_check_sheet := glo "check_sheet" (by simp [glos, glos0, glos1, glos2])
  have G__law_is_named := glo "_law_is_named" (by simp [glos, glos0, glos1, glos2])
  have G__cue_of := glo "_cue_of" (by simp [glos, glos0, glos1, glos2])
  have G_sheet_of := glo "sheet_of" (by simp [glos, glos0, glos1, glos2])
  have G_sheet_text := glo "sheet_text" (by simp [glos, glos0, glos1, glos2])
  have G__law_line := glo "_law_line" (by simp [glos, glos0, glos1, glos2])
  have G__law_due := glo "_law_due" (by simp [glos, glos0, glos1, glos2])
  have G__law_told := glo "_law_told" (by simp [glos, glos0, glos1, glos2])
  have G__law_bent := glo "_law_bent" (by simp [glos, glos0, glos1, glos2])
  have G__law_is_none := glo "_law_is_none" (by simp [glos, glos0, glos1, glos2])
  have R_abs := fre "abs" (by simp [frees])
  have R_all := fre "all" (by simp [frees])
  have R_bool := fre "bool" (by simp [frees])
  have R_enumerate := fre "enumerate" (by simp [frees])
  have R_int := fre "int" (by simp [frees])
  have R_isinstance := fre "isinstance" (by simp [frees])
  have R_len := fre "len" (by simp [frees])
  have R_list := fre "list" (by simp [frees])
  have R_max := fre "max" (by simp [frees])
  have R_min := fre "min" (by simp [frees])
  have R_range := fre "range" (by simp [frees])
  have R_repr := fre "repr" (by simp [frees])
  have R_reversed := fre "reversed" (by simp [frees])
  have R_str := fre "str" (by simp [frees])
  have R_tuple := fre "tuple" (by simp [frees])
  obtain ⟨fdinit, ginit⟩ := Hd.says_def c 0
  obtain ⟨fdtop, gtop⟩ := Hd.says_def c 1
  obtain ⟨fdbot, gbot⟩ := Hd.says_def c 2
  obtain ⟨fdeq, geq⟩ := Hd.says_def c 3
  obtain ⟨fdadd, gadd⟩ := Hd.says_def c 4
  obtain ⟨fdsi, gsi⟩ := Hd.says_def c 5
  obtain ⟨fdtel, gtel⟩ := Hd.says_def c 6
  obtain ⟨fdseq, gseq⟩ := Hd.says_def c 7
  obtain ⟨fdscs, gscs⟩ := Hd.says_def c 8
  obtain ⟨fdDlawcell, gDlawcell⟩ := Hd.says_def c 9
  obtain ⟨fdDlawbox, gDlawbox⟩ := Hd.says_def c 10
  obtain ⟨fdDlawtake, gDlawtake⟩ := Hd.says_def c 11
  obtain ⟨fdDiswhole, gDiswhole⟩ := Hd.says_def c 12
  obtain ⟨fdDisamount, gDisamount⟩ := Hd.says_def c 13
  obtain ⟨fdDasamount, gDasamount⟩ := Hd.says_def c 14
  obtain ⟨fdDhasonly, gDhasonly⟩ := Hd.says_def c 15
  obtain ⟨fdDisname, gDisname⟩ := Hd.says_def c 16
  obtain ⟨fdDisunit, gDisunit⟩ := Hd.says_def c 17
  obtain ⟨fdDcheckunit, gDcheckunit⟩ := Hd.says_def c 18
  obtain ⟨fdDlawlowest, gDlawlowest⟩ := Hd.says_def c 19
  obtain ⟨fdDdecimal, gDdecimal⟩ := Hd.says_def c 20
  obtain ⟨fdDamounttext, gDamounttext⟩ := Hd.says_def c 21
  obtain ⟨fdDisinteger, gDisinteger⟩ := Hd.says_def c 22
  obtain ⟨fdDisnumber, gDisnumber⟩ := Hd.says_def c 23
  obtain ⟨fdDamountof, gDamountof⟩ := Hd.says_def c 24
  obtain ⟨fdDlawnumber, gDlawnumber⟩ := Hd.says_def c 25
  obtain ⟨fdDlawreadamount, gDlawreadamount⟩ := Hd.says_def c 26
  obtain ⟨fdDislisting, gDislisting⟩ := Hd.says_def c 27
  obtain ⟨fdDparted, gDparted⟩ := Hd.says_def c 28
  obtain ⟨fdDextended, gDextended⟩ := Hd.says_def c 29
  obtain ⟨fdDcheckcue, gDcheckcue⟩ := Hd.says_def c 30
  obtain ⟨fdDlawadded, gDlawadded⟩ := Hd.says_def c 31
  obtain ⟨fdDlawled, gDlawled⟩ := Hd.says_def c 32
  obtain ⟨fdDlawrows, gDlawrows⟩ := Hd.says_def c 33
  obtain ⟨fdDlawmoments, gDlawmoments⟩ := Hd.says_def c 34
  obtain ⟨fdDlawamount, gDlawamount⟩ := Hd.says_def c 35
  obtain ⟨fdDlawcues, gDlawcues⟩ := Hd.says_def c 36
  obtain ⟨fdDlawpassed, gDlawpassed⟩ := Hd.says_def c 37
  obtain ⟨fdDchecksheet, gDchecksheet⟩ := Hd.says_def c 38
  obtain ⟨fdDlawisnamed, gDlawisnamed⟩ := Hd.says_def c 39
  obtain ⟨fdDcueof, gDcueof⟩ := Hd.says_def c 40
  obtain ⟨fdDsheetof, gDsheetof⟩ := Hd.says_def c 41
  obtain ⟨fdDsheettext, gDsheettext⟩ := Hd.says_def c 42
  obtain ⟨fdDlawline, gDlawline⟩ := Hd.says_def c 43
  obtain ⟨fdDlawdue, gDlawdue⟩ := Hd.says_def c 44
  obtain ⟨fdDlawtold, gDlawtold⟩ := Hd.says_def c 45
  obtain ⟨fdDlawbent, gDlawbent⟩ := Hd.says_def c 46
  obtain ⟨fdDlawisnone, gDlawisnone⟩ := Hd.says_def c 47
  obtain ⟨fdDlaw, gDlaw⟩ := Hd.says_def c 48
  obtain ⟨fdxInvalidInteger, gxInvalidInteger⟩ := Hd.says_def c 49
  obtain ⟨fdxInvalidAmount, gxInvalidAmount⟩ := Hd.says_def c 50
  obtain ⟨fdxInvalidUnit, gxInvalidUnit⟩ := Hd.says_def c 51
  obtain ⟨fdxInvalidSheet, gxInvalidSheet⟩ := Hd.says_def c 52
  obtain ⟨fdxInvalidName, gxInvalidName⟩ := Hd.says_def c 53
  obtain ⟨fdxInvalidString, gxInvalidString⟩ := Hd.says_def c 54
  obtain ⟨fdxInvalidLine, gxInvalidLine⟩ := Hd.says_def c 55
  obtain ⟨fdxDuplicate, gxDuplicate⟩ := Hd.says_def c 56
  obtain ⟨fdxTooMany, gxTooMany⟩ := Hd.says_def c 57
  obtain ⟨fdxUnknownCue, gxUnknownCue⟩ := Hd.says_def c 58
  have Finit := ginit.funD
  have Ftop := gtop.funD
  have Fbot := gbot.funD
  have Feq := geq.funD
  have Fadd := gadd.funD
  have Fsi := gsi.funD
  have Ftel := gtel.funD
  have Fseq := gseq.funD
  have Fscs := gscs.funD
  have FDlawcell := gDlawcell.funD
  have FDlawbox := gDlawbox.funD
  have FDlawtake := gDlawtake.funD
  have FDiswhole := gDiswhole.funD
  have FDisamount := gDisamount.funD
  have FDasamount := gDasamount.funD
  have FDhasonly := gDhasonly.funD
  have FDisname := gDisname.funD
  have FDisunit := gDisunit.funD
  have FDcheckunit := gDcheckunit.funD
  have FDlawlowest := gDlawlowest.funD
  have FDdecimal := gDdecimal.funD
  have FDamounttext := gDamounttext.funD
  have FDisinteger := gDisinteger.funD
  have FDisnumber := gDisnumber.funD
  have FDamountof := gDamountof.funD
  have FDlawnumber := gDlawnumber.funD
  have FDlawreadamount := gDlawreadamount.funD
  have FDislisting := gDislisting.funD
  have FDparted := gDparted.funD
  have FDextended := gDextended.funD
  have FDcheckcue := gDcheckcue.funD
  have FDlawadded := gDlawadded.funD
  have FDlawled := gDlawled.funD
  have FDlawrows := gDlawrows.funD
  have FDlawmoments := gDlawmoments.funD
  have FDlawamount := gDlawamount.funD
  have FDlawcues := gDlawcues.funD
  have FDlawpassed := gDlawpassed.funD
  have FDchecksheet := gDchecksheet.funD
  have FDlawisnamed := gDlawisnamed.funD
  have FDcueof := gDcueof.funD
  have FDsheetof := gDsheetof.funD
  have FDsheettext := gDsheettext.funD
  have FDlawline := gDlawline.funD
  have FDlawdue := gDlawdue.funD
  have FDlawtold := gDlawtold.funD
  have FDlawbent := gDlawbent.funD
  have FDlawisnone := gDlawisnone.funD
  have FDlaw := gDlaw.funD
  have bDlawcell : Binds K fdDlawcell ["_law_script", "_law_k"] [] := FDlawcell.bindsN fun _ _ _ _ _ _ us hl => match us, hl with | [_, _], _ => rfl
  have bDlawbox : Binds K fdDlawbox ["_law_cell_here"] [] := FDlawbox.bindsN fun _ _ _ _ _ _ us hl => match us, hl with | [_], _ => rfl
  have bDlawtake : Binds K fdDlawtake ["_law_box_here", "_law_many"] [] := FDlawtake.bindsN fun _ _ _ _ _ _ us hl => match us, hl with | [_, _], _ => rfl
  have bDiswhole : Binds K fdDiswhole ["value"] [] := FDiswhole.bindsN fun _ _ _ _ _ _ us hl => match us, hl with | [_], _ => rfl
  have bDisamount : Binds K fdDisamount ["value"] [] := FDisamount.bindsN fun _ _ _ _ _ _ us hl => match us, hl with | [_], _ => rfl
  have bDasamount : Binds K fdDasamount ["value"] [] := FDasamount.bindsN fun _ _ _ _ _ _ us hl => match us, hl with | [_], _ => rfl
  have bDhasonly : Binds K fdDhasonly ["text", "characters"] [] := FDhasonly.bindsN fun _ _ _ _ _ _ us hl => match us, hl with | [_, _], _ => rfl
  have bDisname : Binds K fdDisname ["value"] [] := FDisname.bindsN fun _ _ _ _ _ _ us hl => match us, hl with | [_], _ => rfl
  have bDisunit : Binds K fdDisunit ["value"] [] := FDisunit.bindsN fun _ _ _ _ _ _ us hl => match us, hl with | [_], _ => rfl
  have bDcheckunit : Binds K fdDcheckunit ["unit"] [] := FDcheckunit.bindsN fun _ _ _ _ _ _ us hl => match us, hl with | [_], _ => rfl
  have bDlawlowest : Binds K fdDlawlowest ["_law_top", "_law_bottom"] [] := FDlawlowest.bindsN fun _ _ _ _ _ _ us hl => match us, hl with | [_, _], _ => rfl
  have bDdecimal : Binds K fdDdecimal ["number"] [] := FDdecimal.bindsN fun _ _ _ _ _ _ us hl => match us, hl with | [_], _ => rfl
  have bDamounttext : Binds K fdDamounttext ["amount"] [] := FDamounttext.bindsN fun _ _ _ _ _ _ us hl => match us, hl with | [_], _ => rfl
  have bDisinteger : Binds K fdDisinteger ["value", "low", "high"] [] := FDisinteger.bindsN fun _ _ _ _ _ _ us hl => match us, hl with | [_, _, _], _ => rfl
  have bDisnumber : Binds K fdDisnumber ["text", "most"] [] := FDisnumber.bindsN fun _ _ _ _ _ _ us hl => match us, hl with | [_, _], _ => rfl
  have bDamountof : Binds K fdDamountof ["text"] [] := FDamountof.bindsN fun _ _ _ _ _ _ us hl => match us, hl with | [_], _ => rfl
  have bDlawnumber : Binds K fdDlawnumber ["_law_word", "_law_most"] [] := FDlawnumber.bindsN fun _ _ _ _ _ _ us hl => match us, hl with | [_, _], _ => rfl
  have bDlawreadamount : Binds K fdDlawreadamount ["_law_word"] [] := FDlawreadamount.bindsN fun _ _ _ _ _ _ us hl => match us, hl with | [_], _ => rfl
  have bDislisting : Binds K fdDislisting ["value"] [] := FDislisting.bindsN fun _ _ _ _ _ _ us hl => match us, hl with | [_], _ => rfl
  have bDparted : Binds K fdDparted ["row", "unit"] [] := FDparted.bindsN fun _ _ _ _ _ _ us hl => match us, hl with | [_, _], _ => rfl
  have bDextended : Binds K fdDextended ["row", "unit", "amount"] [] := FDextended.bindsN fun _ _ _ _ _ _ us hl => match us, hl with | [_, _, _], _ => rfl
  have bDcheckcue : Binds K fdDcheckcue ["item", "known"] [] := FDcheckcue.bindsN fun _ _ _ _ _ _ us hl => match us, hl with | [_, _], _ => rfl
  have bDlawadded : Binds K fdDlawadded ["_law_one", "_law_other"] [] := FDlawadded.bindsN fun _ _ _ _ _ _ us hl => match us, hl with | [_, _], _ => rfl
  have bDlawled : Binds K fdDlawled ["_law_row", "_law_unit", "_law_amount_here"] [] := FDlawled.bindsN fun _ _ _ _ _ _ us hl => match us, hl with | [_, _, _], _ => rfl
  have bDlawrows : Binds K fdDlawrows ["_law_cues_here"] [] := FDlawrows.bindsN fun _ _ _ _ _ _ us hl => match us, hl with | [_], _ => rfl
  have bDlawmoments : Binds K fdDlawmoments ["_law_cues_here"] [] := FDlawmoments.bindsN fun _ _ _ _ _ _ us hl => match us, hl with | [_], _ => rfl
  have bDlawamount : Binds K fdDlawamount ["_law_box_here"] [] := FDlawamount.bindsN fun _ _ _ _ _ _ us hl => match us, hl with | [_], _ => rfl
  have bDlawcues : Binds K fdDlawcues ["_law_box_here", "_law_limit", "_law_most_cues"] [] := FDlawcues.bindsN fun _ _ _ _ _ _ us hl => match us, hl with | [_, _, _], _ => rfl
  have bDlawpassed : Binds K fdDlawpassed ["_law_cues_here"] [] := FDlawpassed.bindsN fun _ _ _ _ _ _ us hl => match us, hl with | [_], _ => rfl
  have bDchecksheet : Binds K fdDchecksheet ["sheet"] [] := FDchecksheet.bindsN fun _ _ _ _ _ _ us hl => match us, hl with | [_], _ => rfl
  have bDlawisnamed : Binds K fdDlawisnamed ["_law_word"] [] := FDlawisnamed.bindsN fun _ _ _ _ _ _ us hl => match us, hl with | [_], _ => rfl
  have bDcueof : Binds K fdDcueof ["words"] [] := FDcueof.bindsN fun _ _ _ _ _ _ us hl => match us, hl with | [_], _ => rfl
  have bDsheetof : Binds K fdDsheetof ["text"] [] := FDsheetof.bindsN fun _ _ _ _ _ _ us hl => match us, hl with | [_], _ => rfl
  have bDsheettext : Binds K fdDsheettext ["sheet"] [] := FDsheettext.bindsN fun _ _ _ _ _ _ us hl => match us, hl with | [_], _ => rfl
  have bDlawline : Binds K fdDlawline ["_law_cue"] [] := FDlawline.bindsN fun _ _ _ _ _ _ us hl => match us, hl with | [_], _ => rfl
  have bDlawdue : Binds K fdDlawdue ["_law_lines"] [] := FDlawdue.bindsN fun _ _ _ _ _ _ us hl => match us, hl with | [_], _ => rfl
  have bDlawtold : Binds K fdDlawtold ["_law_line_here"] [] := FDlawtold.bindsN fun _ _ _ _ _ _ us hl => match us, hl with | [_], _ => rfl
  have bDlawbent : Binds K fdDlawbent ["_law_box_here", "_law_lines"] [] := FDlawbent.bindsN fun _ _ _ _ _ _ us hl => match us, hl with | [_, _], _ => rfl
  have bDlawisnone : Binds K fdDlawisnone ["_law_thing"] [] := FDlawisnone.bindsN fun _ _ _ _ _ _ us hl => match us, hl with | [_], _ => rfl
  have btop : Binds K fdtop ["self"] [] := Ftop.bindsN fun _ _ _ _ _ _ us hl => match us, hl with | [_], _ => rfl
  have bbot : Binds K fdbot ["self"] [] := Fbot.bindsN fun _ _ _ _ _ _ us hl => match us, hl with | [_], _ => rfl
  have beq : Binds K fdeq ["self", "other"] [] := Feq.bindsN fun _ _ _ _ _ _ us hl => match us, hl with | [_, _], _ => rfl
  have badd : Binds K fdadd ["self", "other"] [] := Fadd.bindsN fun _ _ _ _ _ _ us hl => match us, hl with | [_, _], _ => rfl
  have bsi : Binds K fdsi ["self", "cues"] [] := Fsi.bindsN fun _ _ _ _ _ _ us hl => match us, hl with | [_, _], _ => rfl
  have btel : Binds K fdtel ["self", "item"] [] := Ftel.bindsN fun _ _ _ _ _ _ us hl => match us, hl with | [_, _], _ => rfl
  have bseq : Binds K fdseq ["self", "other"] [] := Fseq.bindsN fun _ _ _ _ _ _ us hl => match us, hl with | [_, _], _ => rfl
  have bscs : Binds K fdscs ["self"] [] := Fscs.bindsN fun _ _ _ _ _ _ us hl => match us, hl with | [_], _ => rfl
  have sub : ∀ T ∈ tys, PySem.W.subIn K (.type T) (.ref (CA K)) = some false := fun T hT => of_decide_eq_true (List.all_eq_true.mp (Hd.allB_at cc 19) T hT)
  have sf : PySem.W.selfFirst K (CA K) = true := Hd.allB_at cc 20
  have A : AF K mg :=
    { cl := ⟨Hd.allB_at cc 0, Hd.allB_at cc 1, Hd.allB_at cc 2, He.eqO_ok (Hd.allB_at cc 3)⟩
      noT := He.eqO_ok (Hd.allB_at cc 4)
      noB := He.eqO_ok (Hd.allB_at cc 5)
      mkA := ⟨Hd.allB_at cc 6, He.eqO_ok (Hd.allB_at cc 7), Hd.allB_at cc 8, Hd.allB_at cc 9⟩
      g := G_Amount
      isi := R_isinstance
      int := R_int
      bool := R_bool
      gcd := PySem.W.mg_of X G (He.eqO_ok (Hd.allB_at cc 10))
      gI := G_InvalidInteger
      gV := G_InvalidAmount
      kI := of_decide_eq_true (Hd.allB_at cc 11)
      kB := of_decide_eq_true (Hd.allB_at cc 12)
      kS := of_decide_eq_true (Hd.allB_at cc 13)
      kT := fun T hT => of_decide_eq_true (List.all_eq_true.mp (Hd.allB_at cc 14) T hT)
      ca := He.eqO_ok (Hd.allB_at cc 15)
      cn := He.eqO_ok (Hd.allB_at cc 16)
      ct := of_decide_eq_true (Hd.allB_at cc 17)
      cm := of_decide_eq_true (Hd.allB_at cc 18) }
  have xInvalidInteger := Hd.exc_txt Xb.nm_value gxInvalidInteger (Hd.allB_at ck 32) ⟨_, _, _, _, _, _, _, _, _, _, _, _, _, rfl, rfl, rfl, rfl⟩
  have xInvalidAmount := Hd.exc_txt Xb.nm_value gxInvalidAmount (Hd.allB_at ck 33) ⟨_, _, _, _, _, _, _, _, _, _, _, _, _, rfl, rfl, rfl, rfl⟩
  have xInvalidUnit := Hd.exc_txt Xb.nm_value gxInvalidUnit (Hd.allB_at ck 34) ⟨_, _, _, _, _, _, _, _, _, _, _, _, _, rfl, rfl, rfl, rfl⟩
  have xInvalidSheet := Hd.exc_txt Xb.nm_value gxInvalidSheet (Hd.allB_at ck 35) ⟨_, _, _, _, _, _, _, _, _, _, _, _, _, rfl, rfl, rfl, rfl⟩
  have xInvalidName := Hd.exc_txt Xb.nm_value gxInvalidName (Hd.allB_at ck 36) ⟨_, _, _, _, _, _, _, _, _, _, _, _, _, rfl, rfl, rfl, rfl⟩
  have xInvalidString := Hd.exc_txt Xb.nm_value gxInvalidString (Hd.allB_at ck 37) ⟨_, _, _, _, _, _, _, _, _, _, _, _, _, rfl, rfl, rfl, rfl⟩
  have xInvalidLine := Hd.exc_txt nm_index gxInvalidLine (Hd.allB_at ck 38) ⟨_, _, _, _, _, _, _, _, _, _, _, _, _, rfl, rfl, rfl, rfl⟩
  have xDuplicate := Hd.exc_txt nm_label gxDuplicate (Hd.allB_at ck 39) ⟨_, _, _, _, _, _, _, _, _, _, _, _, _, rfl, rfl, rfl, rfl⟩
  have xTooMany := Hd.exc_txtL nm_most gxTooMany (Hd.allB_at ck 40) ⟨_, _, _, _, _, _, _, _, _, _, _, _, _, rfl, rfl, rfl, rfl⟩
  have xUnknownCue := Hd.exc_txtK nm_label gxUnknownCue (Hd.allB_at ck 41) ⟨_, _, _, _, _, _, _, _, _, _, _, _, _, rfl, rfl, rfl, rfl⟩
  have M : MF K mg := ⟨⟨Hd.allB_at cm 0, Hd.allB_at cm 1, Hd.allB_at cm 2, He.eqO_ok (Hd.allB_at cm 3)⟩, He.eqO_ok (Hd.allB_at cm 4), He.eqO_ok (Hd.allB_at cm 5), He.eqO_ok (Hd.allB_at cm 6), G_Sheet⟩
  have MKS : Mk K (CS K) (aS K) := ⟨Hd.allB_at cm 7, He.eqO_ok (Hd.allB_at cm 8), Hd.allB_at cm 9, Hd.allB_at cm 10⟩
  have mE := meB_of (Hd.allB_at ck 4)
  have neE := He.eqO_ok (Hd.allB_at ck 5)
  have obE := of_decide_eq_true (Hd.allB_at ck 6)
  have oA := opF_of (Hd.allB_at ck 7) sf sub
  have m_tel := smB_of (Hd.allB_at ck 12)
  have m_seq := smB_of (Hd.allB_at ck 13)
  have m_scs := smB_of (Hd.allB_at ck 14)
  have nca := of_decide_eq_true (Hd.allB_at ck 15)
  have kS := of_decide_eq_true (Hd.allB_at ck 16)
  have cmS := of_decide_eq_true (Hd.allB_at ck 19)
  have caS := He.eqO_ok (Hd.allB_at ck 18)
  have kTS : ∀ T ∈ tys, PySem.W.kitOne K (.type T) (.ref (CS K)) = some false := fun T hT => of_decide_eq_true (List.all_eq_true.mp (Hd.allB_at ck 17) T hT)
  have kSt := of_decide_eq_true (Hd.allB_at ck 20)
  have mM6 := He.int_ok X G (Hd.allB_at ck 21)
  have mM4 := He.int_ok X G (Hd.allB_at ck 22)
  have mM1 := He.int_ok X G (Hd.allB_at ck 23)
  have nx : NotX K := fun p hp => of_decide_eq_true (List.all_eq_true.mp (Hd.allB_at ck 24) p hp)
  have hS := sysB_of (Hd.allB_at ck 25)
  have mStart := He.str_ok X G (Hd.allB_at ck 31)
  have mMost := He.int_ok X G (Hd.allB_at ck 28)
  have V : VF K mg (He.ga K "UNITS") :=
    { str := R_str, len := R_len, all := R_all, letters := He.str_ok X G (Hd.allB_at ck 29), digits := He.str_ok X G (Hd.allB_at ck 30), longest := He.int_ok X G (Hd.allB_at ck 27), units := G_UNITS, unitsT := fun H => tupB_of (Hd.allB_at ck 26) H }
  have hlaw := glo "law" (by simp [glos, glos0, glos1, glos2])
  cases hfa.symm.trans hlaw
  have htop : (PP.main.scope.names.lookup ("super" : Str)).isSome = false := by decide +kernel
  have blaw := FDlaw.bindsA (ps := ["_law_script"]) fun _ _ _ _ _ _ us hl => match us, hl with | [_], _ => rfl
  refine ⟨fdDlaw, fun s v => blaw s [v] rfl, fun base _ _ => ?_⟩
  obtain ⟨dv, hds, bI⟩ := Finit.binds1 (ps := ["self", "top", "bottom"]) 2 0 (by simp [dC]) rfl (fun _ _ _ _ _ _ _ us its hu hi => match us, its, hu, hi with | [_, _], [_], _, _ => ⟨_, rfl, rfl⟩)
  obtain ⟨ds2', hds2, bI2⟩ := Finit.binds1 (ps := ["self", "top", "bottom"]) 3 1 (by simp [dC]) rfl (fun _ _ _ _ _ _ _ us its hu hi => match us, its, hu, hi with | [_, _, _], [_], _, _ => ⟨_, rfl, rfl⟩)
  cases hds2
  have OI : FnOk PP w K mg base (L2.CX PP w) 4 (aI K) fdinit ["self", "top", "bottom"] (spInit K) := ok_init Finit A FDiswhole G_is_whole xInvalidInteger htop
  have OS : FnOk PP w K mg base (L2.CX PP w) 6 _ fdDasamount ["value"] (spAs K) := ok_as FDasamount A FDiswhole G_is_whole FDisamount G_is_amount Finit xInvalidInteger xInvalidAmount htop
  have Oadd : OpK PP w K mg base "add" 7 (spAdd K) _ fdadd := ⟨oA, ok_add Fadd A OS G_as_amount FDasamount.kp bDasamount OI bI2, badd⟩
  have Eq : EqK PP w K mg base _ fdeq := ⟨mE.at_, mE.fn, ok_eq Feq A, beq, neE, obE⟩
  have Ptop : PrF PP w K mg base "top" "_top" _ _ fdtop := ⟨prB_of (Hd.allB_at ck 10), ok_top Ftop A, btop⟩
  have Pbottom : PrF PP w K mg base "bottom" "_bottom" _ _ fdbot := ⟨prB_of (Hd.allB_at ck 11), ok_bot Fbot A, bbot⟩
  have VDasamount : Fn PP w K mg base "as_amount" 6 ["value"] (spAs K) _ fdDasamount := ⟨OS, G_as_amount, FDasamount.kp, bDasamount⟩
  have VDlawcell : Fn0 PP w K mg base "_law_cell" 1 ["_law_script", "_law_k"] (spCel K) _ fdDlawcell := ⟨ok_cell FDlawcell R_len, G__law_cell, FDlawcell.kp, bDlawcell⟩
  have VDlawbox : Fn0 PP w K mg base "_law_box" 1 ["_law_cell_here"] spBox _ fdDlawbox := ⟨ok_box FDlawbox R_max, G__law_box, FDlawbox.kp, bDlawbox⟩
  have VDlawtake : Fn0 PP w K mg base "_law_take" 1 ["_law_box_here", "_law_many"] spTake _ fdDlawtake := ⟨ok_take FDlawtake, G__law_take, FDlawtake.kp, bDlawtake⟩
  have VDisamount : Fn PP w K mg base "is_amount" 2 ["value"] (spIsA K) _ fdDisamount := ⟨ok_isA FDisamount A FDiswhole G_is_whole, G_is_amount, FDisamount.kp, bDisamount⟩
  have VDhasonly : Fn PP w K mg base "has_only" 1 ["text", "characters"] spHas _ fdDhasonly := ⟨ok_has FDhasonly R_all, G_has_only, FDhasonly.kp, bDhasonly⟩
  have VDisname : Fn PP w K mg base "is_name" 2 ["value"] (spName K) _ fdDisname := ⟨ok_name FDisname A V VDhasonly.ok G_has_only FDhasonly.kp bDhasonly, G_is_name, FDisname.kp, bDisname⟩
  have VDisunit : Fn PP w K mg base "is_unit" 1 ["value"] (spText K isUnit) _ fdDisunit := ⟨ok_unit FDisunit A V, G_is_unit, FDisunit.kp, bDisunit⟩
  have VDcheckunit : Fn PP w K mg base "check_unit" 2 ["unit"] (spChk K) _ fdDcheckunit := ⟨ok_chk FDcheckunit VDisunit.ok G_is_unit FDisunit.kp bDisunit G_InvalidUnit xInvalidUnit htop, G_check_unit, FDcheckunit.kp, bDcheckunit⟩
  have VDlawlowest : Fn PP w K mg base "_law_lowest" 1 ["_law_top", "_law_bottom"] spLow _ fdDlawlowest := ⟨ok_low FDlawlowest R_abs, G__law_lowest, FDlawlowest.kp, bDlawlowest⟩
  have VDdecimal : Fn PP w K mg base "_decimal" 1 ["number"] spDec _ fdDdecimal := ⟨ok_dec FDdecimal R_str R_reversed, G__decimal, FDdecimal.kp, bDdecimal⟩
  have VDamounttext : Fn PP w K mg base "amount_text" 7 ["amount"] (spAmt K) _ fdDamounttext := ⟨ok_amt FDamounttext A R_abs OS G_as_amount FDasamount.kp bDasamount VDdecimal.ok G__decimal FDdecimal.kp bDdecimal Ptop Pbottom, G_amount_text, FDamounttext.kp, bDamounttext⟩
  have VDisinteger : Fn PP w K mg base "is_integer" 2 ["value", "low", "high"] (spIntg K) _ fdDisinteger := ⟨ok_intg FDisinteger A FDiswhole G_is_whole, G_is_integer, FDisinteger.kp, bDisinteger⟩
  have VDisnumber : Fn PP w K mg base "_is_number" 2 ["text", "most"] spNum _ fdDisnumber := ⟨ok_num FDisnumber V VDhasonly.ok G_has_only FDhasonly.kp bDhasonly, G__is_number, FDisnumber.kp, bDisnumber⟩
  have VDamountof : Fn PP w K mg base "amount_of" 6 ["text"] (spAmtOf K) _ fdDamountof := ⟨ok_amtof FDamountof A V mM6 mM4 mM1 VDisnumber.ok G__is_number FDisnumber.kp bDisnumber VDisinteger.ok G_is_integer FDisinteger.kp bDisinteger OI hds bI bI2, G_amount_of, FDamountof.kp, bDamountof⟩
  have VDlawnumber : Fn PP w K mg base "_law_number" 1 ["_law_word", "_law_most"] spNumb _ fdDlawnumber := ⟨ok_numb FDlawnumber A R_len, G__law_number, FDlawnumber.kp, bDlawnumber⟩
  have VDlawreadamount : Fn PP w K mg base "_law_read_amount" 2 ["_law_word"] spRead _ fdDlawreadamount := ⟨ok_read FDlawreadamount A V R_len VDlawlowest VDlawnumber, G__law_read_amount, FDlawreadamount.kp, bDlawreadamount⟩
  have VDislisting : Fn PP w K mg base "is_listing" 1 ["value"] (spLs K) _ fdDislisting := ⟨ok_ls FDislisting A R_list R_tuple, G_is_listing, FDislisting.kp, bDislisting⟩
  have VDparted : Fn PP w K mg base "parted" 6 ["row", "unit"] (spPart K) _ fdDparted := ⟨ok_par FDparted A R_len R_list OI hds bI, G_parted, FDparted.kp, bDparted⟩
  have VDextended : Fn PP w K mg base "extended" 8 ["row", "unit", "amount"] (spExt K) _ fdDextended := ⟨ok_ext FDextended A Eq Oadd VDparted OI hds bI, G_extended, FDextended.kp, bDextended⟩
  have VDcheckcue : Fn PP w K mg base "check_cue" 3 ["item", "known"] (spCC K) _ fdDcheckcue := ⟨ok_cc FDcheckcue A V R_len VDislisting VDisname VDcheckunit VDisamount G_InvalidName xInvalidName G_Duplicate xDuplicate G_UnknownCue xUnknownCue htop, G_check_cue, FDcheckcue.kp, bDcheckcue⟩
  have S_tell : MeS PP w K mg base "_tell" 9 ["self", "item"] (spTell K) _ fdtel := ⟨m_tel, ok_tel Ftel A M Eq VDasamount VDextended, btel⟩
  have SI : FnOk PP w K mg base (L2.CX PP w) 10 (aS K) fdsi ["self", "cues"] (spSI K) := ok_si Fsi M nca R_len mStart mMost G_TooMany xTooMany htop VDislisting VDcheckcue S_tell
  have EQS : EqS PP w K mg base _ fdseq := ⟨m_seq.at_, m_seq.fn, ok_sEq Fseq A M Eq kS caS cmS, bseq, He.eqO_ok (Hd.allB_at ck 8), of_decide_eq_true (Hd.allB_at ck 9)⟩
  have Scues : MeS PP w K mg base "cues" 1 ["self"] (spCs K) _ fdscs := ⟨m_scs, ok_sCs Fscs M R_list, bscs⟩
  have VDlawadded : Fn PP w K mg base "_law_added" 2 ["_law_one", "_law_other"] spAdd2 _ fdDlawadded := ⟨ok_add2 FDlawadded VDlawlowest, G__law_added, FDlawadded.kp, bDlawadded⟩
  have VDlawled : Fn PP w K mg base "_law_led" 3 ["_law_row", "_law_unit", "_law_amount_here"] spLed _ fdDlawled := ⟨ok_led FDlawled VDlawadded, G__law_led, FDlawled.kp, bDlawled⟩
  have VDlawrows : Fn PP w K mg base "_law_rows" 4 ["_law_cues_here"] (spRws K) _ fdDlawrows := ⟨ok_rws FDlawrows VDlawled, G__law_rows, FDlawrows.kp, bDlawrows⟩
  have VDlawmoments : Fn PP w K mg base "_law_moments" 5 ["_law_cues_here"] (spMom K) _ fdDlawmoments := ⟨ok_mom FDlawmoments R_len R_range VDlawrows, G__law_moments, FDlawmoments.kp, bDlawmoments⟩
  have VDlawamount : Fn PP w K mg base "_law_amount" 2 ["_law_box_here"] spLam _ fdDlawamount := ⟨ok_lam FDlawamount VDlawtake VDlawlowest, G__law_amount, FDlawamount.kp, bDlawamount⟩
  have VDlawcues : Fn PP w K mg base "_law_cues" 6 ["_law_box_here", "_law_limit", "_law_most_cues"] spLcu _ fdDlawcues := ⟨ok_lcu FDlawcues R_len R_range R_str VDlawtake VDlawamount VDlawmoments, G__law_cues, FDlawcues.kp, bDlawcues⟩
  have VDlawpassed : Fn PP w K mg base "_law_passed" 6 ["_law_cues_here"] (spPas K) _ fdDlawpassed := ⟨ok_pas FDlawpassed A OI bI2, G__law_passed, FDlawpassed.kp, bDlawpassed⟩
  have VDchecksheet : Fn PP w K mg base "check_sheet" 2 ["sheet"] (spChs K) _ fdDchecksheet := ⟨ok_chs FDchecksheet A M G_InvalidSheet xInvalidSheet htop kS caS cmS, G_check_sheet, FDchecksheet.kp, bDchecksheet⟩
  have VDlawisnamed : Fn PP w K mg base "_law_is_named" 1 ["_law_word"] spNmd _ fdDlawisnamed := ⟨ok_nmd FDlawisnamed R_len, G__law_is_named, FDlawisnamed.kp, bDlawisnamed⟩
  have VDcueof : Fn PP w K mg base "_cue_of" 7 ["words"] (spCof K) _ fdDcueof := ⟨ok_cof FDcueof R_len VDamountof VDisname VDisunit, G__cue_of, FDcueof.kp, bDcueof⟩
  have VDsheetof : Fn PP w K mg base "sheet_of" 12 ["text"] (spSof K) _ fdDsheetof := ⟨ok_sof FDsheetof A V M R_enumerate MKS VDcueof G_InvalidString xInvalidString G_InvalidLine xInvalidLine htop SI bsi, G_sheet_of, FDsheetof.kp, bDsheetof⟩
  have VDsheettext : Fn PP w K mg base "sheet_text" 8 ["sheet"] (spStx K) _ fdDsheettext := ⟨ok_stx FDsheettext A M VDchecksheet Scues VDamounttext, G_sheet_text, FDsheettext.kp, bDsheettext⟩
  have VDlawline : Fn PP w K mg base "_law_line" 1 ["_law_cue"] spLln _ fdDlawline := ⟨ok_lln FDlawline R_str, G__law_line, FDlawline.kp, bDlawline⟩
  have VDlawdue : Fn PP w K mg base "_law_due" 6 ["_law_lines"] spDue _ fdDlawdue := ⟨ok_due FDlawdue R_len R_enumerate VDlawisnamed VDlawreadamount VDlawmoments, G__law_due, FDlawdue.kp, bDlawdue⟩
  have VDlawtold : Fn PP w K mg base "_law_told" 13 ["_law_line_here"] (spTld K) _ fdDlawtold := ⟨ok_tld FDlawtold A M VDsheetof Scues Ptop Pbottom G_InvalidString G_InvalidLine G_Duplicate G_UnknownCue G_TooMany xInvalidString xInvalidLine xDuplicate xUnknownCue xTooMany nx, G__law_told, FDlawtold.kp, bDlawtold⟩
  have VDlawbent : Fn PP w K mg base "_law_bent" 2 ["_law_box_here", "_law_lines"] spBnt _ fdDlawbent := ⟨ok_bnt FDlawbent R_len R_list VDlawtake, G__law_bent, FDlawbent.kp, bDlawbent⟩
  have VDlawisnone : FnS2 PP w K mg base "_law_is_none" 9 ["_law_thing"] (spNon K) _ fdDlawisnone := ⟨ok_non FDlawisnone hS R_repr VDsheettext G_InvalidSheet xInvalidSheet, G__law_is_none, FDlawisnone.kp, bDlawisnone⟩
  exact ok_law FDlaw hS A M MKS R_len R_range R_max R_min R_repr kTS kS caS cmS kSt VDlawcell VDlawbox VDlawtake VDlawcues VDlawpassed VDlawline VDsheettext VDsheetof VDlawbent VDlawdue VDlawtold VDlawisnone EQS SI bsi
end K35
set_option Elab.async false
set_option linter.all false
set_option maxRecDepth 100000
set_option maxHeartbeats 0
namespace K35
open PySem PySem.Spec PyProof.Rows L2
theorem noX (P : Program) (w : World) (H : Hp) (s : Shared) (e : Value) (s' : Shared) : L2.CX P w [] H s (fun _ _ _ => False) e s' → False := fun ⟨_, _, _, _, _, _, _, _, _, _, _, _, z⟩ => z
end K35
open PySem PySem.W PySem.Calls PyProof.Rows
theorem PySem.Challenge.cw_anytempo_k35_texts_of_sheets_holds : PySem.Challenge.rw_anytempo_k35_texts_of_sheets.Holds := by
  w_on; o_law
  refine HandSHeadRun.head_imp (r := OpenLaw.row PySem.Challenge.rw_anytempo_k35_texts_of_sheets) (q := view (OpenLaw.row PySem.Challenge.rw_anytempo_k35_texts_of_sheets).prog [0, 78]) (H := K35.hk) (ob := Hd.obL K35.asL K35.ds K35.chk) (M := 20000) (loose := K35.nms) (d := HandSHeadRun.topDef (OpenLaw.row PySem.Challenge.rw_anytempo_k35_texts_of_sheets).prog 78) (kwd := [])
    (Hd.obL_eq K35.asL K35.ds K35.chk) K35.run (by kernel_rfl) (by kernel_rfl) (by kernel_rfl) (by rfl) (by first | assumption | decide +kernel) (by decide +kernel) ⟨rfl, rfl, rfl, rfl, rfl, by decide +kernel⟩ ?hw ?hc
  case hw => w_witness2
  case hc =>
    refine Fg.walk_ofG (l := PySem.Challenge.rw_anytempo_k35_texts_of_sheets) (n := 63) (k := 15) (x := "_law_script") (CX := fun w => L2.CX K35.PP w) rfl (by decide) (by kernel_rfl) ⟨rfl, by decide, by decide⟩ ?F (fun w => K35.noX K35.PP w)
    intro w mg fa h Y G hmg0
    obtain ⟨K, KX, c⟩ := Y
    have hmg : mg ("law" : PySem.Str) = some (.ref fa) := by
      have e : (HandSHeadRun.topDef (OpenLaw.row PySem.Challenge.rw_anytempo_k35_texts_of_sheets).prog 78).name = ("law" : PySem.Str) := by kernel_rfl
      rw [← e]
      exact hmg0
    obtain ⟨fd, hb, hF⟩ := K35.facts (w := w) KX G hmg c
    exact ⟨K, fd, K35.spLaw K, KX, hb, fun H a ns hl _ hS => ⟨a, ns, rfl, hS, hl, fun _ => rfl⟩, hF⟩

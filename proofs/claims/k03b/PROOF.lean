import PyProof.Rows.All
import Wide.All
import OpenK.AllK
import Wide.FinOn
import KE.KExcSuper
import HandS.Base
import HandS.Call
import HandS.List
import HandS.Exc
import HandS.ExcOwn
import HandS.TryOnly
import HandS.WordsExc
import HandS.ForMost
import HandS.Wide
import HandS.IsInst
import HandS.Gcd
import HandS.Property
import HandS.Defaults
import HandS.Star
import KE.KOpsOwn
import HandS.CallSlots
import HandS.SlotsOwn
import KE.KStateDown
import HandS.Ends
import HandS.Head0
import HandS.Head1
import HandS.Head2
import HandS.Head3
import HandS.HeadEnd
import HandS.HeadHook1
import HandS.HeadHook2
import HandS.Text
import HandS.Iter
import HandS.Comp
import HandS.RaiseMore
import HandS.Dict
import PyProof.ReprRoads
import HandS.MapJoin
import HandS.Rev
import HandS.RevTup
import HandS.StrMore
import KE.IntTextLaws
import PyProof.StrLawsAffix
import PyProof.NeKinds
import HandS.TryMany
import PyProof.EqKinds
import PyProof.FactsAll.dict
import HandS.OwnEq
import PySem.Challenge.RW_anytempo_k03_amounts_as_strings
set_option Elab.async false
set_option linter.all false
set_option maxRecDepth 100000
set_option maxHeartbeats 4000000
/-! Exception classes whose __init__ says super().__init__(a text) and stores its one argument. -/
namespace Xb
open PySem PySem.W PySem.Calls PyProof.Rows
abbrev arg2 (F : Str) (p1 p2 : Pos) : Arguments :=
  { posonlyargs := [], args := [{ arg := "self", annotation := none, pos := p1 }, { arg := F, annotation := none, pos := p2 }],
    vararg := none, kwonlyargs := [], kw_defaults := [], kwarg := none, defaults := [] }
abbrev bod2 (F txt : Str) (k : Nat) (q1 q2 q3 q4 q5 q6 q7 q8 q9 q10 : Pos) : List Stmt :=
  [.Expr (.Call (.Attribute (.Call (.Name "super" q1) [] [] q2) "__init__" q3) [.Constant (.str txt) k q4] [] q5) q6,
   .Assign [.Attribute (.Name "self" q7) F q8] (.Name F q9) q10]
abbrev sco2 (F : Str) : Scope :=
  { kind := .function, names := [(PySem.Str.ofString "self", .local), (F, .local), (PySem.Str.ofString "__class__", .free), (PySem.Str.ofString "super", .globalImplicit)],
    isGenerator := false, isCoroutine := false, more := [] }
/-- the names of the one field are no other names -/
structure Nm (F : Str) : Prop where
  s : (sco2 F).names.lookup ("super" : Str) = some .globalImplicit
  c : (sco2 F).names.lookup ("__class__" : Str) = some .free
  f : (sco2 F).names.lookup F = some .local
  l : (sco2 F).names.lookup ("self" : Str) = some .local
  ne : (F == ("self" : Str)) = false
  en : (("self" : Str) == F) = false
  db : (F == ("__debug__" : Str)) = false
  b : ∀ (q : Str) (bd : List Stmt) (kV doc pm : Value) (an : Option Addr) (cd ct : Value) (cc : Addr) (p1 p2 : Pos) (u v : Value),
    bindArgs (ksFn "__init__" q (arg2 F p1 p2) bd (sco2 F) .none kV doc pm an cd ct cc) ⟨[u, v], []⟩ = pure [(("self" : Str), u), (F, v)]
theorem mcall1 {o : Expr} {name : Str} {apos pos p4 : Pos} {txt : Str} {kk : Nat} {env : Env} (h : (apos.endLine == pos.line) = true) :
    eval (.Call (.Attribute o name apos) [.Constant (.str txt) kk p4] [] pos) env = (do
      let ov ← attributeBase o name env (eval o env)
      standAt apos.atName
      let (f, first) ← holding [ov] (getMethod ov name (do return (← importBound o env).getD true))
      callWith pos f first (backTo pos (starEach [.Constant (.str txt) kk p4] env)) []) := by
  have e : ∀ ov, methodCall o name apos pos env ov 1 (backTo pos (starEach [.Constant (.str txt) kk p4] env)) [] = (do
      let (f, first) ← holding [ov] (getMethod ov name (do return (← importBound o env).getD true))
      callWith pos f first (backTo pos (starEach [.Constant (.str txt) kk p4] env)) []) := fun ov => by
    have hf : methodCallForm 1 (backTo pos (starEach [.Constant (.str txt) kk p4] env)) [] = true := rfl
    unfold methodCall methodCallPos calleeOf
    simp only [hf, h, Bool.not_true, Bool.false_or, if_true, pure_bind]
  show (do
      let ov ← attributeBase o name env (eval o env)
      standAt apos.atName
      methodCall o name apos pos env ov 1 (backTo pos (starEach [.Constant (.str txt) kk p4] env)) []) = _
  simp only [e]
theorem nm_value : Nm "value" := ⟨rfl, rfl, rfl, rfl, by decide, by decide, by decide, fun _ _ _ _ _ _ _ _ _ _ _ _ _ => rfl⟩
/-- what the written part says of the class at C and of its __init__ at fI -/
structure Txt (file : Str) (K : Frag) (q F txt : Str) (C fI : Addr) : Prop where
  nm : Nm F
  cls : ∃ nm q' N bs bm sn sub ab col dd k0 k1 k2 k3 k5, K.lookup C = some (excClassObj nm q' C N bs bm true sn sub ab col dd k0 k1 k2 k3 k5 "ValueError.__new__") ∧ HandSPX.refsVE bm = true
  sa : findIn K (.ref C) "__setattr__" = some (some (.builtin "object.__setattr__"))
  ga : findIn K (.ref C) "__getattribute__" = some (some (.builtin "BaseException.__getattribute__"))
  gg : findIn K (.ref C) "__getattr__" = some none
  noF : findIn K (.ref C) F = some none
  iC : findIn K (.ref C) "__init__" = some (some (.ref fI))
  tC : typeIn K (.ref fI) = some (.type "function")
  kC : keepIn K (.ref C) = true
  exC : subIn K (.ref C) (.type "BaseException") = some true
  veC : subIn K (.ref C) (.type "ValueError") = some true
  tyC : typeIn K (.ref C) = some (.type "type")
  hdC : hasDictIn K C = true
  te : exmOne K (.ref C) (.ref C) = some true
  sup : ks_superIn K C C "__init__" = some (some (.builtin "ValueError.__init__"))
  slf : mroIn K C (.ref C) = some true
  gs : nsIn K mainGlobals "super" = some none
  tp : nsIn K cStatics "thirdparty.any" = some none
  fn : ∃ (oc : Value) (od : Option Addr) (kV doc pm : Value) (an : Option Addr) (cda : Addr) (ct : Value) (osl : Array (Option Value)) (cc : Addr) (p1 p2 : Pos) (kk : Nat) (q1 q2 q3 q4 q5 q6 q7 q8 q9 q10 : Pos),
    K.lookup fI = some ⟨oc, od, .func (ksFn "__init__" q (arg2 F p1 p2) (bod2 F txt kk q1 q2 q3 q4 q5 q6 q7 q8 q9 q10) (sco2 F) .none kV doc pm an (.ref cda) ct cc), osl⟩ ∧ codeIn K (.ref cda) q = true ∧ (q3.endLine == q5.line) = true ∧
    (∃ ccl cdd vs ccs tf, K.lookup cda = some ⟨ccl, cdd, .fields vs, ccs⟩ ∧ vs[2]? = some (.str file tf)) ∧ (∃ cl cld csl, K.lookup cc = some ⟨cl, cld, .cell (some (.ref C)), csl⟩)
/-- behind __init__ -/
structure Done (h h' : Heap) (x C dx t1 : Addr) (F : Str) (v : Value) : Prop where
  keep : ∀ b o, b ≠ x → h.get? b = some o → h'.get? b = some o
  obj : h'.get? x = some { cls := .ref C, dict := some dx, data := .fields #[.ref t1, .none, .none, .none, .bool false, .none] }
  dbig : h.objs.size ≤ dx
  dne : dx ≠ x
  ns : h'.Ns1 dx (fun y => if y = F then some v else none)
section
variable {prog : Program} {w : World} {A : Around} {E : Value → Shared → Prop} {h : Heap} {g : Array GenState} {d : Drawn} {t : Nat} {os : OsState}
variable {nm q : Str} {C N : Addr} {bs bm : List Value} {hdct : Bool} {sn : List Str} {sub : List Value} {ab : Bool} {col : Option Bool} {dd : Option Addr} {k0 k1 k2 k3 k5 : Option Value}
/-- the bound built-in __init__ is called -/
theorem mw_call {u e t0 : Addr} {rest : List Value} {Q : Value → Shared → Prop}
    (hC : h.get? C = some (excClassObj nm q C N bs bm hdct sn sub ab col dd k0 k1 k2 k3 k5 "ValueError.__new__")) (he : h.get? e = some (HandSPX.excO C t0))
    (hu : h.get? u = some (kxs_mw "ValueError.__init__" e)) (hz : rest.length ≤ sizeLine)
    (hq : ∀ h' t1, (∀ b o, b ≠ e → h.get? b = some o → h'.get? b = some o) → h'.get? e = some (HandSPX.excO C t1) → Q .none ⟨h', g, d, t, os⟩) :
    wpAny (model prog w) A (call (.ref u) rest) Q E ⟨h, g, d, t, os⟩ := by
  have FB := F.excBase_ValueError
  have c1 : (Value.type "method-wrapper" == Value.type "method" || Value.type "method-wrapper" == Value.type "builtin_function_or_method" || Value.type "method-wrapper" == Value.type "method-wrapper") = true := by decide
  refine wpAny_call (codeAny_of_tree ?_)
  show wpAny _ A.in1 (callAny (.ref u) ⟨rest, []⟩) _ _ _
  simp only [callAny]
  refine wpAny_bind (wpAny_load hu ?_)
  simp only [kxs_mw, c1, if_true]
  refine KFB.if_so (by decide) ?_
  refine wpAny_bind (check_bound_init (initId := "ValueError.__init__") FB.toExcCallFacts hC he rfl ?_)
  refine wpAny_bind (wpAny_pure (wpAny_pure ?_))
  refine ⟨plainId_quiet FB.init.plain _, codeAny_builtin FB.initEntry ?_⟩
  refine exc_init_tree (cls := .ref C) (t0 := t0) (dv := none) (c2 := .none) (c3 := .none) (b4 := .bool false) he hz fun h' k e' _ => ?_
  exact hq h' _ k e'
end
section
variable {prog : Program} {w : World} {A : Around} {E : Value → Shared → Prop} {R : Result → Shared → Prop} {s : Shared} {K : Frag} {q F txt : Str} {C fI : Addr} {mg mb : Str → Option Value}
theorem initX (T : Txt prog.main.file K q F txt C fI) {x t0 : Addr} {v : Value} (X : K.In s.heap) (hlim : s.heap.NoLimit) (hg : s.heap.Ns mainGlobals mg) (hb : s.heap.Ns builtinsNs mb) (hbs : mb "super" = some (.type "super"))
    (htop : (prog.main.scope.names.lookup ("super" : Str)).isSome = false) (hx : s.heap.get? x = some (HandSPX.excO C t0)) (hnx : K.lookup x = none) (hroom : A.depth < recursionLimit)
    (hq : ∀ h' tk dx t1, Done s.heap h' x C dx t1 F v → R (.ok (.ret .none)) { s with heap := h', toks := tk }) :
    codeAny (model prog w) A (.call (.ref fI) ⟨[.ref x, v], []⟩) R s := by
  obtain ⟨oc, od, kV, doc, pm, an, cda, ct, osl, cc, p1, p2, kk, q1, q2, q3, q4, q5, q6, q7, q8, q9, q10, ho, hcd, hpl, ⟨ccl, cdd, vs, ccs, tf, hcode, hvs⟩, cl, cld, csl, hcell⟩ := T.fn
  obtain ⟨nm, q', N, bs, bm, sn, sub, ab, col, dd, k0, k1, k2, k3, k5, hC, hbm⟩ := T.cls
  have hcl : clsIn K C = some { name := nm, bases := bs, mro := .ref C :: bm, ns := N, qualname := q', hasDict := true, slotNames := sn, subclasses := sub, abstract := ab, collection := col, hasDel := false } := by unfold clsIn; rw [hC] <;> rfl
  refine ks_codeAny_call_defAt (fd := ksFn "__init__" q (arg2 F p1 p2) (bod2 F txt kk q1 q2 q3 q4 q5 q6 q7 q8 q9 q10) (sco2 F) .none kV doc pm an (.ref cda) ct cc) (binds := [("self", .ref x), (F, v)]) hroom (X _ _ ho) rfl hlim (codeRec_of X hcd) rfl
    (BindsTo.of_eq (T.nm.b _ _ _ _ _ _ _ _ _ _ _ _ _)) (fun y hy => ?_) (fun y hy => ?_) (fun h₁ hns hk => ?_)
  · simp only [List.mem_cons, List.not_mem_nil, or_false] at hy
    rcases hy with rfl | rfl | rfl | rfl <;> (intro z; cases z)
  · simp only [List.mem_cons, List.not_mem_nil, or_false] at hy
    rcases hy with rfl | rfl
    · exact T.nm.l
    · exact T.nm.f
  have X1 : K.In h₁ := X.keeps hk
  have g1 : h₁.Ns mainGlobals mg := hg.keeps hk
  have b1 : h₁.Ns builtinsNs mb := hb.keeps hk
  have x1 := hk _ _ hx
  have vS : ([(PySem.Str.ofString "self", Value.ref x), (F, v)] : List (Str × Value)).reverse.lookup ("self" : Str) = some (.ref x) := by
    show List.lookup ("self" : Str) [(F, v), (("self" : Str), Value.ref x)] = _
    simp [List.lookup, T.nm.en]
  have vF : ([(PySem.Str.ofString "self", Value.ref x), (F, v)] : List (Str × Value)).reverse.lookup F = some v := by
    show List.lookup F [(F, v), (("self" : Str), Value.ref x)] = _
    simp [List.lookup]
  show _root_.PySem.wpAt _ _ _ (execs (_ :: _) _) _ _ _
  refine ks_wpAt_execs_cons (ks_wpAt_Expr_any (ks_wpAt_MethodCall ?_ (mcall1 hpl)))
  obtain ⟨oD, hD1, hD2⟩ : ∃ oD, h₁.get? C = some oD ∧ oD.data = .cls { name := nm, bases := bs, mro := .ref C :: bm, ns := N, qualname := q', hasDict := true, slotNames := sn, subclasses := sub, abstract := ab, collection := col, hasDel := false } := ⟨_, X1 _ _ hC, rfl⟩
  have I1 : InstAt h₁ x (HandSPX.excO C t0) C none := ⟨x1, rfl, rfl, trivial⟩
  refine ks_wpAt_super_base T.nm.s T.nm.c (by decide) rfl (X1 _ _ ho) rfl rfl rfl (X1 _ _ hcode) rfl hvs (beq_self_eq_true _) htop ?_
  refine ks_loadName_global rfl T.nm.s (loadGlobal_builtin g1 (mg_none_of X1 g1 T.gs) b1 hbs ⟨rfl, ?_⟩)
  refine wpAny_loadName_free rfl T.nm.c (by rfl) ⟨_, X1 _ _ hcell, rfl⟩ ?_
  refine wpAny_loadName_local rfl T.nm.l hns vS ?_
  refine ks_wpAny_isType_cls hD1 hD2 ⟨rfl, ?_⟩
  refine ks_wpAny_call_super hD1 hD2 x1 rfl (fun c e => by cases e) (looks_mroIn X1 T.slf) (fun h₂ e2 k2' => ?_)
  have X2 : K.In h₂ := X1.keeps k2'
  have x2 := k2' _ _ x1
  have n2 : h₂.Ns s.heap.objs.size (fun y => ([(PySem.Str.ofString "self", Value.ref x), (F, v)] : List (Str × Value)).reverse.lookup y) := hns.keeps k2'
  have I2 : InstAt h₂ x (HandSPX.excO C t0) C none := ⟨x2, rfl, rfl, trivial⟩
  have hxC : x ≠ C := ks_ne X2 I2 hcl
  have hsup := T.sup
  unfold ks_superIn at hsup
  rw [hcl] at hsup
  have hI : Looks (model prog w) h₂ (isInstance (.ref x) (.type "ValueError")) true := I2.type.andThen (looks_subIn X2 T.veC)
  show wpAny _ _ (getMethod (.ref h₁.objs.size) "__init__" _) _ _ _
  refine kxs_getMethod kxs_ValueError e2 (looks_opaque X2 T.tp) (l₀ := .ref C :: bm) (fun A Q E s k z => wpAny_bind ((looks_clsIn X2 hcl) A _ E s k (wpAny_pure z))) rfl X2 hsup hI hxC (by decide) ?_
  have k3' : ∀ b o, h₂.get? b = some o → (h₂.push (kxs_mw "ValueError.__init__" x)).get? b = some o := fun b o e => Heap.get?_push_of_some _ e
  have u3 : (h₂.push (kxs_mw "ValueError.__init__" x)).get? h₂.objs.size = some (kxs_mw "ValueError.__init__" x) := Heap.get?_push_size _ rfl
  refine kxs_callWith (i := "ValueError.__init__") (x := x) rfl (evalArgs_plain (spliced_cons (Constant_str (k := kk) (pos := q4) (spliced_nil ⟨u3, ?_⟩))))
  refine mw_call (k3' _ _ (X2 _ _ hC)) (k3' _ _ x2) u3 (by show 1 ≤ sizeLine; rw [sizeLine_eq]; omega) fun h₄ t1 k4 x4 => ?_
  have X4 : K.In h₄ := fun a o e => k4 a o (fun z => by rw [z, hnx] at e; cases e) (k3' _ _ (X2 _ _ e))
  have hxL : s.heap.objs.size ≠ x := Nat.ne_of_gt (Heap.lt_size hx)
  have n4 : h₄.Ns s.heap.objs.size (fun y => ([(PySem.Str.ofString "self", Value.ref x), (F, v)] : List (Str × Value)).reverse.lookup y) := by
    obtain ⟨o, es, ep, e, r⟩ := n2
    exact ⟨o, es, ep, k4 _ _ hxL (k3' _ _ e), r⟩
  show _root_.PySem.wpAt _ _ _ (execs (_ :: _) _) _ _ _
  refine wpAt_of_wpAny (wpAny_execs_cons (plainObj_wpAny_Assign_Attribute ?_))
  refine wpAny_Name (wpAny_loadName_local rfl T.nm.f n4 vF ?_) T.nm.db
  refine wpAny_Name (wpAny_loadName_local rfl T.nm.l n4 vS ?_) (by decide)
  refine set_plain X4 (ox := HandSPX.excO C t1) (od := none) ⟨x4, rfl, rfl, trivial⟩ T.sa ?_
  refine HandSPX.exc_osa X4 x4 hcl (show HandSPX.refsVE (.ref C :: bm) = true from hbm) rfl T.noF (fun h₅ tk₅ dx k₅ dn dne hx₅ hn₅ => ?_)
  show wpAny _ _ (execs _ _) _ _ _
  have z4 : ∀ b o, b ≠ x → s.heap.get? b = some o → h₄.get? b = some o := fun b o hb e => k4 b o hb (k3' _ _ (k2' _ _ (hk _ _ e)))
  refine wpAny_execs_nil (hq h₅ tk₅ dx t1 ⟨fun b o hb e => k₅ b o hb (z4 b o hb e), hx₅, ?_, dne, hn₅⟩)
  obtain ⟨o4, es4, ep4, e4, _⟩ := n4
  exact Nat.le_of_lt (Nat.lt_of_lt_of_le (Heap.lt_size e4) dn)

/-- a made one -/
structure Made (h h' : Heap) (e C d : Addr) (F : Str) (v : Value) : Prop where
  keep : ∀ b o, h.get? b = some o → h'.get? b = some o
  new : h.objs.size ≤ e
  obj : ∃ t1 : Addr, h'.get? e = some { cls := .ref C, dict := some d, data := .fields #[.ref t1, .none, .none, .none, .bool false, .none] }
  dbig : h.objs.size ≤ d
  dne : d ≠ e
  ns : h'.Ns1 d (fun y => if y = F then some v else none)
theorem madeX (T : Txt prog.main.file K q F txt C fI) {v : Value} (X : K.In s.heap) (hlim : s.heap.NoLimit) (hg : s.heap.Ns mainGlobals mg) (hb : s.heap.Ns builtinsNs mb) (hbs : mb "super" = some (.type "super"))
    (htop : (prog.main.scope.names.lookup ("super" : Str)).isSome = false) (hroom : A.depth + 1 < recursionLimit)
    (hq : ∀ h' tk e d, Made s.heap h' e C d F v → R (.ok (.ret (.ref e))) { s with heap := h', toks := tk }) :
    codeAny (model prog w) A (.call (.ref C) ⟨[v], []⟩) R s := by
  obtain ⟨nm, q', N, bs, bm, sn, sub, ab, col, dd, k0, k1, k2, k3, k5, hC, hbm⟩ := T.cls
  obtain ⟨hp, g, dr, tk, os⟩ := s
  have k : ∀ b o, hp.get? b = some o → ((hp.push (kdv_tup [v])).push (HandSPX.excO C hp.objs.size)).get? b = some o := fun b o e => Heap.get?_push_of_some _ (Heap.get?_push_of_some _ e)
  have hget : ((hp.push (kdv_tup [v])).push (HandSPX.excO C hp.objs.size)).get? (hp.objs.size + 1) = some (HandSPX.excO C hp.objs.size) := by heap_get
  have hnx : K.lookup (hp.objs.size + 1) = none := by
    cases e : K.lookup (hp.objs.size + 1) with
    | none => rfl
    | some o =>
      have z : hp.get? (hp.objs.size + 1) = some o := X _ _ e
      exact absurd (Nat.lt_of_succ_lt (Heap.lt_size z)) (Nat.lt_irrefl _)
  refine HandSPX.call_own _root_.PySem.F.excBase_ValueError (fun X => HandSPX.refsVE_contains X bm hbm) (X _ _ hC) (looks_findIn X T.iC) (fun self => bind_fn X self T.tC) (by show 1 ≤ sizeLine; rw [sizeLine_eq]; omega) ?_
  refine initX (s := ⟨(hp.push (kdv_tup [v])).push (HandSPX.excO C hp.objs.size), g, dr, tk, os⟩) T (X.keeps k) (hlim.keeps k) (hg.keeps k) (hb.keeps k) hbs htop hget hnx ?_ fun h' tk' dx t1 D => ?_
  · show A.depth + 1 < recursionLimit
    exact hroom
  · have old : ∀ b o, hp.get? b = some o → h'.get? b = some o := fun b o e => D.keep b o (Nat.ne_of_lt (Nat.lt_succ_of_lt (Heap.lt_size e))) (k b o e)
    have z : hp.objs.size + 1 + 1 ≤ dx := by
      have q := D.dbig
      simp only [Heap.size_push] at q
      exact q
    exact ⟨rfl, hq h' tk' (hp.objs.size + 1) dx ⟨old, Nat.le_succ _, ⟨_, D.obj⟩, Nat.le_trans (Nat.le_trans (Nat.le_succ _) (Nat.le_succ _)) z, D.dne, D.ns⟩⟩
end
end Xb
set_option Elab.async false
set_option linter.all false
set_option maxRecDepth 100000
set_option maxHeartbeats 4000000
namespace Xb
open PySem PySem.Spec PyProof.Rows L2
theorem boot_super : bootBuiltins "super" = some (.type "super") := by decide +kernel
theorem relO_one {F : Str} {v : V} {v' : Value} (r : RelV v v') (f : Str) : RelO (List.lookup f [(F, v)]) (if f = F then some v' else none) := by
  by_cases hw : f = F
  · subst hw
    rw [if_pos rfl]
    have q : List.lookup f [(f, v)] = some v := by simp [List.lookup]
    rw [q]
    exact r
  · rw [if_neg hw]
    have qw : (f == F) = false := by simpa using hw
    have q2 : List.lookup f [(F, v)] = none := by simp [List.lookup, qw]
    rw [q2]
    trivial
section
variable {X : Cx} {C fI : Addr} {q F txt : Str}
/-- C(e), to be raised -/
def tMkX (C : Addr) (F : Str) (ta : TA) : L2.St → Hp → XK → Prop := fun σ H Q => ta σ H fun vs H1 => ∃ v, vs = [v] ∧ ∀ d, H1 d = none → Q (.ref C) (some d) (upd H1 d (.xd [(F, v)]))
theorem pmk_x {x : Str} {a : Expr} {ta : TA} {p pos : Pos} {k : Nat} (T : Txt X.prog.main.file X.K q F txt C fI) (hm : X.mg x = some (.ref C)) (htop : (X.prog.main.scope.names.lookup ("super" : Str)).isSome = false) (hr : Room k X.A) (ha : PA X [a] ta) (hg : Gl X x := by rfl)
    (hdb : (x == ("__debug__" : Str)) = false := by decide)
    (he : starEach (a :: []) X.env = (false, eval a X.env) :: starEach [] X.env := by rfl) (hpl : (backTo pos (starEach [] X.env)).any (·.1) = false := by rfl) :
    PMk X (.Call (.Name x p) [a] [] pos) (tMkX C F ta) := by
  intro pins s σ H Q I h
  refine wpAny_Call_Name_kw (ld_glob I hg hm ?_ hdb)
  refine PySem.W.callWith_K (h₀ := X.base) I.ok.mod.kin T.kC (thn (ha.run pos pins s σ H _ I h) fun us s1 hh => ?_) he hpl
  obtain ⟨vs, H1, I1, r1, v, ev, q1⟩ := hh
  subst ev
  refine ⟨I1.kIn, ?_⟩
  cases r1 with
  | cons rv rn =>
    rename_i v' us'
    cases rn
    show wpAny _ _ (call (.ref C) [v']) _ _ _
    have hlim := I1.nolimit
    have M := I1.mod
    have hns : s1.heap.Ns mainGlobals X.mg := M.glob.keeps I1.bk
    obtain ⟨mb, hb, hbb⟩ := M.blt
    have hb1 : s1.heap.Ns builtinsNs mb := hb.keeps I1.bk
    have hbs : mb "super" = some (.type "super") := (hbb _ (by decide)).trans boot_super
    obtain ⟨hp, g, dr, tk, os⟩ := s1
    refine wpAny_call (madeX T I1.kIn hlim hns hb1 hbs htop (by have := hr.dp; omega) fun h' tk' e d M => ?_)
    show MkP X pins σ Q (.ref e) ⟨h', g, dr, tk', os⟩
    obtain ⟨t1, hoe⟩ := M.obj
    obtain ⟨G', g1, g2⟩ := restrict h' fun b => decide (b ≠ e)
    have gk : ∀ b, b ≠ e → G'.get? b = h'.get? b := fun b hb => g1 b (decide_eq_true hb)
    have ge : G'.get? e = none := g2 e (by simp)
    have old : ∀ b o, hp.get? b = some o → G'.get? b = some o := fun b o q => (gk b (Nat.ne_of_lt (Nat.lt_of_lt_of_le (Heap.lt_size q) M.new))).trans (M.keep b o q)
    have ob : ObjOk X.prog X.w (upd H1 d (.xd [(F, v)])) G' d (.xd [(F, v)]) :=
      ⟨_, M.ns.at (fun o q => (gk d M.dne).trans q), fun f => relO_one rv f⟩
    have J : Inv X pins σ (upd H1 d (.xd [(F, v)])) ⟨G', g, dr, tk', os⟩ := I1.laid (t' := tk') old M.dbig ob
    refine ⟨e, _, _, ⟨G', g, dr, tk', os⟩, _, .ref C, some d, rfl, J, fun b o q => ?_, ge, hoe, ⟨rfl, rfl⟩, rfl, rfl, ?_, rfl, I1.bare, raises_own T.exC T.tyC, q1 d (I1.hok.fresh M.dbig)⟩
    · by_cases hb : b = e
      · have q' : G'.get? b = some o := q
        rw [hb, ge] at q'; cases q'
      · exact (gk b hb).symm.trans q
    · rw [upd_ne (Ne.symm M.dne)]
      exact I1.hok.fresh M.new
/-- raise C(e) -/
def tRaiseX (C : Addr) (F : Str) (W : WX) (ta : TA) : TS := fun _ σ H => tMkX C F ta σ H fun cls d H' => W cls d σ H'
theorem ps_raiseX {x : Str} {a : Expr} {ta : TA} {W : WX} {p pos pos2 : Pos} {k : Nat} (hc : X.calm = true) (T : Txt X.prog.main.file X.K q F txt C fI) (hm : X.mg x = some (.ref C)) (htop : (X.prog.main.scope.names.lookup ("super" : Str)).isSome = false) (hr : Room k X.A) (tk : Takes X W) (ha : PA X [a] ta) (hg : Gl X x := by rfl)
    (hdb : (x == ("__debug__" : Str)) = false := by decide)
    (he : starEach (a :: []) X.env = (false, eval a X.env) :: starEach [] X.env := by rfl) (hpl : (backTo pos (starEach [] X.env)).any (·.1) = false := by rfl) :
    PS X (.Raise (some (.Call (.Name x p) [a] [] pos)) none pos2) (tRaiseX C F W ta) := ps_raise hc tk (pmk_x T hm htop hr ha hg hdb he hpl)
/-- e.F, e the exception that the suite holds (at a; its class cls, its dict d) -/
def tByX (C : Addr) (F : Str) (a : Addr) (cls : Value) (d : Option Addr) (te : TE) : TE := fun σ H Q => te σ H fun x H1 => x = .ref a ∧ cls = .ref C ∧ ∃ (dd : Addr) (v : V), d = some dd ∧ H1 dd = some (.xd [(F, v)]) ∧ Q v H1
theorem pe_byX {a : Addr} {oe : Obj} {cls : Value} {d : Option Addr} {pn : List (Addr × Obj)} {e : Expr} {te : TE} {pos : Pos} (T : Txt X.prog.main.file X.K q F txt C fI) (hz : Zc cls d oe) (hf : ∃ vs, oe.data = .fields vs) (he : PE (X.suite a ((a, oe) :: pn)) e te)
    (hb : attributeBase e F X.env (eval e X.env) = eval e X.env := by rfl) :
    PE (X.suite a ((a, oe) :: pn)) (.Attribute e F pos) (tByX C F a cls d te) := by
  refine ⟨fun pins s σ H Q I h => ?_⟩
  refine attr_of hb (thn (he.run pins s σ H _ I h) fun u s1 hh => ?_)
  obtain ⟨x, H1, I1, rx, ex, ec, dd, v, ed, ea, q⟩ := hh
  subst ex
  obtain rfl : u = Value.ref a := rx
  subst ec
  subst ed
  obtain ⟨ha, _⟩ := I1.pin (a, oe) (List.mem_append_left _ List.mem_cons_self)
  obtain ⟨vs, hd⟩ := hf
  have hx : ObjOk X.prog X.w H1 s1.heap dd (.xd [(F, v)]) := I1.hok dd _ ea
  obtain ⟨mA, hns, hr⟩ := hx
  obtain ⟨od, ho, hl⟩ := lookIn_ns hns
  have l : List.lookup F [(F, v)] = some v := by simp [List.lookup]
  obtain ⟨u, hu, ru⟩ := RelO.some_of (v := v) (o := mA F) (by rw [← l]; exact hr F)
  have J : PySem.W.InstAt s1.heap a oe C (some od) := ⟨ha, hz.1, by unfold PySem.W.notCls; rw [hd] <;> rfl, by rw [hz.2]; exact ho⟩
  exact HandSPX.exc_get I1.kIn J T.ga T.gg T.exC (PySem.W.findObj_own T.hdC T.noF rfl (by rw [hl, hu])) (handed_of ru) ⟨v, H1, I1.tok _, ru, q⟩
end
end Xb
set_option Elab.async false
set_option linter.all false
set_option maxRecDepth 100000
set_option maxHeartbeats 4000000
namespace Fa
open PySem PySem.Spec PyProof.Rows L2
/-! ### the draws of the laws: a box of three ints -/
/-- a box at p, of which fewer than n draws were taken by the second way -/
def Box (H : Hp) (p : Addr) (n : Nat) : Prop := ∃ a b c : Int, H p = some (.lst [.int a, .int b, .int c]) ∧ 0 ≤ a ∧ 0 ≤ b ∧ b < 2147483648 ∧ 0 ≤ c ∧ c ≤ (n : Int)
theorem Box.mono {H : Hp} {p : Addr} {n m : Nat} (h : Box H p n) (e : n ≤ m) : Box H p m := by
  obtain ⟨a, b, c, h1, h2, h3, h4, h5, h6⟩ := h
  exact ⟨a, b, c, h1, h2, h3, h4, h5, by omega⟩
/-- all but p is as it was -/
def But (p : Addr) (H H' : Hp) : Prop := ∀ q, q ≠ p → H' q = H q
theorem But.refl (p : Addr) (H : Hp) : But p H H := fun _ _ => rfl
theorem But.trans {p : Addr} {H H1 H2 : Hp} (a : But p H H1) (b : But p H1 H2) : But p H H2 := fun q h => (b q h).trans (a q h)
theorem But.upd {p : Addr} {H : Hp} {o : HO} : But p H (upd H p o) := fun _ h => upd_ne h
def spCel (K : PySem.W.Frag) : Sp := fun vs H Q _ => ∃ (l : Addr) (ns : List Int) (j : Nat), vs = [.ref l, .int (j : Int)] ∧ SqL K H l (ns.map V.int) ∧ j ≤ 1000 ∧ ∀ z : Int, Q (.int z) H
def spBox : Sp := fun vs H Q _ => ∃ c : Int, vs = [.int c] ∧ ∀ p H', H p = none → (∀ q, q ≠ p → H' q = H q) → Box H' p 0 → Q (.ref p) H'
def spTake : Sp := fun vs H Q _ => ∃ (p : Addr) (m : Int) (n : Nat), vs = [.ref p, .int m] ∧ Box H p n ∧ n ≤ 1000000 ∧ 0 < m ∧ m < 2 ^ 1000 ∧ ∀ (z : Int) (H' : Hp), 0 ≤ z → z < m → Box H' p (n + 1) → But p H H' → Q (.int z) H'
theorem cdivW {a m : Int} (h : 0 < m) (h2 : m < 2 ^ 1000) : CDivW a m := ⟨h, by
  have e : m.natAbs < 2 ^ 1000 := by omega
  exact Nat.lt_of_lt_of_le ((Nat.log2_lt (by omega)).mpr e) (by omega)⟩
theorem atI3 {α : Type} {a b c : α} (i : Int) (h0 : i = 0 ∨ i = 1 ∨ i = 2) : atI [a, b, c] i = some (if i = 0 then a else if i = 1 then b else c) := by
  rcases h0 with rfl | rfl | rfl <;> rfl
end Fa
set_option Elab.async false
set_option linter.all false
set_option maxRecDepth 100000
set_option maxHeartbeats 4000000
namespace K03
open PySem PySem.Spec PyProof.Rows L2 Fa
def top (i : Nat) : Stmt := PySem.Challenge.pw_anytempo_k03_amounts_as_strings.main.body.getD i (.Pass ⟨0, 0, 0, 0⟩)
abbrev FnP (K : PySem.W.Frag) (x : Str) (st : Stmt) (f : Addr) (fd : FuncData) : Prop := FunD K x x (defArgs st) (defBody st) (defScope st) [] [] f fd

abbrev sCell : Stmt := top 36
abbrev sBox : Stmt := top 37
abbrev sTake : Stmt := top 38
theorem scCell : FnScope ["_law_script", "_law_k"] ["_law_script", "_law_k"] (defScope sCell) := ⟨rfl, rfl, rfl, by decide +kernel, rfl, by decide +kernel, by decide +kernel⟩
theorem scBox : FnScope ["_law_cell_here"] ["_law_cell_here"] (defScope sBox) := ⟨rfl, rfl, rfl, by decide +kernel, rfl, by decide +kernel, by decide +kernel⟩
theorem scTake : FnScope ["_law_box_here", "_law_many", "_law_digit", "_law_mixed"] ["_law_box_here", "_law_many"] (defScope sTake) := ⟨rfl, rfl, rfl, by decide +kernel, rfl, by decide +kernel, by decide +kernel⟩
section
variable {P : Program} {w : World} {K : PySem.W.Frag} {mg : Str → Option Value} {base : Heap} {f : Addr} {fd : FuncData}
theorem ok_cell (F : FnP K "_law_cell" sCell f fd) (mL : mg "len" = none) : FnOk P w K mg base CX0 1 f fd ["_law_script", "_law_k"] (spCel K) := by
  refine F.ok scCell (fun vs H Q E h => ?_) (fun cdv A outer s H vs Q E hr h => ?_)
  · obtain ⟨l, ns, j, rfl, _⟩ := h
    rfl
  · obtain ⟨l, ns, j, rfl, hs, hj, q⟩ := h
    refine ⟨_, PSs.nox (pss_cons (ps_if (pt_cmpR op_lt (pv 1) (pe_callB call_len rfl mL boot_len (pa_cons (pv 0) pa_nil)) (nomark _)) (pss_one (ps_ret (pe_ix ix_list (pv 0) (pv 1) (fun _ _ => rfl)))) pss_nil)
      (pss_one (ps_ret (pe_op op_add (pe_op op_mul pe_int (pv 1)) pe_int)))), ?_⟩
    refine ⟨_, rfl, _, rfl, _, (ns.map V.int).length, rfl, .inl ⟨_, hs, rfl⟩, _, _, rfl, rfl, _, rfl, ?_⟩
    refine ite2 (fun c => ?_) (fun c => ?_)
    · have c2 := of_decide_eq_true c
      have c3 : j < ns.length := by
        rw [List.length_map] at c2
        omega
      have e : atI (ns.map V.int) (j : Int) = some (.int ns[j]) := atI_nat (by
        rw [List.getElem?_map, List.getElem?_eq_getElem c3]
        rfl)
      exact ⟨_, rfl, _, rfl, l, _, _, _, rfl, rfl, hs, e, q _⟩
    · refine ⟨_, rfl, _, _, rfl, rfl, .inl ⟨by decide, by decide⟩, _, _, rfl, rfl, q _⟩
theorem ok_box (F : FnP K "_law_box" sBox f fd) (mM : mg "max" = none) : FnOk P w K mg base CX0 1 f fd ["_law_cell_here"] spBox := by
  refine F.ok scBox (fun vs H Q E h => ?_) (fun cdv A outer s H vs Q E hr h => ?_)
  · obtain ⟨c, rfl, _⟩ := h
    rfl
  · obtain ⟨c, rfl, q⟩ := h
    refine ⟨_, PSs.nox (pss_one (ps_ret (pe_lst (pa_cons (pe_callB (call_max2 rfl) rfl mM (by decide +kernel) (pa_cons pe_int (pa_cons (pe_op op_sub (pv 0) (pe_op op_pow pe_int pe_int)) pa_nil)))
      (pa_cons (pe_op op_mod (pv 0) pe_int) (pa_cons pe_int pa_nil)))))), ?_⟩
    refine ⟨_, rfl, _, _, rfl, rfl, ⟨by decide, by decide, by decide⟩, _, _, rfl, rfl, _, _, rfl, ?_⟩
    refine ⟨_, rfl, _, _, rfl, rfl, (by show (0 : Int) < 2147483629; decide), (by show 3 ≤ sizeLine; decide), fun p hp => ?_⟩
    refine q p _ hp (fun z hz => upd_ne hz) ⟨_, _, _, upd_same, ?_, ?_, ?_, by decide, by decide⟩
    · split <;> omega
    · exact Int.emod_nonneg _ (by decide)
    · exact Int.lt_trans (Int.emod_lt_of_pos _ (by decide)) (by decide)
theorem ok_take (F : FnP K "_law_take" sTake f fd) : FnOk P w K mg base CX0 1 f fd ["_law_box_here", "_law_many"] spTake := by
  refine F.ok scTake (fun vs H Q E h => ?_) (fun cdv A outer s H vs Q E hr h => ?_)
  · obtain ⟨p, m, n, rfl, _⟩ := h
    rfl
  · obtain ⟨p, m, n, rfl, ⟨a, b, c, hp, ha, hb, hb2, hc, hc2⟩, hn, hm, hm2, q⟩ := h
    refine ⟨_, PSs.nox (pss_cons (ps_if (pt_cmpR op_gt (pe_ix ix_list (pv 0) pe_int (fun _ _ => rfl)) pe_int (nomark _))
        (pss_cons (ps_set (i := 2) scTake.nd rfl (Or.inl rfl) (pe_op op_mod (pe_ix ix_list (pv 0) pe_int (fun _ _ => rfl)) (pv 1)))
        (pss_cons (ps_asg (pe_op op_fdivW (pe_ix ix_list (pv 0) pe_int (fun _ _ => rfl)) (pv 1)) (pg_sub (pv 0) pe_int set_list))
        (pss_one (ps_ret (pv 2))))) pss_nil)
      (pss_cons (ps_asg (pe_op op_add (pe_ix ix_list (pv 0) pe_int (fun _ _ => rfl)) pe_int) (pg_sub (pv 0) pe_int set_list))
      (pss_cons (ps_set (i := 3) scTake.nd rfl (Or.inl rfl) (pe_op op_mod (pe_op op_pow (pe_op op_add (pe_op op_add (pe_ix ix_list (pv 0) pe_int (fun _ _ => rfl)) (pe_op op_mul pe_int (pe_ix ix_list (pv 0) pe_int (fun _ _ => rfl)))) pe_int) pe_int) pe_int))
      (pss_cons (ps_set (i := 3) scTake.nd rfl (Or.inl rfl) (pe_op op_mod (pe_op op_pow (pe_op op_add (pv 3) (pe_op op_mul pe_int (pe_ix ix_list (pv 0) pe_int (fun _ _ => rfl)))) pe_int) pe_int))
      (pss_one (ps_ret (pe_op op_mod (pe_op op_fdiv (pv 3) pe_int) (pv 1)))))))), ?_⟩
    refine ⟨_, rfl, p, _, _, _, rfl, rfl, SqL.of hp, rfl, _, _, rfl, rfl, _, rfl, ?_⟩
    refine ite2 (fun t => ?_) (fun t => ?_)
    · have t2 : (0 : Int) < a := of_decide_eq_true t
      refine ⟨_, rfl, p, _, _, _, rfl, rfl, SqL.of hp, rfl, _, rfl, _, _, rfl, rfl, hm, ?_⟩
      refine ⟨_, rfl, p, _, _, _, rfl, rfl, SqL.of hp, rfl, _, rfl, _, _, rfl, rfl, cdivW hm hm2, ?_⟩
      refine ⟨_, rfl, p, _, _, _, rfl, rfl, hp, rfl, ?_⟩
      refine ⟨_, rfl, ?_⟩
      refine q _ _ (Int.emod_nonneg _ (by omega)) (Int.emod_lt_of_pos _ hm) ⟨_, _, _, upd_same, Int.ediv_nonneg ha (by omega), hb, hb2, hc, by omega⟩ But.upd
    · refine ⟨_, rfl, p, _, _, _, rfl, rfl, SqL.of hp, rfl, _, _, rfl, rfl, _, rfl, p, _, _, _, rfl, rfl, hp, rfl, ?_⟩
      have s1 : SqL K (upd H p (.lst [.int a, .int b, .int (c + 1)])) p [.int a, .int b, .int (c + 1)] := SqL.of upd_same
      refine ⟨_, rfl, p, _, _, _, rfl, rfl, s1, rfl, _, rfl, p, _, _, _, rfl, rfl, s1, rfl, _, _, rfl, rfl, .inl ⟨by decide, by decide⟩, _, _, rfl, rfl, _, _, rfl, rfl, _, _, rfl, rfl, ⟨by decide, by decide, ?_⟩, _, _, rfl, rfl, (by show (0 : Int) < 2147483647; decide), ?_⟩
      · show (b + 15489001 * (c + 1) + 1549).natAbs < 2 ^ 64
        omega
      have g1 : 0 ≤ (b + 15489001 * (c + 1) + 1549) ^ Int.toNat 5 % 2147483647 := Int.emod_nonneg _ (by decide)
      have g2 : (b + 15489001 * (c + 1) + 1549) ^ Int.toNat 5 % 2147483647 < 2147483647 := Int.emod_lt_of_pos _ (by decide)
      refine ⟨_, rfl, _, rfl, p, _, _, _, rfl, rfl, s1, rfl, _, _, rfl, rfl, .inl ⟨by decide, by decide⟩, _, _, rfl, rfl, _, _, rfl, rfl, ⟨by decide, by decide, ?_⟩, _, _, rfl, rfl, (by show (0 : Int) < 2147483587; decide), ?_⟩
      · show ((b + 15489001 * (c + 1) + 1549) ^ Int.toNat 5 % 2147483647 + 104711 * (c + 1)).natAbs < 2 ^ 64
        omega
      refine ⟨_, rfl, _, _, rfl, rfl, ⟨by decide, by decide⟩, _, rfl, _, _, rfl, rfl, hm, ?_⟩
      exact q _ _ (Int.emod_nonneg _ (by omega)) (Int.emod_lt_of_pos _ hm) ⟨_, _, _, upd_same, ha, hb, hb2, by omega, by omega⟩ But.upd
end

end K03
set_option Elab.async false
set_option linter.all false
set_option maxRecDepth 100000
set_option maxHeartbeats 4000000
namespace Fb
open PySem PySem.W PySem.Calls PyProof.Rows
section
variable {prog : Program} {w : World} {A : Around} {E : Value → Shared → Prop} {s : Shared} {K : Frag} {x C L f : Addr} {h₀ : Heap} {m : Str → Option Value} {ox : Obj} {od : Option Obj} {T : String}
/-- x op b, x an instance with its own def for op, b of a built-in type T (b may be an object) -/
theorem bin_any {op : Operator} {b : Value} {fo ro rc : Option Value} {Q : Value → Shared → Prop}
    (X : K.In s.heap) (I : InstAt s.heap x ox C od) (hb : ∀ M : Model, Looks M s.heap (typeOf b) (.type T)) (hc : selfFirst K C = true)
    (hs : findIn K (.ref C) (PySem.dunder op.info.2) = some (some (.ref f))) (hf : isFn K (.ref f) = true)
    (hr : findIn K (.ref C) (dunderR op.info.2) = some rc) (hp : rc = none ∨ ∃ g : Addr, rc = some (.ref g))
    (h1 : findIn K (.type T) (PySem.dunder op.info.2) = some fo) (h2 : findIn K (.type T) (dunderR op.info.2) = some ro) (hsub : subIn K (.type T) (.ref C) = some false)
    (h : wpAny (model prog w) A (call (.ref f) [.ref x, b]) (W.CmpBack Q) E s) : wpAny (model prog w) A (binaryOp op (.ref x) b) Q E s := by
  obtain ⟨cd, rest, hcd, hm⟩ := ksp_first hc
  rcases hi : op.info with ⟨sym, nm⟩
  rw [hi] at hs hr h1 h2
  dsimp only at hs hr h1 h2
  have one := ksp_try X I hs hf h
  obtain ⟨hh, g, d, tt, os⟩ := s
  have A1 : Looks (model prog w) hh (typeOf (.ref x)) (.ref C) := I.type
  have A2 : Looks (model prog w) hh (typeOf b) (.type T) := hb _
  have A3 : Looks (model prog w) hh (fillsNumberSlot (.ref C) nm) true := fills_K X hcd hm hs
  have A4 := ksp_fillsT (M := model prog w) (nm := nm) (T := T) X h1 h2
  have A5 : Looks (model prog w) hh (isSubtype (.type T) (.ref C)) false := looks_subIn X hsub
  have A6 : Looks (model prog w) hh (numberSlotInPython (.ref C) nm) true := ksp_inPy X hs hr hp
  have A7 : Looks (model prog w) hh (numberSlotInPython (.type T) nm) false := Looks.of_pure rfl
  have A8 : Looks (model prog w) hh (typeLookup (.type T) (dunderR nm)) ro := looks_findIn X h2
  generalize ((fo.isSome && !isSeqSlot fo) || (ro.isSome && !isSeqSlot ro)) = rt at A4
  have ne : (Value.ref C == Value.type T) = false := Bool.eq_false_iff.mpr fun z => by cases beq_iff_eq.mp z
  simp only [binaryOp, hi]
  refine wpAny_holding (wpAny_bind ?_)
  unfold binaryOp1
  refine wpAny_bind (A1.at (wpAny_bind (A2.at (wpAny_bind (A3.at ?_)))))
  simp only [ne, Bool.false_eq_true, if_false]
  cases rt <;>
  · ksp_lk
    refine wpAny_mono one (fun r s' z => ?_) fun _ _ e => e
    obtain ⟨v, rfl, hq⟩ := z
    ksp_lk
    exact hq
end
end Fb
namespace Fb
open PySem PySem.Spec PyProof.Rows L2
/-- an own operator of the class C, at the def f -/
structure OwnOp (K : PySem.W.Frag) (C : Addr) (nm : String) (f : Addr) : Prop where
  sf : PySem.W.selfFirst K C = true
  at_ : PySem.W.findIn K (.ref C) (PySem.dunder nm) = some (some (.ref f))
  fn : PySem.W.isFn K (.ref f) = true
  nr : PySem.W.findIn K (.ref C) (dunderR nm) = some none
/-- a built-in type at the right of it -/
def TyOp (K : PySem.W.Frag) (C : Addr) (nm : String) (T : String) : Prop := ∃ fo ro, PySem.W.findIn K (.type T) (PySem.dunder nm) = some fo ∧ PySem.W.findIn K (.type T) (dunderR nm) = some ro ∧ PySem.W.subIn K (.type T) (.ref C) = some false
/-- what may stand at the right -/
def RK (K : PySem.W.Frag) (C : Addr) (nm : String) (H : Hp) (y : V) : Prop := (∃ q dy gs, y = .ref q ∧ H q = some (.ins C dy gs)) ∨ ∃ T, TyX K H y (.type T) ∧ TyOp K C nm T
def tBinX (K : PySem.W.Frag) (C : Addr) (nm : String) (sp : Sp) (E : L2.St → XK) (ta tb : TE) : TE := fun σ H Q => ta σ H fun x H1 => tb σ H1 fun y H2 => ∃ p dx fs, x = .ref p ∧ H2 p = some (.ins C dx fs) ∧ RK K C nm H2 y ∧ sp [x, y] H2 Q (E σ)
def tUnX (C : Addr) (sp : Sp) (E : L2.St → XK) (ta : TE) : TE := fun σ H Q => ta σ H fun x H1 => ∃ p dx fs, x = .ref p ∧ H1 p = some (.ins C dx fs) ∧ sp [x] H1 Q (E σ)
section
variable {X : Cx} {CX : CXT} {k : Nat} {f C : Addr} {fd : FuncData} {ps : List Str} {sp : Sp} {E : L2.St → XK} {a b : Expr} {ta tb : TE} {pos : Pos}
theorem pe_binX {op : Operator} (W : OwnOp X.K C op.info.2 f) (F : FnOk X.prog X.w X.K X.mg X.base CX k f fd ps sp) (hr : Room k X.A) (hb : Binds X.K fd ps []) (hx : ∀ σ, PassesAt CX X σ (E σ)) (ha : PE X a ta) (hb2 : PE X b tb) :
    PE X (.BinOp a op b pos) (tBinX X.K C op.info.2 sp E ta tb) := by
  refine ⟨fun pins s σ H Q I h => ?_⟩
  refine wpAny_BinOp (bin ha hb2 I h fun v u s2 x y H2 I2 rx ry q => ?_)
  obtain ⟨p, dx, fs, ex, hp, rk, q⟩ := q
  subst ex
  obtain rfl : v = Value.ref p := rx
  obtain ⟨mA, O, _⟩ := ins_get I2.hok hp
  obtain ⟨od, J, _⟩ := O.look
  have go : wpAny (model X.prog X.w) X.A (call (.ref f) [.ref p, u]) (PySem.W.CmpBack (EP X pins σ Q)) X.xe s2 :=
    wpAny_mono (run_fnSD (dvs := []) (ds := []) (us := [.ref p, u]) (vs := [.ref p, y]) F hr hb .nil (hx σ) I2 (.cons rfl (.cons ry .nil)) q) (fun z s' hz => by
      obtain ⟨z', H', I', rz, qz⟩ := hz
      exact SlX.cmpback rz ⟨z', H', I', rz, qz⟩) fun _ _ x => x
  obtain ⟨m, hF⟩ := I2.fr
  rcases rk with ⟨q', dy, gs, ey, hq'⟩ | ⟨T, ty, fo, ro, h1, h2, h3⟩
  · subst ey
    obtain rfl : u = Value.ref q' := ry
    obtain ⟨mB, O', _⟩ := ins_get I2.hok hq'
    obtain ⟨od', J', _⟩ := O'.look
    exact PySem.W.binop_K hF I2.ok.mod.kin J J'.type W.sf W.at_ W.fn go
  · obtain ⟨P, Z, hP, _⟩ := kit_of I2 ry ty
    exact bin_any I2.kIn J (fun M => Z.ty M _ I2.kIn hP) W.sf W.at_ W.fn W.nr (.inl rfl) h1 h2 h3 go
/-- -a -/
theorem pe_negX (at_ : PySem.W.findIn X.K (.ref C) "__neg__" = some (some (.ref f))) (fn : PySem.W.isFn X.K (.ref f) = true) (F : FnOk X.prog X.w X.K X.mg X.base CX k f fd ps sp) (hr : Room k X.A) (hb : Binds X.K fd ps []) (hx : ∀ σ, PassesAt CX X σ (E σ)) (ha : PE X a ta) :
    PE X (.UnaryOp .USub a pos) (tUnX C sp E ta) := by
  refine ⟨fun pins s σ H Q I h => ?_⟩
  refine UnaryOp_ (thn (ha.run pins s σ H _ I h) fun v s1 ⟨x, H1, I1, r1, q1⟩ => ?_)
  obtain ⟨p, dx, fs, ex, hp, q⟩ := q1
  subst ex
  obtain rfl : v = Value.ref p := r1
  obtain ⟨mA, O, _⟩ := ins_get I1.hok hp
  obtain ⟨od, J, _⟩ := O.look
  obtain ⟨m, hF⟩ := I1.fr
  exact PySem.W.ksp_neg hF I1.ok.mod.kin J at_ fn (run_fnSD (dvs := []) (ds := []) (us := [.ref p]) (vs := [.ref p]) F hr hb .nil (hx σ) I1 (.cons rfl .nil) q)
/-- a == b, a an instance -/
theorem pe_eqX (at_ : PySem.W.findIn X.K (.ref C) "__eq__" = some (some (.ref f))) (fn : PySem.W.isFn X.K (.ref f) = true) (F : FnOk X.prog X.w X.K X.mg X.base CX k f fd ps sp) (hr : Room k X.A) (hb : Binds X.K fd ps []) (hx : ∀ σ, PassesAt CX X σ (E σ)) (ha : PE X a ta) (hb2 : PE X b tb) :
    PC X .Eq a b (fun σ H Q => ta σ H fun x H1 => tb σ H1 fun y H2 => ∃ p dx fs, x = .ref p ∧ H2 p = some (.ins C dx fs) ∧ ((∃ q dy gs, y = .ref q ∧ H2 q = some (.ins C dy gs)) ∨ ∃ T, TyX X.K H2 y (.type T) ∧ PySem.W.subIn X.K (.type T) (.ref C) = some false) ∧ sp [x, y] H2 Q (E σ)) := by
  refine ⟨fun pins s σ H Q I h => ?_⟩
  refine bin ha hb2 I h fun v u s2 x y H2 I2 rx ry q => ?_
  obtain ⟨p, dx, fs, ex, hp, rk, q⟩ := q
  subst ex
  obtain rfl : v = Value.ref p := rx
  obtain ⟨mA, O, _⟩ := ins_get I2.hok hp
  obtain ⟨od, J, _⟩ := O.look
  have go : wpAny (model X.prog X.w) X.A (call (.ref f) [.ref p, u]) (PySem.W.CmpBack (EP X pins σ Q)) X.xe s2 :=
    wpAny_mono (run_fnSD (dvs := []) (ds := []) (us := [.ref p, u]) (vs := [.ref p, y]) F hr hb .nil (hx σ) I2 (.cons rfl (.cons ry .nil)) q) (fun z s' hz => by
      obtain ⟨z', H', I', rz, qz⟩ := hz
      exact SlX.cmpback rz ⟨z', H', I', rz, qz⟩) fun _ _ x => x
  obtain ⟨m, hF⟩ := I2.fr
  rcases rk with ⟨q', dy, gs, ey, hq'⟩ | ⟨T, ty, h3⟩
  · subst ey
    obtain rfl : u = Value.ref q' := ry
    obtain ⟨mB, O', _⟩ := ins_get I2.hok hq'
    obtain ⟨od', J', _⟩ := O'.look
    exact PySem.W.cmp_K (op := .Eq) (tb := .ref C) hr.units0 hF I2.ok.mod.kin J J'.type (by simp [PySem.W.notFirst]) at_ fn go
  · obtain ⟨P, Z, hP, _⟩ := kit_of I2 ry ty
    exact PySem.W.cmp_K (op := .Eq) (tb := .type T) hr.units0 hF I2.ok.mod.kin J (fun A Q E s k z => Z.ty _ _ I2.kIn hP A Q E s k z) (by simp [PySem.W.notFirst, h3]) at_ fn go
end
end Fb
set_option Elab.async false
set_option linter.all false
set_option maxRecDepth 100000
set_option maxHeartbeats 4000000
namespace Fb
open PySem PySem.Spec PyProof.Rows L2
section
variable {X : Cx} {CX : CXT} {k : Nat} {f C : Addr} {fd : FuncData} {ps : List Str} {sp : Sp} {E : L2.St → XK} {a b : Expr} {ta tb : TE} {pos p : Pos}
theorem pe_absX (at_ : PySem.W.findIn X.K (.ref C) "__abs__" = some (some (.ref f))) (fn : PySem.W.isFn X.K (.ref f) = true) (F : FnOk X.prog X.w X.K X.mg X.base CX k f fd ps sp) (hr : Room (k + 2) X.A) (hb : Binds X.K fd ps []) (hx : ∀ σ, PassesAt CX X σ (E σ)) (hg : Gl X "abs") (hm : X.mg "abs" = none) (ha : PE X a ta)
    (he : starEach [a] X.env = (false, eval a X.env) :: starEach [] X.env := by rfl) (hpl : (backTo pos (starEach [] X.env)).any (·.1) = false := by rfl) :
    PE X (.Call (.Name "abs" p) [a] [] pos) (tUnX C sp E ta) := by
  refine ⟨fun pins s σ H Q I h => ?_⟩
  refine wpAny_Call_Name_kw (ld_blt I hg hm (by decide +kernel : bootBuiltins "abs" = some (.builtin "abs")) ?_)
  refine PyProof.Rows.callWith_builtin1 ?_ he hpl
  rw [he]
  show wpAny _ _ (spliced ((false, eval a X.env) :: backTo pos (starEach [] X.env))) _ _ s
  refine Calls.spliced_cons (thn (ha.run pins s σ H _ I h) fun v s1 ⟨x, H1, I1, r1, q1⟩ => Calls.spliced_nil ?_)
  obtain ⟨q0, dx, fs, ex, hp, q⟩ := q1
  subst ex
  obtain rfl : v = Value.ref q0 := r1
  obtain ⟨mA, O, _⟩ := ins_get I1.hok hp
  obtain ⟨od, J, _⟩ := O.look
  refine Calls.call_function_entry kind_abs plain_abs entry_abs (args_abs _) ?_
  have hr2 : Room k X.A.in1 := (show Room (k + 1) X.A.in1 from Room.in1 hr).mono (Nat.le_succ _)
  have hl : ([Value.ref q0]).length = ps.length := by
    rw [← F.len _ _ _ _ q]
    rfl
  have go : wpAny (model X.prog X.w) X.A.in1 (call (.ref f) [.ref q0]) (EP X pins σ Q) X.xe s1 := by
    refine wpAny_call (codeAny_mono (F.run X.A.in1 X.stack s1 H1 ⟨[.ref q0], []⟩ [.ref q0] [.ref q0] Q (E σ) hr2 I1.env0.in1 (hb s1 [.ref q0] I1.kIn hl) (.cons rfl .nil) q) fun r s' hq => ?_)
    cases r with
    | error e => exact hx σ pins H1 s1 e s' I1 hq
    | ok fl =>
      cases fl with
      | ret u => exact I1.after hq
      | next => exact False.elim hq
      | brk => exact False.elim hq
      | cont => exact False.elim hq
  unfold Builtin.«abs»
  refine wpAny_bind (m := oneArg "abs" _) (wpAny_pure ?_)
  refine wpAny_bind (m := callSpecial? (.ref q0) (Str.ofString "__abs__")) (PySem.W.special_fn I1.kIn J at_ (beq_iff_eq.mp fn) (wpAny_mono go (fun v' s' hv => ?_) fun _ _ y => y))
  exact wpAny_pure ⟨_, rfl, hv⟩
end
end Fb
set_option maxRecDepth 100000
namespace Am
/-- in lowest terms, the bottom above 0 -/
def Red (t u : Int) : Prop := 0 < u ∧ Nat.gcd t.natAbs u.natAbs = 1
theorem mk (a b : Int) (hb : b ≠ 0) (c : Int) (hc : c = (if b < 0 then -((Nat.gcd a.natAbs b.natAbs : Nat) : Int) else ((Nat.gcd a.natAbs b.natAbs : Nat) : Int))) :
    c ≠ 0 ∧ c.natAbs ≤ b.natAbs ∧ Red (a.fdiv c) (b.fdiv c) ∧ a.fdiv c * b = a * b.fdiv c ∧ (a.fdiv c).natAbs ≤ a.natAbs ∧ (b.fdiv c).natAbs ≤ b.natAbs := by
  have hbp : 0 < b.natAbs := Int.natAbs_pos.mpr hb
  have hg : 0 < Nat.gcd a.natAbs b.natAbs := Nat.gcd_pos_of_pos_right _ hbp
  have hgb : Nat.gcd a.natAbs b.natAbs ≤ b.natAbs := Nat.le_of_dvd hbp (Nat.gcd_dvd_right _ _)
  have hn : c.natAbs = Nat.gcd a.natAbs b.natAbs := by
    rw [hc]
    split <;> omega
  have h0 : c ≠ 0 := by omega
  have da : c ∣ a := Int.natAbs_dvd_natAbs.mp (by rw [hn]; exact Nat.gcd_dvd_left _ _)
  have db : c ∣ b := Int.natAbs_dvd_natAbs.mp (by rw [hn]; exact Nat.gcd_dvd_right _ _)
  obtain ⟨t, ht⟩ := da
  obtain ⟨u, hu⟩ := db
  have ea : a.fdiv c = t := by
    rw [ht]
    exact Int.mul_fdiv_cancel_left _ h0
  have eb : b.fdiv c = u := by
    rw [hu]
    exact Int.mul_fdiv_cancel_left _ h0
  have na : a.natAbs = c.natAbs * t.natAbs := by rw [ht, Int.natAbs_mul]
  have nb : b.natAbs = c.natAbs * u.natAbs := by rw [hu, Int.natAbs_mul]
  have hcp : 0 < c.natAbs := by omega
  have co : Nat.gcd t.natAbs u.natAbs = 1 := by
    have e : c.natAbs = c.natAbs * Nat.gcd t.natAbs u.natAbs := by
      rw [← Nat.gcd_mul_left, ← na, ← nb]
      exact hn
    exact Nat.eq_of_mul_eq_mul_left hcp (by rw [← e, Nat.mul_one])
  rw [ea, eb]
  have up : 0 < u := by
    by_cases h : b < 0
    · have c0 : c < 0 := by
        rw [hc, if_pos h]
        omega
      have : 0 < c * u ∨ ¬ 0 < c * u := Classical.em _
      rcases Int.lt_or_le 0 u with q | q
      · exact q
      · have z : 0 ≤ c * u := Int.mul_nonneg_of_nonpos_of_nonpos (Int.le_of_lt c0) q
        omega
    · have c0 : 0 < c := by
        rw [hc, if_neg h]
        omega
      rcases Int.lt_or_le 0 u with q | q
      · exact q
      · have z : c * u ≤ 0 := Int.mul_nonpos_of_nonneg_of_nonpos (Int.le_of_lt c0) q
        omega
  refine ⟨h0, by omega, ⟨up, co⟩, ?_, ?_, ?_⟩
  · rw [ht, hu]
    rw [Int.mul_left_comm, Int.mul_assoc]
  · rw [na]
    exact Nat.le_mul_of_pos_left _ hcp
  · rw [nb]
    exact Nat.le_mul_of_pos_left _ hcp
theorem uniq {t u n d : Int} (h : Red t u) (h' : Red n d) (e : t * d = n * u) : t = n ∧ u = d := by
  obtain ⟨hu, ht⟩ := h
  obtain ⟨hd, hn⟩ := h'
  have e1 : t.natAbs * d.natAbs = n.natAbs * u.natAbs := by rw [← Int.natAbs_mul, ← Int.natAbs_mul, e]
  have d1 : u.natAbs ∣ d.natAbs := by
    have z : u.natAbs ∣ t.natAbs * d.natAbs := by
      rw [e1]
      exact Nat.dvd_mul_left _ _
    exact (Nat.Coprime.dvd_of_dvd_mul_left (show Nat.Coprime u.natAbs t.natAbs by rw [Nat.coprime_comm]; exact ht) z)
  have d2 : d.natAbs ∣ u.natAbs := by
    have z : d.natAbs ∣ n.natAbs * u.natAbs := by
      rw [← e1]
      exact Nat.dvd_mul_left _ _
    exact (Nat.Coprime.dvd_of_dvd_mul_left (show Nat.Coprime d.natAbs n.natAbs by rw [Nat.coprime_comm]; exact hn) z)
  have e2 : u.natAbs = d.natAbs := Nat.dvd_antisymm d1 d2
  have e3 : u = d := by omega
  subst e3
  exact ⟨Int.eq_of_mul_eq_mul_right (by omega) e, rfl⟩
/-- what a pair of ints is worth: (t, u) in lowest terms and (n, d), d not 0 -/
def Is (t u n d : Int) : Prop := Red t u ∧ d ≠ 0 ∧ t * d = n * u
theorem is_of {t u a b n d : Int} (h : Red t u) (hb : b ≠ 0) (e : t * b = a * u) (hd : d ≠ 0) (e2 : a * d = n * b) : Is t u n d := by
  refine ⟨h, hd, ?_⟩
  have z : (t * d) * b = (n * u) * b := by
    calc (t * d) * b = (t * b) * d := by rw [Int.mul_assoc, Int.mul_comm d b, ← Int.mul_assoc]
      _ = (a * u) * d := by rw [e]
      _ = (a * d) * u := by rw [Int.mul_assoc, Int.mul_comm u d, ← Int.mul_assoc]
      _ = (n * b) * u := by rw [e2]
      _ = (n * u) * b := by rw [Int.mul_assoc, Int.mul_comm b u, ← Int.mul_assoc]
  exact Int.eq_of_mul_eq_mul_right hb z
theorem gcd_step {x y : Nat} (hy : 0 < y) : Nat.gcd y (x % y) = Nat.gcd x y := by
  rw [Nat.gcd_comm y, ← Nat.gcd_rec, Nat.gcd_comm]
end Am
set_option Elab.async false
set_option linter.all false
set_option maxRecDepth 100000
set_option maxHeartbeats 0
namespace Hd
open PySem PySem.Spec PyProof.Rows L2
def hookB (n : Nat) (chk : PySem.W.Frag → Bool) : PySem.W.Hook where
  α := Bool
  obs := fun s => chk (He.frG s.heap.get? (He.asD s.heap.get? n))
  val := fun _ => true
  says := fun _ h => ∃ K : PySem.W.Frag, K.In h ∧ chk K = true
  of := fun _ _ e => ⟨_, He.frG_in, e⟩
  keeps := fun _ _ _ ⟨K, hK, c⟩ k => ⟨K, PySem.W.Frag.In.keeps hK k, c⟩
def obT (n : Nat) (chk : PySem.W.Frag → Bool) (s : PySem.W.SharedT) : Bool := chk (He.frG (HandSHeadRun.getT s) (He.asD (HandSHeadRun.getT s) n))
theorem obT_eq (n : Nat) (chk : PySem.W.Frag → Bool) (s : PySem.W.SharedT) : obT n chk s = (hookB n chk).obs s.abs := by
  have e : HandSHeadRun.getT s = s.abs.heap.get? := funext fun a => HandSHeadRun.getT_eq s a
  unfold obT
  rw [e]
  rfl
end Hd
set_option Elab.async false
set_option linter.all false
set_option maxRecDepth 100000
set_option maxHeartbeats 4000000
/-! The facts that a law leans on, read off the heap behind the top by one run. -/
namespace Hd
open PySem PySem.Spec PyProof.Rows L2
/-- a def of the text: where it stands, and what it is -/
structure Def where
  ad : PySem.W.Frag → Addr
  name : Str
  qual : Str
  st : Stmt
  cl : List Str := []
  dfl : List He.Dv := []
abbrev FnZ : Type := Option (Str × Str × Arguments × FuncBody × Scope × Addr × List Str × Addr)
def obs1 (K : PySem.W.Frag) (f : Addr) : FnZ := match K.lookup f with
  | some ⟨_, _, .func fd, _⟩ => some (fd.name, fd.qualname, fd.params, fd.body, fd.scope, fd.globals, fd.closure.map (·.1), fd.builtins)
  | _ => none
def Def.val (d : Def) : FnZ := some (d.name, d.qual, defArgs d.st, .stmts (defBody d.st), defScope d.st, mainGlobals, d.cl, builtinsNs)
def Def.ok (K : PySem.W.Frag) (d : Def) : Bool := PySem.W.keepIn K (.ref (d.ad K)) && (match K.lookup (d.ad K) with
  | some ⟨_, _, .func fd, _⟩ => PySem.W.codeIn K fd.code d.qual && He.dflB K fd.defaults (d.dfl.map (He.Dv.v K))
  | _ => false)
/-- what is known of one def -/
structure Got (K : PySem.W.Frag) (d : Def) (fd : FuncData) : Prop where
  kp : PySem.W.keepIn K (.ref (d.ad K)) = true
  ex : ∃ (oc : Value) (od : Option Addr) (dV kV doc pm : Value) (an : Option Addr) (cdv ct : Value) (osl : Array (Option Value)) (cl : List (Str × Addr)),
    fd = PySem.W.fnX d.name d.qual (defArgs d.st) (defBody d.st) (defScope d.st) cl dV kV doc pm an cdv ct ∧ K.lookup (d.ad K) = some ⟨oc, od, .func fd, osl⟩ ∧ PySem.W.codeIn K cdv d.qual = true ∧
    DflV K dV (d.dfl.map (He.Dv.v K)) ∧ cl.map (·.1) = d.cl
theorem got {K : PySem.W.Frag} {d : Def} (e : obs1 K (d.ad K) = d.val) (c : d.ok K = true) : ∃ fd, Got K d fd := by
  obtain ⟨kp, c2⟩ := He.ba c
  unfold obs1 at e
  cases q : K.lookup (d.ad K) with
  | none =>
    rw [q] at c2
    cases c2
  | some o =>
    obtain ⟨oc, od, dt, osl⟩ := o
    rw [q] at c2 e
    cases dt with
    | func fd =>
      obtain ⟨n1, n2, n3, n4, n5, n6, n7, n8, n9, n10, n11, n12, n13, n14, n15⟩ := fd
      have e2 : (some (n1, n2, n3, n4, n5, n6, n7.map (·.1), n15) : FnZ) = some (d.name, d.qual, defArgs d.st, .stmts (defBody d.st), defScope d.st, mainGlobals, d.cl, builtinsNs) := e
      simp only [Option.some.injEq, Prod.mk.injEq] at e2
      obtain ⟨h1, h2, h3, h4, h5, h6, h7, h8⟩ := e2
      subst h1 h2 h3 h4 h5 h6 h8
      obtain ⟨k1, k2⟩ := He.ba (show (PySem.W.codeIn K n13 d.qual && He.dflB K n8 (d.dfl.map (He.Dv.v K))) = true from c2)
      exact ⟨_, kp, oc, od, n8, n9, n10, n11, n12, n13, n14, osl, n7, rfl, q, k1, He.dflB_ok k2, h7⟩
    | _ => cases c2
theorem Got.funD {K : PySem.W.Frag} {d : Def} {fd : FuncData} (g : Got K d fd) (h : d.cl = [] := by rfl) : FunD K d.name d.qual (defArgs d.st) (defBody d.st) (defScope d.st) (d.dfl.map (He.Dv.v K)) [] (d.ad K) fd := by
  obtain ⟨oc, od, dV, kV, doc, pm, an, cdv, ct, osl, cl, h1, h2, h3, h4, h5⟩ := g.ex
  rw [h] at h5
  have h6 : cl = [] := List.map_eq_nil_iff.mp h5
  subst h6
  exact ⟨⟨oc, od, dV, kV, doc, pm, an, cdv, ct, osl, h1, h2, h3, h4, .inl rfl⟩, g.kp⟩
/-- all of them, and a further check -/
abbrev Al : Type := List FnZ × Bool × Bool
def obsK (ds : List Def) (chk : PySem.W.Frag → Bool) (K : PySem.W.Frag) : Al := (ds.map fun d => obs1 K (d.ad K), ds.all fun d => d.ok K, chk K)
def valK (ds : List Def) : Al := (ds.map Def.val, true, true)
def grow (g : Addr → Option Obj) : Nat → List Addr
  | 0 => [mainGlobals, cStatics]
  | n + 1 => He.growD g (grow g n)
def hook (n : Nat) (ds : List Def) (chk : PySem.W.Frag → Bool) : PySem.W.Hook where
  α := Al
  obs := fun s => obsK ds chk (He.frG s.heap.get? (grow s.heap.get? n))
  val := fun _ => valK ds
  says := fun _ h => ∃ K : PySem.W.Frag, K.In h ∧ obsK ds chk K = valK ds
  of := fun _ _ e => ⟨_, He.frG_in, e⟩
  keeps := fun _ _ _ ⟨K, hK, c⟩ k => ⟨K, PySem.W.Frag.In.keeps hK k, c⟩
def ob (n : Nat) (ds : List Def) (chk : PySem.W.Frag → Bool) (s : PySem.W.SharedT) : Al := obsK ds chk (He.frG (HandSHeadRun.getT s) (grow (HandSHeadRun.getT s) n))
theorem ob_eq (n : Nat) (ds : List Def) (chk : PySem.W.Frag → Bool) (s : PySem.W.SharedT) : ob n ds chk s = (hook n ds chk).obs s.abs := by
  have e : HandSHeadRun.getT s = s.abs.heap.get? := funext fun a => HandSHeadRun.getT_eq s a
  unfold ob
  rw [e]
  rfl
section
variable {K : PySem.W.Frag} {ds : List Def} {chk : PySem.W.Frag → Bool}
theorem says_def (c : obsK ds chk K = valK ds) (i : Nat) {d : Def} (h : ds[i]? = some d := by rfl) : ∃ fd, Got K d fd := by
  have e : ds.map (fun d => obs1 K (d.ad K)) = ds.map Def.val := congrArg (fun z : Al => z.1) c
  have c2 : (ds.all fun d => d.ok K) = true := congrArg (fun z : Al => z.2.1) c
  have e2 : (ds.map fun d => obs1 K (d.ad K))[i]? = (ds.map Def.val)[i]? := by rw [e]
  rw [List.getElem?_map, List.getElem?_map, h] at e2
  exact got (Option.some.inj e2) (List.all_eq_true.mp c2 d (List.mem_of_getElem? h))
theorem says_chk (c : obsK ds chk K = valK ds) : chk K = true := congrArg (fun z : Al => z.2.2) c
end
/-- a list of checks -/
def allB (l : List Bool) : Bool := l.all id
theorem allB_at {l : List Bool} (h : allB l = true) (i : Nat) {b : Bool} (e : l[i]? = some b := by rfl) : b = true := List.all_eq_true.mp h b (List.mem_of_getElem? e)
/-! ### an exception class -/
def clsVE (K : PySem.W.Frag) (C : Addr) : Bool := match K.lookup C with
  | some ⟨.type t, _, .cls cd, sl⟩ => (match cd.mro, sl.toList with
    | .ref C' :: bm, [_, _, _, _, some (.builtin n), _] => decide (t = "type") && (decide (C' = C) && (decide (n = "ValueError.__new__") && (!cd.hasDel && (cd.hasDict && HandSPX.refsVE bm))))
    | _, _ => false)
  | _ => false
theorem clsVE_ok {K : PySem.W.Frag} {C : Addr} (h : clsVE K C = true) : ∃ nm q' N bs bm sn sub ab col dd k0 k1 k2 k3 k5, K.lookup C = some (excClassObj nm q' C N bs bm true sn sub ab col dd k0 k1 k2 k3 k5 "ValueError.__new__") ∧ HandSPX.refsVE bm = true := by
  unfold clsVE at h
  split at h
  · rename_i t dd cd sl ho
    split at h
    · rename_i C' bm k0 k1 k2 k3 n k5 hm hs
      obtain ⟨h0, h⟩ := He.ba h
      obtain ⟨h1, h⟩ := He.ba h
      obtain ⟨h2, h⟩ := He.ba h
      obtain ⟨h3, h⟩ := He.ba h
      obtain ⟨h4, h5⟩ := He.ba h
      have h0 := of_decide_eq_true h0
      have h1 := of_decide_eq_true h1
      have h2 := of_decide_eq_true h2
      subst h0 h1 h2
      obtain ⟨nm, bs, mro, ns, qn, hd, sn, sub, ab, col, del⟩ := cd
      dsimp only at hm h3 h4
      subst hm h4
      have h3 : del = false := by simpa using h3
      subst h3
      have hsl : sl = #[k0, k1, k2, k3, some (.builtin "ValueError.__new__"), k5] := by
        obtain ⟨l⟩ := sl
        simp only at hs
        rw [hs]
      subst hsl
      exact ⟨_, _, _, _, _, _, _, _, _, _, _, _, _, _, _, ho, h5⟩
    · cases h
  · cases h
def fileB (file : Str) (vs : Array Value) : Bool := match vs[2]? with
  | some (Value.str fl _) => decide (fl = file)
  | _ => false
theorem fileB_ok {file : Str} {vs : Array Value} (h : fileB file vs = true) : ∃ tf, vs[2]? = some (Value.str file tf) := by
  unfold fileB at h
  split at h
  · rename_i fl tf e
    have z := of_decide_eq_true h
    subst z
    exact ⟨tf, e⟩
  · cases h
/-- the further facts of the class x whose one field is F -/
def excB (file : Str) (K : PySem.W.Frag) (x F : Str) : Bool :=
  let C := He.ga K x
  let fI := He.ma K C "__init__"
  allB [He.eqO (PySem.W.nsIn K mainGlobals x) (some (some (.ref C))), clsVE K C, He.eqO (PySem.W.findIn K (.ref C) "__setattr__") (some (some (.builtin "object.__setattr__"))),
    He.eqO (PySem.W.findIn K (.ref C) "__getattribute__") (some (some (.builtin "BaseException.__getattribute__"))), He.eqO (PySem.W.findIn K (.ref C) "__getattr__") (some none), He.eqO (PySem.W.findIn K (.ref C) F) (some none),
    He.eqO (PySem.W.findIn K (.ref C) "__init__") (some (some (.ref fI))), decide (PySem.W.typeIn K (.ref fI) = some (.type "function")), PySem.W.keepIn K (.ref C), decide (PySem.W.subIn K (.ref C) (.type "BaseException") = some true),
    decide (PySem.W.subIn K (.ref C) (.type "ValueError") = some true), decide (PySem.W.typeIn K (.ref C) = some (.type "type")), PySem.W.hasDictIn K C, decide (PySem.W.exmOne K (.ref C) (.ref C) = some true),
    He.eqO (PySem.W.ks_superIn K C C "__init__") (some (some (.builtin "ValueError.__init__"))), decide (PySem.W.mroIn K C (.ref C) = some true), He.eqO (PySem.W.nsIn K mainGlobals "super") (some none), He.eqO (PySem.W.nsIn K cStatics "thirdparty.any") (some none),
    (match K.lookup fI with
      | some ⟨_, _, .func fd, _⟩ => (match fd.code, fd.closure with
        | .ref cda, [(_, cc)] => (match K.lookup cda with
          | some ⟨_, _, .fields vs, _⟩ => fileB file vs
          | _ => false) && (match K.lookup cc with
          | some ⟨_, _, .cell (some (.ref D)), _⟩ => decide (D = C)
          | _ => false)
        | _, _ => false)
      | _ => false)]
/-- the def of its __init__ -/
def excD (x q : Str) (st : Stmt) : Def := { ad := fun K => He.ma K (He.ga K x) "__init__", name := "__init__", qual := q, st := st, cl := ["__class__"] }
theorem exc_txt {file : Str} {K : PySem.W.Frag} {x q F txt : Str} {st : Stmt} {fd : FuncData} (nm : Xb.Nm F) (g : Got K (excD x q st) fd) (c : excB file K x F = true)
    (hst : ∃ (p1 p2 : Pos) (kk : Nat) (q1 q2 q3 q4 q5 q6 q7 q8 q9 q10 : Pos), defArgs st = Xb.arg2 F p1 p2 ∧ defBody st = Xb.bod2 F txt kk q1 q2 q3 q4 q5 q6 q7 q8 q9 q10 ∧ defScope st = Xb.sco2 F ∧ (q3.endLine == q5.line) = true) :
    Xb.Txt file K q F txt (He.ga K x) (He.ma K (He.ga K x) "__init__") := by
  obtain ⟨oc, od, dV, kV, doc, pm, an, cdv, ct, osl, cl, h1, h2, h3, h4, h5⟩ := g.ex
  obtain ⟨p1, p2, kk, q1, q2, q3, q4, q5, q6, q7, q8, q9, q10, s1, s2, s3, s4⟩ := hst
  have hdV : dV = .none := by
    rcases h4 with ⟨_, e⟩ | ⟨e, _⟩
    · exact e
    · exact absurd rfl e
  have last := allB_at c 18
  have lk : K.lookup (He.ma K (He.ga K x) "__init__") = some ⟨oc, od, .func fd, osl⟩ := h2
  rw [lk] at last
  rw [h1] at last
  refine ⟨nm, clsVE_ok (allB_at c 1), He.eqO_ok (allB_at c 2), He.eqO_ok (allB_at c 3), He.eqO_ok (allB_at c 4), He.eqO_ok (allB_at c 5), He.eqO_ok (allB_at c 6), of_decide_eq_true (allB_at c 7), allB_at c 8, of_decide_eq_true (allB_at c 9), of_decide_eq_true (allB_at c 10),
    of_decide_eq_true (allB_at c 11), allB_at c 12, of_decide_eq_true (allB_at c 13), He.eqO_ok (allB_at c 14), of_decide_eq_true (allB_at c 15), He.eqO_ok (allB_at c 16), He.eqO_ok (allB_at c 17), ?_⟩
  cases cdv with
  | ref cda =>
    cases cl with
    | nil => cases h5
    | cons y r =>
      obtain ⟨y1, cc⟩ := y
      cases r with
      | cons _ _ => cases h5
      | nil =>
        have e1 : y1 = ("__class__" : Str) := (List.cons.inj h5).1
        subst e1
        obtain ⟨l1, l2⟩ := He.ba (show ((match K.lookup cda with
          | some ⟨_, _, .fields vs, _⟩ => fileB file vs
          | _ => false) && (match K.lookup cc with
          | some ⟨_, _, .cell (some (.ref D)), _⟩ => decide (D = He.ga K x)
          | _ => false)) = true from last)
        refine ⟨oc, od, kV, doc, pm, an, cda, ct, osl, cc, p1, p2, kk, q1, q2, q3, q4, q5, q6, q7, q8, q9, q10, ?_, h3, s4, ?_, ?_⟩
        · rw [lk, h1, hdV]
          show some (⟨oc, od, .func (PySem.W.fnX "__init__" q (defArgs st) (defBody st) (defScope st) [("__class__", cc)] .none kV doc pm an (.ref cda) ct), osl⟩ : Obj) = _
          rw [s1, s2, s3]
        · split at l1
          · rename_i ccl cdd vs ccs hk
            obtain ⟨tf, e⟩ := fileB_ok l1
            exact ⟨_, _, _, _, tf, hk, e⟩
          · cases l1
        · split at l2
          · rename_i a b D c2 hk
            have e := of_decide_eq_true l2
            subst e
            exact ⟨_, _, _, hk⟩
          · cases l2
  | _ => cases last
end Hd
set_option Elab.async false
set_option linter.all false
set_option maxRecDepth 100000
set_option maxHeartbeats 4000000
namespace K03
open PySem PySem.Spec PyProof.Rows L2 Fa Fb
theorem if_true_of {c : Bool} {A B : Prop} (hc : c = true) (h : A) : if c = true then A else B := by
  rw [if_pos hc]
  exact h
theorem if_false_of {c : Bool} {A B : Prop} (hc : c = false) (h : B) : if c = true then A else B := by
  rw [hc, if_neg Bool.false_ne_true]
  exact h


abbrev CA (K : PySem.W.Frag) : Addr := He.ga K "Amount"
abbrev CI (K : PySem.W.Frag) : Addr := He.ga K "InvalidInteger"
abbrev CV (K : PySem.W.Frag) : Addr := He.ga K "InvalidAmount"
abbrev aI (K : PySem.W.Frag) : Addr := He.ma K (CA K) "__init__"
abbrev sWhole : Stmt := top 14
abbrev sIsA : Stmt := top 29
abbrev sAsA : Stmt := top 30
abbrev sInit : Stmt := inClass (top 28) 0
abbrev sTop : Stmt := inClass (top 28) 1
abbrev sBot : Stmt := inClass (top 28) 2
abbrev sEq : Stmt := inClass (top 28) 3
theorem scWhole : FnScope ["value"] ["value"] (defScope sWhole) := ⟨rfl, rfl, rfl, by decide +kernel, rfl, by decide +kernel, by decide +kernel⟩
theorem scIsA : FnScope ["value"] ["value"] (defScope sIsA) := ⟨rfl, rfl, rfl, by decide +kernel, rfl, by decide +kernel, by decide +kernel⟩
theorem scAsA : FnScope ["value"] ["value"] (defScope sAsA) := ⟨rfl, rfl, rfl, by decide +kernel, rfl, by decide +kernel, by decide +kernel⟩
theorem scInit : FnScope ["self", "top", "bottom", "common"] ["self", "top", "bottom"] (defScope sInit) := ⟨rfl, rfl, rfl, by decide +kernel, rfl, by decide +kernel, by decide +kernel⟩
theorem scTop : FnScope ["self"] ["self"] (defScope sTop) := ⟨rfl, rfl, rfl, by decide +kernel, rfl, by decide +kernel, by decide +kernel⟩
theorem scBot : FnScope ["self"] ["self"] (defScope sBot) := ⟨rfl, rfl, rfl, by decide +kernel, rfl, by decide +kernel, by decide +kernel⟩
theorem scEq : FnScope ["self", "other"] ["self", "other"] (defScope sEq) := ⟨rfl, rfl, rfl, by decide +kernel, rfl, by decide +kernel, by decide +kernel⟩
/-- the fields of an amount -/
def fl (t u : Int) : List (Str × V) := putF "_bottom" (.int u) (putF "_top" (.int t) [])
theorem tb : ¬ (("_top" : Str) = "_bottom") := by decide +kernel
theorem fl_top (t u : Int) : (fl t u).lookup ("_top" : Str) = some (.int t) := by
  unfold fl
  rw [lookup_putF, if_neg tb, lookup_putF, if_pos rfl]
theorem fl_bot (t u : Int) : (fl t u).lookup ("_bottom" : Str) = some (.int u) := by
  unfold fl
  rw [lookup_putF, if_pos rfl]
theorem fl_no (t u : Int) {m : Str} (h1 : ¬ m = "_bottom") (h2 : ¬ m = "_top") : (fl t u).lookup m = none := by
  unfold fl
  rw [lookup_putF, if_neg h1, lookup_putF, if_neg h2]
  rfl
/-- x is an amount, in lowest terms, of less than n bits -/
def IsA (K : PySem.W.Frag) (H : Hp) (x : V) (t u : Int) (n : Nat) : Prop := ∃ p dx, x = .ref p ∧ H p = some (.ins (CA K) dx (fl t u)) ∧ Am.Red t u ∧ t.natAbs < 2 ^ n ∧ u.natAbs < 2 ^ n
theorem IsA.same {K : PySem.W.Frag} {H H' : Hp} {x : V} {t u : Int} {n : Nat} (h : IsA K H x t u n) (s : Same H H') : IsA K H' x t u n := by
  obtain ⟨p, dx, e, h1, h2⟩ := h
  exact ⟨p, dx, e, s _ _ h1, h2⟩
/-- whether a value counts as a whole number -/
def Wh (K : PySem.W.Frag) (H : Hp) (x : V) (b : Bool) : Prop := ∃ t b1 b2, TyX K H x t ∧ PySem.W.kitOne K t (.type "int") = some b1 ∧ PySem.W.kitOne K t (.type "bool") = some b2 ∧ b = (b1 && !b2)
theorem wh_int {K : PySem.W.Frag} {H : Hp} (i : Int) : Wh K H (.int i) true := ⟨_, true, false, .base (.int i), kit_ty (by decide +kernel), kit_ty (by decide +kernel), rfl⟩
def tys : List String := ["int", "bool", "NoneType", "str", "list", "tuple", "dict"]
/-- what the written part says of the class -/
structure AF (K : PySem.W.Frag) (mg : Str → Option Value) : Prop where
  cl : Cls K (CA K)
  noT : NoAttr K (CA K) "_top"
  noB : NoAttr K (CA K) "_bottom"
  mkA : Mk K (CA K) (aI K)
  g : mg "Amount" = some (.ref (CA K))
  isi : mg "isinstance" = none
  int : mg "int" = none
  bool : mg "bool" = none
  gcd : mg "gcd" = some (.builtin "math.gcd")
  gI : mg "InvalidInteger" = some (.ref (CI K))
  gV : mg "InvalidAmount" = some (.ref (CV K))
  kI : PySem.W.kitOne K (.ref (CA K)) (.type "int") = some false
  kB : PySem.W.kitOne K (.ref (CA K)) (.type "bool") = some false
  kS : PySem.W.kitOne K (.ref (CA K)) (.ref (CA K)) = some true
  kT : ∀ T ∈ tys, PySem.W.kitOne K (.type T) (.ref (CA K)) = some false
  ca : PySem.W.findIn K (.ref (CA K)) "__class__" = some (some (.builtin "object.__class__"))
  cn : PySem.W.specialIn K (.builtin "object.__class__") "__get__" = some (some (.builtin "getset_descriptor.__get__"))
  ct : PySem.W.takesIn K (.builtin "object.__class__") = some true
  cm : PySem.W.mroIn K (CA K) (.type "object") = some true
section
variable {K : PySem.W.Frag} {mg : Str → Option Value}
theorem AF.ty (T : AF K mg) {H : Hp} {p dx : Addr} {fs : List (Str × V)} (h : H p = some (.ins (CA K) dx fs)) : TyX K H (.ref p) (.ref (CA K)) := .base (.ins h T.cl T.ca T.cn T.ct T.cm)
theorem AF.wh (T : AF K mg) {H : Hp} {p dx : Addr} {fs : List (Str × V)} (h : H p = some (.ins (CA K) dx fs)) : Wh K H (.ref p) false := ⟨_, false, false, T.ty h, T.kI, T.kB, rfl⟩
end
def spWhole (K : PySem.W.Frag) : Sp := fun vs H Q _ => ∃ x b, vs = [x] ∧ Wh K H x b ∧ Q (.bl b) H
/-- an error of the class at C with the one field value = v -/
def Err (C : Addr) (v : V) (H : Hp) (E : XK) : Prop := ∀ d, H d = none → E (.ref C) (some d) (upd H d (.xd [("value", v)]))
def spInit (K : PySem.W.Frag) : Sp := fun vs H Q E => ∃ (p dx : Addr) (x y : V) (bx bz : Bool), vs = [.ref p, x, y] ∧ H p = some (.ins (CA K) dx []) ∧ Wh K H x bx ∧ Wh K H y bz ∧
  (bx = false → Err (CI K) x H E) ∧ (bx = true → bz = false → Err (CI K) y H E) ∧
  (bx = true → bz = true → ∃ a b : Int, x = .int a ∧ y = .int b ∧ (b = 0 → Err (CI K) y H E) ∧
    (b ≠ 0 → b.natAbs < 2 ^ 8000 ∧ ∀ t u : Int, Am.Red t u → t * b = a * u → t.natAbs ≤ a.natAbs → u.natAbs ≤ b.natAbs → Q .non (upd H p (.ins (CA K) dx (fl t u)))))
section
variable {X : Cx}
theorem op_fdivX : OpR X (binaryOp .FloorDiv) (rI (fun _ j => j ≠ 0 ∧ j.natAbs.log2 < 9000) fun i j => .int (i.fdiv j)) := opI fun _ _ _ _ _ _ _ hc q => floordiv_int hc.1 q (.inl (PyProof.noPylong_of_log2 hc.2))
theorem boot_isi : bootBuiltins "isinstance" = some (.builtin "isinstance") := by decide +kernel
theorem pe_isi {e c : Expr} {te tc : TE} {p pos : Pos} (hm : X.mg "isinstance" = none) (he : PE X e te) (hc : PE X c tc) (hg : Gl X "isinstance" := by rfl)
    (hs : starEach (e :: [c]) X.env = (false, eval e X.env) :: starEach [c] X.env := by rfl) (hs2 : starEach (c :: []) X.env = (false, eval c X.env) :: starEach [] X.env := by rfl) (hpl : (backTo pos (starEach [c] X.env)).any (·.1) = false := by rfl) : PE X (.Call (.Name "isinstance" p) [e, c] [] pos) (tCB (rIsi X.K) (tCons te (tCons tc tNil))) :=
  pe_callB call_isi hg hm boot_isi (pa_cons he (pa_cons hc pa_nil hs2) hs) (by decide) (by decide) hs hpl
theorem pe_ty {x : Str} {n : String} {p : Pos} (hm : X.mg x = none) (hv : bootBuiltins x = some (.type n)) (hg : Gl X x := by rfl) (hn : x ≠ "__name__" := by decide) (hd : (x == ("__debug__" : Str)) = false := by decide) : PE X (.Name x p) (tC (.ty n)) := pe_bltn hg hm hv rfl hn hd
theorem boot_int' : bootBuiltins "int" = some (.type "int") := by decide +kernel
theorem boot_bool' : bootBuiltins "bool" = some (.type "bool") := by decide +kernel
end
section
variable {P : Program} {w : World} {K : PySem.W.Frag} {mg : Str → Option Value} {base : Heap} {f fW : Addr} {fd fdW : FuncData} {F' : Str} {qi ti qv tv : Str} {fI fV : Addr}
theorem ok_whole (F : FnP K "is_whole" sWhole f fd) (T : AF K mg) {CX : CXT} : FnOk P w K mg base CX 1 f fd ["value"] (spWhole K) := by
  refine F.ok scWhole (fun vs H Q E h => ?_) (fun cdv A outer s H vs Q E hr h => ?_)
  · obtain ⟨x, b, rfl, _⟩ := h
    rfl
  · obtain ⟨x, b, rfl, ⟨t, b1, b2, ty, k1, k2, rfl⟩, q⟩ := h
    refine ⟨_, pss_one (ps_ret (pe_and (pe_isi T.isi (pv 0) (pe_ty T.int boot_int')) (pe_one (pe_not (pe_isi T.isi (pv 0) (pe_ty T.bool boot_bool')))))), ?_⟩
    refine ⟨_, rfl, x, _, t, _, b1, rfl, .ty "int", ty, k1, b1, rfl, ?_⟩
    cases b1 with
    | false => exact iteF q
    | true => exact iteT ⟨_, rfl, x, _, t, _, b2, rfl, .ty "bool", ty, k2, b2, rfl, q⟩
theorem ok_init (F : FunD K "__init__" "Amount.__init__" (defArgs sInit) (defBody sInit) (defScope sInit) [.int 1] [] f fd) (T : AF K mg) (FW : FnP K "is_whole" sWhole fW fdW) (gW : mg "is_whole" = some (.ref fW))
    (XI : Xb.Txt P.main.file K qi "value" ti (CI K) fI) (htop : (P.main.scope.names.lookup ("super" : Str)).isSome = false) : FnOk P w K mg base (L2.CX P w) 4 f fd ["self", "top", "bottom"] (spInit K) := by
  have GW : FnOk P w K mg base (L2.CX P w) 1 fW fdW ["value"] (spWhole K) := ok_whole FW T
  have bW : Binds K fdW ["value"] [] := FW.bindsN fun _ _ _ _ _ _ us hl => match us, hl with | [_], _ => rfl
  refine F.ok scInit (fun vs H Q E h => ?_) (fun cdv A outer s H vs Q E hr h => ?_)
  · obtain ⟨p, dx, x, y, bx, bz, rfl, _⟩ := h
    rfl
  · obtain ⟨p, dx, x, y, bx, bz, rfl, hp, wx, wy, e1, e2, e3⟩ := h
    have hr1 := hr.mono (show 1 ≤ 3 by decide)
    refine ⟨_, pss_cons (ps_if (pt_not (pt_val (pe_call GW hr1 rfl gW FW.kp bW .nil passL (pa_cons (pv 1) pa_nil)))) (pss_one (Xb.ps_raiseX (W := fun cls d _ H => E cls d H) rfl XI T.gI htop hr1 (takes_of rfl rfl rfl rfl) (pa_cons (pv 1) pa_nil))) pss_nil)
      (pss_cons (ps_if (PW.pt (pw_or (pt_not (pt_val (pe_call GW hr1 rfl gW FW.kp bW .nil passL (pa_cons (pv 2) pa_nil)))) (pw_or1 (pt_cmpR op_eq (pv 2) pe_int (nomark _)))))
        (pss_one (Xb.ps_raiseX (W := fun cls d _ H => E cls d H) rfl XI T.gI htop hr1 (takes_of rfl rfl rfl rfl) (pa_cons (pv 2) pa_nil))) pss_nil)
      (pss_cons (ps_set (i := 3) scInit.nd rfl (Or.inl rfl) (pe_callBfun cr_gcd rfl T.gcd (pa_cons (pv 1) (pa_cons (pv 2) pa_nil))))
      (pss_cons (ps_if (pt_cmpR op_lt (pv 2) pe_int (nomark _)) (pss_one (ps_set (i := 3) scInit.nd rfl (Or.inl rfl) (pe_un un_neg (pv 3)))) pss_nil)
      (pss_cons (ps_fld (pv 0) (pe_op op_fdivX (pv 1) (pv 3)) rfl)
      (pss_one (ps_fld (pv 0) (pe_op op_fdivX (pv 2) (pv 3)) rfl)))))), ?_⟩
    refine ⟨_, rfl, x, bx, rfl, wx, bx, rfl, ?_⟩
    cases bx with
    | false => exact iteT ⟨_, rfl, _, rfl, e1 rfl⟩
    | true =>
      refine iteF ⟨_, rfl, y, bz, rfl, wy, bz, rfl, ?_⟩
      cases bz with
      | false => exact iteT (iteT ⟨_, rfl, _, rfl, e2 rfl rfl⟩)
      | true =>
        obtain ⟨a, b, rfl, rfl, e4, e5⟩ := e3 rfl rfl
        refine iteF ⟨_, rfl, rfl, _, rfl, ?_⟩
        by_cases hb : b = 0
        · subst hb
          refine if_true_of (decide_eq_true rfl) ⟨_, rfl, _, rfl, e4 rfl⟩
        · refine if_false_of (decide_eq_false fun z => hb (V.int.inj z)) ?_
          obtain ⟨e6, e7⟩ := e5 hb
          obtain ⟨m1, m2, m3, m4, m5, m6⟩ := Am.mk a b hb _ rfl
          refine ⟨_, rfl, _, rfl, a, b, rfl, ?_⟩
          have fin : ∀ c : Int, c = (if b < 0 then -((Nat.gcd a.natAbs b.natAbs : Nat) : Int) else ((Nat.gcd a.natAbs b.natAbs : Nat) : Int)) →
              tSeq (sFld K (tVar 0) (tOp (rI (fun _ j => j ≠ 0 ∧ j.natAbs.log2 < 9000) fun i j => .int (i.fdiv j)) (tVar 1) (tVar 3)) "_top") (sFld K (tVar 0) (tOp (rI (fun _ j => j ≠ 0 ∧ j.natAbs.log2 < 9000) fun i j => .int (i.fdiv j)) (tVar 2) (tVar 3)) "_bottom")
                { nx := fun _ H' => Q .non H', rt := Q } [some (.ref p), some (.int a), some (.int b), some (.int c)] H := fun c hc => by
            rw [← hc] at m1 m2 m3 m4 m5 m6
            have lg : c.natAbs.log2 < 9000 := Nat.lt_trans ((Nat.log2_lt (by omega)).mpr (Nat.lt_of_le_of_lt m2 e6)) (by decide)
            refine ⟨_, rfl, _, rfl, _, _, rfl, rfl, ⟨m1, lg⟩, _, rfl, p, CA K, dx, [], rfl, hp, T.cl, T.noT, (by show 0 < 1000; decide), ?_⟩
            refine ⟨_, rfl, _, rfl, _, _, rfl, rfl, ⟨m1, lg⟩, _, rfl, p, CA K, dx, _, rfl, upd_same, T.cl, T.noB, (by show 1 < 1000; decide), ?_⟩
            rw [upd_upd]
            exact e7 _ _ m3 m4 m5 m6
          refine ⟨_, rfl, _, _, rfl, rfl, _, rfl, ?_⟩
          refine ite2 (fun c => ?_) (fun c => ?_)
          · have c2 : b < 0 := of_decide_eq_true c
            refine ⟨_, rfl, _, rfl, ?_⟩
            exact fin _ (by rw [if_pos c2])
          · have c2 : ¬ b < 0 := fun z => c (decide_eq_true z)
            exact fin _ (by rw [if_neg c2])
end

end K03
set_option Elab.async false
set_option linter.all false
set_option maxRecDepth 100000
set_option maxHeartbeats 4000000
namespace K03
open PySem PySem.Spec PyProof.Rows L2 Fa Fb


/-- an argument that counts as an amount -/
def Arg (K : PySem.W.Frag) (H : Hp) (x : V) (t u : Int) (n : Nat) : Prop := IsA K H x t u n ∨ (x = .int t ∧ u = 1 ∧ t.natAbs < 2 ^ n ∧ 1 ≤ n)
/-- one that doesn't -/
def Bad (K : PySem.W.Frag) (H : Hp) (x : V) : Prop := ∃ T, T ∈ tys ∧ TyX K H x (.type T) ∧ Wh K H x false
def spIsA (K : PySem.W.Frag) : Sp := fun vs H Q _ => ∃ x t b1 b2, vs = [x] ∧ TyX K H x t ∧ PySem.W.kitOne K t (.ref (CA K)) = some b1 ∧ Wh K H x b2 ∧ Q (.bl (b1 || b2)) H
def spAs (K : PySem.W.Frag) : Sp := fun vs H Q E => ∃ x, vs = [x] ∧ ((Bad K H x ∧ Err (CV K) x H E) ∨ ∃ t u n, Arg K H x t u n ∧ ∀ y H', Same H H' → IsA K H' y t u n → Q y H')
def spEq (K : PySem.W.Frag) : Sp := fun vs H Q _ => ∃ x y t u n, vs = [x, y] ∧ IsA K H x t u n ∧ ((∃ t2 u2 m, IsA K H y t2 u2 m ∧ Q (.bl (decide (t = t2) && decide (u = u2))) H) ∨ (∃ T, TyX K H y (.type T) ∧ PySem.W.kitOne K (.type T) (.ref (CA K)) = some false ∧ Q (.bl false) H))
section
variable {K : PySem.W.Frag} {mg : Str → Option Value}
theorem make_read (T : AF K mg) {H : Hp} {Q : VK} {E : XK} {a b : Int} {n : Nat} (hb : b ≠ 0) (hs : n ≤ 8000) (ha : a.natAbs < 2 ^ n) (hbn : b.natAbs < 2 ^ n)
    (k : ∀ y H' t u, Same H H' → IsA K H' y t u n → t * b = a * u → Q y H') : ∀ x dx, H x = none → H dx = none → dx ≠ x →
    spInit K [.ref x, .int a, .int b] (upd (upd H dx (.own x)) x (.ins (CA K) dx [])) (fun v H2 => v = .non ∧ Q (.ref x) H2) E := by
  intro x dx hx hdx hne
  refine ⟨x, dx, .int a, .int b, true, true, rfl, upd_same, wh_int _, wh_int _, (fun z => by cases z), (fun _ z => by cases z), fun _ _ => ⟨a, b, rfl, rfl, fun z => absurd z hb, fun _ => ⟨?_, fun t u r e h1 h2 => ⟨rfl, ?_⟩⟩⟩⟩
  · exact Nat.lt_of_lt_of_le hbn (Nat.pow_le_pow_right (by decide) hs)
  · refine k _ _ t u (fun c o z => ?_) ⟨x, dx, rfl, upd_same, r, Nat.lt_of_le_of_lt h1 ha, Nat.lt_of_le_of_lt h2 hbn⟩ e
    rw [upd_upd, upd_ne (ne_of_none z hx), upd_ne (ne_of_none z hdx)]
    exact z
theorem spInit_imp {vs : List V} {H : Hp} {Q Q' : VK} {E : XK} (h : spInit K vs H Q E) (k : ∀ v H2, Q v H2 → Q' v H2) : spInit K vs H Q' E := by
  obtain ⟨p, dx, x, y, bx, bz, e, hp, wx, wy, e1, e2, e3⟩ := h
  refine ⟨p, dx, x, y, bx, bz, e, hp, wx, wy, e1, e2, fun h1 h2 => ?_⟩
  obtain ⟨a, b, ea, eb, f1, f2⟩ := e3 h1 h2
  exact ⟨a, b, ea, eb, f1, fun hb => ⟨(f2 hb).1, fun t u r e4 e5 e6 => k _ _ ((f2 hb).2 t u r e4 e5 e6)⟩⟩
def MadeA (K : PySem.W.Frag) (H H2 : Hp) (x : Addr) (a b : Int) (n : Nat) : Prop := ∃ t u, Same H H2 ∧ IsA K H2 (.ref x) t u n ∧ t * b = a * u
theorem make_fact (T : AF K mg) {H : Hp} {E : XK} {a b : Int} {n : Nat} (hb : b ≠ 0) (hs : n ≤ 8000) (ha : a.natAbs < 2 ^ n) (hbn : b.natAbs < 2 ^ n) {x dx : Addr} (hx : H x = none) (hdx : H dx = none) (hne : dx ≠ x) :
    spInit K [.ref x, .int a, .int b] (upd (upd H dx (.own x)) x (.ins (CA K) dx [])) (fun v H2 => v = .non ∧ MadeA K H H2 x a b n) E := by
  refine ⟨x, dx, .int a, .int b, true, true, rfl, upd_same, wh_int _, wh_int _, (fun z => by cases z), (fun _ z => by cases z), fun _ _ => ⟨a, b, rfl, rfl, fun z => absurd z hb, fun _ => ⟨?_, fun t u r e h1 h2 => ⟨rfl, t, u, fun c o z => ?_, ⟨x, dx, rfl, upd_same, r, Nat.lt_of_le_of_lt h1 ha, Nat.lt_of_le_of_lt h2 hbn⟩, e⟩⟩⟩⟩
  · exact Nat.lt_of_lt_of_le hbn (Nat.pow_le_pow_right (by decide) hs)
  · rw [upd_upd, upd_ne (ne_of_none z hx), upd_ne (ne_of_none z hdx)]
    exact z
theorem one_pow {n : Nat} (h : 1 ≤ n) : (1 : Nat) < 2 ^ n := Nat.one_lt_two_pow (by omega)
theorem lt_pow_mul {a b n m : Nat} (h1 : a < 2 ^ n) (h2 : b < 2 ^ m) : a * b < 2 ^ (n + m) := by
  rw [Nat.pow_add]
  exact Nat.mul_lt_mul'' h1 h2
theorem mulW_of {i j : Int} {n m : Nat} (h1 : i.natAbs < 2 ^ n) (h2 : j.natAbs < 2 ^ m) (h : n + m < 900000) : CMulW i j := by
  have l : ∀ (x : Int) (k : Nat), x.natAbs < 2 ^ k → x.natAbs.log2 ≤ k := fun x k hx => by
    by_cases z : x.natAbs = 0
    · rw [z]
      exact Nat.zero_le _
    · exact Nat.le_of_lt ((Nat.log2_lt z).mpr hx)
  have a1 := l i n h1
  have a2 := l j m h2
  show i.natAbs.log2 + j.natAbs.log2 < 1000000
  omega
theorem abs_mul_lt {i j : Int} {n m : Nat} (h1 : i.natAbs < 2 ^ n) (h2 : j.natAbs < 2 ^ m) : (i * j).natAbs < 2 ^ (n + m) := by
  rw [Int.natAbs_mul]
  exact lt_pow_mul h1 h2
theorem abs_add_lt {i j : Int} {n : Nat} (h1 : i.natAbs < 2 ^ n) (h2 : j.natAbs < 2 ^ n) : (i + j).natAbs < 2 ^ (n + 1) := by
  have := Int.natAbs_add_le i j
  rw [Nat.pow_succ]
  omega
theorem abs_sub_lt {i j : Int} {n : Nat} (h1 : i.natAbs < 2 ^ n) (h2 : j.natAbs < 2 ^ n) : (i - j).natAbs < 2 ^ (n + 1) := by
  have := Int.natAbs_sub_le i j
  rw [Nat.pow_succ]
  omega
theorem pow_step {a n m : Nat} (h : a < 2 ^ n) (hm : n ≤ m) : a < 2 ^ m := Nat.lt_of_lt_of_le h (Nat.pow_le_pow_right (by decide) hm)
theorem IsA.one (h : IsA K H x t u n) : 1 ≤ n := by
  obtain ⟨p, dx, _, _, ⟨h1, _⟩, _, h2⟩ := h
  rcases Nat.eq_zero_or_pos n with z | z
  · subst z
    have : u.natAbs < 1 := h2
    omega
  · exact z
end
section
variable {P : Program} {w : World} {K : PySem.W.Frag} {mg : Str → Option Value} {base : Heap} {f fW : Addr} {fd fdW fdI fdA : FuncData} {qi ti qv tv : Str} {fI fV fAs : Addr}
theorem ok_top (F : FunD K "top" "Amount.top" (defArgs sTop) (defBody sTop) (defScope sTop) [] [] f fd) (T : AF K mg) {CX : CXT} : FnOk P w K mg base CX 1 f fd ["self"] (getSp (CA K) "_top") := by
  refine F.ok scTop (fun vs H Q E h => ?_) (fun cdv A outer s H vs Q E hr h => ?_)
  · obtain ⟨a, dx, fs, v, rfl, _⟩ := h
    rfl
  · obtain ⟨a, dx, fs, v, rfl, h1, h2, q⟩ := h
    exact ⟨_, pss_one (ps_ret (pe_fld (pv 0) rfl)), .ref a, rfl, a, CA K, dx, fs, v, rfl, h1, T.cl, T.noT, h2, q⟩
theorem ok_bot (F : FunD K "bottom" "Amount.bottom" (defArgs sBot) (defBody sBot) (defScope sBot) [] [] f fd) (T : AF K mg) {CX : CXT} : FnOk P w K mg base CX 1 f fd ["self"] (getSp (CA K) "_bottom") := by
  refine F.ok scBot (fun vs H Q E h => ?_) (fun cdv A outer s H vs Q E hr h => ?_)
  · obtain ⟨a, dx, fs, v, rfl, _⟩ := h
    rfl
  · obtain ⟨a, dx, fs, v, rfl, h1, h2, q⟩ := h
    exact ⟨_, pss_one (ps_ret (pe_fld (pv 0) rfl)), .ref a, rfl, a, CA K, dx, fs, v, rfl, h1, T.cl, T.noB, h2, q⟩
theorem ok_eq (F : FunD K "__eq__" "Amount.__eq__" (defArgs sEq) (defBody sEq) (defScope sEq) [] [] f fd) (T : AF K mg) {CX : CXT} : FnOk P w K mg base CX 1 f fd ["self", "other"] (spEq K) := by
  refine F.ok scEq (fun vs H Q E h => ?_) (fun cdv A outer s H vs Q E hr h => ?_)
  · obtain ⟨x, y, t, u, n, rfl, _⟩ := h
    rfl
  · obtain ⟨x, y, t, u, n, rfl, ⟨p, dx, rfl, hp, _⟩, q⟩ := h
    refine ⟨_, pss_one (ps_ret (pe_and (pe_isi T.isi (pv 1) (pe_glob (v := .ref (CA K)) rfl T.g rfl)) (pe_and (pe_cmpR op_eq (pe_fld (pv 0) rfl) (pe_fld (pv 1) rfl) (nomark _)) (pe_one (pe_cmpR op_eq (pe_fld (pv 0) rfl) (pe_fld (pv 1) rfl) (nomark _)))))), ?_⟩
    rcases q with ⟨t2, u2, m, ⟨p2, dx2, rfl, hp2, _⟩, q⟩ | ⟨Ty, ty, hk, q⟩
    · refine ⟨_, rfl, .ref p2, _, _, _, true, rfl, .own _, T.ty hp2, T.kS, true, rfl, iteT ?_⟩
      refine ⟨_, rfl, p, CA K, dx, _, _, rfl, hp, T.cl, T.noT, fl_top _ _, _, rfl, p2, CA K, dx2, _, _, rfl, hp2, T.cl, T.noT, fl_top _ _, rfl, decide (V.int t = V.int t2), rfl, ?_⟩
      by_cases e : t = t2
      · subst e
        refine if_true_of (decide_eq_true rfl) ?_
        refine ⟨_, rfl, p, CA K, dx, _, _, rfl, hp, T.cl, T.noB, fl_bot _ _, _, rfl, p2, CA K, dx2, _, _, rfl, hp2, T.cl, T.noB, fl_bot _ _, rfl, ?_⟩
        rw [decide_eq_true rfl, Bool.true_and] at q
        by_cases e2 : u = u2
        · subst e2
          rw [decide_eq_true rfl] at q
          show Q (.bl (decide (V.int u = V.int u))) H
          rw [decide_eq_true rfl]
          exact q
        · rw [decide_eq_false e2] at q
          show Q (.bl (decide (V.int u = V.int u2))) H
          rw [decide_eq_false fun z => e2 (V.int.inj z)]
          exact q
      · refine if_false_of (decide_eq_false fun z => e (V.int.inj z)) ?_
        rw [decide_eq_false e, Bool.false_and] at q
        exact q
    · exact ⟨_, rfl, y, _, _, _, false, rfl, .own _, ty, hk, false, rfl, iteF q⟩
theorem ok_isA (F : FnP K "is_amount" sIsA f fd) (T : AF K mg) (FW : FnP K "is_whole" sWhole fW fdW) (gW : mg "is_whole" = some (.ref fW)) : FnOk P w K mg base (L2.CX P w) 2 f fd ["value"] (spIsA K) := by
  have GW : FnOk P w K mg base (L2.CX P w) 1 fW fdW ["value"] (spWhole K) := ok_whole FW T
  have bW : Binds K fdW ["value"] [] := FW.bindsN fun _ _ _ _ _ _ us hl => match us, hl with | [_], _ => rfl
  refine F.ok scIsA (fun vs H Q E h => ?_) (fun cdv A outer s H vs Q E hr h => ?_)
  · obtain ⟨x, t, b1, b2, rfl, _⟩ := h
    rfl
  · obtain ⟨x, t, b1, b2, rfl, ty, k1, wh, q⟩ := h
    refine ⟨_, pss_one (ps_ret (pe_or (pe_isi T.isi (pv 0) (pe_glob (v := .ref (CA K)) rfl T.g rfl)) (pe_one (pe_call GW hr rfl gW FW.kp bW .nil passL (pa_cons (pv 0) pa_nil))))), ?_⟩
    refine ⟨_, rfl, x, _, t, _, b1, rfl, .own _, ty, k1, b1, rfl, ?_⟩
    cases b1 with
    | true => exact iteT q
    | false => exact iteF ⟨_, rfl, x, b2, rfl, wh, q⟩
theorem ok_as (F : FnP K "as_amount" sAsA f fd) (T : AF K mg) (FW : FnP K "is_whole" sWhole fW fdW) (gW : mg "is_whole" = some (.ref fW)) (FA : FnP K "is_amount" sIsA fAs fdA) (gA : mg "is_amount" = some (.ref fAs))
    (FI : FunD K "__init__" "Amount.__init__" (defArgs sInit) (defBody sInit) (defScope sInit) [.int 1] [] (aI K) fdI)
    (XI : Xb.Txt P.main.file K qi "value" ti (CI K) fI) (XV : Xb.Txt P.main.file K qv "value" tv (CV K) fV) (htop : (P.main.scope.names.lookup ("super" : Str)).isSome = false) : FnOk P w K mg base (L2.CX P w) 6 f fd ["value"] (spAs K) := by
  have GA : FnOk P w K mg base (L2.CX P w) 2 fAs fdA ["value"] (spIsA K) := ok_isA FA T FW gW
  have bA : Binds K fdA ["value"] [] := FA.bindsN fun _ _ _ _ _ _ us hl => match us, hl with | [_], _ => rfl
  have GI : FnOk P w K mg base (L2.CX P w) 4 (aI K) fdI ["self", "top", "bottom"] (spInit K) := ok_init FI T FW gW XI htop
  obtain ⟨ds, hds, bI⟩ := FI.binds1 (ps := ["self", "top", "bottom"]) 2 0 (by simp) rfl (fun _ _ _ _ _ _ _ us its hu hi => match us, its, hu, hi with | [_, _], [_], _, _ => ⟨_, rfl, rfl⟩)
  refine F.ok scAsA (fun vs H Q E h => ?_) (fun cdv A outer s H vs Q E hr h => ?_)
  · obtain ⟨x, rfl, _⟩ := h
    rfl
  · obtain ⟨x, rfl, q⟩ := h
    have hr1 := hr.mono (show 2 ≤ 5 by decide)
    refine ⟨_, pss_cons (ps_if (pt_not (pt_val (pe_call GA hr1 rfl gA FA.kp bA .nil passL (pa_cons (pv 0) pa_nil)))) (pss_one (Xb.ps_raiseX (W := fun cls d _ H => E cls d H) rfl XV T.gV htop hr1 (takes_of rfl rfl rfl rfl) (pa_cons (pv 0) pa_nil))) pss_nil)
      (pss_one (ps_ret (pe_ifExp (pt_val (pe_isi T.isi (pv 0) (pe_glob (v := .ref (CA K)) rfl T.g rfl))) (pv 0) (pe_make T.mkA GI hr rfl T.g bI hds passL (pa_cons (pv 0) pa_nil))))), ?_⟩
    rcases q with ⟨⟨Ty, hT, ty, wh⟩, er⟩ | ⟨t, u, n, ar, q⟩
    · refine ⟨_, rfl, x, _, false, false, rfl, ty, T.kT Ty hT, wh, false, rfl, iteT ⟨_, rfl, _, rfl, er⟩⟩
    · rcases ar with ia | ⟨rfl, rfl, hn, h1⟩
      · obtain ⟨p, dx, rfl, hp, r⟩ := id ia
        refine ⟨_, rfl, .ref p, _, true, false, rfl, T.ty hp, T.kS, T.wh hp, true, rfl, iteF ?_⟩
        exact ⟨_, rfl, .ref p, _, _, _, true, rfl, .own _, T.ty hp, T.kS, true, rfl, iteT ⟨_, rfl, q _ _ (Same.refl _) ia⟩⟩
      · have kI := T.kT "int" (by simp [tys])
        refine ⟨_, rfl, .int t, _, false, true, rfl, .base (.int t), kI, wh_int t, true, rfl, iteF ?_⟩
        refine ⟨_, rfl, .int t, _, _, _, false, rfl, .own _, .base (.int t), kI, false, rfl, iteF ⟨_, rfl, ?_⟩⟩
        intro y dy hy hdy hne
        refine ⟨y, dy, .int t, .int 1, true, true, rfl, upd_same, wh_int _, wh_int _, (fun z => by cases z), (fun _ z => by cases z), fun _ _ => ⟨t, 1, rfl, rfl, (fun z => by cases z), fun _ => ⟨by decide, fun t' u' r e h2 h3 => ⟨rfl, ?_⟩⟩⟩⟩
        have eu : u' = 1 := by
          have r0 := r.1
          have : u'.natAbs ≤ 1 := h3
          omega
        subst eu
        have et : t' = t := by omega
        subst et
        refine q _ _ (fun c o z => ?_) ⟨y, dy, rfl, upd_same, r, hn, by show (1 : Nat) < _; exact one_pow h1⟩
        rw [upd_upd, upd_ne (ne_of_none z hy), upd_ne (ne_of_none z hdy)]
        exact z
end

end K03
set_option Elab.async false
set_option linter.all false
set_option maxRecDepth 100000
set_option maxHeartbeats 4000000
set_option exponentiation.threshold 100000
namespace K03
open PySem PySem.Spec PyProof.Rows L2 Fa Fb
theorem Same.upd {H : Hp} {p : Addr} {o : HO} (h : H p = none) : Same H (upd H p o) := fun c u z => by
  rw [upd_ne (ne_of_none z h)]
  exact z
theorem same_put {H H' : Hp} {D : Addr} {o : HO} (s : Same H H') (h : H D = none) : Same H (upd H' D o) := fun c u z => by
  rw [upd_ne (ne_of_none z h)]
  exact s c u z
/-- a comprehension over a text's signs -/
theorem lc_signs {z : Str} {g : TG} {tt : TT} {te : TE} {vs : List Nat} {σ : L2.St} {H1 : Hp} {D : Addr} {Qd : Hp → Prop} (Pv : Nat → Hp → Prop) (h0 : Pv 0 (upd H1 D (.lst [])))
    (hs : ∀ i c H, z.cps[i]? = some c → Pv i H → g (.str ⟨#[c]⟩) (wipe σ vs) H fun σ2 H2 => wipe σ2 vs = wipe σ vs ∧ tt σ2 H2 fun b H3 =>
      if b = true then te σ2 H3 fun y H4 => ∃ acc, H4 D = some (.lst acc) ∧ acc.length < sizeLine ∧ Pv (i + 1) (upd H4 D (.lst (acc ++ [y]))) else Pv (i + 1) H3) (hd : ∀ H, Pv z.cps.size H → Qd H) :
    ∃ W : Nat → Nat → Hp → Prop, (∃ m, W 0 m (upd H1 D (.lst []))) ∧ ∀ i m H, W i m H →
      ((Its z).stop i H ∧ Qd H) ∨ ((Its z).go i H ∧ ∃ Nx : Hp → Prop, (∀ H', Nx H' → ∃ m', m' < m ∧ W (i + 1) m' H') ∧ ∀ x H', (Its z).yld i H x H' → g x (wipe σ vs) H' fun σ2 H2 => wipe σ2 vs = wipe σ vs ∧ tt σ2 H2 fun b H3 =>
        if b = true then te σ2 H3 fun y H4 => ∃ acc, H4 D = some (.lst acc) ∧ acc.length < sizeLine ∧ Nx (upd H4 D (.lst (acc ++ [y]))) else Nx H3) := by
  refine ⟨fun i m H => m + i = z.cps.size ∧ Pv i H, ⟨z.cps.size, rfl, h0⟩, fun i m H ⟨hm, p⟩ => ?_⟩
  rcases Nat.lt_or_ge i z.cps.size with c | c
  · refine .inr ⟨c, Pv (i + 1), fun H' p' => ⟨m - 1, by omega, by omega, p'⟩, fun x H' q => ?_⟩
    obtain ⟨eH, ch, hc, rfl⟩ := q
    cases eH
    exact hs i ch _ hc p
  · have e : i = z.cps.size := by omega
    rw [e] at p
    exact .inl ⟨c, hd H p⟩
/-- whether a value is a text -/
def Tx (K : PySem.W.Frag) (H : Hp) (x : V) (b : Bool) : Prop := ∃ t, TyX K H x t ∧ PySem.W.kitOne K t (.type "str") = some b
abbrev sHas : Stmt := top 17
abbrev sIntg : Stmt := top 15
abbrev sName : Stmt := top 16
abbrev sUnit : Stmt := top 18
abbrev sWord : Stmt := top 19
abbrev sChk : Stmt := top 20
abbrev sOther : Stmt := top 21
abbrev sChkW : Stmt := top 22
abbrev sTurned : Stmt := top 23
theorem scHas : FnScope ["text", "characters", "character"] ["text", "characters"] (defScope sHas) := ⟨rfl, rfl, rfl, by decide +kernel, rfl, by decide +kernel, by decide +kernel⟩
theorem scIntg : FnScope ["value", "low", "high"] ["value", "low", "high"] (defScope sIntg) := ⟨rfl, rfl, rfl, by decide +kernel, rfl, by decide +kernel, by decide +kernel⟩
theorem scName : FnScope ["value"] ["value"] (defScope sName) := ⟨rfl, rfl, rfl, by decide +kernel, rfl, by decide +kernel, by decide +kernel⟩
theorem scUnit : FnScope ["value"] ["value"] (defScope sUnit) := ⟨rfl, rfl, rfl, by decide +kernel, rfl, by decide +kernel, by decide +kernel⟩
theorem scWord : FnScope ["value"] ["value"] (defScope sWord) := ⟨rfl, rfl, rfl, by decide +kernel, rfl, by decide +kernel, by decide +kernel⟩
theorem scChk : FnScope ["unit"] ["unit"] (defScope sChk) := ⟨rfl, rfl, rfl, by decide +kernel, rfl, by decide +kernel, by decide +kernel⟩
theorem scOther : FnScope ["unit"] ["unit"] (defScope sOther) := ⟨rfl, rfl, rfl, by decide +kernel, rfl, by decide +kernel, by decide +kernel⟩
theorem scChkW : FnScope ["word"] ["word"] (defScope sChkW) := ⟨rfl, rfl, rfl, by decide +kernel, rfl, by decide +kernel, by decide +kernel⟩
theorem scTurned : FnScope ["word"] ["word"] (defScope sTurned) := ⟨rfl, rfl, rfl, by decide +kernel, rfl, by decide +kernel, by decide +kernel⟩
/-- all signs of z stand in c -/
def only (z c : Str) : Bool := z.cps.toList.all fun x => decide (x ∈ c.cps.toList)
def spHas : Sp := fun vs H Q _ => ∃ z c : Str, vs = [.str z, .str c] ∧ z.cps.size ≤ 100000 ∧ ∀ H', Same H H' → Q (.bl (only z c)) H'
def spIntg (K : PySem.W.Frag) : Sp := fun vs H Q _ => ∃ (x : V) (lo hi : Int), vs = [x, .int lo, .int hi] ∧ ((Wh K H x false ∧ Q (.bl false) H) ∨ ∃ i : Int, x = .int i ∧ Q (.bl (decide (lo ≤ i) && decide (i ≤ hi))) H)
theorem boot_all : bootBuiltins "all" = some (.builtin "all") := by decide +kernel
section
variable {P : Program} {w : World} {K : PySem.W.Frag} {mg : Str → Option Value} {base : Heap} {f fW : Addr} {fd fdW : FuncData}
theorem ok_has (F : FnP K "has_only" sHas f fd) (mA : mg "all" = none) : FnOk P w K mg base (L2.CX P w) 1 f fd ["text", "characters"] spHas := by
  refine F.ok scHas (fun vs H Q E h => ?_) (fun cdv A outer s H vs Q E hr h => ?_)
  · obtain ⟨z, c, rfl, _⟩ := h
    rfl
  · obtain ⟨z, c, rfl, hz, q⟩ := h
    refine ⟨_, pss_one (ps_ret (pe_callB (cr_all rfl) rfl mA boot_all (pa_cons (pe_lc (own := [("character", 2)]) (g := gName 2) (te := tOp (fun x y H Q => ∃ (c : Nat) (z : Str), x = .str ⟨#[c]⟩ ∧ y = .str z ∧ Q (.bl (decide (c ∈ z.cps.toList))) H) (tVar 2) (tVar 1)) (by rfl) scHas.nd (pi_str (pv 0))
      (blkOk_by (own := [("character", 2)]) (N := ["text", "characters", "character"]) (sc := defScope sHas) (by decide +kernel)) (fun _ _ _ _ _ => pg_name (i := 2) scHas.nd rfl (Or.inl rfl)) (fun _ _ _ _ _ => pts_nil) (fun _ _ _ _ _ => pe_cmpR op_in_sign (pv 2) (pv 1) (by rfl))) pa_nil))), ?_⟩
    refine ⟨_, rfl, z, rfl, fun D hD => ?_⟩
    refine lc_signs (fun i H' => Same H H' ∧ H' D = some (.lst (((z.cps.toList.take i).map fun x => decide (x ∈ c.cps.toList)).map V.bl))) ⟨Same.upd hD, upd_same⟩ ?_ ?_
    · rintro i ch H1 hc ⟨s1, hl⟩
      refine ⟨rfl, _, rfl, _, rfl, ch, c, rfl, rfl, _, hl, ?_, same_put s1 hD, ?_⟩
      · have := (Array.getElem?_eq_some_iff.mp hc).1
        simp only [List.length_map, List.length_take]
        exact Nat.lt_of_le_of_lt (Nat.min_le_left _ _) (Nat.lt_of_lt_of_le this (Nat.le_trans hz (by decide)))
      · have hc2 : z.cps.toList[i]? = some ch := by rw [Array.getElem?_toList]; exact hc
        rw [upd_same, List.take_add_one, hc2]
        simp
    · rintro H1 ⟨s1, hl⟩
      have e : z.cps.toList.take z.cps.size = z.cps.toList := List.take_of_length_le (by simp)
      rw [e] at hl
      refine ⟨D, _, rfl, SqL.of hl, ?_⟩
      rw [List.all_map]
      exact q H1 s1
theorem ok_intg (F : FnP K "is_integer" sIntg f fd) (T : AF K mg) (FW : FnP K "is_whole" sWhole fW fdW) (gW : mg "is_whole" = some (.ref fW)) : FnOk P w K mg base (L2.CX P w) 2 f fd ["value", "low", "high"] (spIntg K) := by
  have GW : FnOk P w K mg base (L2.CX P w) 1 fW fdW ["value"] (spWhole K) := ok_whole FW T
  have bW : Binds K fdW ["value"] [] := FW.bindsN fun _ _ _ _ _ _ us hl => match us, hl with | [_], _ => rfl
  refine F.ok scIntg (fun vs H Q E h => ?_) (fun cdv A outer s H vs Q E hr h => ?_)
  · obtain ⟨x, lo, hi, rfl, _⟩ := h
    rfl
  · obtain ⟨x, lo, hi, rfl, q⟩ := h
    refine ⟨_, pss_one (ps_ret (pe_and (pe_call GW hr rfl gW FW.kp bW .nil passL (pa_cons (pv 0) pa_nil)) (pe_one (pe_chain op_le op_le (pv 1) (pv 0) (pv 2))))), ?_⟩
    rcases q with ⟨wh, q⟩ | ⟨i, rfl, q⟩
    · exact ⟨_, rfl, x, false, rfl, wh, false, rfl, iteF q⟩
    · refine ⟨_, rfl, .int i, true, rfl, wh_int i, true, rfl, iteT ⟨_, rfl, _, rfl, _, _, rfl, rfl, _, rfl, ?_⟩⟩
      by_cases c : lo ≤ i
      · refine if_true_of (decide_eq_true c) ⟨_, rfl, _, _, rfl, rfl, ?_⟩
        rw [decide_eq_true c, Bool.true_and] at q
        exact q
      · refine if_false_of (decide_eq_false c) ?_
        rw [decide_eq_false c, Bool.false_and] at q
        exact q
end
end K03

set_option Elab.async false
set_option linter.all false
set_option maxRecDepth 100000
set_option maxHeartbeats 4000000
set_option exponentiation.threshold 100000
namespace K03
open PySem PySem.Spec PyProof.Rows L2 Fa Fb
abbrev LET : Str := "abcdefghijklmnopqrstuvwxyz"
abbrev DIG : Str := "0123456789"
abbrev CU (K : PySem.W.Frag) : Addr := He.ga K "InvalidUnit"
abbrev CW (K : PySem.W.Frag) : Addr := He.ga K "InvalidWord"
/-- what the written part says of validation's names -/
structure VF (K : PySem.W.Frag) (mg : Str → Option Value) (aU aW : Addr) : Prop where
  str : mg "str" = none
  len : mg "len" = none
  all : mg "all" = none
  letters : ∃ t, mg "LETTERS" = some (.str LET t)
  digits : ∃ t, mg "DIGITS" = some (.str DIG t)
  longest : ∃ t, mg "LONGEST_NAME" = some (.int 8 t)
  units : mg "UNITS" = some (.ref aU)
  words : mg "WORDS" = some (.ref aW)
  unitsT : ∀ H, SqT K H aU [.str "beats", .str "seconds"]
  wordsT : ∀ H, SqT K H aW [.str "before", .str "same", .str "after"]
def isName (z : Str) : Bool := (decide (1 ≤ z.length) && decide (z.length ≤ 8)) && ((match z.cps.toList.head? with | some c => decide (c ∈ LET.cps.toList) | none => false) && only z (LET ++ DIG))
def spName (K : PySem.W.Frag) : Sp := fun vs H Q _ => ∃ x, vs = [x] ∧ ((Tx K H x false ∧ Q (.bl false) H) ∨ ∃ z : Str, x = .str z ∧ z.length ≤ 100000 ∧ ∀ H', Same H H' → Q (.bl (isName z)) H')
def isUnit (z : Str) : Bool := decide (z = "beats") || decide (z = "seconds")
def isWord (z : Str) : Bool := decide (z = "before") || (decide (z = "same") || decide (z = "after"))
def spText (K : PySem.W.Frag) (g : Str → Bool) : Sp := fun vs H Q _ => ∃ x, vs = [x] ∧ ((Tx K H x false ∧ Q (.bl false) H) ∨ ∃ z : Str, x = .str z ∧ Q (.bl (g z)) H)
theorem boot_str : bootBuiltins "str" = some (.type "str") := by decide +kernel
theorem tx_str {K : PySem.W.Frag} : PySem.W.kitOne K (.type "str") (.type "str") = some true := kit_ty (by decide +kernel)
section
variable {P : Program} {w : World} {K : PySem.W.Frag} {mg : Str → Option Value} {base : Heap} {f fW fH : Addr} {fd fdW fdH : FuncData} {aU aW : Addr}
theorem ok_name (F : FnP K "is_name" sName f fd) (T : AF K mg) (V : VF K mg aU aW) (GH : FnOk P w K mg base (L2.CX P w) 1 fH fdH ["text", "characters"] spHas) (gH : mg "has_only" = some (.ref fH)) (kH : PySem.W.keepIn K (.ref fH) = true) (bH : Binds K fdH ["text", "characters"] []) :
    FnOk P w K mg base (L2.CX P w) 2 f fd ["value"] (spName K) := by
  obtain ⟨t1, hL⟩ := V.letters
  obtain ⟨t2, hD⟩ := V.digits
  obtain ⟨t3, hN⟩ := V.longest
  refine F.ok scName (fun vs H Q E h => ?_) (fun cdv A outer s H vs Q E hr h => ?_)
  · obtain ⟨x, rfl, _⟩ := h
    rfl
  · obtain ⟨x, rfl, q⟩ := h
    refine ⟨_, pss_cons (ps_if (PW.pt (pw_or (pt_not (pt_val (pe_isi T.isi (pv 0) (pe_ty V.str boot_str)))) (pw_or1 (pt_not (pt_chain op_le op_le pe_int (pe_callB call_len_str rfl V.len PySem.boot_len (pa_cons (pv 0) pa_nil)) (pe_glob (v := .int 8) rfl hN ⟨t3, rfl⟩)))))) (pss_one (ps_ret pe_bl)) pss_nil)
      (pss_one (ps_ret (pe_and (pe_cmpR op_in_sign (pe_ix ix_str (pv 0) pe_int (fun _ _ => rfl)) (pe_glob (v := .str LET) rfl hL ⟨t1, rfl⟩) (by rfl)) (pe_one (pe_call GH hr rfl gH kH bH .nil passL (pa_cons (pv 0) (pa_cons (pe_op op_add_str (pe_glob (v := .str LET) rfl hL ⟨t1, rfl⟩) (pe_glob (v := .str DIG) rfl hD ⟨t2, rfl⟩)) pa_nil))))))), ?_⟩
    rcases q with ⟨⟨ty, h1, h2⟩, q⟩ | ⟨z, rfl, hz, q⟩
    · exact ⟨_, rfl, x, _, ty, _, false, rfl, .ty "str", h1, h2, false, rfl, iteT q⟩
    · refine ⟨_, rfl, .str z, _, _, _, true, rfl, .ty "str", TyX.base (.str z), tx_str, true, rfl, iteF ?_⟩
      have hz2 : z.length ≤ sizeLine := Nat.le_trans hz (by decide)
      refine ⟨_, rfl, z, rfl, hz2, _, _, rfl, rfl, _, rfl, ?_⟩
      by_cases c1 : 1 ≤ z.length
      · refine if_true_of (decide_eq_true (by omega)) ⟨_, _, rfl, rfl, _, rfl, ?_⟩
        by_cases c2 : z.length ≤ 8
        · rw [decide_eq_true (show (z.length : Int) ≤ 8 by omega)]
          refine iteF ?_
          have h0 : 0 < z.cps.toList.length := by
            have : z.cps.toList.length = z.length := by simp [Str.length]
            omega
          have hh : z.cps.toList.head? = some z.cps.toList[0] := by rw [List.head?_eq_getElem?, List.getElem?_eq_getElem h0]
          refine ⟨_, rfl, z, _, _, rfl, rfl, hz2, atI_nat (j := 0) (List.getElem?_eq_getElem h0), _, _, rfl, rfl, _, rfl, ?_⟩
          unfold isName at q
          rw [decide_eq_true c1, decide_eq_true c2, hh] at q
          by_cases c3 : z.cps.toList[0] ∈ LET.cps.toList
          · refine if_true_of (decide_eq_true c3) ⟨_, rfl, LET, DIG, rfl, rfl, by decide +kernel, z, LET ++ DIG, rfl, hz, fun H' s' => ?_⟩
            have q' := q H' s'
            simp only [decide_eq_true c3, Bool.true_and] at q'
            exact q'
          · refine if_false_of (decide_eq_false c3) ?_
            have q' := q H (Same.refl _)
            simp only [decide_eq_false c3, Bool.false_and, Bool.and_false] at q'
            exact q'
        · rw [decide_eq_false (show ¬ (z.length : Int) ≤ 8 by omega)]
          refine iteT ?_
          have q' := q H (Same.refl _)
          unfold isName at q'
          rw [decide_eq_false c2, Bool.and_false, Bool.false_and] at q'
          exact q'
      · refine if_false_of (decide_eq_false (by omega)) ⟨_, rfl, iteT ?_⟩
        have q' := q H (Same.refl _)
        unfold isName at q'
        rw [decide_eq_false c1, Bool.false_and, Bool.false_and] at q'
        exact q'
theorem sbeq (a z : Str) : (a == z) = decide (z = a) := by
  rw [Bool.eq_iff_iff, beq_iff_eq, decide_eq_true_iff]
  exact eq_comm
theorem inV_unit (z : Str) : inV (.str z) [.str "beats", .str "seconds"] = isUnit z := by
  unfold inV isUnit
  simp only [List.any_cons, List.any_nil, eqV, Bool.or_false, sbeq]
theorem inV_word (z : Str) : inV (.str z) [.str "before", .str "same", .str "after"] = isWord z := by
  unfold inV isWord
  simp only [List.any_cons, List.any_nil, eqV, Bool.or_false, sbeq]
theorem ok_unit (F : FnP K "is_unit" sUnit f fd) (T : AF K mg) (V : VF K mg aU aW) : FnOk P w K mg base (L2.CX P w) 1 f fd ["value"] (spText K isUnit) := by
  refine F.ok scUnit (fun vs H Q E h => ?_) (fun cdv A outer s H vs Q E hr h => ?_)
  · obtain ⟨x, rfl, _⟩ := h
    rfl
  · obtain ⟨x, rfl, q⟩ := h
    refine ⟨_, pss_one (ps_ret (pe_and (pe_isi T.isi (pv 0) (pe_ty V.str boot_str)) (pe_one (pe_cmpR op_in_seq (pv 0) (pe_glob (v := .ref aU) rfl V.units rfl) (by rfl))))), ?_⟩
    rcases q with ⟨⟨ty, h1, h2⟩, q⟩ | ⟨z, rfl, q⟩
    · exact ⟨_, rfl, x, _, ty, _, false, rfl, .ty "str", h1, h2, false, rfl, iteF q⟩
    · refine ⟨_, rfl, .str z, _, _, _, true, rfl, .ty "str", TyX.base (.str z), tx_str, true, rfl, iteT ⟨_, rfl, aU, _, rfl, .inr (V.unitsT H), rfl, rfl, ?_⟩⟩
      rw [if_neg (by decide), inV_unit]
      exact q
theorem ok_word (F : FnP K "is_word" sWord f fd) (T : AF K mg) (V : VF K mg aU aW) : FnOk P w K mg base (L2.CX P w) 1 f fd ["value"] (spText K isWord) := by
  refine F.ok scWord (fun vs H Q E h => ?_) (fun cdv A outer s H vs Q E hr h => ?_)
  · obtain ⟨x, rfl, _⟩ := h
    rfl
  · obtain ⟨x, rfl, q⟩ := h
    refine ⟨_, pss_one (ps_ret (pe_and (pe_isi T.isi (pv 0) (pe_ty V.str boot_str)) (pe_one (pe_cmpR op_in_seq (pv 0) (pe_glob (v := .ref aW) rfl V.words rfl) (by rfl))))), ?_⟩
    rcases q with ⟨⟨ty, h1, h2⟩, q⟩ | ⟨z, rfl, q⟩
    · exact ⟨_, rfl, x, _, ty, _, false, rfl, .ty "str", h1, h2, false, rfl, iteF q⟩
    · refine ⟨_, rfl, .str z, _, _, _, true, rfl, .ty "str", TyX.base (.str z), tx_str, true, rfl, iteT ⟨_, rfl, aW, _, rfl, .inr (V.wordsT H), rfl, rfl, ?_⟩⟩
      rw [if_neg (by decide), inV_word]
      exact q
/-- a text that g takes is turned by t; else an error of the class at C -/
def spTurn (K : PySem.W.Frag) (g : Str → Bool) (t : Str → Str) (C : Addr) : Sp := fun vs H Q E => ∃ x, vs = [x] ∧ ((Tx K H x false ∧ Err C x H E) ∨ ∃ z : Str, x = .str z ∧ (g z = false → Err C x H E) ∧ (g z = true → Q (.str (t z)) H))
def othU (z : Str) : Str := if z = "beats" then "seconds" else "beats"
def turnW (z : Str) : Str := if z = "before" then "after" else if z = "after" then "before" else "same"
/-- a unit passes; else an error -/
def spChk (K : PySem.W.Frag) : Sp := fun vs H Q E => ∃ x, vs = [x] ∧ ((Tx K H x false ∧ Err (CU K) x H E) ∨ ∃ z : Str, x = .str z ∧ (isUnit z = false → Err (CU K) x H E) ∧ (isUnit z = true → Q .non H))
theorem ok_chk {fU fI : Addr} {fdU : FuncData} {qu tu : Str} (F : FnP K "check_unit" sChk f fd) (GU : FnOk P w K mg base (L2.CX P w) 1 fU fdU ["value"] (spText K isUnit)) (gU : mg "is_unit" = some (.ref fU)) (kU : PySem.W.keepIn K (.ref fU) = true) (bU : Binds K fdU ["value"] [])
    (gE : mg "InvalidUnit" = some (.ref (CU K))) (XU : Xb.Txt P.main.file K qu "value" tu (CU K) fI) (htop : (P.main.scope.names.lookup ("super" : Str)).isSome = false) : FnOk P w K mg base (L2.CX P w) 2 f fd ["unit"] (spChk K) := by
  refine F.ok scChk (fun vs H Q E h => ?_) (fun cdv A outer s H vs Q E hr h => ?_)
  · obtain ⟨x, rfl, _⟩ := h
    rfl
  · obtain ⟨x, rfl, q⟩ := h
    refine ⟨_, pss_one (ps_if (pt_not (pt_val (pe_call GU hr rfl gU kU bU .nil passL (pa_cons (pv 0) pa_nil)))) (pss_one (Xb.ps_raiseX (W := fun cls d _ H => E cls d H) rfl XU gE htop hr (takes_of rfl rfl rfl rfl) (pa_cons (pv 0) pa_nil))) pss_nil), ?_⟩
    rcases q with ⟨tx, er⟩ | ⟨z, rfl, er, q⟩
    · exact ⟨_, rfl, x, rfl, .inl ⟨tx, false, rfl, iteT ⟨_, rfl, _, rfl, er⟩⟩⟩
    · refine ⟨_, rfl, .str z, rfl, .inr ⟨z, rfl, isUnit z, rfl, ?_⟩⟩
      cases g : isUnit z with
      | false => exact iteT ⟨_, rfl, _, rfl, er g⟩
      | true => exact iteF (q g)
def spChkW (K : PySem.W.Frag) : Sp := fun vs H Q E => ∃ x, vs = [x] ∧ ((Tx K H x false ∧ Err (CW K) x H E) ∨ ∃ z : Str, x = .str z ∧ (isWord z = false → Err (CW K) x H E) ∧ (isWord z = true → Q .non H))
theorem ok_chkw {fU fI : Addr} {fdU : FuncData} {qu tu : Str} (F : FnP K "check_word" sChkW f fd) (GU : FnOk P w K mg base (L2.CX P w) 1 fU fdU ["value"] (spText K isWord)) (gU : mg "is_word" = some (.ref fU)) (kU : PySem.W.keepIn K (.ref fU) = true) (bU : Binds K fdU ["value"] [])
    (gE : mg "InvalidWord" = some (.ref (CW K))) (XU : Xb.Txt P.main.file K qu "value" tu (CW K) fI) (htop : (P.main.scope.names.lookup ("super" : Str)).isSome = false) : FnOk P w K mg base (L2.CX P w) 2 f fd ["word"] (spChkW K) := by
  refine F.ok scChkW (fun vs H Q E h => ?_) (fun cdv A outer s H vs Q E hr h => ?_)
  · obtain ⟨x, rfl, _⟩ := h
    rfl
  · obtain ⟨x, rfl, q⟩ := h
    refine ⟨_, pss_one (ps_if (pt_not (pt_val (pe_call GU hr rfl gU kU bU .nil passL (pa_cons (pv 0) pa_nil)))) (pss_one (Xb.ps_raiseX (W := fun cls d _ H => E cls d H) rfl XU gE htop hr (takes_of rfl rfl rfl rfl) (pa_cons (pv 0) pa_nil))) pss_nil), ?_⟩
    rcases q with ⟨tx, er⟩ | ⟨z, rfl, er, q⟩
    · exact ⟨_, rfl, x, rfl, .inl ⟨tx, false, rfl, iteT ⟨_, rfl, _, rfl, er⟩⟩⟩
    · refine ⟨_, rfl, .str z, rfl, .inr ⟨z, rfl, isWord z, rfl, ?_⟩⟩
      cases g : isWord z with
      | false => exact iteT ⟨_, rfl, _, rfl, er g⟩
      | true => exact iteF (q g)
theorem ok_other {fC : Addr} {fdC : FuncData} (F : FnP K "other_unit" sOther f fd) (GC : FnOk P w K mg base (L2.CX P w) 2 fC fdC ["unit"] (spChk K)) (gC : mg "check_unit" = some (.ref fC)) (kC : PySem.W.keepIn K (.ref fC) = true) (bC : Binds K fdC ["unit"] []) : FnOk P w K mg base (L2.CX P w) 3 f fd ["unit"] (spTurn K isUnit othU (CU K)) := by
  refine F.ok scOther (fun vs H Q E h => ?_) (fun cdv A outer s H vs Q E hr h => ?_)
  · obtain ⟨x, rfl, _⟩ := h
    rfl
  · obtain ⟨x, rfl, q⟩ := h
    refine ⟨_, pss_cons (ps_expr (pe_callS GC hr rfl gC kC bC (fun σ => passAt (W := fun cls d _ H => E cls d H) (takes_of rfl rfl rfl rfl) σ) (pa_cons (pv 0) pa_nil)))
      (pss_one (ps_ret (pe_ifExp (pt_cmpR op_eq (pv 0) pe_str (nomark _)) pe_str pe_str))), ?_⟩
    rcases q with ⟨tx, er⟩ | ⟨z, rfl, er, q⟩
    · exact ⟨_, rfl, x, rfl, .inl ⟨tx, er⟩⟩
    · refine ⟨_, rfl, .str z, rfl, .inr ⟨z, rfl, er, fun g => ?_⟩⟩
      have q' := q g
      refine ⟨_, rfl, rfl, _, rfl, ?_⟩
      unfold othU at q'
      by_cases c : z = "beats"
      · rw [if_pos c] at q'
        exact if_true_of (decide_eq_true (congrArg V.str c)) q'
      · rw [if_neg c] at q'
        exact if_false_of (decide_eq_false fun y => c (V.str.inj y)) q'
theorem ok_turned {fC : Addr} {fdC : FuncData} (F : FnP K "turned" sTurned f fd) (GC : FnOk P w K mg base (L2.CX P w) 2 fC fdC ["word"] (spChkW K)) (gC : mg "check_word" = some (.ref fC)) (kC : PySem.W.keepIn K (.ref fC) = true) (bC : Binds K fdC ["word"] []) : FnOk P w K mg base (L2.CX P w) 3 f fd ["word"] (spTurn K isWord turnW (CW K)) := by
  refine F.ok scTurned (fun vs H Q E h => ?_) (fun cdv A outer s H vs Q E hr h => ?_)
  · obtain ⟨x, rfl, _⟩ := h
    rfl
  · obtain ⟨x, rfl, q⟩ := h
    refine ⟨_, pss_cons (ps_expr (pe_callS GC hr rfl gC kC bC (fun σ => passAt (W := fun cls d _ H => E cls d H) (takes_of rfl rfl rfl rfl) σ) (pa_cons (pv 0) pa_nil)))
      (pss_cons (ps_if (pt_cmpR op_eq (pv 0) pe_str (nomark _)) (pss_one (ps_ret pe_str)) pss_nil)
      (pss_cons (ps_if (pt_cmpR op_eq (pv 0) pe_str (nomark _)) (pss_one (ps_ret pe_str)) pss_nil)
      (pss_one (ps_ret pe_str)))), ?_⟩
    rcases q with ⟨tx, er⟩ | ⟨z, rfl, er, q⟩
    · exact ⟨_, rfl, x, rfl, .inl ⟨tx, er⟩⟩
    · refine ⟨_, rfl, .str z, rfl, .inr ⟨z, rfl, er, fun g => ?_⟩⟩
      have q' := q g
      refine ⟨_, rfl, rfl, _, rfl, ?_⟩
      unfold turnW at q'
      by_cases c : z = "before"
      · rw [if_pos c] at q'
        exact if_true_of (decide_eq_true (congrArg V.str c)) q'
      · rw [if_neg c] at q'
        refine if_false_of (decide_eq_false fun y => c (V.str.inj y)) ⟨_, rfl, rfl, _, rfl, ?_⟩
        by_cases c2 : z = "after"
        · rw [if_pos c2] at q'
          exact if_true_of (decide_eq_true (congrArg V.str c2)) q'
        · rw [if_neg c2] at q'
          exact if_false_of (decide_eq_false fun y => c2 (V.str.inj y)) q'
end
end K03

set_option Elab.async false
set_option linter.all false
set_option maxRecDepth 100000
set_option maxHeartbeats 4000000
/-! Defs that show lists: the guards of repr stand empty around them. -/
namespace Fg
open PySem PySem.Spec PyProof.Rows L2
/-- a def's promise where no repr is under way -/
structure FnG (P : Program) (w : World) (K : PySem.W.Frag) (mg : Str → Option Value) (base : Heap) (CX : CXT) (k : Nat) (f : Addr) (fd : FuncData) (ps : List Str) (sp : Sp) : Prop where
  len : ∀ vs H Q E, sp vs H Q E → vs.length = ps.length
  run : ∀ (A : Around) (ou : List Env) (s : Shared) (H : Hp) (ar : Args) (us : List Value) (vs : List V) (Q : VK) (E : XK), A.guards = some [] → Room k A → Env0 P w K mg base A ou s H → BindsTo s fd ar (ps.zip us) →
    Vals vs us → sp vs H Q E → codeAny (model P w) A (.call (.ref f) ar) (CR CX ou P w H s Q E) s
section
variable {CX : CXT} {P : Program} {w : World} {K : PySem.W.Frag} {mg : Str → Option Value} {base : Heap} {k : Nat} {f : Addr} {fd : FuncData} {x qual : Str} {params : Arguments} {body : List Stmt} {scope : Scope} {dvs : List V} {kws : List (Str × V)} {N ps : List Str} {sp : Sp}
theorem okG (F : FunD K x qual params body scope dvs kws f fd) (S : FnScope N ps scope) (len : ∀ vs H Q E, sp vs H Q E → vs.length = ps.length)
    (hb : ∀ (cdv : Value) (A : Around) (ou : List Env) (s : Shared) (H : Hp) (vs : List V) (Q : VK) (E : XK), A.guards = some [] → Room k (A.deeper (envOfC qual scope s.heap.objs.size f cdv)) → sp vs H Q E →
      ∃ t, PSs (cxOf CX P w K mg base N qual scope f cdv A ou s H E) body t ∧ t { nx := fun _ H' => Q .non H', rt := Q } (start N vs) H) : FnG P w K mg base CX (k + 1) f fd ps sp := by
  obtain ⟨oc, od, dV, kV, doc, pm, an, cdv, ct, osl, rfl, lk, hcd, _, _⟩ := F.ex
  constructor
  · exact len
  intro A ou s H ar us vs Q E hg hr e0 bi rv hsp
  have keep : ∀ b o, base.get? b = some o → s.heap.get? b = some o := fun b o e => (e0.bs b o e).1
  have inK : K.In s.heap := e0.mod.kin.keeps keep
  have noL : s.heap.NoLimit := e0.mod.nolimit.keeps keep
  have kinds : ∀ y ∈ ps.zip us, scope.names.lookup y.1 = some .local ∨ (scope.names.lookup y.1 = some .cell ∧ ((cellsFrom (s.heap.objs.size + 1) scope.names []).lookup y.1).isSome = true) := by
    rintro ⟨n, v⟩ hy
    exact (S.par n (List.of_mem_zip hy).1).imp id fun q => ⟨q, PySem.W.cellsFrom_some _ _ _ (.inl q)⟩
  refine codeAny_call_function hr.depth (inK _ _ lk) rfl S.co S.gen rfl (PySem.W.codeRec_of inK hcd) (bi _ _ _ _ ?_)
  refine wpAny_newFunctionEnv_cells S.kind kinds fun env he s1 ic => ?_
  cases he
  refine ⟨noL.keeps ic.toInCall.keep, codeAny_func ?_⟩
  obtain ⟨t, pt, tq⟩ := hb cdv A ou s H vs Q E hg (hr.deeper _) hsp
  have J : Inv (cxOf CX P w K mg base N qual scope f cdv A ou s H E) [] (start N vs) H s1 := inv_start S hr.hd e0 (len _ _ _ _ hsp) rv ic
  refine wpAny_mono (pt.run [] s1 (start N vs) H _ J tq) (fun fl s2 h2 => ?_) fun _ _ h2 => h2
  match fl, h2 with
  | .ret u, h2 =>
    obtain ⟨v, σ2, H2, J2, ru, q2⟩ := h2
    exact ⟨v, H2, J2.os, J2.bare, J2.base, J2.hok, ru, q2⟩
  | .next, h2 =>
    obtain ⟨σ2, H2, J2, q2⟩ := h2
    exact ⟨V.non, H2, J2.os, J2.bare, J2.base, J2.hok, rfl, q2⟩
  | .brk, h2 => exact (let ⟨_, _, _, z⟩ := h2; False.elim z)
  | .cont, h2 => exact (let ⟨_, _, _, z⟩ := h2; False.elim z)
end
section
variable {X : Cx} {CX : CXT} {k : Nat} {f : Addr} {fd : FuncData} {ps : List Str} {sp : Sp} {E : L2.St → XK} {x : Str} {p pos : Pos} {e : Expr} {es : List Expr} {t : TA}
theorem run_G {pn : List (Addr × Obj)} {σ : L2.St} {H : Hp} {s : Shared} {Q : VK} {us : List Value} {vs : List V} (G : X.A.guards = some []) (F : FnG X.prog X.w X.K X.mg X.base CX k f fd ps sp) (hr : Room k X.A) (hb : Binds X.K fd ps []) (px : PassesAt CX X σ (E σ))
    (I : Inv X pn σ H s) (r : Vals vs us) (h : sp vs H Q (E σ)) : wpAny (model X.prog X.w) X.A (call (.ref f) us) (EP X pn σ Q) X.xe s := by
  have bi := hb s us I.kIn (by rw [List.append_nil, ← r.length]; exact F.len _ _ _ _ h)
  rw [List.append_nil] at bi
  refine wpAny_call (codeAny_mono (F.run X.A X.stack s H ⟨us, []⟩ us vs Q (E σ) G hr I.env0 bi r h) fun res s2 out => ?_)
  match res, out with
  | .error er, out => exact px pn H s er s2 I out
  | .ok (.ret u), out => exact I.after out
  | .ok .next, out => exact out.elim
  | .ok .brk, out => exact out.elim
  | .ok .cont, out => exact out.elim
theorem pe_callG (G : X.A.guards = some []) (F : FnG X.prog X.w X.K X.mg X.base CX k f fd ps sp) (hr : Room k X.A) (hg : Gl X x) (hm : X.mg x = some (.ref f)) (hk : PySem.W.keepIn X.K (.ref f) = true) (hb : Binds X.K fd ps []) (px : ∀ σ, PassesAt CX X σ (E σ))
    (ha : PA X (e :: es) t) (nd : (x == ("__debug__" : Str)) = false := by decide) (he : starEach (e :: es) X.env = (false, eval e X.env) :: starEach es X.env := by rfl) (hpl : (backTo pos (starEach es X.env)).any (·.1) = false := by rfl) :
    PE X (.Call (.Name x p) (e :: es) [] pos) (tCallS sp E t) := by
  constructor
  intro pn s σ H Q I h
  refine wpAny_Call_Name_kw (ld_glob I hg hm ?_ nd)
  refine PySem.W.callWith_K (h₀ := X.base) I.ok.mod.kin hk (thn (ha.run pos pn s σ H _ I h) ?_) he hpl
  rintro us s1 ⟨vs, H1, I1, r, q⟩
  exact ⟨I1.kIn, run_G G F hr hb (px σ) I1 r q⟩
theorem pe_callG0 (G : X.A.guards = some []) (F : FnG X.prog X.w X.K X.mg X.base CX k f fd ps sp) (hr : Room k X.A) (hg : Gl X x) (hm : X.mg x = some (.ref f)) (hk : PySem.W.keepIn X.K (.ref f) = true) (hb : Binds X.K fd ps []) (px : ∀ σ, PassesAt CX X σ (E σ))
    (nd : (x == ("__debug__" : Str)) = false := by decide) : PE X (.Call (.Name x p) [] [] pos) (tCallS sp E tNil) := by
  constructor
  intro pn s σ H Q I h
  exact wpAny_Call_Name_kw (ld_glob I hg hm (PySem.W.callWith_K0 I.kIn hk (run_G (us := []) G F hr hb (px σ) I .nil h)) nd)
end
/-! ### repr of what is tracked -/
/-- the object of sys.modules is a dict of the written part -/
def SysD (K : PySem.W.Frag) : Prop := ∃ c dd es ep sl, K.lookup sysModules = some ⟨c, dd, .dict es ep, sl⟩
def Sh (X : Cx) (H : Hp) (v : V) (d : PyData) : Prop := ∀ (pn : List (Addr × Obj)) (σ : L2.St) (s : Shared) (u : Value), Inv X pn σ H s → RelV v u → ∃ as, Reads s.heap u d as ∧ sysModules ∉ as
inductive ShA (X : Cx) (H : Hp) : List V → List PyData → Prop
  | nil : ShA X H [] []
  | cons {v : V} {vs : List V} {d : PyData} {ds : List PyData} : Sh X H v d → ShA X H vs ds → ShA X H (v :: vs) (d :: ds)
section
variable {X : Cx} {H : Hp}
theorem ShA.reads {pn : List (Addr × Obj)} {σ : L2.St} {s : Shared} (I : Inv X pn σ H s) : ∀ {vs : List V} {ds : List PyData} {us : List Value}, ShA X H vs ds → Vals vs us → ∃ as, ReadsAll s.heap us ds as ∧ sysModules ∉ as
  | _, _, _, .nil, .nil => ⟨[], .nil, by simp⟩
  | _, _, _, .cons h hs, .cons r rs => by
    obtain ⟨as, a1, a2⟩ := h _ _ _ _ I r
    obtain ⟨bs, b1, b2⟩ := ShA.reads I hs rs
    exact ⟨as ++ bs, .cons a1 b1, by simp [a2, b2]⟩
theorem sh_non : Sh X H .non .none := fun _ _ _ u _ r => by
  cases r
  exact ⟨[], .none, by simp⟩
theorem sh_bl (b : Bool) : Sh X H (.bl b) (.bool b) := fun _ _ _ u _ r => by
  cases r
  exact ⟨[], .bool b, by simp⟩
theorem sh_int (i : Int) : Sh X H (.int i) (.int i) := fun _ _ _ u _ ⟨t, e⟩ => by
  cases e
  exact ⟨[], .int i t, by simp⟩
theorem sh_str (x : Str) : Sh X H (.str x) (.str x) := fun _ _ _ u _ ⟨t, e⟩ => by
  cases e
  exact ⟨[], .str x t, by simp⟩
theorem sh_lst (S : SysD X.K) {a : Addr} {xs : List V} {ds : List PyData} (h : H a = some (.lst xs)) (hs : ShA X H xs ds) : Sh X H (.ref a) (.list ds) := fun pn σ s u I r => by
  cases r
  obtain ⟨its, rv, ⟨o, n, ho, hc, _, hd⟩, _⟩ := I.list (SqL.of (K := X.K) h)
  obtain ⟨as, a1, a2⟩ := hs.reads I rv
  refine ⟨a :: as, .list ho hc hd a1, fun z => ?_⟩
  rcases List.mem_cons.mp z with z | z
  · obtain ⟨c, dd, es, ep, sl, hk⟩ := S
    have h2 := I.kIn _ _ hk
    rw [z, ho] at h2
    cases h2
    cases hd
  · exact a2 z
theorem sh_tup {a : Addr} {xs : List V} {ds : List PyData} (h : H a = some (.tup xs)) (hs : ShA X H xs ds) : Sh X H (.ref a) (.tuple ds) := fun pn σ s u I r => by
  cases r
  obtain ⟨its, rv, ⟨o, ho, hc, n, hd⟩, _⟩ := I.tuple (SqT.of (K := X.K) h)
  obtain ⟨as, a1, a2⟩ := hs.reads I rv
  exact ⟨as, .tuple ho hc hd a1, a2⟩
theorem sh_dict0 {a : Addr} (h : H a = some (.dK [])) : Sh X H (.ref a) (.dict []) := fun pn σ s u I r => by
  cases r
  obtain ⟨_, h1, vs, kv, hd⟩ := dk_of I.hok h
  obtain ⟨o, es, ep, ho, hc, hdat, _, hp, _⟩ := hd
  cases kv
  have el : es.toList = [] := List.eq_nil_of_length_eq_zero hp.length
  refine ⟨a :: [] ++ [], Reads.dict ho hc.1 hdat (by rw [el]; exact .nil) (by rw [el]; exact .nil), fun z => ?_⟩
  have z2 : sysModules = a := by simpa using z
  rw [← z2] at h1
  simp at h1
mutual
/-- what is shown of a value, by the tracked heap alone -/
inductive Sv (H : Hp) : V → PyData → Prop
  | non : Sv H .non .none
  | bl (b : Bool) : Sv H (.bl b) (.bool b)
  | int (i : Int) : Sv H (.int i) (.int i)
  | str (x : Str) : Sv H (.str x) (.str x)
  | lst {a : Addr} {xs : List V} {ds : List PyData} : H a = some (.lst xs) → SvA H xs ds → Sv H (.ref a) (.list ds)
  | tup {a : Addr} {xs : List V} {ds : List PyData} : H a = some (.tup xs) → SvA H xs ds → Sv H (.ref a) (.tuple ds)
  | dic {a : Addr} : H a = some (.dK []) → Sv H (.ref a) (.dict [])
inductive SvA (H : Hp) : List V → List PyData → Prop
  | nil : SvA H [] []
  | cons {v : V} {vs : List V} {d : PyData} {ds : List PyData} : Sv H v d → SvA H vs ds → SvA H (v :: vs) (d :: ds)
end
mutual
theorem Sv.sh (S : SysD X.K) : ∀ {d : PyData} {v : V}, Sv H v d → Sh X H v d
  | _, _, .non => sh_non
  | _, _, .bl b => sh_bl b
  | _, _, .int i => sh_int i
  | _, _, .str x => sh_str x
  | _, _, .lst h hs => sh_lst S h (SvA.sh S hs)
  | _, _, .tup h hs => sh_tup h (SvA.sh S hs)
  | _, _, .dic h => sh_dict0 h
theorem SvA.sh (S : SysD X.K) : ∀ {ds : List PyData} {vs : List V}, SvA H vs ds → ShA X H vs ds
  | _, _, .nil => .nil
  | _, _, .cons h hs => .cons (Sv.sh S h) (SvA.sh S hs)
end
mutual
theorem Sv.same {H' : Hp} (s : ∀ a o, H a = some o → H' a = some o) : ∀ {d : PyData} {v : V}, Sv H v d → Sv H' v d
  | _, _, .non => .non
  | _, _, .bl b => .bl b
  | _, _, .int i => .int i
  | _, _, .str x => .str x
  | _, _, .lst h hs => .lst (s _ _ h) (SvA.same s hs)
  | _, _, .tup h hs => .tup (s _ _ h) (SvA.same s hs)
  | _, _, .dic h => .dic (s _ _ h)
theorem SvA.same {H' : Hp} (s : ∀ a o, H a = some o → H' a = some o) : ∀ {ds : List PyData} {vs : List V}, SvA H vs ds → SvA H' vs ds
  | _, _, .nil => .nil
  | _, _, .cons h hs => .cons (Sv.same s h) (SvA.same s hs)
end
theorem call_reprD (S : SysD X.K) (G : X.A.guards = some []) (hu : X.A.units + 64 < cLine) : CallR X (.builtin "repr") (fun xs H Q => ∃ a d, xs = [.ref a] ∧ Sv H (.ref a) d ∧ d.showable = true ∧ d.depth ≤ 20 ∧ d.shown.length ≤ sizeLine ∧ Q (.str d.shown) H) := by
  intro pn s σ H xs us Q I r h
  obtain ⟨a, d, rfl, sv, h1, h2, h3, q⟩ := h
  obtain ⟨u, rfl, r1⟩ := vals1 r
  obtain rfl : u = Value.ref a := r1
  obtain ⟨as, rd, ns⟩ := sv.sh S _ _ _ _ I rfl
  exact repr_of_reads' rd h1 (fun _ => ns) G (by omega) (fun _ _ e => e) (fun h' u tk hk => ⟨.str d.shown, H, I.kept (t' := tk) hk, ⟨u, rfl⟩, q⟩) h3
end
theorem deeper_guards {A : Around} {env : Env} : (A.deeper env).guards = A.guards := rfl
end Fg
set_option Elab.async false
set_option linter.all false
set_option maxRecDepth 100000
set_option maxHeartbeats 4000000
/-! sep.join(reversed(a list of texts)) -/
namespace Fj
open PySem PySem.Spec PyProof.Rows PySem.Builtin PySem.Builtin.Str RT
section
variable {prog : Program} {w : World} {A : Around} {E : Value → Shared → Prop} {s : Shared}
theorem join_rev {x : Str} {t : Tok} {ys : List Str} {it l : Addr} {items : Array Value} {Q : Value → Shared → Prop} (hh : A.handled = none) (hit : s.heap.IsRevIter it l ((items.size : Int) - 1)) (hl : s.heap.IsList l items) (hne : l ≠ it) (hn : items.size ≤ sizeLine)
    (hP : ∀ acc : Array Value, ItemsOf (fun i v => items[items.size - 1 - i]? = some v) acc items.size → StrsAre acc.toList ys) (hok : (ys.map (·.length)).sum + ys.length * x.length ≤ 16777216)
    (hq : ∀ h' t' k, (∀ b o, b ≠ it → s.heap.get? b = some o → h'.get? b = some o) → Q (.str (Txt.join x ys) t') { s with heap := h', toks := k }) :
    wpAny (model prog w) A (call (.builtin "str.join") [.str x t, .ref it]) Q E s := by
  refine wpAny_call (codeAny_call_builtin F.slot_str_join.plain F.entry_str_join (F.slot_str_join.check _ _ _ _ _ _ _ _ (typeIs_str _ _ _) (F.args_str_join_2 _ _) ?_))
  have ty : s.TypeIs (.ref it) "list_reverseiterator" := hit.typeIs
  rw [join_tree_other]
  refine wpAny_bind (wpAny_typeOf ty ?_)
  show wpAny _ A.in1 ((pyIter (.ref it)).tryCatch _ >>= fun z => collect z >>= fun got => joinTail x got) _ _ s
  refine wpAny_bind (wpAny_tryCatch (wpAny_pyIter_revIter hit ?_))
  refine wpAny_bind (collect_rev (A := A.in1) hh hit hl hne hn fun h' tk acc hk hacc => ?_)
  obtain ⟨vals, hv, ht⟩ := strsAre_values (hP acc hacc)
  subst ht
  rw [hv]
  have fits := joinOk_of hok
  unfold JoinOk at fits
  rw [Bool.not_eq_true'] at fits
  have made : Gives (joinTail x (strValues vals)) (joinMade x vals) := by
    have z := gives_joinTail x vals fits
    cases vals with
    | nil => exact z
    | cons p1 rest => cases rest with
      | nil => exact z
      | cons p2 rest2 => exact z
  exact made prog w A (wants Q E) _ (post_join vals ⟨joinFit_length fits, fun t' k => hq h' t' k hk⟩)
end
end Fj
namespace Fj
open PySem PySem.Spec PyProof.Rows L2
section
variable {X : Cx}
/-- sep.join(reversed(xs)), xs a list of texts -/
def tJoinRev (K : PySem.W.Frag) (to te : TE) : TE := fun σ H Q => to σ H fun x H1 => (∃ a, x = .str a) ∧ te σ H1 fun v H2 => ∃ (a : Str) (q : Addr) (ys : List Str), x = .str a ∧ v = .ref q ∧ SqL K H2 q (ys.map V.str) ∧ (ys.map (·.length)).sum + ys.length * a.length ≤ 16777216 ∧ Q (.str (Txt.join a ys.reverse)) H2
theorem sum_rev : ∀ l : List Nat, l.reverse.sum = l.sum
  | [] => rfl
  | a :: l => by
    rw [List.reverse_cons, List.sum_append, sum_rev l, List.sum_cons, List.sum_cons, List.sum_nil]
    omega
theorem pe_joinRev {o e : Expr} {to te : TE} {apos pos p pos2 : Pos} (hc : X.calm = true) (ho : PE X o to) (hg : Gl X "reversed") (hm : X.mg "reversed" = none) (he : PE X e te)
    (hs1 : starEach [.Call (.Name "reversed" p) [e] [] pos2] X.env = [(false, eval (.Call (.Name "reversed" p) [e] [] pos2) X.env)] := by rfl) (hs : starEach [e] X.env = (false, eval e X.env) :: starEach [] X.env := by rfl)
    (hbase : attributeBase o "join" X.env (eval o X.env) = eval o X.env := by rfl) (hline : (apos.endLine == pos.line) = true := by rfl) :
    PE X (.Call (.Attribute o "join" apos) [.Call (.Name "reversed" p) [e] [] pos2] [] pos) (tJoinRev X.K to te) := by
  constructor
  intro pn s σ H Q I h
  refine PySem.Call_method1 hbase hs1 hline (thn (ho.run pn s σ H _ I h) ?_)
  rintro v s1 ⟨x, H1, I1, r1, ⟨a, rfl⟩, q1⟩
  obtain ⟨t, rfl⟩ := _root_.id r1
  refine ⟨"str", _, F.plainAttrs_str, F.slot_str_join, F.type_str_join, typeIs_str _ _ _, (fun _ e => nomatch e), Calls.callWith_builtin rfl (Calls.evalArgs_plain (Calls.spliced_cons ?_))⟩
  refine Call_ (ld_blt I1 hg hm PyProof.Rows.boot_reversed (PyProof.Rows.callWith_type1 (args_cons (thn (he.run pn s1 σ H1 _ I1 q1) fun u s2 ⟨v2, H2, I2, r2, q2⟩ => args_nil ?_) hs) hs rfl))
  obtain ⟨a', q, ys, ea, rfl, hq, fits, q3⟩ := q2
  cases ea
  cases r2
  obtain ⟨its, rv, pl, hz⟩ := I2.list hq
  refine call_reversed_list pl.isList (Calls.spliced_nil ?_)
  have keep : ∀ b o, s2.heap.get? b = some o → (s2.heap.push (revObj q ((its.toArray.size : Int) - 1))).get? b = some o := fun b o e => Heap.get?_push_of_some _ e
  have J : Inv X pn σ H2 { s2 with heap := s2.heap.push (revObj q ((its.toArray.size : Int) - 1)) } := I2.kept (t' := s2.toks) keep
  obtain ⟨f0, f1, f2, f3, f4, f5⟩ := I2.fpOk (H' := H2) (b := s2.heap.objs.size) (Nat.le_refl _) (I2.hok.fresh (Nat.le_refl _))
  have hl := pl.isList
  obtain ⟨ol, hol, _⟩ := id hl
  have ne : q ≠ s2.heap.objs.size := Nat.ne_of_lt (Heap.lt_size hol)
  have hn : its.toArray.size ≤ sizeLine := by rw [List.size_toArray, ← rv.length]; exact hz
  refine join_rev (s := { s2 with heap := s2.heap.push (revObj q ((its.toArray.size : Int) - 1)) }) (ys := ys.reverse) (I2.ok.hd hc) ⟨_, Heap.get?_push_size _ rfl, rfl, rfl⟩ (hl.push _) ne hn (fun acc hacc => ?_) ?_ fun h' t' k hk => ?_
  · have z := RT.vals_rev rv hacc
    rw [← List.map_reverse] at z
    exact strs_of_vals z
  · rw [List.map_reverse, sum_rev, List.length_reverse]
    exact fits
  · exact ⟨.str _, H2, J.turned (t' := k) (fun b o hb e => hk b o hb e) f0 f1 f3 f4 f5, ⟨t', rfl⟩, q3⟩
end
end Fj
set_option Elab.async false
set_option linter.all false
set_option maxRecDepth 100000
set_option maxHeartbeats 4000000
set_option exponentiation.threshold 100000
namespace K03
open PySem PySem.Spec PyProof.Rows L2 Fa Fb
/-- rows that are never reached -/
theorem pss_never {X : Cx} {b : List Stmt} : PSs X b (fun _ _ _ => False) := ⟨fun _ _ _ _ _ _ h => h.elim⟩
abbrev sDec : Stmt := top 32
abbrev sAmt : Stmt := top 31
theorem scDec : FnScope ["number", "piece", "pieces", "rest"] ["number"] (defScope sDec) := ⟨rfl, rfl, rfl, by decide +kernel, rfl, by decide +kernel, by decide +kernel⟩
theorem scAmt : FnScope ["amount", "told", "sign", "below"] ["amount"] (defScope sAmt) := ⟨rfl, rfl, rfl, by decide +kernel, rfl, by decide +kernel, by decide +kernel⟩
/-- a number's text -/
def dec (i : Int) : Str := Str.ofString (toString i)
theorem dec_len {i : Int} {k : Nat} (h0 : 0 ≤ i) (hk : 0 < k) (h : i < 10 ^ k) : (dec i).length ≤ k := toString_length_le h0 hk h
def spDec : Sp := fun vs H Q _ => ∃ n : Int, vs = [.int n] ∧ 0 ≤ n ∧ n < 10 ^ 60 ∧ ∀ H', Same H H' → Q (.str (dec n)) H'
/-- an amount's text -/
def amtS (t u : Int) : Str := ((if t < 0 then ("-" : Str) else ("" : Str)) ++ dec t.natAbs) ++ (if u = 1 then ("" : Str) else ("/" : Str) ++ dec u)
def spAmt (K : PySem.W.Frag) : Sp := fun vs H Q E => ∃ x, vs = [x] ∧ ((Bad K H x ∧ Err (CV K) x H E) ∨ ∃ t u n, Arg K H x t u n ∧ t.natAbs < 10 ^ 60 ∧ u < 10 ^ 60 ∧ ∀ H', Same H H' → Q (.str (amtS t u)) H')
/-- a property of Amount with its getter -/
structure PrF (P : Program) (w : World) (K : PySem.W.Frag) (mg : Str → Option Value) (base : Heap) (f fld : Str) (pa fa : Addr) (fd : FuncData) : Prop where
  pr : PropOf K (CA K) f pa fa
  ok : FnOk P w K mg base (L2.CX P w) 1 fa fd ["self"] (getSp (CA K) fld)
  bi : Binds K fd ["self"] []
section
variable {P : Program} {w : World} {K : PySem.W.Frag} {mg : Str → Option Value} {base : Heap} {f fS fD pT pB fT fB : Addr} {fd fdS fdD fdT fdB : FuncData}
theorem ok_dec (F : FnP K "_decimal" sDec f fd) (mS : mg "str" = none) (mR : mg "reversed" = none) : FnOk P w K mg base (L2.CX P w) 1 f fd ["number"] spDec := by
  refine F.ok scDec (fun vs H Q E h => ?_) (fun cdv A outer s H vs Q E hr h => ?_)
  · obtain ⟨n, rfl, _⟩ := h
    rfl
  · obtain ⟨n, rfl, h0, h1, q⟩ := h
    refine ⟨_, pss_cons (ps_set (i := 1) scDec.nd rfl (Or.inl rfl) (pe_op op_pow pe_int pe_int)) (pss_cons (ps_set (i := 2) scDec.nd rfl (Or.inl rfl) (pe_lst pa_nil))
      (pss_cons (ps_while (passes_of rfl) (pt_cmpR op_ge (pv 0) (pv 1) (nomark _)) pss_never)
      (pss_cons (ps_expr (pe_bm PySem.F.plainAttrs_list PySem.F.slot_list_append PySem.F.type_list_append mt_append (pv 2) (pa_cons (pe_callTy call_str_int rfl mS boot_str (pa_cons (pv 0) pa_nil)) pa_nil)))
      (pss_one (ps_ret (Fj.pe_joinRev (by rfl) pe_str rfl mR (pv 2))))))), ?_⟩
    refine ⟨_, _, rfl, rfl, ⟨by decide, by decide, by decide⟩, by decide, fun p hp => ?_⟩
    have s1 := Same.upd (o := .lst []) hp
    refine ⟨fun _ σ H' => σ = [some (.int n), some (.int (10 ^ 60)), some (.ref p), none] ∧ H' = upd H p (.lst []), ⟨0, rfl, rfl⟩, ?_⟩
    rintro m σ H' ⟨rfl, rfl⟩
    refine ⟨_, rfl, _, rfl, _, _, rfl, rfl, _, rfl, if_false_of (decide_eq_false (by omega)) ?_⟩
    have hlog : n.natAbs.log2 < 1920 := by
      by_cases z : n.natAbs = 0
      · rw [z]
        decide
      · refine (Nat.log2_lt z).mpr (Nat.lt_of_lt_of_le (show n.natAbs < 10 ^ 60 by omega) ?_)
        exact Nat.le_trans (by decide : 10 ^ 60 ≤ 2 ^ 200) (Nat.pow_le_pow_right (by decide) (by decide))
    refine ⟨_, rfl, .inl ⟨rfl, _, SqL.of upd_same⟩, _, rfl, n, rfl, hlog, p, _, _, rfl, rfl, upd_same, by decide, ?_⟩
    have hl := dec_len h0 (by decide : 0 < 60) h1
    refine ⟨⟨_, rfl⟩, _, rfl, "", p, [dec n], rfl, rfl, SqL.of upd_same, ?_, ?_⟩
    · simp only [List.map_cons, List.map_nil, List.sum_cons, List.sum_nil, List.length_cons, List.length_nil]
      have : ("" : Str).length = 0 := by decide +kernel
      omega
    · rw [upd_upd]
      exact q _ (Same.upd hp)
theorem len_app {a b : Str} {n m : Nat} (h1 : a.length ≤ n) (h2 : b.length ≤ m) : (a ++ b).length ≤ n + m := by
  have : (a ++ b).length = a.length + b.length := by
    show (a.cps ++ b.cps).size = _
    rw [Array.size_append]
    rfl
  omega
theorem absI (x : Int) : (if x < 0 then -x else x) = (x.natAbs : Int) := by split <;> omega
theorem ok_amt (F : FnP K "amount_text" sAmt f fd) (T : AF K mg) (mA : mg "abs" = none) (GS : FnOk P w K mg base (L2.CX P w) 6 fS fdS ["value"] (spAs K)) (gS : mg "as_amount" = some (.ref fS)) (kS : PySem.W.keepIn K (.ref fS) = true) (bS : Binds K fdS ["value"] [])
    (GD : FnOk P w K mg base (L2.CX P w) 1 fD fdD ["number"] spDec) (gD : mg "_decimal" = some (.ref fD)) (kD : PySem.W.keepIn K (.ref fD) = true) (bD : Binds K fdD ["number"] []) (R1 : PrF P w K mg base "top" "_top" pT fT fdT) (R2 : PrF P w K mg base "bottom" "_bottom" pB fB fdB) :
    FnOk P w K mg base (L2.CX P w) 7 f fd ["amount"] (spAmt K) := by
  refine F.ok scAmt (fun vs H Q E h => ?_) (fun cdv A outer s H vs Q E hr h => ?_)
  · obtain ⟨x, rfl, _⟩ := h
    rfl
  · obtain ⟨x, rfl, q⟩ := h
    have hr2 := hr.mono (show 2 ≤ 6 by decide)
    have hr1 := hr.mono (show 1 ≤ 6 by decide)
    refine ⟨_, pss_cons (ps_set (i := 1) scAmt.nd rfl (Or.inl rfl) (pe_callS GS hr rfl gS kS bS (fun σ => passAt (W := fun cls d _ H => E cls d H) (takes_of rfl rfl rfl rfl) σ) (pa_cons (pv 0) pa_nil)))
      (pss_cons (ps_set (i := 2) scAmt.nd rfl (Or.inl rfl) (pe_ifExp (pt_cmpR op_lt (pe_prop (pv 1) T.cl R1.pr R1.ok hr2 R1.bi .nil passL rfl) pe_int (nomark _)) pe_str pe_str))
      (pss_cons (ps_set (i := 3) scAmt.nd rfl (Or.inl rfl) (pe_ifExp (pt_cmpR op_eq (pe_prop (pv 1) T.cl R2.pr R2.ok hr2 R2.bi .nil passL rfl) pe_int (nomark _)) pe_str (pe_op op_add_str pe_str (pe_call GD hr1 rfl gD kD bD .nil passL (pa_cons (pe_prop (pv 1) T.cl R2.pr R2.ok hr2 R2.bi .nil passL rfl) pa_nil)))))
      (pss_one (ps_ret (pe_op op_add_str (pe_op op_add_str (pv 2) (pe_call GD hr1 rfl gD kD bD .nil passL (pa_cons (pe_callB call_abs rfl mA (by decide +kernel) (pa_cons (pe_prop (pv 1) T.cl R1.pr R1.ok hr2 R1.bi .nil passL rfl) pa_nil)) pa_nil))) (pv 3)))))), ?_⟩
    refine ⟨_, rfl, x, rfl, ?_⟩
    rcases q with ⟨hb, er⟩ | ⟨t, u, n, ar, ht, hu, q⟩
    · exact .inl ⟨hb, er⟩
    · refine .inr ⟨t, u, n, ar, fun z H1 s1 iz => ?_⟩
      obtain ⟨p, dx, rfl, hp, ⟨u0, _⟩, _⟩ := id iz
      have ab := absI t
      have lt : (dec t.natAbs).length ≤ 60 := dec_len (by omega) (by decide) (by omega)
      have lu : (dec u).length ≤ 60 := dec_len (by omega) (by decide) hu
      unfold amtS at q
      refine ⟨_, rfl, p, dx, _, rfl, hp, p, dx, _, _, rfl, hp, fl_top _ _, _, _, rfl, rfl, _, rfl, ?_⟩
      by_cases c1 : t < 0
      · refine if_true_of (decide_eq_true c1) ?_
        rw [if_pos c1] at q
        refine ⟨_, rfl, p, dx, _, rfl, hp, p, dx, _, _, rfl, hp, fl_bot _ _, rfl, _, rfl, ?_⟩
        by_cases c2 : u = 1
        · refine if_true_of (decide_eq_true (congrArg V.int c2)) ?_
          refine ⟨_, rfl, _, rfl, p, dx, _, rfl, hp, p, dx, _, _, rfl, hp, fl_top _ _, _, rfl, _, rfl, by rw [ab]; omega, by rw [ab]; omega, fun H2 s2 => ?_⟩
          rw [ab]
          refine ⟨_, _, rfl, rfl, ?_, _, rfl, _, _, rfl, rfl, ?_, ?_⟩
          · exact Nat.le_trans (Nat.add_le_add (show ("-" : Str).length ≤ 1 by decide +kernel) lt) (by decide)
          · exact Nat.le_trans (Nat.add_le_add (len_app (show ("-" : Str).length ≤ 1 by decide +kernel) lt) (show ("" : Str).length ≤ 1 by decide +kernel)) (by decide)
          · have q' := q _ (s1.trans s2)
            rw [if_pos c2] at q'
            exact q'
        · refine if_false_of (decide_eq_false fun y => c2 (V.int.inj y)) ?_
          refine ⟨_, rfl, p, dx, _, rfl, hp, p, dx, _, _, rfl, hp, fl_bot _ _, u, rfl, by omega, hu, fun H2 s2 => ?_⟩
          have hp := s2 _ _ hp
          refine ⟨_, _, rfl, rfl, Nat.le_trans (Nat.add_le_add (show ("/" : Str).length ≤ 1 by decide +kernel) lu) (by decide), ?_⟩
          refine ⟨_, rfl, _, rfl, p, dx, _, rfl, hp, p, dx, _, _, rfl, hp, fl_top _ _, _, rfl, _, rfl, by rw [ab]; omega, by rw [ab]; omega, fun H3 s3 => ?_⟩
          rw [ab]
          refine ⟨_, _, rfl, rfl, ?_, _, rfl, _, _, rfl, rfl, ?_, ?_⟩
          · exact Nat.le_trans (Nat.add_le_add (show ("-" : Str).length ≤ 1 by decide +kernel) lt) (by decide)
          · exact Nat.le_trans (Nat.add_le_add (len_app (show ("-" : Str).length ≤ 1 by decide +kernel) lt) (len_app (show ("/" : Str).length ≤ 1 by decide +kernel) lu)) (by decide)
          · have q' := q _ (s1.trans (s2.trans s3))
            rw [if_neg c2] at q'
            exact q'
      · refine if_false_of (decide_eq_false c1) ?_
        rw [if_neg c1] at q
        refine ⟨_, rfl, p, dx, _, rfl, hp, p, dx, _, _, rfl, hp, fl_bot _ _, rfl, _, rfl, ?_⟩
        by_cases c2 : u = 1
        · refine if_true_of (decide_eq_true (congrArg V.int c2)) ?_
          refine ⟨_, rfl, _, rfl, p, dx, _, rfl, hp, p, dx, _, _, rfl, hp, fl_top _ _, _, rfl, _, rfl, by rw [ab]; omega, by rw [ab]; omega, fun H2 s2 => ?_⟩
          rw [ab]
          refine ⟨_, _, rfl, rfl, ?_, _, rfl, _, _, rfl, rfl, ?_, ?_⟩
          · exact Nat.le_trans (Nat.add_le_add (show ("" : Str).length ≤ 1 by decide +kernel) lt) (by decide)
          · exact Nat.le_trans (Nat.add_le_add (len_app (show ("" : Str).length ≤ 1 by decide +kernel) lt) (show ("" : Str).length ≤ 1 by decide +kernel)) (by decide)
          · have q' := q _ (s1.trans s2)
            rw [if_pos c2] at q'
            exact q'
        · refine if_false_of (decide_eq_false fun y => c2 (V.int.inj y)) ?_
          refine ⟨_, rfl, p, dx, _, rfl, hp, p, dx, _, _, rfl, hp, fl_bot _ _, u, rfl, by omega, hu, fun H2 s2 => ?_⟩
          have hp := s2 _ _ hp
          refine ⟨_, _, rfl, rfl, Nat.le_trans (Nat.add_le_add (show ("/" : Str).length ≤ 1 by decide +kernel) lu) (by decide), ?_⟩
          refine ⟨_, rfl, _, rfl, p, dx, _, rfl, hp, p, dx, _, _, rfl, hp, fl_top _ _, _, rfl, _, rfl, by rw [ab]; omega, by rw [ab]; omega, fun H3 s3 => ?_⟩
          rw [ab]
          refine ⟨_, _, rfl, rfl, ?_, _, rfl, _, _, rfl, rfl, ?_, ?_⟩
          · exact Nat.le_trans (Nat.add_le_add (show ("" : Str).length ≤ 1 by decide +kernel) lt) (by decide)
          · exact Nat.le_trans (Nat.add_le_add (len_app (show ("" : Str).length ≤ 1 by decide +kernel) lt) (len_app (show ("/" : Str).length ≤ 1 by decide +kernel) lu)) (by decide)
          · have q' := q _ (s1.trans (s2.trans s3))
            rw [if_neg c2] at q'
            exact q'
end
end K03

set_option Elab.async false
set_option linter.all false
set_option maxRecDepth 100000
set_option maxHeartbeats 4000000
set_option exponentiation.threshold 100000
namespace K03
open PySem PySem.Spec PyProof.Rows L2 Fa Fb
abbrev sNum : Stmt := top 34
theorem scNum : FnScope ["text", "most"] ["text", "most"] (defScope sNum) := ⟨rfl, rfl, rfl, by decide +kernel, rfl, by decide +kernel, by decide +kernel⟩
/-- one to m digits, the first one not 0 unless it is the only one -/
def isNum (z : Str) (m : Int) : Bool := (decide (1 ≤ z.length) && decide ((z.length : Int) ≤ m)) && (only z DIG && (decide (z = "0") || (match z.cps.toList.head? with | some c => decide (c ≠ 48) | none => false)))
def spNum : Sp := fun vs H Q _ => ∃ (z : Str) (m : Int), vs = [.str z, .int m] ∧ z.length ≤ 100000 ∧ ∀ H', Same H H' → Q (.bl (isNum z m)) H'
theorem sign0 (c : Nat) : (⟨#[c]⟩ : Str) = "0" ↔ c = 48 := by
  have e : ("0" : Str) = ⟨#[48]⟩ := by decide +kernel
  rw [e]
  constructor
  · intro h
    have h2 : #[c] = #[48] := congrArg Str.cps h
    exact (Array.mk.injEq .. ▸ h2 : [c] = [48]) |> fun z => (List.cons.inj z).1
  · intro h
    rw [h]
section
variable {P : Program} {w : World} {K : PySem.W.Frag} {mg : Str → Option Value} {base : Heap} {f fH : Addr} {fd fdH : FuncData} {aU aW : Addr}
theorem ok_num (F : FnP K "_is_number" sNum f fd) (ZV : VF K mg aU aW) (GH : FnOk P w K mg base (L2.CX P w) 1 fH fdH ["text", "characters"] spHas) (gH : mg "has_only" = some (.ref fH)) (kH : PySem.W.keepIn K (.ref fH) = true) (bH : Binds K fdH ["text", "characters"] []) :
    FnOk P w K mg base (L2.CX P w) 2 f fd ["text", "most"] spNum := by
  obtain ⟨t2, hD⟩ := ZV.digits
  refine F.ok scNum (fun vs H Q E h => ?_) (fun cdv A outer s H vs Q E hr h => ?_)
  · obtain ⟨z, m, rfl, _⟩ := h
    rfl
  · obtain ⟨z, m, rfl, hz, q⟩ := h
    have hz2 : z.length ≤ sizeLine := Nat.le_trans hz (by decide)
    refine ⟨_, pss_cons (ps_if (PW.pt (pw_or (pt_not (pt_chain op_le op_le pe_int (pe_callB call_len_str rfl ZV.len PySem.boot_len (pa_cons (pv 0) pa_nil)) (pv 1))) (pw_or1 (pt_not (pt_val (pe_call GH hr rfl gH kH bH .nil passL (pa_cons (pv 0) (pa_cons (pe_glob (v := .str DIG) rfl hD ⟨t2, rfl⟩) pa_nil))))))))
        (pss_one (ps_ret pe_bl)) pss_nil)
      (pss_one (ps_ret (pe_or (pe_cmpR op_eq (pv 0) pe_str (nomark _)) (pe_one (pe_cmpR op_ne (pe_ix ix_str (pv 0) pe_int (fun _ _ => rfl)) pe_str (nomark _)))))), ?_⟩
    refine ⟨_, rfl, z, rfl, hz2, _, _, rfl, rfl, _, rfl, ?_⟩
    unfold isNum at q
    by_cases c1 : 1 ≤ z.length
    · refine if_true_of (decide_eq_true (by omega)) ⟨_, rfl, _, _, rfl, rfl, _, rfl, ?_⟩
      by_cases c2 : (z.length : Int) ≤ m
      · rw [decide_eq_true c2]
        rw [decide_eq_true c1, decide_eq_true c2] at q
        refine iteF ⟨_, rfl, z, DIG, rfl, hz, fun H1 s1 => ⟨_, rfl, ?_⟩⟩
        cases c3 : only z DIG with
        | false =>
          rw [c3] at q
          exact iteT (q H1 s1)
        | true =>
          rw [c3] at q
          refine iteF ⟨_, rfl, rfl, _, rfl, ?_⟩
          by_cases c4 : z = "0"
          · rw [decide_eq_true c4] at q
            refine if_true_of (decide_eq_true (congrArg V.str c4)) ?_
            have q' := q H1 s1
            rw [← decide_eq_true (congrArg V.str c4)] at q'
            first
              | exact q'
              | (simp only [decide_eq_true c4, decide_eq_true (congrArg V.str c4)] at q' ⊢; exact q')
          · refine if_false_of (decide_eq_false fun y => c4 (V.str.inj y)) ?_
            have h0 : 0 < z.cps.toList.length := by
              have : z.cps.toList.length = z.length := by simp [Str.length]
              omega
            have hh : z.cps.toList.head? = some z.cps.toList[0] := by rw [List.head?_eq_getElem?, List.getElem?_eq_getElem h0]
            refine ⟨_, rfl, z, _, _, rfl, rfl, hz2, atI_nat (j := 0) (List.getElem?_eq_getElem h0), rfl, ?_⟩
            have q' := q H1 s1
            rw [decide_eq_false c4, hh] at q'
            have e : (!decide (V.str ⟨#[z.cps.toList[0]]⟩ = V.str "0")) = decide (z.cps.toList[0] ≠ 48) := by
              by_cases c5 : z.cps.toList[0] = 48
              · rw [decide_eq_true (congrArg V.str ((sign0 _).mpr c5)), decide_eq_false (fun h => h c5)]
                rfl
              · rw [decide_eq_false (fun y => c5 ((sign0 _).mp (V.str.inj y))), decide_eq_true c5]
                rfl
            rw [e]
            exact q'
      · rw [decide_eq_false c2]
        rw [decide_eq_false c2, Bool.and_false, Bool.false_and] at q
        exact iteT (q H (Same.refl _))
    · refine if_false_of (decide_eq_false (by omega)) ⟨_, rfl, iteT ?_⟩
      rw [decide_eq_false c1, Bool.false_and, Bool.false_and] at q
      exact q H (Same.refl _)
end
end K03

set_option Elab.async false
set_option linter.all false
set_option maxRecDepth 100000
set_option maxHeartbeats 4000000
set_option exponentiation.threshold 100000
namespace K03
open PySem PySem.Spec PyProof.Rows L2 Fa Fb NumText
theorem dig_list : DIG.cps.toList = [48, 49, 50, 51, 52, 53, 54, 55, 56, 57] := by decide +kernel
theorem only_digits {z : Str} (h : only z DIG = true) : AllDigits z.cps.toList := fun c hc => by
  have h2 := of_decide_eq_true (List.all_eq_true.mp h c hc)
  rw [dig_list] at h2
  simp only [List.mem_cons, List.not_mem_nil, or_false] at h2
  omega
theorem digits_fold : ∀ (cs : List Nat) (acc : Nat), AllDigits cs → cs.foldl (fun acc c => acc * 10 + (c - 48)) acc < (acc + 1) * 10 ^ cs.length
  | [], acc, _ => by
    show acc < (acc + 1) * 1
    omega
  | c :: cs, acc, h => by
    have hc := h.head
    have ih := digits_fold cs (acc * 10 + (c - 48)) h.tail
    have e : (acc + 1) * 10 ^ (c :: cs).length = ((acc + 1) * 10) * 10 ^ cs.length := by
      rw [List.length_cons, Nat.pow_succ, Nat.mul_comm (10 ^ cs.length) 10, ← Nat.mul_assoc]
    rw [List.foldl_cons, e]
    refine Nat.lt_of_lt_of_le ih (Nat.mul_le_mul_right _ ?_)
    omega
theorem digits_lt {cs : List Nat} (h : AllDigits cs) : digitsVal cs < 10 ^ cs.length := by
  have := digits_fold cs 0 h
  rw [Nat.zero_add, Nat.one_mul] at this
  exact this
theorem isNum_of {z : Str} {m : Int} (h : isNum z m = true) : AllDigits z.cps.toList ∧ z.cps.toList ≠ [] ∧ (z.length : Int) ≤ m := by
  unfold isNum at h
  simp only [Bool.and_eq_true, decide_eq_true_eq] at h
  obtain ⟨⟨h1, h2⟩, h3, _⟩ := h
  refine ⟨only_digits h3, fun e => ?_, h2⟩
  have : z.cps.toList.length = z.length := by simp [Str.length]
  rw [e] at this
  simp at this
  omega
theorem minus_rp (a : Str) : a.cps.toList = 45 :: (Txt.removeprefix a "-").cps.toList ∨ Txt.removeprefix a "-" = a := by
  have e : ("-" : Str) = ⟨#[45]⟩ := by decide +kernel
  rw [e, StrLaws.removeprefix_eq]
  by_cases c : (decide (0 + (⟨#[45]⟩ : Str).length ≤ a.length) && Builtin.Str.subAt a ⟨#[45]⟩ 0) = true
  · rw [if_pos c]
    obtain ⟨c1, c2⟩ := Bool.and_eq_true_iff.mp c
    have h0 := (StrLaws.subAt_one a 45 0).mp ⟨of_decide_eq_true c1, c2⟩
    have l1 : (⟨#[45]⟩ : Str).length = 1 := rfl
    have la : a.cps.toList.length = a.length := by simp [Str.length]
    left
    rw [l1]
    show a.cps.toList = 45 :: ((a.cps.toList.drop 1).take (a.length - 1)).toArray.toList
    rw [List.toList_toArray]
    cases hq : a.cps.toList with
    | nil =>
      rw [hq] at h0
      cases h0
    | cons x r =>
      rw [hq] at h0 la
      have hx : x = 45 := Option.some.inj h0
      rw [hx, List.drop_one, List.tail_cons, List.take_of_length_le]
      rw [List.length_cons] at la
      omega
  · rw [if_neg c]
    exact .inr rfl
/-- the whole number that a text of an optional minus and up to six digits tells -/
theorem num_top {a : Str} (h : isNum (Txt.removeprefix a "-") 6 = true) : ∃ n : Int, intText? a = some n ∧ n.natAbs < 2 ^ 64 ∧ a.length ≤ 7 := by
  obtain ⟨d, ne, l⟩ := isNum_of h
  have ld : (Txt.removeprefix a "-").cps.toList.length = (Txt.removeprefix a "-").length := by simp [Str.length]
  have la : a.cps.toList.length = a.length := by simp [Str.length]
  have lt := digits_lt d
  have lt2 : digitsVal (Txt.removeprefix a "-").cps.toList < 2 ^ 64 := Nat.lt_of_lt_of_le lt (Nat.le_trans (Nat.pow_le_pow_right (by decide) (show _ ≤ 6 by omega)) (by decide))
  rcases minus_rp a with e | e
  · have la2 : a.length ≤ 7 := by
      rw [← la, e, List.length_cons]
      omega
    refine ⟨_, intText_neg e d ne (by omega), ?_, la2⟩
    rw [Int.natAbs_neg]
    exact lt2
  · rw [e] at d ne l lt2
    exact ⟨_, intText_digits d ne (by omega), lt2, by omega⟩
theorem num_bot {b : Str} (h : isNum b 4 = true) : ∃ n : Int, intText? b = some n ∧ n.natAbs < 2 ^ 64 ∧ b.length ≤ 4 := by
  obtain ⟨d, ne, l⟩ := isNum_of h
  have lb : b.cps.toList.length = b.length := by simp [Str.length]
  have lt2 : digitsVal b.cps.toList < 2 ^ 64 := Nat.lt_of_lt_of_le (digits_lt d) (Nat.le_trans (Nat.pow_le_pow_right (by decide) (show _ ≤ 4 by omega)) (by decide))
  exact ⟨_, intText_digits d ne (by omega), lt2, by omega⟩
def numOf (z : Str) : Int := (intText? z).getD 0
/-- the fraction of a text, as it is written -/
def amtOf (z : Str) : Option (Int × Int) :=
  if (!isNum (Txt.removeprefix (Txt.partition z "/").1 "-") 6 || decide ((Txt.partition z "/").1 = "-0")) = true then none
  else if (Txt.partition z "/").2.1 = "" then some (numOf (Txt.partition z "/").1, 1)
  else if (!isNum (Txt.partition z "/").2.2 4 || !(decide (1 ≤ numOf (Txt.partition z "/").2.2) && decide (numOf (Txt.partition z "/").2.2 ≤ 1000))) = true then none
  else some (numOf (Txt.partition z "/").1, numOf (Txt.partition z "/").2.2)
abbrev sAmtOf : Stmt := top 33
theorem scAmtOf : FnScope ["text", "top", "slash", "bottom", "digits"] ["text"] (defScope sAmtOf) := ⟨rfl, rfl, rfl, by decide +kernel, rfl, by decide +kernel, by decide +kernel⟩
def spAmtOf (K : PySem.W.Frag) : Sp := fun vs H Q _ => ∃ x, vs = [x] ∧ ((Tx K H x false ∧ Q .non H) ∨ ∃ z : Str, x = .str z ∧ z.length ≤ 2000 ∧ (Txt.partition z "/").1.length ≤ 2000 ∧ (Txt.partition z "/").2.2.length ≤ 2000 ∧ (amtOf z = none → ∀ H', Same H H' → Q .non H') ∧
  ∀ a b, amtOf z = some (a, b) → ∀ y H' t u, Same H H' → IsA K H' y t u 64 → t * b = a * u → Q y H')
section
variable {P : Program} {w : World} {K : PySem.W.Frag} {mg : Str → Option Value} {base : Heap} {f fN fG : Addr} {fd fdN fdG fdI : FuncData} {aU aW : Addr}
theorem ok_amtof (F : FnP K "amount_of" sAmtOf f fd) (T : AF K mg) (ZV : VF K mg aU aW) (m6 : ∃ t, mg "MOST_TOP_DIGITS" = some (.int 6 t)) (m4 : ∃ t, mg "MOST_BOTTOM_DIGITS" = some (.int 4 t)) (m1 : ∃ t, mg "MOST_BOTTOM" = some (.int 1000 t))
    (GN : FnOk P w K mg base (L2.CX P w) 2 fN fdN ["text", "most"] spNum) (gN : mg "_is_number" = some (.ref fN)) (kN : PySem.W.keepIn K (.ref fN) = true) (bN : Binds K fdN ["text", "most"] [])
    (GG : FnOk P w K mg base (L2.CX P w) 2 fG fdG ["value", "low", "high"] (spIntg K)) (gG : mg "is_integer" = some (.ref fG)) (kG : PySem.W.keepIn K (.ref fG) = true) (bG : Binds K fdG ["value", "low", "high"] [])
    (GI : FnOk P w K mg base (L2.CX P w) 4 (aI K) fdI ["self", "top", "bottom"] (spInit K)) {ds : List Value} (hds : Vals [.int 1] ds) (bI : Binds K fdI ["self", "top", "bottom"] ds) (bI2 : Binds K fdI ["self", "top", "bottom"] []) :
    FnOk P w K mg base (L2.CX P w) 6 f fd ["text"] (spAmtOf K) := by
  obtain ⟨t6, h6⟩ := m6
  obtain ⟨t4, h4⟩ := m4
  obtain ⟨t1, h1⟩ := m1
  refine F.ok scAmtOf (fun vs H Q E h => ?_) (fun cdv A outer s H vs Q E hr h => ?_)
  · obtain ⟨x, rfl, _⟩ := h
    rfl
  · obtain ⟨x, rfl, q⟩ := h
    have hr2 := hr.mono (show 2 ≤ 5 by decide)
    refine ⟨_, pss_cons (ps_if (pt_not (pt_val (pe_isi T.isi (pv 0) (pe_ty ZV.str boot_str)))) (pss_one (ps_ret pe_non)) pss_nil)
      (pss_cons (ps_asg (pe_partition (pv 0) pe_str) (pg_tup (by rfl) (pgs_cons (pg_name (i := 1) scAmtOf.nd rfl (Or.inl rfl)) (pgs_cons (pg_name (i := 2) scAmtOf.nd rfl (Or.inl rfl)) (pgs_cons (pg_name (i := 3) scAmtOf.nd rfl (Or.inl rfl)) pgs_nil)))))
      (pss_cons (ps_set (i := 4) scAmtOf.nd rfl (Or.inl rfl) (pe_bm PySem.F.plainAttrs_str PySem.F.slot_str_removeprefix PySem.F.type_str_removeprefix mt_removeprefix (pv 1) (pa_cons pe_str pa_nil)))
      (pss_cons (ps_if (PW.pt (pw_or (pt_not (pt_val (pe_call GN hr2 rfl gN kN bN .nil passL (pa_cons (pv 4) (pa_cons (pe_glob (v := .int 6) rfl h6 ⟨t6, rfl⟩) pa_nil))))) (pw_or1 (pt_cmpR op_eq (pv 1) pe_str (nomark _))))) (pss_one (ps_ret pe_non)) pss_nil)
      (pss_cons (ps_if (pt_cmpR op_eq (pv 2) pe_str (nomark _)) (pss_one (ps_ret (pe_make T.mkA GI hr rfl T.g bI hds passL (pa_cons (pe_callTy call_int_str rfl T.int boot_int' (pa_cons (pv 1) pa_nil)) pa_nil)))) pss_nil)
      (pss_cons (ps_if (PW.pt (pw_or (pt_not (pt_val (pe_call GN hr2 rfl gN kN bN .nil passL (pa_cons (pv 3) (pa_cons (pe_glob (v := .int 4) rfl h4 ⟨t4, rfl⟩) pa_nil))))) (pw_or1 (pt_not (pt_val (pe_call GG hr2 rfl gG kG bG .nil passL (pa_cons (pe_callTy call_int_str rfl T.int boot_int' (pa_cons (pv 3) pa_nil)) (pa_cons pe_int (pa_cons (pe_glob (v := .int 1000) rfl h1 ⟨t1, rfl⟩) pa_nil))))))))) (pss_one (ps_ret pe_non)) pss_nil)
      (pss_one (ps_ret (pe_make T.mkA GI hr rfl T.g bI2 .nil passL (pa_cons (pe_callTy call_int_str rfl T.int boot_int' (pa_cons (pv 1) pa_nil)) (pa_cons (pe_callTy call_int_str rfl T.int boot_int' (pa_cons (pv 3) pa_nil)) pa_nil)))))))))), ?_⟩
    rcases q with ⟨⟨ty, g1, g2⟩, q⟩ | ⟨z, rfl, hz, hz1, hz2, qn, qs⟩
    · exact ⟨_, rfl, x, _, ty, _, false, rfl, .ty "str", g1, g2, false, rfl, iteT q⟩
    refine ⟨_, rfl, .str z, _, _, _, true, rfl, .ty "str", TyX.base (.str z), tx_str, true, rfl, iteF ?_⟩
    unfold amtOf at qn qs
    refine ⟨_, rfl, ⟨_, rfl⟩, z, "/", rfl, rfl, by decide +kernel, Nat.le_trans hz (by decide), fun p hp => ?_⟩
    generalize hP : Txt.partition z "/" = P3 at hz1 hz2 qn qs
    obtain ⟨a, sl, b⟩ := P3
    have s1 := Same.upd (o := .tup [.str a, .str sl, .str b]) hp
    refine ⟨p, _, rfl, SqT.of upd_same, rfl, _, _, rfl, _, _, rfl, _, _, rfl, rfl, ?_⟩
    have ld : (Txt.removeprefix a "-").length ≤ 100000 := Nat.le_trans (PyProof.Rows.len_removeprefix a "-") (Nat.le_trans hz1 (by decide))
    refine ⟨_, rfl, rfl, a, "-", rfl, rfl, Nat.le_trans hz1 (by decide), ?_⟩
    refine ⟨_, rfl, Txt.removeprefix a "-", 6, rfl, ld, fun H1 s2 => ⟨_, rfl, ?_⟩⟩
    cases c1 : isNum (Txt.removeprefix a "-") 6 with
    | false =>
      rw [c1] at qn
      exact iteT (qn (if_pos rfl) _ (s1.trans s2))
    | true =>
      rw [c1] at qn qs
      refine iteF ⟨_, rfl, rfl, _, rfl, ?_⟩
      by_cases c2 : a = "-0"
      · rw [decide_eq_true c2] at qn
        exact if_true_of (decide_eq_true (congrArg V.str c2)) (qn (if_pos rfl) _ (s1.trans s2))
      · refine if_false_of (decide_eq_false fun y => c2 (V.str.inj y)) ⟨_, rfl, rfl, _, rfl, ?_⟩
        have c0 : ¬ (!true || decide (a = "-0")) = true := by
          rw [decide_eq_false c2]
          decide
        rw [if_neg c0] at qn qs
        obtain ⟨n, hn, bn, la⟩ := num_top c1
        have en : numOf a = n := by
          unfold numOf
          rw [hn]
          rfl
        by_cases c3 : sl = ""
        · rw [if_pos c3, en] at qs
          refine if_true_of (decide_eq_true (congrArg V.str c3)) ⟨_, rfl, a, n, rfl, hn, by omega, ?_⟩
          refine fun y dy hy hdy hne => spInit_imp (make_fact T (n := 64) (a := n) (b := 1) (by decide) (by decide) bn (by decide) hy hdy hne) fun v0 H2 ⟨hv0, t, u, sm, iy, e⟩ => ⟨hv0, ?_⟩
          exact qs n 1 rfl (.ref y) H2 t u (s1.trans (s2.trans sm)) iy e
        · rw [if_neg c3] at qn qs
          refine if_false_of (decide_eq_false fun y => c3 (V.str.inj y)) ?_
          refine ⟨_, rfl, b, 4, rfl, Nat.le_trans hz2 (by decide), fun H2 s3 => ⟨_, rfl, ?_⟩⟩
          have sA := s1.trans (s2.trans s3)
          cases c4 : isNum b 4 with
          | false =>
            rw [c4] at qn
            exact iteT (qn (if_pos rfl) _ sA)
          | true =>
            rw [c4] at qn qs
            obtain ⟨m, hm, bm, lb⟩ := num_bot c4
            have em : numOf b = m := by
              unfold numOf
              rw [hm]
              rfl
            rw [em] at qn qs
            refine iteF ⟨_, rfl, b, m, rfl, hm, by omega, .int m, 1, 1000, rfl, .inr ⟨m, rfl, _, rfl, ?_⟩⟩
            cases c5 : (decide (1 ≤ m) && decide (m ≤ 1000)) with
            | false =>
              rw [c5] at qn
              exact iteT (qn (if_pos rfl) _ sA)
            | true =>
              rw [c5, if_neg (by decide), en] at qs
              obtain ⟨d1, d2⟩ := Bool.and_eq_true_iff.mp c5
              have d1 := of_decide_eq_true d1
              refine iteF ⟨_, rfl, a, n, rfl, hn, by omega, _, rfl, b, m, rfl, hm, by omega, ?_⟩
              refine fun y dy hy hdy hne => spInit_imp (make_fact T (n := 64) (a := n) (b := m) (by omega) (by decide) bn bm hy hdy hne) fun v0 H3 ⟨hv0, t, u, sm, iy, e⟩ => ⟨hv0, ?_⟩
              exact qs n m rfl (.ref y) H3 t u (sA.trans sm) iy e
end
end K03

set_option Elab.async false
set_option linter.all false
set_option maxRecDepth 100000
set_option maxHeartbeats 4000000
set_option exponentiation.threshold 100000
namespace K03
open PySem PySem.Spec PyProof.Rows L2 Fa Fb NumText
abbrev sLow : Stmt := top 39
abbrev sLine : Stmt := top 40
abbrev sNumb : Stmt := top 41
theorem scLow : FnScope ["_law_top", "_law_bottom", "_law_one", "_law_other"] ["_law_top", "_law_bottom"] (defScope sLow) := ⟨rfl, rfl, rfl, by decide +kernel, rfl, by decide +kernel, by decide +kernel⟩
theorem scLine : FnScope ["_law_top", "_law_bottom"] ["_law_top", "_law_bottom"] (defScope sLine) := ⟨rfl, rfl, rfl, by decide +kernel, rfl, by decide +kernel, by decide +kernel⟩
def spLow : Sp := fun vs H Q _ => ∃ a b : Int, vs = [.int a, .int b] ∧ b ≠ 0 ∧ b.natAbs < 2 ^ 8000 ∧ ∀ p t u, H p = none → Am.Red t u → t * b = a * u → t.natAbs ≤ a.natAbs → u.natAbs ≤ b.natAbs → Q (.ref p) (upd H p (.tup [.int t, .int u]))
/-- a line of a top and a bottom above 0 -/
def lineS (t u : Int) : Str := dec t ++ (if u = 1 then ("" : Str) else ("/" : Str) ++ dec u)
def spLine : Sp := fun vs H Q _ => ∃ t u : Int, vs = [.int t, .int u] ∧ t.natAbs < 10 ^ 60 ∧ u.natAbs < 10 ^ 60 ∧ Q (.str (lineS t u)) H
theorem log60 {n : Int} (h : n.natAbs < 10 ^ 60) : n.natAbs.log2 < 1920 := by
  by_cases z : n.natAbs = 0
  · rw [z]
    decide
  · exact (Nat.log2_lt z).mpr (Nat.lt_of_lt_of_le h (Nat.le_trans (by decide : 10 ^ 60 ≤ 2 ^ 200) (Nat.pow_le_pow_right (by decide) (by decide))))
theorem dec_len60 {n : Int} (h : n.natAbs < 10 ^ 60) : (dec n).length ≤ 1921 := PyProof.Rows.int_text_len_1921 (log60 h)
section
variable {P : Program} {w : World} {K : PySem.W.Frag} {mg : Str → Option Value} {base : Heap} {f : Addr} {fd : FuncData}
theorem ok_low (F : FnP K "_law_lowest" sLow f fd) (mA : mg "abs" = none) : FnOk P w K mg base (L2.CX P w) 1 f fd ["_law_top", "_law_bottom"] spLow := by
  refine F.ok scLow (fun vs H Q E h => ?_) (fun cdv A outer s H vs Q E hr h => ?_)
  · obtain ⟨a, b, rfl, _⟩ := h
    rfl
  · obtain ⟨a, b, rfl, hb, hB, q⟩ := h
    refine ⟨_, pss_cons (ps_par (by rfl) scLow.nd (i := 2) (j := 3) rfl rfl (by decide) rfl rfl (pa_cons (pe_callB call_abs rfl mA (by decide +kernel) (pa_cons (pv 0) pa_nil)) (pa_cons (pe_callB call_abs rfl mA (by decide +kernel) (pa_cons (pv 1) pa_nil)) pa_nil)) (by rfl))
      (pss_cons (ps_while (passes_of rfl) (pt_cmpR op_gt (pv 3) pe_int (nomark _)) (pss_one (ps_par (by rfl) scLow.nd (i := 2) (j := 3) rfl rfl (by decide) rfl rfl (pa_cons (pv 3) (pa_cons (pe_op op_mod (pv 2) (pv 3)) pa_nil)) (by rfl))))
      (pss_cons (ps_set (i := 2) scLow.nd rfl (Or.inl rfl) (pe_ifExp (pt_cmpR op_gt (pv 1) pe_int (nomark _)) (pv 2) (pe_op op_sub pe_int (pv 2))))
      (pss_one (ps_ret (pe_tup (pa_cons (pe_op op_fdivX (pv 0) (pv 2)) (pa_cons (pe_op op_fdivX (pv 1) (pv 2)) pa_nil))))))), ?_⟩
    refine ⟨_, rfl, _, rfl, _, rfl, _, rfl, _, _, rfl, ?_⟩
    refine while_by (fun σ H' => H' = H ∧ ∃ x y : Int, σ = [some (.int a), some (.int b), some (.int x), some (.int y)] ∧ 0 ≤ x ∧ 0 ≤ y ∧ Nat.gcd x.natAbs y.natAbs = Nat.gcd a.natAbs b.natAbs)
      (fun σ _ => match σ with | [_, _, _, some (.int y)] => y.toNat | _ => 0) ⟨rfl, _, _, rfl, ?_, ?_, ?_⟩ ?_ ?_
    · split <;> omega
    · split <;> omega
    · rw [absI, absI, Int.natAbs_natCast, Int.natAbs_natCast]
    · rintro σ H' ⟨rfl, x, y, rfl, hx, hy, hg⟩
      refine ⟨_, rfl, _, _, rfl, rfl, _, rfl, ?_⟩
      by_cases c : 0 < y
      · refine if_true_of (decide_eq_true c) ?_
        refine ⟨_, rfl, _, rfl, _, rfl, _, _, rfl, rfl, c, _, _, rfl, ?_⟩
        have m0 : 0 ≤ x % y := Int.emod_nonneg _ (by omega)
        have m1 : x % y < y := Int.emod_lt_of_pos _ c
        refine ⟨⟨rfl, y, x % y, rfl, hy, m0, ?_⟩, ?_⟩
        · rw [← hg, ← Am.gcd_step (show 0 < y.natAbs by omega)]
          congr 1
          rw [Int.natAbs_emod_of_nonneg hx]
        · show (x % y).toNat < y.toNat
          omega
      · refine if_false_of (decide_eq_false c) ?_
        have y0 : y = 0 := by omega
        subst y0
        have ex : x = ((Nat.gcd a.natAbs b.natAbs : Nat) : Int) := by
          have : x.natAbs = Nat.gcd a.natAbs b.natAbs := by simpa using hg
          omega
        obtain ⟨k1, k2, k3, k4, k5, k6⟩ := Am.mk a b hb _ rfl
        have lg : (if b < 0 then -((Nat.gcd a.natAbs b.natAbs : Nat) : Int) else ((Nat.gcd a.natAbs b.natAbs : Nat) : Int)).natAbs.log2 < 9000 := Nat.lt_trans ((Nat.log2_lt (by omega)).mpr (Nat.lt_of_le_of_lt k2 hB)) (by decide)
        refine ⟨_, rfl, _, _, rfl, rfl, _, rfl, ?_⟩
        by_cases c2 : 0 < b
        · rw [if_neg (show ¬ b < 0 by omega), ← ex] at k1 k3 k4 k5 k6 lg
          refine if_true_of (decide_eq_true c2) ⟨_, rfl, _, rfl, _, rfl, _, _, rfl, rfl, ⟨k1, lg⟩, _, rfl, _, rfl, _, _, rfl, rfl, ⟨k1, lg⟩, by show 2 ≤ sizeLine; decide, fun p hp => ?_⟩
          exact q p _ _ hp k3 k4 k5 k6
        · have e0 : (0 : Int) - x = -x := by omega
          rw [if_pos (show b < 0 by omega), ← ex, ← e0] at k1 k3 k4 k5 k6 lg
          refine if_false_of (decide_eq_false c2) ⟨_, rfl, _, _, rfl, rfl, ?_⟩
          refine ⟨_, rfl, _, rfl, _, _, rfl, rfl, ⟨k1, lg⟩, _, rfl, _, rfl, _, _, rfl, rfl, ⟨k1, lg⟩, by show 2 ≤ sizeLine; decide, fun p hp => ?_⟩
          exact q p _ _ hp k3 k4 k5 k6
    · intro σ H' Q1 Q2 k h
      obtain ⟨v, h1, i, j, h2, h3, b', h4, h5⟩ := h
      exact ⟨v, h1, i, j, h2, h3, b', h4, k _ _ h5⟩
theorem ok_line (F : FnP K "_law_line" sLine f fd) (mS : mg "str" = none) : FnOk P w K mg base (L2.CX P w) 1 f fd ["_law_top", "_law_bottom"] spLine := by
  refine F.ok scLine (fun vs H Q E h => ?_) (fun cdv A outer s H vs Q E hr h => ?_)
  · obtain ⟨a, b, rfl, _⟩ := h
    rfl
  · obtain ⟨t, u, rfl, ht, hu, q⟩ := h
    refine ⟨_, pss_one (ps_ret (pe_op op_add_str (pe_callTy call_str_int rfl mS boot_str (pa_cons (pv 0) pa_nil)) (pe_ifExp (pt_cmpR op_eq (pv 1) pe_int (nomark _)) pe_str (pe_op op_add_str pe_str (pe_callTy call_str_int rfl mS boot_str (pa_cons (pv 1) pa_nil)))))), ?_⟩
    refine ⟨_, rfl, t, rfl, log60 ht, _, rfl, rfl, _, rfl, ?_⟩
    unfold lineS at q
    by_cases c : u = 1
    · rw [if_pos c] at q
      refine if_true_of (decide_eq_true (congrArg V.int c)) ⟨_, _, rfl, rfl, ?_, q⟩
      exact Nat.le_trans (Nat.add_le_add (dec_len60 ht) (show ("" : Str).length ≤ 1 by decide +kernel)) (by decide)
    · rw [if_neg c] at q
      refine if_false_of (decide_eq_false fun y => c (V.int.inj y)) ⟨_, rfl, u, rfl, log60 hu, _, _, rfl, rfl, ?_, _, _, rfl, rfl, ?_, q⟩
      · exact Nat.le_trans (Nat.add_le_add (show ("/" : Str).length ≤ 1 by decide +kernel) (dec_len60 hu)) (by decide)
      · exact Nat.le_trans (Nat.add_le_add (dec_len60 ht) (len_app (show ("/" : Str).length ≤ 1 by decide +kernel) (dec_len60 hu))) (by decide)
end
end K03

set_option Elab.async false
set_option linter.all false
set_option maxRecDepth 100000
set_option maxHeartbeats 4000000
/-! xs != [], xs == [] of lists of any items. -/
namespace Fk
open PySem PySem.Spec PyProof.Rows L2
theorem op_neNil {X : Cx} (hu : X.A.units + 64 < cLine) : OpR X (compareOp .NotEq) (fun x y H Q => ∃ (a b : Addr) (xs : List V), x = .ref a ∧ y = .ref b ∧ SqL X.K H a xs ∧ SqL X.K H b [] ∧ Q (.bl (!xs.isEmpty)) H) := by
  intro pn s σ H x y v u Q I rx ry h
  obtain ⟨a, b, xs, rfl, rfl, ha, hb, q⟩ := h
  cases rx
  cases ry
  obtain ⟨its, rv, pl, _⟩ := I.list ha
  obtain ⟨its2, rv2, pl2, _⟩ := I.list hb
  cases rv2
  show wpAny (model X.prog X.w) X.A (richCompare .NotEq (.ref a) (.ref b)) (EP X pn σ Q) X.xe s
  have hu1 : X.A.units < cLine := by omega
  cases rv with
  | nil => exact SeqAt.RcNeAt.lists (e := fun _ => true) pl.isList pl2.isList rfl hu1 (fun j h1 _ => absurd h1 (by simp)) X.prog X.w X.xe _ ⟨.bl _, H, I, rfl, q⟩
  | cons r rs => exact SeqAt.RcNeAt.lists_lengths pl.isList pl2.isList (by simp) hu1 X.prog X.w X.xe _ ⟨.bl _, H, I, rfl, q⟩
theorem op_eqNil {X : Cx} (hu : X.A.units + 64 < cLine) : OpR X (compareOp .Eq) (fun x y H Q => ∃ (a b : Addr) (xs : List V), x = .ref a ∧ y = .ref b ∧ SqL X.K H a xs ∧ SqL X.K H b [] ∧ Q (.bl xs.isEmpty) H) := by
  intro pn s σ H x y v u Q I rx ry h
  obtain ⟨a, b, xs, rfl, rfl, ha, hb, q⟩ := h
  cases rx
  cases ry
  obtain ⟨its, rv, pl, _⟩ := I.list ha
  obtain ⟨its2, rv2, pl2, _⟩ := I.list hb
  cases rv2
  show wpAny (model X.prog X.w) X.A (richCompare .Eq (.ref a) (.ref b)) (EP X pn σ Q) X.xe s
  have hu1 : X.A.units < cLine := by omega
  cases rv with
  | nil => exact SeqAt.RcAt.lists (e := fun _ => true) pl.isList pl2.isList rfl hu1 (fun j h1 _ => absurd h1 (by simp)) X.prog X.w X.xe _ ⟨.bl _, H, I, rfl, q⟩
  | cons r rs => exact SeqAt.RcAt.lists_lengths pl.isList pl2.isList (by simp) hu1 X.prog X.w X.xe _ ⟨.bl _, H, I, rfl, q⟩
end Fk
set_option Elab.async false
set_option linter.all false
set_option maxRecDepth 100000
set_option maxHeartbeats 4000000
set_option exponentiation.threshold 100000
namespace K03
open PySem PySem.Spec PyProof.Rows L2 Fa Fb NumText
theorem scNumb : FnScope ["_law_word", "_law_most", "_law_sign"] ["_law_word", "_law_most"] (defScope sNumb) := ⟨rfl, rfl, rfl, by decide +kernel, rfl, by decide +kernel, by decide +kernel⟩
/-- the signs that are not in c -/
def odd (l : List Nat) (c : Str) : List V := (l.filter fun x => !decide (x ∈ c.cps.toList)).map fun x => V.str ⟨#[x]⟩
theorem odd_empty : ∀ (l : List Nat) (c : Str), (odd l c).isEmpty = l.all fun x => decide (x ∈ c.cps.toList)
  | [], _ => rfl
  | x :: l, c => by
    have ih := odd_empty l c
    unfold odd at ih ⊢
    by_cases h : x ∈ c.cps.toList
    · rw [List.filter_cons, decide_eq_true h, List.all_cons, decide_eq_true h, Bool.true_and]
      exact ih
    · rw [List.filter_cons, decide_eq_false h, List.all_cons, decide_eq_false h, Bool.false_and]
      rfl
theorem odd_more {l : List Nat} {i c : Nat} {s : Str} (h : l[i]? = some c) : odd (l.take (i + 1)) s = if c ∈ s.cps.toList then odd (l.take i) s else odd (l.take i) s ++ [V.str ⟨#[c]⟩] := by
  unfold odd
  rw [List.take_add_one, h]
  show (List.filter _ (_ ++ [c])).map _ = _
  rw [List.filter_append, List.map_append]
  by_cases m : c ∈ s.cps.toList
  · rw [if_pos m, List.filter_cons, decide_eq_true m]
    simp
  · rw [if_neg m, List.filter_cons, decide_eq_false m]
    simp
theorem odd_len (l : List Nat) (c : Str) : (odd l c).length ≤ l.length := by
  unfold odd
  rw [List.length_map]
  exact List.length_filter_le ..
theorem take_all (z : Str) : z.cps.toList.take z.cps.size = z.cps.toList := List.take_of_length_le (by simp)
/-- the loop that gathers the odd signs of z -/
theorem lc_odd {z c : Str} {D : Addr} {H1 : Hp} {σ : L2.St} {i : Nat} {Qd : Hp → Prop} {te : TE} {tt : TT} (hD : H1 D = none) (hz : z.cps.size ≤ 100000)
    (htt : ∀ (ch : Nat) (H : Hp) (R : Bool → Hp → Prop), R (!decide (ch ∈ c.cps.toList)) H → tt ((wipe σ [i]).set i (some (.str ⟨#[ch]⟩))) H R) (hte : ∀ (ch : Nat) (H : Hp) (R : VK), R (.str ⟨#[ch]⟩) H → te ((wipe σ [i]).set i (some (.str ⟨#[ch]⟩))) H R)
    (hw : ∀ v : V, wipe ((wipe σ [i]).set i (some v)) [i] = wipe σ [i]) (hd : ∀ H, Same H1 H → H D = some (.lst (odd z.cps.toList c)) → Qd H) :
    ∃ W : Nat → Nat → Hp → Prop, (∃ m, W 0 m (upd H1 D (.lst []))) ∧ ∀ j m H, W j m H →
      ((Its z).stop j H ∧ Qd H) ∨ ((Its z).go j H ∧ ∃ Nx : Hp → Prop, (∀ H', Nx H' → ∃ m', m' < m ∧ W (j + 1) m' H') ∧ ∀ x H', (Its z).yld j H x H' → gName i x (wipe σ [i]) H' fun σ2 H2 => wipe σ2 [i] = wipe σ [i] ∧ tt σ2 H2 fun b H3 =>
        if b = true then te σ2 H3 fun y H4 => ∃ acc, H4 D = some (.lst acc) ∧ acc.length < sizeLine ∧ Nx (upd H4 D (.lst (acc ++ [y]))) else Nx H3) := by
  refine lc_signs (fun j H' => Same H1 H' ∧ H' D = some (.lst (odd (z.cps.toList.take j) c))) ⟨Same.upd hD, upd_same⟩ ?_ ?_
  · rintro j ch H hc ⟨s1, hl⟩
    have hc2 : z.cps.toList[j]? = some ch := by rw [Array.getElem?_toList]; exact hc
    have hj := (Array.getElem?_eq_some_iff.mp hc).1
    refine ⟨hw _, htt ch H _ ?_⟩
    by_cases m : ch ∈ c.cps.toList
    · rw [decide_eq_true m]
      show Same H1 H ∧ H D = _
      refine ⟨s1, ?_⟩
      rw [odd_more hc2, if_pos m]
      exact hl
    · rw [decide_eq_false m]
      refine hte ch H _ ⟨_, hl, ?_, same_put s1 hD, ?_⟩
      · refine Nat.lt_of_le_of_lt (odd_len _ _) ?_
        rw [List.length_take]
        exact Nat.lt_of_le_of_lt (Nat.min_le_left _ _) (Nat.lt_of_lt_of_le hj (Nat.le_trans hz (by decide)))
      · rw [upd_same, odd_more hc2, if_neg m]
  · rintro H ⟨s1, hl⟩
    rw [take_all] at hl
    exact hd H s1 hl
def spNumb : Sp := fun vs H Q _ => ∃ (z : Str) (m : Int), vs = [.str z, .int m] ∧ m ≤ 6 ∧ z.length ≤ 2000 ∧ (isNum z m = false → ∀ H', Same H H' → Q .non H') ∧ (isNum z m = true → ∀ H', Same H H' → Q (.int (numOf z)) H')
theorem zero_one {z : Str} {c : Nat} (h : z.cps.toList.head? = some c) : (c = 48 ∧ z.length ≤ 1) ↔ z = "0" := by
  have e : ("0" : Str) = ⟨#[48]⟩ := by decide +kernel
  have lz : z.cps.toList.length = z.length := by simp [Str.length]
  constructor
  · rintro ⟨rfl, hl⟩
    cases hq : z.cps.toList with
    | nil =>
      rw [hq] at h
      cases h
    | cons x r =>
      rw [hq] at h lz
      have hx : x = 48 := Option.some.inj h
      cases r with
      | cons y r =>
        rw [List.length_cons, List.length_cons] at lz
        omega
      | nil =>
        rw [StrLaws.mk_of_toList hq, hx, e]
  · intro hz
    rw [hz, e] at h ⊢
    exact ⟨(Option.some.inj h).symm, by decide⟩
section
variable {P : Program} {w : World} {K : PySem.W.Frag} {mg : Str → Option Value} {base : Heap} {f : Addr} {fd : FuncData}
theorem ok_numb (F : FnP K "_law_number" sNumb f fd) (T : AF K mg) (mL : mg "len" = none) : FnOk P w K mg base (L2.CX P w) 1 f fd ["_law_word", "_law_most"] spNumb := by
  refine F.ok scNumb (fun vs H Q E h => ?_) (fun cdv A outer s H vs Q E hr h => ?_)
  · obtain ⟨z, m, rfl, _⟩ := h
    rfl
  · obtain ⟨z, m, rfl, hm, hz, qn, qs⟩ := h
    have hz2 : z.length ≤ sizeLine := Nat.le_trans hz (by decide)
    have hu : (A.deeper (envOfC "_law_number" (defScope sNumb) s.heap.objs.size f cdv)).units + 64 < cLine := by
      have := hr.un
      omega
    refine ⟨_, pss_cons (ps_if (PW.pt (pw_or (pt_not (pt_chain op_lt op_le pe_int (pe_callB call_len_str rfl mL PySem.boot_len (pa_cons (pv 0) pa_nil)) (pv 1))) (pw_or1 (pt_cmpR (Fk.op_neNil hu)
        (pe_lc (own := [("_law_sign", 2)]) (g := gName 2) (tt := tTest (tOp (fun x y H Q => ∃ (c : Nat) (z : Str), x = .str ⟨#[c]⟩ ∧ y = .str z ∧ Q (.bl (!decide (c ∈ z.cps.toList))) H) (tVar 2) (tC (.str DIG)))) (te := tVar 2) (by rfl) scNumb.nd (pi_str (pv 0))
          (blkOk_by (own := [("_law_sign", 2)]) (N := ["_law_word", "_law_most", "_law_sign"]) (sc := defScope sNumb) (by decide +kernel)) (fun _ _ _ _ _ => pg_name (i := 2) scNumb.nd rfl (Or.inl rfl)) (fun _ _ _ _ _ => pts_one (pt_cmpR op_notIn_sign (pv 2) pe_str (by rfl))) (fun _ _ _ _ _ => pv 2))
        (pe_lst pa_nil) (nomark _))))) (pss_one (ps_ret pe_non)) pss_nil)
      (pss_one (ps_ret (pe_ifExp (PW.pt (pw_and (pt_cmpR op_eq (pe_ix ix_str (pv 0) pe_int (fun _ _ => rfl)) pe_str (nomark _)) (pw_and1 (pt_cmpR op_gt (pe_callB call_len_str rfl mL PySem.boot_len (pa_cons (pv 0) pa_nil)) pe_int (nomark _))))) pe_non (pe_callTy call_int_str rfl T.int boot_int' (pa_cons (pv 0) pa_nil))))), ?_⟩
    refine ⟨_, rfl, z, rfl, hz2, _, _, rfl, rfl, _, rfl, ?_⟩
    unfold isNum at qn qs
    by_cases c1 : 1 ≤ z.length
    · refine if_true_of (decide_eq_true (by omega)) ⟨_, rfl, _, _, rfl, rfl, _, rfl, ?_⟩
      by_cases c2 : (z.length : Int) ≤ m
      · rw [decide_eq_true c2]
        rw [decide_eq_true c1, decide_eq_true c2] at qn qs
        refine iteF ⟨_, rfl, z, rfl, fun D hD => ?_⟩
        refine lc_odd (i := 2) (c := DIG) hD (Nat.le_trans hz (by decide)) (fun ch H R h => ⟨_, rfl, ch, DIG, rfl, rfl, _, rfl, h⟩) (fun ch H R h => ⟨_, rfl, h⟩) (fun v => rfl) fun H1 s1 hl => ⟨by decide, fun e he => ?_⟩
        have s2 := s1.trans (Same.upd (o := .lst []) he)
        refine ⟨D, e, _, rfl, rfl, SqL.of (Same.upd he _ _ hl), SqL.of upd_same, _, rfl, ?_⟩
        rw [odd_empty]
        change (if (!only z DIG) = true then _ else _)
        cases c3 : only z DIG with
        | false =>
          rw [c3] at qn
          exact iteT (qn rfl _ s2)
        | true =>
          rw [c3] at qn qs
          refine iteF ?_
          have h0 : 0 < z.cps.toList.length := by
            have : z.cps.toList.length = z.length := by simp [Str.length]
            omega
          have hh : z.cps.toList.head? = some z.cps.toList[0] := by rw [List.head?_eq_getElem?, List.getElem?_eq_getElem h0]
          rw [hh] at qn qs
          have zo := zero_one hh
          refine ⟨_, rfl, z, _, _, rfl, rfl, hz2, atI_nat (j := 0) (List.getElem?_eq_getElem h0), rfl, _, rfl, ?_⟩
          have fin : isNum z m = true → numOf z = numOf z := fun _ => rfl
          have good : ∀ H', Same H H' → (decide (z = "0") || decide (z.cps.toList[0] ≠ 48)) = true → (∃ v, [some (V.str z), some (V.int m), none][0]? = some (some v) ∧ ∃ a n, [v] = [V.str a] ∧ intText? a = some n ∧ a.length ≤ 640 ∧ Q (.int n) H') := fun H' s' g => by
            have ok : isNum z m = true := by
              unfold isNum
              rw [decide_eq_true c1, decide_eq_true c2, c3, hh]
              exact g
            obtain ⟨d, ne, l⟩ := isNum_of ok
            have hn := intText_digits d ne (by omega)
            have q' := qs g H' s'
            unfold numOf at q'
            rw [hn] at q'
            exact ⟨_, rfl, z, _, rfl, hn, by omega, q'⟩
          by_cases c5 : z.cps.toList[0] = 48
          · refine if_true_of (decide_eq_true (congrArg V.str ((sign0 _).mpr c5))) ⟨_, rfl, z, rfl, hz2, _, _, rfl, rfl, _, rfl, ?_⟩
            by_cases c6 : z.length ≤ 1
            · have z0 := zo.mp ⟨c5, c6⟩
              refine if_false_of (decide_eq_false (by omega)) (good _ s2 ?_)
              rw [decide_eq_true z0, Bool.true_or]
            · refine if_true_of (decide_eq_true (by omega)) (qn ?_ _ s2)
              rw [decide_eq_false fun y => c6 (zo.mpr y).2]
              exact decide_eq_false (p := z.cps.toList[0] ≠ 48) fun h => h c5
          · refine if_false_of (decide_eq_false fun y => c5 ((sign0 _).mp (V.str.inj y))) (good _ s2 ?_)
            rw [decide_eq_true c5, Bool.or_true]
      · rw [decide_eq_false c2]
        rw [decide_eq_false c2, Bool.and_false, Bool.false_and] at qn
        exact iteT (qn rfl H (Same.refl _))
    · refine if_false_of (decide_eq_false (by omega)) ⟨_, rfl, iteT ?_⟩
      rw [decide_eq_false c1, Bool.false_and, Bool.false_and] at qn
      exact qn rfl H (Same.refl _)
end
end K03

set_option Elab.async false
set_option linter.all false
set_option maxRecDepth 100000
set_option maxHeartbeats 4000000
set_option exponentiation.threshold 100000
namespace K03
open PySem PySem.Spec PyProof.Rows L2 Fa Fb NumText
abbrev sNamed : Stmt := top 44
theorem scNamed : FnScope ["_law_word", "_law_small", "_law_sign"] ["_law_word"] (defScope sNamed) := ⟨rfl, rfl, rfl, by decide +kernel, rfl, by decide +kernel, by decide +kernel⟩
def spNamed : Sp := fun vs H Q _ => ∃ z : Str, vs = [.str z] ∧ z.length ≤ 2000 ∧ ∀ H', Same H H' → Q (.bl (isName z)) H'
section
variable {P : Program} {w : World} {K : PySem.W.Frag} {mg : Str → Option Value} {base : Heap} {f : Addr} {fd : FuncData}
theorem ok_named (F : FnP K "_law_is_named" sNamed f fd) (T : AF K mg) (mL : mg "len" = none) (mS : mg "str" = none) : FnOk P w K mg base (L2.CX P w) 1 f fd ["_law_word"] spNamed := by
  refine F.ok scNamed (fun vs H Q E h => ?_) (fun cdv A outer s H vs Q E hr h => ?_)
  · obtain ⟨z, rfl, _⟩ := h
    rfl
  · obtain ⟨z, rfl, hz, q⟩ := h
    have hz2 : z.length ≤ sizeLine := Nat.le_trans hz (by decide)
    have hu : (A.deeper (envOfC "_law_is_named" (defScope sNamed) s.heap.objs.size f cdv)).units + 64 < cLine := by
      have := hr.un
      omega
    refine ⟨_, pss_cons (ps_set (i := 1) scNamed.nd rfl (Or.inr rfl) pe_str)
      (pss_cons (ps_if (PW.pt (pw_or (pt_not (pt_val (pe_isi T.isi (pv 0) (pe_ty mS boot_str)))) (pw_or (pt_not (pt_chain op_lt op_lt pe_int (pe_callB call_len_str rfl mL PySem.boot_len (pa_cons (pv 0) pa_nil)) pe_int)) (pw_or1 (pt_cmpR op_notIn_sign (pe_ix ix_str (pv 0) pe_int (fun _ _ => rfl)) (pv 1) (by rfl)))))) (pss_one (ps_ret pe_bl)) pss_nil)
      (pss_one (ps_ret (pe_cmpR (Fk.op_eqNil hu)
        (pe_lc (own := [("_law_sign", 2)]) (g := gName 2) (tt := tTest (tOp (fun x y H Q => ∃ (c : Nat) (z : Str), x = .str ⟨#[c]⟩ ∧ y = .str z ∧ Q (.bl (!decide (c ∈ z.cps.toList))) H) (tVar 2) (tOp (fun x y H Q => ∃ i j, x = .str i ∧ y = .str j ∧ i.length + j.length ≤ sizeLine ∧ Q (.str (i ++ j)) H) (tVar 1) (tC (.str DIG))))) (te := tVar 2) (by rfl) scNamed.nd (pi_str (pv 0))
          (blkOk_by (own := [("_law_sign", 2)]) (N := ["_law_word", "_law_small", "_law_sign"]) (sc := defScope sNamed) (by decide +kernel)) (fun _ _ _ _ _ => pg_name (i := 2) scNamed.nd rfl (Or.inl rfl)) (fun _ _ _ _ _ => pts_one (pt_cmpR op_notIn_sign (pv 2) (pe_op op_add_str (pv 1) pe_str) (by rfl))) (fun _ _ _ _ _ => pv 2))
        (pe_lst pa_nil) (nomark _))))), ?_⟩
    refine ⟨_, rfl, .str z, _, _, _, true, rfl, .ty "str", TyX.base (.str z), tx_str, true, rfl, iteF ?_⟩
    refine ⟨_, rfl, z, rfl, hz2, _, _, rfl, rfl, _, rfl, ?_⟩
    unfold isName at q
    by_cases c1 : 1 ≤ z.length
    · refine if_true_of (decide_eq_true (by omega)) ⟨_, _, rfl, rfl, _, rfl, ?_⟩
      by_cases c2 : z.length ≤ 8
      · rw [decide_eq_true (show (z.length : Int) < 9 by omega)]
        refine iteF ?_
        have h0 : 0 < z.cps.toList.length := by
          have : z.cps.toList.length = z.length := by simp [Str.length]
          omega
        have hh : z.cps.toList.head? = some z.cps.toList[0] := by rw [List.head?_eq_getElem?, List.getElem?_eq_getElem h0]
        refine ⟨_, rfl, z, _, _, rfl, rfl, hz2, atI_nat (j := 0) (List.getElem?_eq_getElem h0), _, rfl, _, LET, rfl, rfl, _, rfl, ?_⟩
        rw [decide_eq_true c1, decide_eq_true c2, hh] at q
        by_cases c3 : z.cps.toList[0] ∈ LET.cps.toList
        · rw [decide_eq_true c3]
          refine iteF ⟨_, rfl, z, rfl, fun D hD => ?_⟩
          refine lc_odd (i := 2) (c := LET ++ DIG) hD (Nat.le_trans hz (by decide)) (fun ch H R h => ⟨_, rfl, _, rfl, LET, DIG, rfl, rfl, by decide +kernel, ch, LET ++ DIG, rfl, rfl, _, rfl, h⟩) (fun ch H R h => ⟨_, rfl, h⟩) (fun v => rfl) fun H1 s1 hl => ⟨by decide, fun e he => ?_⟩
          refine ⟨D, e, _, rfl, rfl, SqL.of (Same.upd he _ _ hl), SqL.of upd_same, ?_⟩
          rw [odd_empty]
          have q' := q _ (s1.trans (Same.upd (o := .lst []) he))
          simp only [decide_eq_true c3, Bool.true_and] at q'
          exact q'
        · rw [decide_eq_false c3]
          have q' := q H (Same.refl _)
          simp only [decide_eq_false c3, Bool.false_and, Bool.and_false] at q'
          exact iteT q'
      · rw [decide_eq_false (show ¬ (z.length : Int) < 9 by omega)]
        have q' := q H (Same.refl _)
        rw [decide_eq_false c2, Bool.and_false, Bool.false_and] at q'
        exact iteT q'
    · refine if_false_of (decide_eq_false (by omega)) ⟨_, rfl, iteT ?_⟩
      have q' := q H (Same.refl _)
      rw [decide_eq_false c1, Bool.false_and, Bool.false_and] at q'
      exact q'
end
end K03

set_option Elab.async false
set_option linter.all false
set_option maxRecDepth 100000
set_option maxHeartbeats 4000000
/-! try with several clauses «except A as e». -/
namespace Ft
open PySem PySem.Spec PyProof.Rows L2
abbrev Cl : Type := Value × (Addr → Value → Option Addr → TS)
/-- what the clauses wish, slot i the name of all of them -/
def wAll (K : PySem.W.Frag) (i : Nat) (Wo : WX) (D : Ends) : List Cl → WX
  | [] => Wo
  | (c, ts) :: r => fun cls d σ H => ∃ b, PySem.W.exmOne K cls c = some b ∧
      (b = true → ∀ a, H a = none → ts a cls d { nx := fun σ' H' => D.nx (σ'.set i none) H', rt := D.rt, bk := fun σ' H' => D.bk (σ'.set i none) H', ct := fun σ' H' => D.ct (σ'.set i none) H' } (σ.set i (some (.ref a))) H) ∧ (b = false → wAll K i Wo D r cls d σ H)
inductive Hds (X : Cx) (n : Str) : List ExceptHandler → List Cl → Prop
  | nil : Hds X n [] []
  | cons {x : Str} {c : Value} {ts : Addr → Value → Option Addr → TS} {b0 : Stmt} {su : List Stmt} {np ps : Pos} {hds : List ExceptHandler} {l : List Cl} (hc : Names X x c)
      (hs : ∀ (a : Addr) (oe : Obj) (cls : Value) (d : Option Addr) (pn : List (Addr × Obj)), Zc cls d oe → (∃ vs, oe.data = .fields vs) → PSs (X.suite a ((a, oe) :: pn)) (b0 :: su) (ts a cls d)) (r : Hds X n hds l) : Hds X n (.ExceptHandler (some (.Name x np)) (some n) (b0 :: su) ps :: hds) ((c, ts) :: l)
section
variable {X : Cx} {n : Str} {i : Nat} {body : List Stmt} {h0 : ExceptHandler} {hds : List ExceptHandler} {l : List Cl} {pos : Pos} {tb : WX → TS} {Wo : WX}
theorem ps_try_all (hst : X.stack = X.env :: X.outer) (hf : X.env.frame = some X.env.locals) (hN : X.N.Nodup) (hi : X.N[i]? = some n) (hln : X.env.kindOf n = some .local) (tk : Takes X Wo)
    (hb : ∀ (W : WX) (pn : List (Addr × Obj)) (xe : Value → Shared → Prop), Takes (X.tr pn xe) W → PassesOwn (model X.prog X.w) X.A X.env xe → PSs (X.tr pn xe) body (tb W)) (hh : Hds X n (h0 :: hds) l) :
    PS X (.Try body (h0 :: hds) [] [] pos) (fun D σ H => tb (wAll X.K i Wo D l) D σ H) := by
  constructor
  intro pn0 s σ H D I h
  have ok := I.ok
  have frames : X.A.frames = some (X.env :: X.outer) := ok.frames.trans (congrArg some hst)
  have locN : Loc X.env.scope n := .inl hln
  refine wpAny_Try_except ?_
  refine wpAny_mono ((hb (wAll X.K i Wo D l) (X.pn ++ pn0) (fun er t1 => wpAny (model X.prog X.w) X.A (noteFrame er X.env) (fun _ t2 => wpAny (model X.prog X.w) X.A (setFlight er none) (fun _ t3 =>
    wpAny (model X.prog X.w) X.A (handleBy er X.env (h0 :: hds)) (SP X pn0 D) X.xe t3) X.xe t2) X.xe t1) (fun u s2 air => ?_) PassesOwn.looking).run [] s σ H D (I.toTry _) h) (fun fl t1 done => ?_) (fun er t1 z => z)
  · obtain ⟨a, B, sI, pn1, σ1, H1, cls, d, rfl, J0, nb, up, sky, na, os, ag, w⟩ := air
    have J : Inv X pn0 σ1 H1 sI := J0.ofTry ok
    have sky2 : Sky B (X.env :: X.outer) a (Zc cls d) X.env.locals s2.heap := hst ▸ sky
    show wpAny (model X.prog X.w) X.A (noteFrame (.ref a) X.env) _ _ _
    refine Sky.land Zc.steady frames hf sky2 fun g3 fly up3 => ?_
    have J3 : Inv X pn0 σ1 H1 { s2 with heap := g3 } := J.landed nb fly.1 (up.trans up3) os ag
    obtain ⟨o3, w3, at3, z3, d3⟩ := fly.there
    have apart : a ∉ frs (X.env :: X.outer) := fun hm => by
      obtain ⟨_, o', e', nf⟩ := fly.2.2.1.mem hm
      rw [at3] at e'
      cases e'
      exact nf _ d3
    have nL : a ≠ X.env.locals := fun z => apart (List.mem_filterMap.mpr ⟨X.env, List.mem_cons_self, by rw [hf, z]⟩)
    have nF : a ∉ X.fs := fun hm => by
      obtain ⟨ev, hev, q⟩ := List.mem_filterMap.mp hm
      exact apart (List.mem_filterMap.mpr ⟨ev, List.mem_cons_of_mem _ hev, q⟩)
    have S3 := J3.suite at3 d3 na nL nF
    have go : ∀ {hs' : List ExceptHandler} {l' : List Cl}, Hds X n hs' l' → wAll X.K i Wo D l' cls d σ1 H1 → wpAny (model X.prog X.w) X.A (handleBy (.ref a) X.env hs') (SP X pn0 D) X.xe { s2 with heap := g3 } := by
      intro hs' l' hk
      induction hk with
      | nil =>
        intro w
        refine wpAny_handleBy_nil ?_
        obtain ⟨k1, k2, k3, oe, vs, T, oT, ts', he, hz, hd, hone, hr⟩ := id fly
        unfold PySem.passOn
        refine wpAny_bind (wpAny_field he hd hone ?_)
        rw [if_neg (show ¬ ((Value.ref T == Value.none) = true) by simp)]
        have away : wpAny (model X.prog X.w) X.A (setFlight (.ref a) X.env.frame) (fun _ t4 => wpAny (model X.prog X.w) X.A (throw (.ref a) : Sem Flow) (SP X pn0 D) X.xe t4) X.xe { s2 with heap := g3 } := by
          rw [hf]
          refine HandSPX.setFlight_upZ fly fun g4 hg4 up4 => wpAny_throw (tk _ _ ?_)
          exact ⟨a, B, sI, pn0, σ1, H1, cls, d, rfl, J, nb, (up.trans up3).trans up4, .inr (.inr (hst.symm ▸ hg4)), na, os, ag, w⟩
        first
          | exact wpAny_bind (wpAny_pure (wpAny_bind away))
          | exact wpAny_bind away
      | @cons x c ts b0 su np ps hds2 l2 hc hsu r ih =>
        intro w
        obtain ⟨b, hb1, hyes, hno⟩ := w
        refine wpAny_handleBy_cons (codeAny_handlers_test ?_) (by intro q; cases q)
        have tyA : PySem.W.Looks (model X.prog X.w) g3 (typeOf (.ref a)) cls := fun A Q E t k q => wpAny_typeOf_ref (k _ _ at3) (z3.1.symm ▸ q)
        have looks := PySem.W.exm_one (M := model X.prog X.w) (J3.kIn) tyA hb1
        have test : ∀ {Q E : Value → Shared → Prop}, Q c { s2 with heap := g3 } → wpAny (model X.prog X.w) (X.A.mark (some (.ref a))) (eval (.Name x np) X.env) Q E { s2 with heap := g3 } := by
          intro Q E q
          rcases hc with ⟨hg, hdbg, hm | ⟨hm, hv, hnn⟩⟩
          · exact ld_glob (X := X.suite a ((a, o3) :: (X.pn ++ pn0))) S3 hg hm q hdbg
          · exact ld_blt (X := X.suite a ((a, o3) :: (X.pn ++ pn0))) S3 hg hm hv q hnn hdbg
        refine test (looks.here ?_)
        cases b with
        | false => exact ih (hno rfl)
        | true =>
          refine codeAny_handlers_suite_as ?_
          refine HandSPX.lands_againZ fly fun g4 fly4 up4 => ?_
          have J4 : Inv X pn0 σ1 H1 { s2 with heap := g4 } := J.landed nb fly4.1 ((up.trans up3).trans up4) os ag
          obtain ⟨o4, w4, at4, z4, d4⟩ := fly4.there
          have S4 := J4.suite at4 d4 na nL nF
          refine store_ok (X := X.suite a ((a, o4) :: (X.pn ++ pn0))) (v := .ref a) S4 hN hi locN rfl (fun t5 S5 => ?_) (.inr hln)
          refine wpAny_mono ((hsu a o4 cls d (X.pn ++ pn0) z4 ⟨_, d4⟩).run [] t5 _ H1 _ S5 (hyes rfl a na)) (fun fl t6 done => ?_) (fun _ _ z => z.elim)
          have tidy : ∀ {σ6 : L2.St} {H6 : Hp} {Q : Shared → Prop}, Inv (X.suite a ((a, o4) :: (X.pn ++ pn0))) [] σ6 H6 t6 → (∀ t7, Inv X pn0 (σ6.set i none) H6 t7 → Q t7) →
              wpAny (model X.prog X.w) X.A (do bindName X.env n .none; unbindBehindTheSuite X.env n ps) (fun _ t7 => Q t7) X.xe t6 := fun {σ6 H6 Q} S6 hq => gone_ok (S6.unsuite ok) hN hi hln hq
          match fl, done with
          | .next, ⟨σ6, H6, S6, q6⟩ => exact tidy S6 fun t7 J7 => ⟨_, _, J7, q6⟩
          | .brk, ⟨σ6, H6, S6, q6⟩ => exact tidy S6 fun t7 J7 => ⟨_, _, J7, q6⟩
          | .cont, ⟨σ6, H6, S6, q6⟩ => exact tidy S6 fun t7 J7 => ⟨_, _, J7, q6⟩
          | .ret u, ⟨v6, σ6, H6, S6, r6, q6⟩ => exact tidy S6 fun t7 J7 => ⟨_, _, _, J7, r6, q6⟩
    exact go hh w
  · match fl, done with
    | .next, ⟨σ2, H2, J2, q⟩ => exact wpAny_execs_nil ⟨σ2, H2, J2.ofTry ok, q⟩
    | .brk, ⟨σ2, H2, J2, q⟩ => exact ⟨σ2, H2, J2.ofTry ok, q⟩
    | .cont, ⟨σ2, H2, J2, q⟩ => exact ⟨σ2, H2, J2.ofTry ok, q⟩
    | .ret u, ⟨v, σ2, H2, J2, r, q⟩ => exact ⟨v, σ2, H2, J2.ofTry ok, r, q⟩
end
end Ft
set_option Elab.async false
set_option linter.all false
set_option maxRecDepth 100000
set_option maxHeartbeats 4000000
set_option exponentiation.threshold 100000
namespace K03
open PySem PySem.Spec PyProof.Rows L2 Fa Fb NumText
abbrev sTold : Stmt := top 46
theorem scTold : FnScope ["_law_at", "_law_thing", "e"] ["_law_at", "_law_thing"] (defScope sTold) := ⟨rfl, rfl, rfl, by decide +kernel, rfl, by decide +kernel, by decide +kernel⟩
structure Fn (P : Program) (w : World) (K : PySem.W.Frag) (mg : Str → Option Value) (base : Heap) (x : Str) (lev : Nat) (ps : List Str) (sp : Sp) (f : Addr) (fd : FuncData) : Prop where
  ok : FnOk P w K mg base (L2.CX P w) lev f fd ps sp
  g : mg x = some (.ref f)
  k : PySem.W.keepIn K (.ref f) = true
  b : Binds K fd ps []
def tsT (C : Addr) (nm : Str) : Addr → Value → Option Addr → TS := fun a cls d => tRet (tLst (tCons (tC (.str nm)) (tCons (Xb.tByX C "value" a cls d (tVar 2)) tNil)))
def tbT (K : PySem.W.Frag) : WX → TS := fun W => tSeq (tIfS (tTest (tOp rEq (tVar 0) (tC (.int 0)))) (tRet (tLst (tCons (tC (.str "told")) (tCons (tCallS (spAmt K) (WE W) (tCons (tVar 1) tNil)) tNil)))) tNext)
  (tRet (tLst (tCons (tC (.str "told")) (tCons (tIf (tTest (tOp rEq (tVar 0) (tC (.int 1)))) (tCallS (spTurn K isUnit othU (CU K)) (WE W) (tCons (tVar 1) tNil)) (tCallS (spTurn K isWord turnW (CW K)) (WE W) (tCons (tVar 1) tNil))) tNil))))
def clT (K : PySem.W.Frag) : List Ft.Cl := [(.ref (CV K), tsT (CV K) "amount"), (.ref (CU K), tsT (CU K) "unit"), (.ref (CW K), tsT (CW K) "word")]
/-- a thing that g does not take -/
def Out (K : PySem.W.Frag) (g : Str → Bool) (H : Hp) (y : V) : Prop := Tx K H y false ∨ ∃ z : Str, y = .str z ∧ g z = false
def spTold (K : PySem.W.Frag) : Sp := fun vs H Q _ => ∃ (j : Int) (y : V) (nm : Str), vs = [.int j, y] ∧ ((j = 0 ∧ Bad K H y ∧ nm = "amount") ∨ (j = 1 ∧ Out K isUnit H y ∧ nm = "unit") ∨ (j = 2 ∧ Out K isWord H y ∧ nm = "word")) ∧
  ∀ l H', Same H H' → H' l = some (.lst [.str nm, y]) → Q (.ref l) H'
section
variable {P : Program} {w : World} {K : PySem.W.Frag} {mg : Str → Option Value} {base : Heap} {f f1 f2 f3 fV fU fW : Addr} {fd fd1 fd2 fd3 : FuncData} {qv tv qu tu qw tw : Str}
theorem ok_told (F : FnP K "_law_told" sTold f fd) (T : AF K mg) (gU : mg "InvalidUnit" = some (.ref (CU K))) (gW : mg "InvalidWord" = some (.ref (CW K))) (XV : Xb.Txt P.main.file K qv "value" tv (CV K) fV) (XU : Xb.Txt P.main.file K qu "value" tu (CU K) fU) (XW : Xb.Txt P.main.file K qw "value" tw (CW K) fW)
    (hUV : PySem.W.exmOne K (.ref (CU K)) (.ref (CV K)) = some false) (hWV : PySem.W.exmOne K (.ref (CW K)) (.ref (CV K)) = some false) (hWU : PySem.W.exmOne K (.ref (CW K)) (.ref (CU K)) = some false)
    (A1 : Fn P w K mg base "amount_text" 7 ["amount"] (spAmt K) f1 fd1) (A2 : Fn P w K mg base "other_unit" 3 ["unit"] (spTurn K isUnit othU (CU K)) f2 fd2) (A3 : Fn P w K mg base "turned" 3 ["word"] (spTurn K isWord turnW (CW K)) f3 fd3) :
    FnOk P w K mg base (L2.CX P w) 8 f fd ["_law_at", "_law_thing"] (spTold K) := by
  refine F.ok scTold (fun vs H Q E h => ?_) (fun cdv A outer s H vs Q E hr h => ?_)
  · obtain ⟨j, y, nm, rfl, _⟩ := h
    rfl
  · obtain ⟨j, y, nm, rfl, c, q⟩ := h
    have hr2 := hr.mono (show 2 ≤ 7 by decide)
    have hr3 := hr.mono (show 3 ≤ 7 by decide)
    refine ⟨_, pss_one (Ft.ps_try_all (n := "e") (i := 2) (tb := tbT K) (l := clT K) (Wo := fun cls d _ H => E cls d H) rfl rfl scTold.nd rfl rfl (takes_of rfl rfl rfl rfl)
        (fun W pn xe tk _ => pss_cons (ps_if (pt_cmpR op_eq (pv 0) pe_int (nomark _)) (pss_one (ps_ret (pe_lst (pa_cons pe_str (pa_cons (pe_callS A1.ok hr rfl A1.g A1.k A1.b (fun σ => passAt tk σ) (pa_cons (pv 1) pa_nil)) pa_nil))))) pss_nil)
          (pss_one (ps_ret (pe_lst (pa_cons pe_str (pa_cons (pe_ifExp (pt_cmpR op_eq (pv 0) pe_int (nomark _)) (pe_callS A2.ok hr3 rfl A2.g A2.k A2.b (fun σ => passAt tk σ) (pa_cons (pv 1) pa_nil)) (pe_callS A3.ok hr3 rfl A3.g A3.k A3.b (fun σ => passAt tk σ) (pa_cons (pv 1) pa_nil))) pa_nil))))))
        (.cons ⟨rfl, by decide, Or.inl T.gV⟩ (fun a oe cls d pn hz hf => pss_one (ps_ret (pe_lst (pa_cons pe_str (pa_cons (Xb.pe_byX XV hz hf (pv 2)) pa_nil)))))
          (.cons ⟨rfl, by decide, Or.inl gU⟩ (fun a oe cls d pn hz hf => pss_one (ps_ret (pe_lst (pa_cons pe_str (pa_cons (Xb.pe_byX XU hz hf (pv 2)) pa_nil)))))
          (.cons ⟨rfl, by decide, Or.inl gW⟩ (fun a oe cls d pn hz hf => pss_one (ps_ret (pe_lst (pa_cons pe_str (pa_cons (Xb.pe_byX XW hz hf (pv 2)) pa_nil))))) .nil)))), ?_⟩
    have nx (a b : Int) (h : a ≠ b) : decide (V.int a = V.int b) = false := decide_eq_false fun z => h (V.int.inj z)
    have suite : ∀ (C : Addr) (a d : Addr) (v0 v1 : V) (H1 : Hp) (nm : Str) (D : Ends), D.rt = Q → Same H H1 → H1 d = none → (∀ l H', Same H H' → H' l = some (.lst [.str nm, y]) → Q (.ref l) H') →
        tsT C nm a (.ref C) (some d) D [some v0, some v1, some (.ref a)] (upd H1 d (.xd [("value", y)])) := by
      intro C a d v0 v1 H1 nm D hD s1 hd k
      refine ⟨_, rfl, rfl, rfl, d, y, rfl, upd_same, by show 2 ≤ sizeLine; decide, fun l hl => ?_⟩
      rw [hD]
      exact k l _ (s1.trans ((Same.upd hd).trans (Same.upd hl))) upd_same
    rcases c with ⟨rfl, hb, rfl⟩ | ⟨rfl, ho, rfl⟩ | ⟨rfl, ho, rfl⟩
    · refine ⟨_, rfl, rfl, _, rfl, if_true_of (decide_eq_true rfl) ⟨_, rfl, y, rfl, .inl ⟨hb, fun d hd => ?_⟩⟩⟩
      exact ⟨true, XV.te, fun _ a _ => suite (CV K) a d _ _ H "amount" _ rfl (Same.refl _) hd q, fun z => by cases z⟩
    · have er : ∀ (D : Ends), D.rt = Q → Err (CU K) y H (WE (Ft.wAll K 2 (fun cls d _ H => E cls d H) D (clT K)) [some (.int 1), some y, none]) := fun D hD d hd =>
        ⟨false, hUV, (fun z => by cases z), fun _ => ⟨true, XU.te, fun _ a _ => suite (CU K) a d _ _ H "unit" _ hD (Same.refl _) hd q, fun z => by cases z⟩⟩
      refine ⟨_, rfl, rfl, _, rfl, if_false_of (nx _ _ (by decide)) ⟨_, rfl, rfl, _, rfl, if_true_of (decide_eq_true rfl) ⟨_, rfl, y, rfl, ?_⟩⟩⟩
      rcases ho with tx | ⟨z, rfl, g⟩
      · exact .inl ⟨tx, er _ rfl⟩
      · exact .inr ⟨z, rfl, fun _ => er _ rfl, fun g2 => by rw [g] at g2; cases g2⟩
    · have er : ∀ (D : Ends), D.rt = Q → Err (CW K) y H (WE (Ft.wAll K 2 (fun cls d _ H => E cls d H) D (clT K)) [some (.int 2), some y, none]) := fun D hD d hd =>
        ⟨false, hWV, (fun z => by cases z), fun _ => ⟨false, hWU, (fun z => by cases z), fun _ => ⟨true, XW.te, fun _ a _ => suite (CW K) a d _ _ H "word" _ hD (Same.refl _) hd q, fun z => by cases z⟩⟩⟩
      refine ⟨_, rfl, rfl, _, rfl, if_false_of (nx _ _ (by decide)) ⟨_, rfl, rfl, _, rfl, if_false_of (nx _ _ (by decide)) ⟨_, rfl, y, rfl, ?_⟩⟩⟩
      rcases ho with tx | ⟨z, rfl, g⟩
      · exact .inl ⟨tx, er _ rfl⟩
      · exact .inr ⟨z, rfl, fun _ => er _ rfl, fun g2 => by rw [g] at g2; cases g2⟩
end
end K03

set_option Elab.async false
set_option linter.all false
set_option maxRecDepth 100000
set_option maxHeartbeats 4000000
set_option exponentiation.threshold 100000
namespace K03
open PySem PySem.Spec PyProof.Rows L2 Fa Fb NumText TL
theorem app_assoc (a b c : Str) : (a ++ b) ++ c = a ++ (b ++ c) := by
  show (⟨(a.cps ++ b.cps) ++ c.cps⟩ : Str) = ⟨a.cps ++ (b.cps ++ c.cps)⟩
  rw [Array.append_assoc]
theorem nil_app (a : Str) : ("" : Str) ++ a = a := by
  have e : ("" : Str) = ⟨#[]⟩ := by decide +kernel
  rw [e]
  show (⟨#[] ++ a.cps⟩ : Str) = a
  rw [Array.empty_append]
abbrev SL : Str := "/"
theorem sl_is : SL = ⟨#[47]⟩ := by decide +kernel
theorem sl_tl : tl SL = 47 :: [] := by decide +kernel
theorem join_app (x : Str) (a : Str) (r : List Str) : Str.join SL ((x ++ a) :: r) = x ++ Str.join SL (a :: r) := by
  cases r with
  | nil => rfl
  | cons b r =>
    show (x ++ a) ++ SL ++ Str.join SL (b :: r) = x ++ (a ++ SL ++ Str.join SL (b :: r))
    rw [app_assoc, app_assoc, app_assoc]
theorem parts_list : ∀ l : List Nat, ∃ (a : Str) (r : List Str), (∀ p ∈ a :: r, 47 ∉ tl p) ∧ (⟨l.toArray⟩ : Str) = Str.join SL (a :: r)
  | [] => ⟨⟨#[]⟩, [], by intro p hp; rw [List.mem_singleton] at hp; subst hp; simp [tl], rfl⟩
  | c :: l => by
    obtain ⟨a, r, h1, h2⟩ := parts_list l
    have e : (⟨(c :: l).toArray⟩ : Str) = (⟨#[c]⟩ : Str) ++ (⟨l.toArray⟩ : Str) := by
      show (⟨(c :: l).toArray⟩ : Str) = ⟨#[c] ++ l.toArray⟩
      simp
    by_cases hc : c = 47
    · refine ⟨⟨#[]⟩, a :: r, ?_, ?_⟩
      · intro p hp
        rcases List.mem_cons.mp hp with m | m
        · subst m
          simp [tl]
        · exact h1 p m
      · rw [e, hc, h2, ← sl_is]
        show SL ++ Str.join SL (a :: r) = (⟨#[]⟩ : Str) ++ SL ++ Str.join SL (a :: r)
        have e0 : (⟨#[]⟩ : Str) = "" := by decide +kernel
        rw [e0, nil_app]
    · refine ⟨⟨#[c]⟩ ++ a, r, ?_, ?_⟩
      · intro p hp
        rcases List.mem_cons.mp hp with m | m
        · subst m
          intro z
          have z2 : 47 ∈ (#[c] ++ a.cps).toList := z
          rw [Array.toList_append] at z2
          rcases List.mem_append.mp z2 with y | y
          · exact hc (List.mem_singleton.mp y).symm
          · exact h1 a (List.mem_cons_self ..) y
        · exact h1 p (List.mem_cons_of_mem _ m)
      · rw [e, h2, join_app]
theorem parts_of (z : Str) : ∃ (a : Str) (r : List Str), (∀ p ∈ a :: r, 47 ∉ tl p) ∧ z = Str.join SL (a :: r) := by
  have h := parts_list z.cps.toList
  have e : (⟨z.cps.toList.toArray⟩ : Str) = z := by simp
  rw [e] at h
  exact h
theorem split_parts {a : Str} {r : List Str} (h : ∀ p ∈ a :: r, 47 ∉ tl p) : Txt.split (Str.join SL (a :: r)) SL = a :: r := by
  rw [← join_eq]
  exact split_join sl_tl (by decide +kernel) (by simp) h
theorem part_parts {a : Str} {r : List Str} (h : ∀ p ∈ a :: r, 47 ∉ tl p) : Txt.partition (Str.join SL (a :: r)) SL = (match r with | [] => (a, Str.empty, Str.empty) | b :: r' => (a, SL, Str.join SL (b :: r'))) := by
  cases r with
  | nil => exact partition_none sl_tl (h a (List.mem_cons_self ..))
  | cons b r => exact partition_app sl_tl (h a (List.mem_cons_self ..))
end K03

set_option Elab.async false
set_option linter.all false
set_option maxRecDepth 100000
set_option maxHeartbeats 4000000
set_option exponentiation.threshold 100000
namespace K03
open PySem PySem.Spec PyProof.Rows L2 Fa Fb NumText TL
abbrev MI : Str := "-"
theorem mi_is : MI = ⟨#[45]⟩ := by decide +kernel
theorem tl_mi (a : Str) : tl (MI ++ a) = 45 :: tl a := by
  rw [mi_is]
  show (#[45] ++ a.cps).toList = 45 :: a.cps.toList
  rw [Array.toList_append]
  rfl
theorem rp_mi (a : Str) : Txt.removeprefix (MI ++ a) MI = a := by
  rcases minus_rp (MI ++ a) with e | e
  · have h : tl (MI ++ a) = 45 :: tl (Txt.removeprefix (MI ++ a) MI) := e
    rw [tl_mi] at h
    have h2 := (List.cons.inj h).2
    exact (StrLaws.mk_of_toList h2.symm).trans (by simp)
  · exfalso
    rw [show ("-" : Str) = ⟨#[45]⟩ from mi_is, show MI = ⟨#[45]⟩ from mi_is, StrLaws.removeprefix_eq] at e
    have c2 := (StrLaws.subAt_one (⟨#[45]⟩ ++ a) 45 0).mpr (by
      show (#[45] ++ a.cps).toList[0]? = some 45
      rw [Array.toList_append]
      rfl)
    rw [if_pos (by rw [decide_eq_true c2.1, c2.2]; rfl)] at e
    have l := congrArg Str.length e
    have l1 : (⟨#[45]⟩ : Str).length = 1 := rfl
    have l2 : ((⟨#[45]⟩ : Str) ++ a).length = 1 + a.length := by
      show (#[45] ++ a.cps).size = 1 + a.cps.size
      rw [Array.size_append]
      rfl
    rw [l1, l2] at l
    have l3 : (⟨(((⟨#[45]⟩ : Str) ++ a).cps.toList.drop 1 |>.take (1 + a.length - 1)).toArray⟩ : Str).length ≤ a.length := by
      show ((((⟨#[45]⟩ : Str) ++ a).cps.toList.drop 1 |>.take (1 + a.length - 1)).toArray).size ≤ a.length
      rw [List.size_toArray, List.length_take]
      omega
    omega
theorem rp_no {a : Str} (h : ¬ ∃ r, tl a = 45 :: r) : Txt.removeprefix a MI = a := by
  rcases minus_rp a with e | e
  · exact absurd ⟨_, e⟩ h
  · exact e
theorem num_neg {a : Str} (h : isNum a 6 = true) : numOf (MI ++ a) = - numOf a := by
  obtain ⟨d, ne, l⟩ := isNum_of h
  have la : a.cps.toList.length = a.length := by simp [Str.length]
  have lm : (MI ++ a).length = 1 + a.length := by
    have : (tl (MI ++ a)).length = 1 + a.length := by
      rw [tl_mi, List.length_cons, la]
      omega
    simpa [Str.length] using this
  unfold numOf
  rw [intText_neg (tl_mi a) d ne (by omega), intText_digits d ne (by omega)]
  rfl
theorem zero_iff {a : Str} (h : isNum a 6 = true) : numOf a = 0 ↔ a = "0" := by
  obtain ⟨d, ne, l⟩ := isNum_of h
  have la : a.cps.toList.length = a.length := by simp [Str.length]
  have e := intText_digits d ne (by omega)
  constructor
  · intro z
    unfold numOf at z
    rw [e] at z
    have z2 : digitsVal a.cps.toList = 0 := by
      have : ((digitsVal a.cps.toList : Nat) : Int) = 0 := z
      omega
    unfold isNum at h
    simp only [Bool.and_eq_true, Bool.or_eq_true, decide_eq_true_eq] at h
    rcases h.2.2 with h2 | h2
    · exact h2
    · exfalso
      cases hq : a.cps.toList with
      | nil => exact ne hq
      | cons c r =>
        rw [hq] at h2 z2 d
        have hc : c ≠ 48 := of_decide_eq_true h2
        have := digitsVal_pos (cs := r) (show 49 ≤ c by have := d.head; omega)
        omega
  · intro z
    subst z
    decide +kernel
theorem mi_zero (a : Str) : MI ++ a = "-0" ↔ a = "0" := by
  constructor
  · intro h
    have h2 := congrArg tl h
    rw [tl_mi] at h2
    have e : tl ("-0" : Str) = 45 :: tl ("0" : Str) := by decide +kernel
    rw [e] at h2
    have h3 := (List.cons.inj h2).2
    exact (StrLaws.mk_of_toList h3).trans (by simp)
  · intro h
    subst h
    decide +kernel
theorem slash_no {b : Str} {m : Int} (h : 47 ∈ tl b) : isNum b m = false := by
  cases c : isNum b m with
  | false => rfl
  | true =>
    obtain ⟨d, _, _⟩ := isNum_of c
    have := d 47 h
    omega
end K03

set_option Elab.async false
set_option linter.all false
set_option maxRecDepth 100000
set_option maxHeartbeats 4000000
set_option exponentiation.threshold 100000
namespace K03
open PySem PySem.Spec PyProof.Rows L2 Fa Fb NumText TL
def rd (mi : Bool) (a : Str) (r : List Str) : Option (Int × Int) :=
  if (!isNum a 6 || (mi && decide (a = "0"))) = true then none
  else match r with
    | [] => some (if mi = true then -numOf a else numOf a, 1)
    | [b] => if (!isNum b 4 || !(decide (1 ≤ numOf b) && decide (numOf b ≤ 1000))) = true then none else some (if mi = true then -numOf a else numOf a, numOf b)
    | _ => none
theorem sl_ne : SL ≠ "" := by decide +kernel
theorem amtOf_at (A a : Str) (r : List Str) (mi : Bool) (hp : ∀ p ∈ A :: r, 47 ∉ tl p) (h1 : Txt.removeprefix A MI = a) (h2 : isNum a 6 = true → (A = "-0" ↔ (mi = true ∧ a = "0"))) (h3 : isNum a 6 = true → numOf A = if mi = true then -numOf a else numOf a) :
    amtOf (Str.join SL (A :: r)) = rd mi a r := by
  have pp := part_parts hp
  unfold amtOf rd
  cases r with
  | nil =>
    have e : Txt.partition (Str.join SL [A]) "/" = (A, Str.empty, Str.empty) := pp
    rw [e]
    show (if (!isNum (Txt.removeprefix A "-") 6 || decide (A = "-0")) = true then none else if Str.empty = "" then some (numOf A, 1) else _) = _
    rw [show Txt.removeprefix A "-" = a from h1]
    cases c : isNum a 6 with
    | false => rfl
    | true =>
      have c2 : decide (A = "-0") = (mi && decide (a = "0")) := by
        rw [Bool.eq_iff_iff, decide_eq_true_iff, h2 c, Bool.and_eq_true, decide_eq_true_iff]
      rw [c2, h3 c, if_pos (show Str.empty = "" by decide +kernel)]
  | cons b r' =>
    have e : Txt.partition (Str.join SL (A :: b :: r')) "/" = (A, SL, Str.join SL (b :: r')) := pp
    rw [e]
    show (if (!isNum (Txt.removeprefix A "-") 6 || decide (A = "-0")) = true then none else if SL = "" then some (numOf A, 1) else _) = _
    rw [show Txt.removeprefix A "-" = a from h1, if_neg sl_ne]
    cases c : isNum a 6 with
    | false => rfl
    | true =>
      have c2 : decide (A = "-0") = (mi && decide (a = "0")) := by
        rw [Bool.eq_iff_iff, decide_eq_true_iff, h2 c, Bool.and_eq_true, decide_eq_true_iff]
      rw [c2]
      cases r' with
      | nil =>
        show (if (!true || (mi && decide (a = "0"))) = true then none else if (!isNum b 4 || !(decide (1 ≤ numOf b) && decide (numOf b ≤ 1000))) = true then none else some (numOf A, numOf b)) = _
        rw [h3 c]
      | cons q r2 =>
        have bad : isNum (Str.join SL (b :: q :: r2)) 4 = false := slash_no (by
          show 47 ∈ tl (b ++ SL ++ Str.join SL (q :: r2))
          rw [tl_append, tl_append, sl_tl]
          simp)
        show (if (!true || (mi && decide (a = "0"))) = true then none else if (!isNum (Str.join SL (b :: q :: r2)) 4 || _) = true then none else _) = _
        rw [bad]
        rfl
theorem amtOf_mi {a : Str} {r : List Str} (hp : ∀ p ∈ a :: r, 47 ∉ tl p) : amtOf (Str.join SL ((MI ++ a) :: r)) = rd true a r := by
  refine amtOf_at (MI ++ a) a r true (fun p h => ?_) (rp_mi a) (fun _ => ?_) (fun c => ?_)
  · rcases List.mem_cons.mp h with e | e
    · rw [e, tl_mi]
      intro z
      rcases List.mem_cons.mp z with y | y
      · cases y
      · exact hp a (List.mem_cons_self ..) y
    · exact hp p (List.mem_cons_of_mem _ e)
  · rw [mi_zero]
    simp
  · rw [num_neg c]
    rfl
theorem amtOf_pl {a : Str} {r : List Str} (hp : ∀ p ∈ a :: r, 47 ∉ tl p) (hn : ¬ ∃ q, tl a = 45 :: q) : amtOf (Str.join SL (a :: r)) = rd false a r := by
  refine amtOf_at a a r false hp (rp_no hn) (fun _ => ?_) (fun c => rfl)
  constructor
  · intro h
    exfalso
    apply hn
    rw [h]
    exact ⟨[48], by decide +kernel⟩
  · rintro ⟨h, _⟩
    cases h
end K03

set_option Elab.async false
set_option linter.all false
set_option maxRecDepth 100000
set_option maxHeartbeats 4000000
set_option exponentiation.threshold 100000
namespace K03
open PySem PySem.Spec PyProof.Rows L2 Fa Fb NumText TL
theorem cut_all (z : Str) : cutS z (some 0) none = z := by
  have e : HT.sIx z.length 0 (some ((0 : Nat) : Int)) = 0 := by rw [HT.sIx_nat]; omega
  show (⟨((z.cps.toList.drop (HT.sIx z.length 0 (some ((0 : Nat) : Int)))).take (z.length - HT.sIx z.length 0 (some ((0 : Nat) : Int)))).toArray⟩ : Str) = z
  rw [e, List.drop_zero, Nat.sub_zero, List.take_of_length_le (by simp [Str.length])]
theorem cut_mi (a : Str) : cutS (MI ++ a) (some 1) none = a ∧ cutS (MI ++ a) none (some 1) = MI := by
  have t : (MI ++ a).cps.toList = 45 :: a.cps.toList := tl_mi a
  have l : (MI ++ a).length = a.cps.toList.length + 1 := by
    show (MI ++ a).cps.size = _
    rw [← Array.length_toList, t, List.length_cons]
  have e : HT.sIx (MI ++ a).length 0 (some ((1 : Nat) : Int)) = 1 := by rw [HT.sIx_nat]; omega
  have e2 : HT.sIx (MI ++ a).length (MI ++ a).length (some ((1 : Nat) : Int)) = 1 := by rw [HT.sIx_nat]; omega
  constructor
  · show (⟨(((MI ++ a).cps.toList.drop (HT.sIx (MI ++ a).length 0 (some ((1 : Nat) : Int)))).take ((MI ++ a).length - HT.sIx (MI ++ a).length 0 (some ((1 : Nat) : Int)))).toArray⟩ : Str) = a
    rw [e, t, List.drop_succ_cons, List.drop_zero, l, Nat.add_sub_cancel, List.take_length]
  · show (⟨(((MI ++ a).cps.toList.drop 0).take (HT.sIx (MI ++ a).length (MI ++ a).length (some ((1 : Nat) : Int)) - 0)).toArray⟩ : Str) = MI
    rw [e2, t, mi_is]
    rfl
theorem cut_pl {z : Str} (h : ¬ ∃ q, tl z = 45 :: q) : cutS z none (some 1) ≠ MI := by
  intro e
  have e0 : HT.sIx z.length z.length (some ((1 : Nat) : Int)) = min 1 z.length := HT.sIx_nat ..
  have e1 : (⟨((z.cps.toList.drop 0).take (HT.sIx z.length z.length (some ((1 : Nat) : Int)) - 0)).toArray⟩ : Str) = MI := e
  rw [e0, mi_is] at e1
  have e2 : (z.cps.toList.take (min 1 z.length)) = [45] := by
    have := congrArg (fun y : Str => y.cps.toList) e1
    simpa using this
  apply h
  cases q : z.cps.toList with
  | nil =>
    rw [q] at e2
    cases (e2 : List.take _ [] = _) ▸ (List.take_nil (i := min 1 z.length)).symm
  | cons c r =>
    rw [q] at e2
    have lz : z.length = r.length + 1 := by
      show z.cps.size = _
      rw [← Array.length_toList, q, List.length_cons]
    rw [lz, show min 1 (r.length + 1) = 1 by omega, List.take_succ_cons] at e2
    refine ⟨r, ?_⟩
    show z.cps.toList = _
    rw [q, (List.cons.inj e2).1]
theorem sgn_of (z : Str) : (∃ y, z = MI ++ y) ∨ ¬ ∃ q, tl z = 45 :: q := by
  by_cases h : ∃ q, tl z = 45 :: q
  · left
    obtain ⟨q, hq⟩ := h
    refine ⟨⟨q.toArray⟩, ?_⟩
    have : tl (MI ++ (⟨q.toArray⟩ : Str)) = tl z := by rw [tl_mi, hq]
    have t2 : (MI ++ (⟨q.toArray⟩ : Str)).cps.toList = z.cps.toList := this
    exact (StrLaws.mk_of_toList t2.symm).trans (by simp)
  · exact Or.inr h
theorem join_len : ∀ (a : Str) (r : List Str) (p : Str), p ∈ a :: r → (tl p).length ≤ (tl (Str.join SL (a :: r))).length
  | a, [], p, h => by
    rw [List.mem_singleton] at h
    subst h
    exact Nat.le_refl _
  | a, b :: r, p, h => by
    show (tl p).length ≤ (tl (a ++ SL ++ Str.join SL (b :: r))).length
    rw [tl_append, tl_append, List.length_append, List.length_append]
    rcases List.mem_cons.mp h with m | m
    · subst m
      omega
    · have := join_len b r p m
      omega
theorem tl_len (z : Str) : (tl z).length = z.length := by simp [tl, Str.length]
abbrev sRead : Stmt := top 42
theorem scRead : FnScope ["_law_line_here", "_law_minus", "_law_parts", "_law_top", "_law_bottom"] ["_law_line_here"] (defScope sRead) := ⟨rfl, rfl, rfl, by decide +kernel, rfl, by decide +kernel, by decide +kernel⟩
def spRead : Sp := fun vs H Q _ => ∃ z : Str, vs = [.str z] ∧ z.length ≤ 2000 ∧ (amtOf z = none → ∀ H', Same H H' → Q .non H') ∧
  ∀ a b, amtOf z = some (a, b) → ∀ p t u H', Same H H' → H p = none → Am.Red t u → t * b = a * u → H' p = some (.tup [.int t, .int u]) → Q (.ref p) H'
def NumV (z : Str) (m : Int) (v : V) : Prop := (isNum z m = false ∧ v = .non) ∨ (isNum z m = true ∧ v = .int (numOf z))
theorem numb_imp {z : Str} {m : Int} {H : Hp} {Q : VK} {E : XK} (hm : m ≤ 6) (hz : z.length ≤ 2000) (h : ∀ v H', Same H H' → NumV z m v → Q v H') : spNumb [.str z, .int m] H Q E :=
  ⟨z, m, rfl, hm, hz, fun c H' s => h _ H' s (.inl ⟨c, rfl⟩), fun c H' s => h _ H' s (.inr ⟨c, rfl⟩)⟩
theorem none_of {H H' : Hp} {p : Addr} (s : Same H H') (h : H' p = none) : H p = none := by
  cases e : H p with
  | none => rfl
  | some o =>
    have := s p o e
    rw [h] at this
    cases this
theorem rd1 {mi : Bool} {a b : Str} (c1 : isNum a 6 = true) : rd mi a [b] = if (mi && decide (a = "0")) = true then none else if (!isNum b 4 || !(decide (1 ≤ numOf b) && decide (numOf b ≤ 1000))) = true then none else some (if mi = true then -numOf a else numOf a, numOf b) := by
  unfold rd
  rw [c1]
  rfl
theorem rd2 {mi : Bool} {a b c : Str} {r : List Str} (c1 : isNum a 6 = true) : rd mi a (b :: c :: r) = none := by
  unfold rd
  rw [c1]
  exact ite_self _
section
variable {P : Program} {w : World} {K : PySem.W.Frag} {mg : Str → Option Value} {base : Heap} {f fL fN : Addr} {fd fdL fdN : FuncData} {aU aW : Addr}
theorem ok_read (F : FnP K "_law_read" sRead f fd) (T : AF K mg) (ZV : VF K mg aU aW) (mL : mg "len" = none) (GL : Fn P w K mg base "_law_lowest" 1 ["_law_top", "_law_bottom"] spLow fL fdL) (GN : Fn P w K mg base "_law_number" 1 ["_law_word", "_law_most"] spNumb fN fdN) :
    FnOk P w K mg base (L2.CX P w) 2 f fd ["_law_line_here"] spRead := by
  refine F.ok scRead (fun vs H Q E h => ?_) (fun cdv A outer s H vs Q E hr h => ?_)
  · obtain ⟨z, rfl, _⟩ := h
    rfl
  · obtain ⟨z, rfl, hz, qn, qs⟩ := h
    have hz2 : z.length + 2 ≤ sizeLine := Nat.le_trans (Nat.add_le_add_right hz 2) (by decide)
    refine ⟨_, pss_cons (ps_if (pt_not (pt_val (pe_isi T.isi (pv 0) (pe_ty ZV.str boot_str)))) (pss_one (ps_ret pe_non)) pss_nil)
      (pss_cons (ps_set (i := 1) scRead.nd rfl (Or.inl rfl) (pe_cmpR op_eq (pe_slice sl_str (pv 0) po_none (po_some pe_int)) pe_str (nomark _)))
      (pss_cons (ps_set (i := 2) scRead.nd rfl (Or.inl rfl) (pe_split (pe_slice sl_str (pv 0) (po_some (pe_callTy call_int1 rfl T.int boot_int' (pa_cons (pv 1) pa_nil))) po_none) pe_str))
      (pss_cons (ps_set (i := 3) scRead.nd rfl (Or.inl rfl) (pe_call GN.ok hr rfl GN.g GN.k GN.b .nil passL (pa_cons (pe_ix ix_list (pv 2) pe_int (fun _ _ => rfl)) (pa_cons pe_int pa_nil))))
      (pss_cons (ps_set (i := 4) scRead.nd rfl (Or.inl rfl) (pe_ifExp (pt_cmpR op_eq (pe_callB call_len_seq rfl mL PySem.boot_len (pa_cons (pv 2) pa_nil)) pe_int (nomark _)) pe_int
        (pe_call GN.ok hr rfl GN.g GN.k GN.b .nil passL (pa_cons (pe_ix ix_list (pv 2) pe_int (fun _ _ => rfl)) (pa_cons pe_int pa_nil)))))
      (pss_cons (ps_if (PW.pt (pw_or (pt_cmpR op_gt (pe_callB call_len_seq rfl mL PySem.boot_len (pa_cons (pv 2) pa_nil)) pe_int (nomark _)) (pw_or (pt_cmpR op_isN (pv 3) pe_non (nomark _)) (pw_or (pt_cmpR op_isN (pv 4) pe_non (nomark _))
          (pw_or (pt_not (pt_chain op_le op_le pe_int (pv 4) pe_int)) (pw_or1 (PW.pt (pw_and (pt_val (pv 1)) (pw_and1 (pt_cmpR op_eq (pv 3) pe_int (nomark _)))))))))))
        (pss_one (ps_ret pe_non)) pss_nil)
      (pss_one (ps_ret (pe_call GL.ok hr rfl GL.g GL.k GL.b .nil passL (pa_cons (pe_ifExp (pt_val (pv 1)) (pe_op op_sub pe_int (pv 3)) (pv 3)) (pa_cons (pv 4) pa_nil)))))))))), ?_⟩
    refine ⟨_, rfl, .str z, _, _, _, true, rfl, .ty "str", TyX.base (.str z), tx_str, true, rfl, iteF ?_⟩
    obtain ⟨mi, a, r, e1, e2, hp, e3⟩ : ∃ (mi : Bool) (a : Str) (r : List Str), decide (V.str (cutS z none (some 1)) = V.str "-") = mi ∧ cutS z (some (if mi = true then 1 else 0)) none = Str.join SL (a :: r) ∧ (∀ p ∈ a :: r, 47 ∉ tl p) ∧ amtOf z = rd mi a r := by
      rcases sgn_of z with ⟨y, rfl⟩ | h
      · obtain ⟨a, r, hp, rfl⟩ := parts_of y
        refine ⟨true, a, r, decide_eq_true (congrArg V.str (cut_mi _).2), (cut_mi _).1, hp, ?_⟩
        rw [← join_app]
        exact amtOf_mi hp
      · obtain ⟨a, r, hp, rfl⟩ := parts_of z
        refine ⟨false, a, r, decide_eq_false fun y => cut_pl h (V.str.inj y), cut_all _, hp, amtOf_pl hp fun ⟨q, hq⟩ => h ?_⟩
        cases r with
        | nil => exact ⟨q, hq⟩
        | cons b r =>
          refine ⟨q ++ tl SL ++ tl (Str.join SL (b :: r)), ?_⟩
          show tl (a ++ SL ++ Str.join SL (b :: r)) = _
          rw [tl_append, tl_append, hq]
          rfl
    rw [e3] at qn qs
    have lj : (Str.join SL (a :: r)).length ≤ z.length := by
      rw [← e2]
      exact cutS_length ..
    have lp : ∀ p ∈ a :: r, p.length ≤ 2000 := fun p hm => by
      have := join_len a r p hm
      rw [tl_len, tl_len] at this
      omega
    refine ⟨_, rfl, _, rfl, z, rfl, Nat.le_trans (Nat.le_add_right _ 2) hz2, rfl, ?_⟩
    rw [e1]
    refine ⟨_, rfl, _, rfl, .inr ⟨mi, rfl, _, rfl, z, rfl, Nat.le_trans (Nat.le_add_right _ 2) hz2, ⟨_, rfl⟩, _, _, rfl, rfl, by decide +kernel, ?_, fun D hD => ?_⟩⟩
    · exact Nat.le_trans (Nat.add_le_add_right (cutS_length ..) 2) hz2
    rw [e2, split_parts hp]
    have s1 := Same.upd (o := .lst ((a :: r).map V.str)) hD
    have at0 : atI ((a :: r).map V.str) 0 = some (V.str a) := atI_nat (j := 0) rfl
    have at1 : ∀ b r', r = b :: r' → atI ((a :: r).map V.str) 1 = some (V.str b) := fun b r' e => by
      subst e
      exact atI_nat (j := 1) rfl
    have lenT : ∀ b c r', r = b :: c :: r' → decide ((2 : Int) < (((a :: r).map V.str).length : Int)) = true := fun b c r' e => by
      subst e
      rw [decide_eq_true_iff]
      simp
      omega
    have lenF : ∀ b, r = [b] → decide ((2 : Int) < (((a :: r).map V.str).length : Int)) = false := fun b e => by
      subst e
      simp
    have len1 : ∀ b r', r = b :: r' → decide (V.int (((a :: r).map V.str).length : Int) = V.int 1) = false := fun b r' e => by
      subst e
      refine decide_eq_false fun y => ?_
      have := V.int.inj y
      simp at this
      omega
    have lowOk : ∀ (m : Int), 1 ≤ m → m ≤ 1000 → m ≠ 0 ∧ m.natAbs < 2 ^ 8000 := fun m h1 h2 => ⟨by omega, Nat.lt_of_lt_of_le (show m.natAbs < 2 ^ 10 by omega) (Nat.pow_le_pow_right (by decide) (by decide))⟩
    refine ⟨_, rfl, D, _, 0, _, rfl, rfl, SqL.of upd_same, at0, a, 6, rfl, by decide, lp a (List.mem_cons_self ..), fun c1 H1 s2 => ?_, fun c1 H1 s2 => ?_⟩
    · have hD1 : H1 D = some (.lst ((a :: r).map V.str)) := s2 _ _ upd_same
      have sA := s1.trans s2
      have rn : rd mi a r = none := by
        unfold rd
        rw [c1]
        rfl
      cases hr' : r with
      | nil =>
        subst hr'
        refine ⟨_, rfl, D, _, rfl, .inl (SqL.of hD1), rfl, _, rfl, if_true_of (decide_eq_true rfl) ?_⟩
        exact ⟨_, rfl, D, _, rfl, .inl (SqL.of hD1), _, _, rfl, rfl, _, rfl, if_false_of (decide_eq_false (show ¬ (2 : Int) < ((List.map V.str [a]).length : Int) by simp)) ⟨_, rfl, rfl, _, rfl, if_true_of (decide_eq_true rfl) (qn rn _ sA)⟩⟩
      | cons b r' =>
        refine ⟨_, rfl, D, _, rfl, .inl (SqL.of hD1), rfl, _, rfl, if_false_of (len1 b r' hr') ⟨_, rfl, D, _, 1, _, rfl, rfl, SqL.of hD1, at1 b r' hr', b, 4, rfl, by decide, lp b (by rw [hr']; simp), fun c2 H2 s3 => ?_, fun c2 H2 s3 => ?_⟩⟩
        · refine ⟨_, rfl, D, _, rfl, .inl (SqL.of (s3 _ _ hD1)), _, _, rfl, rfl, _, rfl, ?_⟩
          cases hr2 : r' with
          | nil => exact if_false_of (lenF b (hr'.trans (by rw [hr2]))) ⟨_, rfl, rfl, _, rfl, if_true_of (decide_eq_true rfl) (qn rn _ (sA.trans s3))⟩
          | cons c r2 => exact if_true_of (lenT b c r2 (hr'.trans (by rw [hr2]))) (qn rn _ (sA.trans s3))
        · refine ⟨_, rfl, D, _, rfl, .inl (SqL.of (s3 _ _ hD1)), _, _, rfl, rfl, _, rfl, ?_⟩
          cases hr2 : r' with
          | nil => exact if_false_of (lenF b (hr'.trans (by rw [hr2]))) ⟨_, rfl, rfl, _, rfl, if_true_of (decide_eq_true rfl) (qn rn _ (sA.trans s3))⟩
          | cons c r2 => exact if_true_of (lenT b c r2 (hr'.trans (by rw [hr2]))) (qn rn _ (sA.trans s3))
    · have hD1 : H1 D = some (.lst ((a :: r).map V.str)) := s2 _ _ upd_same
      have sA := s1.trans s2
      have z1 := zero_iff c1
      cases hr' : r with
      | nil =>
        subst hr'
        refine ⟨_, rfl, D, _, rfl, .inl (SqL.of hD1), rfl, _, rfl, if_true_of (decide_eq_true rfl) ?_⟩
        refine ⟨_, rfl, D, _, rfl, .inl (SqL.of hD1), _, _, rfl, rfl, _, rfl, if_false_of (decide_eq_false (show ¬ (2 : Int) < ((List.map V.str [a]).length : Int) by simp)) ⟨_, rfl, rfl, _, rfl, if_false_of (decide_eq_false (by simp)) ⟨_, rfl, rfl, _, rfl, if_false_of (decide_eq_false (by simp)) ?_⟩⟩⟩
        refine ⟨_, rfl, _, _, rfl, rfl, _, rfl, if_true_of (decide_eq_true (by decide)) ⟨_, _, rfl, rfl, _, rfl, ?_⟩⟩
        rw [decide_eq_true (show (1 : Int) ≤ 1000 by decide)]
        have lo := lowOk 1 (by decide) (by decide)
        have r1 : mi = true → a = "0" → rd mi a [] = none := fun h1 h2 => by
          unfold rd
          rw [c1, h1, decide_eq_true h2]
          rfl
        have r2 : mi = false → rd mi a [] = some (numOf a, 1) := fun h1 => by
          unfold rd
          rw [c1, h1]
          rfl
        have r3 : mi = true → a ≠ "0" → rd mi a [] = some (-numOf a, 1) := fun h1 h2 => by
          unfold rd
          rw [c1, h1, decide_eq_false h2]
          rfl
        refine iteF ⟨_, rfl, mi, rfl, ?_⟩
        cases hmi : mi with
        | false =>
          refine iteF (iteF ⟨_, rfl, _, rfl, iteF ⟨_, rfl, _, rfl, _, _, rfl, lo.1, lo.2, fun p t u hp rr e _ _ => ?_⟩⟩)
          exact qs _ _ (r2 hmi) p t u _ ((sA).trans (Same.upd hp)) (none_of (sA) hp) rr e upd_same
        | true =>
          refine iteT ⟨_, rfl, rfl, _, rfl, ?_⟩
          by_cases c5 : numOf a = 0
          · exact if_true_of (decide_eq_true (congrArg V.int c5)) (qn (r1 hmi (z1.mp c5)) _ (sA))
          · refine if_false_of (decide_eq_false fun y => c5 (V.int.inj y)) ⟨_, rfl, _, rfl, iteT ⟨_, rfl, _, _, rfl, rfl, _, rfl, _, _, rfl, lo.1, lo.2, fun p t u hp rr e _ _ => ?_⟩⟩
            rw [Int.zero_sub] at e
            exact qs _ _ (r3 hmi fun y => c5 (z1.mpr y)) p t u _ ((sA).trans (Same.upd hp)) (none_of (sA) hp) rr e upd_same
      | cons b r' =>
        refine ⟨_, rfl, D, _, rfl, .inl (SqL.of hD1), rfl, _, rfl, if_false_of (len1 b r' hr') ⟨_, rfl, D, _, 1, _, rfl, rfl, SqL.of hD1, at1 b r' hr', b, 4, rfl, by decide, lp b (by rw [hr']; simp), fun c2 H2 s3 => ?_, fun c2 H2 s3 => ?_⟩⟩
        · have rn : rd mi a r = none := by
            rw [hr']
            cases r' with
            | nil =>
              rw [rd1 c1, c2]
              exact ite_self _
            | cons c r2 => exact rd2 c1
          refine ⟨_, rfl, D, _, rfl, .inl (SqL.of (s3 _ _ hD1)), _, _, rfl, rfl, _, rfl, ?_⟩
          cases hr2 : r' with
          | nil => exact if_false_of (lenF b (hr'.trans (by rw [hr2]))) ⟨_, rfl, rfl, _, rfl, if_false_of (decide_eq_false (by simp)) ⟨_, rfl, rfl, _, rfl, if_true_of (decide_eq_true rfl) (qn rn _ (sA.trans s3))⟩⟩
          | cons c r2 => exact if_true_of (lenT b c r2 (hr'.trans (by rw [hr2]))) (qn rn _ (sA.trans s3))
        · refine ⟨_, rfl, D, _, rfl, .inl (SqL.of (s3 _ _ hD1)), _, _, rfl, rfl, _, rfl, ?_⟩
          cases hr2 : r' with
          | cons c r2 =>
            refine if_true_of (lenT b c r2 (hr'.trans (by rw [hr2]))) (qn ?_ _ (sA.trans s3))
            rw [hr', hr2]
            exact rd2 c1
          | nil =>
            have er : r = [b] := hr'.trans (by rw [hr2])
            refine if_false_of (lenF b er) ⟨_, rfl, rfl, _, rfl, if_false_of (decide_eq_false (by simp)) ⟨_, rfl, rfl, _, rfl, if_false_of (decide_eq_false (by simp)) ?_⟩⟩
            have bad : (decide (1 ≤ numOf b) && decide (numOf b ≤ 1000)) = false → rd mi a r = none := fun h => by
              rw [er, rd1 c1, c2, h]
              exact ite_self _
            refine ⟨_, rfl, _, _, rfl, rfl, _, rfl, ?_⟩
            by_cases b1 : 1 ≤ numOf b
            · refine if_true_of (decide_eq_true b1) ⟨_, _, rfl, rfl, _, rfl, ?_⟩
              by_cases b2 : numOf b ≤ 1000
              · rw [decide_eq_true b2]
                have lo := lowOk (numOf b) b1 b2
                have r1 : mi = true → a = "0" → rd mi a r = none := fun h1 h2 => by
                  unfold rd
                  rw [c1, h1, decide_eq_true h2]
                  rfl
                have r2 : mi = false → rd mi a r = some (numOf a, numOf b) := fun h1 => by
                  rw [er, rd1 c1, h1, c2, decide_eq_true b1, decide_eq_true b2]
                  rfl
                have r3 : mi = true → a ≠ "0" → rd mi a r = some (-numOf a, numOf b) := fun h1 h2 => by
                  rw [er, rd1 c1, h1, decide_eq_false h2, c2, decide_eq_true b1, decide_eq_true b2]
                  rfl
                refine iteF ⟨_, rfl, mi, rfl, ?_⟩
                cases hmi : mi with
                | false =>
                  refine iteF (iteF ⟨_, rfl, _, rfl, iteF ⟨_, rfl, _, rfl, _, _, rfl, lo.1, lo.2, fun p t u hp rr e _ _ => ?_⟩⟩)
                  exact qs _ _ (r2 hmi) p t u _ ((sA.trans s3).trans (Same.upd hp)) (none_of (sA.trans s3) hp) rr e upd_same
                | true =>
                  refine iteT ⟨_, rfl, rfl, _, rfl, ?_⟩
                  by_cases c5 : numOf a = 0
                  · exact if_true_of (decide_eq_true (congrArg V.int c5)) (qn (r1 hmi (z1.mp c5)) _ (sA.trans s3))
                  · refine if_false_of (decide_eq_false fun y => c5 (V.int.inj y)) ⟨_, rfl, _, rfl, iteT ⟨_, rfl, _, _, rfl, rfl, _, rfl, _, _, rfl, lo.1, lo.2, fun p t u hp rr e _ _ => ?_⟩⟩
                    rw [Int.zero_sub] at e
                    exact qs _ _ (r3 hmi fun y => c5 (z1.mpr y)) p t u _ ((sA.trans s3).trans (Same.upd hp)) (none_of (sA.trans s3) hp) rr e upd_same
              · rw [decide_eq_false b2]
                refine iteT (qn (bad ?_) _ (sA.trans s3))
                rw [decide_eq_false b2, Bool.and_false]
            · refine if_false_of (decide_eq_false b1) ⟨_, rfl, iteT (qn (bad ?_) _ (sA.trans s3))⟩
              rw [decide_eq_false b1, Bool.false_and]
end
end K03

set_option Elab.async false
set_option linter.all false
set_option maxRecDepth 100000
set_option maxHeartbeats 4000000
set_option exponentiation.threshold 100000
namespace K03
open PySem PySem.Spec PyProof.Rows L2 Fa Fb NumText TL
theorem ofs_app (a b : String) : Str.ofString (a ++ b) = Str.ofString a ++ Str.ofString b := by
  rw [Str.ofString_eq_toList, Str.ofString_eq_toList, Str.ofString_eq_toList, String.toList_append, List.map_append]
  show _ = (⟨_ ++ _⟩ : Str)
  simp
theorem dec_neg {n : Int} (h : n < 0) : dec n = ("-" : Str) ++ dec (0 - n) := by
  unfold dec
  rw [toString_neg h, ofs_app]
theorem line_amt (t u : Int) : lineS t u = amtS t u := by
  unfold lineS amtS
  by_cases h : t < 0
  · rw [if_pos h, dec_neg h, show ((t.natAbs : Nat) : Int) = 0 - t by omega]
  · rw [if_neg h, nil_app, show ((t.natAbs : Nat) : Int) = t by omega]
theorem amt_one (t : Int) : amtS t 1 = dec t := by
  rw [← line_amt]
  unfold lineS
  rw [if_pos rfl]
  have e : ("" : Str) = ⟨#[]⟩ := by decide +kernel
  rw [e]
  show (⟨(dec t).cps ++ #[]⟩ : Str) = dec t
  simp
end K03

set_option Elab.async false
set_option linter.all false
set_option maxRecDepth 100000
set_option maxHeartbeats 4000000
set_option exponentiation.threshold 100000
namespace K03
open PySem PySem.Spec PyProof.Rows L2 Fa Fb NumText TL
theorem _root_.Fa.Box.ne {H : Hp} {p l : Addr} {n : Nat} (b : Box H p n) (hl : H l = none) : p ≠ l := by
  obtain ⟨_, _, _, h, _⟩ := b
  exact ne_of_none h hl
theorem _root_.Fa.Box.upd {H : Hp} {p l : Addr} {n : Nat} {o : HO} (b : Box H p n) (hl : H l = none) : Box (upd H l o) p n := by
  have ne := b.ne hl
  obtain ⟨x, y, z, h, r⟩ := b
  exact ⟨x, y, z, by rw [upd_ne ne]; exact h, r⟩
theorem _root_.Fa.Box.same {H H' : Hp} {p : Addr} {n : Nat} (b : Box H p n) (s : Same H H') : Box H' p n := by
  obtain ⟨x, y, z, h, r⟩ := b
  exact ⟨x, y, z, s _ _ h, r⟩
theorem atI_in {α : Type} {xs : List α} {z : Int} (h0 : 0 ≤ z) (h1 : z < (xs.length : Int)) : ∃ v, atI xs z = some v ∧ v ∈ xs := by
  obtain ⟨j, rfl⟩ := Int.eq_ofNat_of_zero_le h0
  have hj : j < xs.length := by omega
  exact ⟨xs[j], atI_nat (List.getElem?_eq_getElem hj), List.getElem_mem hj⟩
theorem _root_.Fa.Box.sm {H H' : Hp} {p : Addr} {n : Nat} (b : Box H p n) (s : Same H H') : Box H' p n := by
  obtain ⟨x, y, z, h, r⟩ := b
  exact ⟨x, y, z, s _ _ h, r⟩
/-- all but p stays -/
def Kp (p : Addr) (H H' : Hp) : Prop := ∀ q o, q ≠ p → H q = some o → H' q = some o
theorem Kp.refl (p : Addr) (H : Hp) : Kp p H H := fun _ _ _ h => h
theorem Kp.trans {p : Addr} {H H1 H2 : Hp} (a : Kp p H H1) (b : Kp p H1 H2) : Kp p H H2 := fun q o n h => b q o n (a q o n h)
theorem Kp.but {p : Addr} {H H' : Hp} (h : But p H H') : Kp p H H' := fun q o n z => by rw [h q n]; exact z
theorem Kp.same {p : Addr} {H H' : Hp} (h : Same H H') : Kp p H H' := fun q o _ z => h q o z
theorem pss_imp {X : Cx} {b : List Stmt} {u S : TS} (h : PSs X b u) (k : ∀ D σ H, S D σ H → u D σ H) : PSs X b S := ⟨fun pn s σ H D I z => h.run pn s σ H D I (k D σ H z)⟩
def tailS (p : Addr) : TS := fun D σ H5 => ∃ (sc : Str) (i m : Nat) (w1 w2 w3 w4 w5 w8 w9 w10 : Option V), i < 3 ∧ σ = [some (.ref p), w1, w2, w3, w4, w5, some (.str sc), some (.int (i : Int)), w8, w9, w10] ∧ sc.length ≤ 100 ∧ Box H5 p m ∧ m + 2 ≤ 1000000 ∧
  ∀ (s' : Str) (gc v10 : V) (H' : Hp), s'.length + 1 ≤ 2 * (sc.length + 1) → Box H' p (m + 2) → Kp p H5 H' → D.nx [some (.ref p), w1, w2, w3, some gc, w5, some (.str s'), some (.int (i : Int)), w8, w9, some v10] H'
theorem cut_of {R : Hp → Prop} {G : Prop} {S : Hp → Prop} (k : (∀ H5, S H5 → R H5) → G) (r : ∀ H5, S H5 → R H5) : G := k r
theorem part_len (z : Str) : (Txt.partition z "/").1.length ≤ z.length ∧ (Txt.partition z "/").2.2.length ≤ z.length := by
  obtain ⟨a, r, hp, rfl⟩ := parts_of z
  have h1 := join_len a r a (by simp)
  rw [tl_len, tl_len] at h1
  show (Txt.partition (Str.join SL (a :: r)) SL).1.length ≤ _ ∧ (Txt.partition (Str.join SL (a :: r)) SL).2.2.length ≤ _
  rw [part_parts hp]
  cases r with
  | nil => exact ⟨h1, Nat.zero_le _⟩
  | cons b r =>
    refine ⟨h1, ?_⟩
    have e : tl (Str.join SL (a :: b :: r)) = tl a ++ tl SL ++ tl (Str.join SL (b :: r)) := by
      show tl (a ++ SL ++ Str.join SL (b :: r)) = _
      rw [tl_append, tl_append]
    have e2 := congrArg List.length e
    rw [tl_len, List.length_append, List.length_append, tl_len (Str.join SL (b :: r))] at e2
    show (Str.join SL (b :: r)).length ≤ _
    omega
def RdV (z : Str) (v : V) (H : Hp) : Prop := (amtOf z = none ∧ v = .non) ∨ ∃ a b p t u, amtOf z = some (a, b) ∧ v = .ref p ∧ Am.Red t u ∧ t * b = a * u ∧ H p = some (.tup [.int t, .int u])
def FdV (K : PySem.W.Frag) (z : Str) (v : V) (H : Hp) : Prop := (amtOf z = none ∧ v = .non) ∨ ∃ a b t u, amtOf z = some (a, b) ∧ IsA K H v t u 64 ∧ t * b = a * u
theorem read_imp {z : Str} {H : Hp} {Q : VK} (hz : z.length ≤ 2000) (h : ∀ v H', Same H H' → RdV z v H' → Q v H') : z.length ≤ 2000 ∧ (amtOf z = none → ∀ H', Same H H' → Q .non H') ∧
  ∀ a b, amtOf z = some (a, b) → ∀ p t u H', Same H H' → H p = none → Am.Red t u → t * b = a * u → H' p = some (.tup [.int t, .int u]) → Q (.ref p) H' :=
  ⟨hz, fun c H' s => h _ H' s (.inl ⟨c, rfl⟩), fun a b c p t u H' s hp rd e hd => h _ H' s (.inr ⟨a, b, p, t, u, c, rfl, rd, e, hd⟩)⟩
theorem amtof_imp {K : PySem.W.Frag} {z : Str} {H : Hp} {Q : VK} (hz : z.length ≤ 2000) (h : ∀ v H', Same H H' → FdV K z v H' → Q v H') :
  z.length ≤ 2000 ∧ (Txt.partition z "/").1.length ≤ 2000 ∧ (Txt.partition z "/").2.2.length ≤ 2000 ∧ (amtOf z = none → ∀ H', Same H H' → Q .non H') ∧
  ∀ a b, amtOf z = some (a, b) → ∀ y H' t u, Same H H' → IsA K H' y t u 64 → t * b = a * u → Q y H' :=
  ⟨hz, Nat.le_trans (part_len z).1 hz, Nat.le_trans (part_len z).2 hz, fun c H' s => h _ H' s (.inl ⟨c, rfl⟩), fun a b c y H' t u s iy e => h _ H' s (.inr ⟨a, b, t, u, c, iy, e⟩)⟩
theorem amtOf_pos {z : Str} {a b : Int} (h : amtOf z = some (a, b)) : 0 < b := by
  unfold amtOf at h
  split at h
  · cases h
  · split at h
    · cases h
      decide
    · split at h
      · cases h
      · rename_i c
        cases h
        simp at c
        omega
theorem eqv_pair (a b : Int) : PyData.eqv (.tuple [.int a, .int b]) (.tuple [.int a, .int b]) = true := by simp [PyData.eqv, PyData.eqvAll]
abbrev sLines : Stmt := top 43
theorem scLines : FnScope ["_law_box_here", "_law_top", "_law_bottom", "_law_low", "_law_sign", "_law_wide", "_law_line_here", "_law_lap", "_law_due", "_law_found", "_law_at"] ["_law_box_here"] (defScope sLines) := ⟨rfl, rfl, rfl, by decide +kernel, rfl, by decide +kernel, by decide +kernel⟩
def spLines : Sp := fun vs H Q _ => ∃ (p : Addr) (n : Nat), vs = [.ref p] ∧ Box H p n ∧ n + 20 ≤ 1000000 ∧ ∀ H', Box H' p (n + 20) → Kp p H H' → Q (.bl true) H'
/-- a function that raises nothing -/
structure Fn0 (P : Program) (w : World) (K : PySem.W.Frag) (mg : Str → Option Value) (base : Heap) (x : Str) (lev : Nat) (ps : List Str) (sp : Sp) (f : Addr) (fd : FuncData) : Prop where
  ok : FnOk P w K mg base CX0 lev f fd ps sp
  g : mg x = some (.ref f)
  k : PySem.W.keepIn K (.ref f) = true
  b : Binds K fd ps []
section
variable {P : Program} {w : World} {K : PySem.W.Frag} {mg : Str → Option Value} {base : Heap} {f fT fL fI fA fN fR fO pT pB fTo fBo : Addr} {fd fdT fdL fdI fdA fdN fdR fdO fdTo fdBo : FuncData}
theorem ok_lines (F : FnP K "_law_lines_right" sLines f fd) (T : AF K mg) (mL : mg "len" = none) (mS : mg "str" = none) (mG : mg "range" = none)
    (GT : Fn0 P w K mg base "_law_take" 1 ["_law_box_here", "_law_many"] spTake fT fdT) (GL : Fn P w K mg base "_law_lowest" 1 ["_law_top", "_law_bottom"] spLow fL fdL) (GN : Fn P w K mg base "_law_line" 1 ["_law_top", "_law_bottom"] spLine fN fdN)
    (GR : Fn P w K mg base "_law_read" 2 ["_law_line_here"] spRead fR fdR) (GO : Fn P w K mg base "amount_of" 6 ["text"] (spAmtOf K) fO fdO) (GA : Fn P w K mg base "amount_text" 7 ["amount"] (spAmt K) fA fdA)
    (GI : FnOk P w K mg base (L2.CX P w) 4 (aI K) fdI ["self", "top", "bottom"] (spInit K)) (bI : Binds K fdI ["self", "top", "bottom"] [])
    (R1 : PrF P w K mg base "top" "_top" pT fTo fdTo) (R2 : PrF P w K mg base "bottom" "_bottom" pB fBo fdBo) :
    FnOk P w K mg base (L2.CX P w) 8 f fd ["_law_box_here"] spLines := by
  refine F.ok scLines (fun vs H Q E h => ?_) (fun cdv A outer s H vs Q E hr h => ?_)
  · obtain ⟨p, n, rfl, _⟩ := h
    rfl
  · obtain ⟨p, n, rfl, hb, hn, q⟩ := h
    have hr1 := hr.mono (show 1 ≤ 7 by decide)
    have hr2 := hr.mono (show 2 ≤ 7 by decide)
    have hr5 := hr.mono (show 5 ≤ 7 by decide)
    have hr6 := hr.mono (show 6 ≤ 7 by decide)
    have hu : (A.deeper (envOfC "_law_lines_right" (defScope sLines) s.heap.objs.size f cdv)).units + 64 < cLine := by
      have := hr.un
      omega
    refine ⟨_, (pss_cons (ps_par (by rfl) scLines.nd (i := 1) (j := 2) rfl rfl (by decide) rfl rfl (pa_cons (pe_op op_sub (pe_call GT.ok hr1 rfl GT.g GT.k GT.b .nil pass0 (pa_cons (pv 0) (pa_cons (pe_op op_pow pe_int pe_int) pa_nil))) (pe_op op_pow pe_int pe_int)) (pa_cons (pe_op op_add pe_int (pe_call GT.ok hr1 rfl GT.g GT.k GT.b .nil pass0 (pa_cons (pv 0) (pa_cons (pe_ix ix_list (pe_lst (pa_cons pe_int (pa_cons pe_int (pa_cons (pe_op op_pow pe_int pe_int) pa_nil)))) (pe_call GT.ok hr1 rfl GT.g GT.k GT.b .nil pass0 (pa_cons (pv 0) (pa_cons pe_int pa_nil))) (fun _ _ => rfl)) pa_nil)))) pa_nil)) (by rfl))
      (pss_cons (ps_set (i := 3) scLines.nd rfl (Or.inl rfl) (pe_call GL.ok hr1 rfl GL.g GL.k GL.b .nil passL (pa_cons (pv 1) (pa_cons (pv 2) pa_nil))))
      (pss_cons (ps_if (PW.pt (pw_or (pt_cmpR op_ne (pe_call GA.ok hr rfl GA.g GA.k GA.b .nil passL (pa_cons (pe_make T.mkA GI hr5 rfl T.g bI .nil passL (pa_cons (pv 1) (pa_cons (pv 2) pa_nil))) pa_nil)) (pe_call GN.ok hr1 rfl GN.g GN.k GN.b .nil passL (pa_cons (pe_ix ix_tup (pv 3) pe_int (fun _ _ => rfl)) (pa_cons (pe_ix ix_tup (pv 3) pe_int (fun _ _ => rfl)) pa_nil))) (nomark _)) (pw_or1 (pt_cmpR op_ne (pe_call GA.ok hr rfl GA.g GA.k GA.b .nil passL (pa_cons (pv 1) pa_nil)) (pe_callTy call_str_int rfl mS boot_str (pa_cons (pv 1) pa_nil)) (nomark _))))) (pss_one (ps_ret pe_bl)) pss_nil)
      (pss_cons (ps_par (by rfl) scLines.nd (i := 4) (j := 5) rfl rfl (by decide) rfl rfl (pa_cons (pe_ix ix_list (pe_lst (pa_cons pe_int (pa_cons (pe_op op_sub pe_int pe_int) pa_nil))) (pe_call GT.ok hr1 rfl GT.g GT.k GT.b .nil pass0 (pa_cons (pv 0) (pa_cons pe_int pa_nil))) (fun _ _ => rfl)) (pa_cons (pe_ix ix_list (pe_lst (pa_cons pe_int (pa_cons pe_int pa_nil))) (pe_call GT.ok hr1 rfl GT.g GT.k GT.b .nil pass0 (pa_cons (pv 0) (pa_cons pe_int pa_nil))) (fun _ _ => rfl)) pa_nil)) (by rfl))
      (pss_cons (ps_set (i := 6) scLines.nd rfl (Or.inl rfl) (pe_call GN.ok hr1 rfl GN.g GN.k GN.b .nil passL (pa_cons (pe_op op_mul (pe_call GT.ok hr1 rfl GT.g GT.k GT.b .nil pass0 (pa_cons (pv 0) (pa_cons (pe_op op_pow pe_int pe_int) pa_nil))) (pv 4)) (pa_cons (pe_op op_add pe_int (pe_call GT.ok hr1 rfl GT.g GT.k GT.b .nil pass0 (pa_cons (pv 0) (pa_cons (pv 5) pa_nil)))) pa_nil))))
      (pss_cons (ps_for (passes_of rfl) rfl (pi_range1 rfl mG (pa_cons pe_int pa_nil)) (pg_name (i := 7) scLines.nd rfl (Or.inl rfl))
      (pss_cons (ps_par (by rfl) scLines.nd (i := 8) (j := 9) rfl rfl (by decide) rfl rfl (pa_cons (pe_call GR.ok hr2 rfl GR.g GR.k GR.b .nil passL (pa_cons (pv 6) pa_nil)) (pa_cons (pe_call GO.ok hr6 rfl GO.g GO.k GO.b .nil passL (pa_cons (pv 6) pa_nil)) pa_nil)) (by rfl))
      (pss_cons (ps_if (pt_cmpR op_ne (pe_cmpR op_isN (pv 9) pe_non (nomark _)) (pe_cmpR op_isN (pv 8) pe_non (nomark _)) (nomark _)) (pss_one (ps_ret pe_bl)) pss_nil)
      (pss_cons (ps_if (PW.pt (pw_and (pt_cmpR op_notN (pv 8) pe_non (nomark _)) (pw_and1 (pt_cmpR (op_neD hu) (pe_tup (pa_cons (pe_prop (pv 9) T.cl R1.pr R1.ok hr2 R1.bi .nil passL rfl) (pa_cons (pe_prop (pv 9) T.cl R2.pr R2.ok hr2 R2.bi .nil passL rfl) pa_nil))) (pv 8) (nomark _))))) (pss_one (ps_ret pe_bl)) pss_nil)
      (pss_imp (S := tailS p) (pss_cons (ps_par (by rfl) scLines.nd (i := 10) (j := 4) rfl rfl (by decide) rfl rfl (pa_cons (pe_call GT.ok hr1 rfl GT.g GT.k GT.b .nil pass0 (pa_cons (pv 0) (pa_cons (pe_op op_add (pe_callB call_len_str rfl mL PySem.boot_len (pa_cons (pv 6) pa_nil)) pe_int) pa_nil))) (pa_cons (pe_ix ix_str pe_str (pe_call GT.ok hr1 rfl GT.g GT.k GT.b .nil pass0 (pa_cons (pv 0) (pa_cons pe_int pa_nil))) (fun _ _ => rfl)) pa_nil)) (by rfl))
      (pss_one (ps_set (i := 6) scLines.nd rfl (Or.inl rfl) (pe_ix ix_list (pe_lst (pa_cons (pe_op op_add_str (pe_op op_add_str (pe_slice sl_str (pv 6) po_none (po_some (pv 10))) (pv 4)) (pe_slice sl_str (pv 6) (po_some (pv 10)) po_none)) (pa_cons (pe_op op_add_str (pe_slice sl_str (pv 6) po_none (po_some (pv 10))) (pe_slice sl_str (pv 6) (po_some (pe_op op_add (pv 10) pe_int)) po_none)) (pa_cons (pe_op op_add_str (pe_op op_add_str (pe_slice sl_str (pv 6) po_none (po_some (pv 10))) (pv 4)) (pe_slice sl_str (pv 6) (po_some (pe_op op_add (pv 10) pe_int)) po_none)) pa_nil)))) (pv 7) (fun _ _ => rfl))))) ?tail)))))
      (pss_one (ps_ret pe_bl)))))))), ?_⟩
    case tail =>
      rintro D σ H5 ⟨sc, i, m, w1, w2, w3, w4, w5, w8, w9, w10, hi, rfl, lc, hb5, hm, q5⟩
      have sl : 2000 ≤ sizeLine := by decide
      refine ⟨_, rfl, _, rfl, sc, rfl, by omega, _, _, rfl, rfl, p, _, m, rfl, hb5, by omega, by omega, ?_, fun z8 H8 z80 z81 b8 k8 => ?_⟩
      · exact Int.lt_of_le_of_lt (show (sc.length : Int) + 1 ≤ 101 by omega) (by decide)
      refine ⟨_, rfl, p, _, m + 1, rfl, b8, by omega, by decide, by decide, fun z9 H9 z90 z91 b9 k9 => ?_⟩
      have l17 : (("0123456789-/+ ._a" : Str).cps.toList).length = 17 := by decide +kernel
      obtain ⟨c, hc, _⟩ := atI_in (xs := ("0123456789-/+ ._a" : Str).cps.toList) z90 (by rw [l17]; exact z91)
      refine ⟨_, _, _, rfl, rfl, Nat.le_trans (show (("0123456789-/+ ._a" : Str)).length ≤ 2000 by decide +kernel) sl, hc, _, _, rfl, ?_⟩
      have c1 : ∀ lo hi, (cutS sc lo hi).length ≤ sc.length := cutS_length sc
      have l1 : (⟨#[c]⟩ : Str).length = 1 := rfl
      have ap : ∀ a b : Str, (a ++ b).length = a.length + b.length := fun a b => by
        show (a.cps ++ b.cps).size = _
        rw [Array.size_append]
        rfl
      refine ⟨_, rfl, _, rfl, _, rfl, sc, rfl, by omega, _, rfl, _, _, rfl, rfl, ?_, _, rfl, _, rfl, _, rfl, sc, rfl, by omega, _, _, rfl, rfl, ?_, ?_⟩
      · have := c1 none (some z8)
        rw [l1]
        omega
      · have h1 := c1 none (some z8)
        have h2 := c1 (some z8) none
        rw [ap, l1]
        omega
      refine ⟨_, rfl, _, rfl, _, rfl, sc, rfl, by omega, _, rfl, _, rfl, _, _, rfl, rfl, _, rfl, sc, rfl, by omega, _, _, rfl, rfl, ?_, ?_⟩
      · have h1 := c1 none (some z8)
        have h2 := c1 (some (z8 + 1)) none
        omega
      refine ⟨_, rfl, _, rfl, _, rfl, sc, rfl, by omega, _, rfl, _, _, rfl, rfl, ?_, _, rfl, _, rfl, _, _, rfl, rfl, _, rfl, sc, rfl, by omega, _, _, rfl, rfl, ?_, ?_⟩
      · have := c1 none (some z8)
        rw [l1]
        omega
      · have h1 := c1 none (some z8)
        have h2 := c1 (some (z8 + 1)) none
        rw [ap, l1]
        omega
      refine ⟨by show 3 ≤ sizeLine; decide, fun l hl => ?_⟩
      have kp : ∀ o, Kp p H5 (upd H9 l o) := fun o => (Kp.but k8).trans ((Kp.but k9).trans (Kp.same (Same.upd hl)))
      have hA : ((cutS sc none (some z8) ++ (⟨#[c]⟩ : Str)) ++ cutS sc (some z8) none).length + 1 ≤ 2 * (sc.length + 1) := by
        have h1 := c1 none (some z8)
        have h2 := c1 (some z8) none
        rw [ap, ap, l1]
        omega
      have hB : (cutS sc none (some z8) ++ cutS sc (some (z8 + 1)) none).length + 1 ≤ 2 * (sc.length + 1) := by
        have h1 := c1 none (some z8)
        have h2 := c1 (some (z8 + 1)) none
        rw [ap]
        omega
      have hC : ((cutS sc none (some z8) ++ (⟨#[c]⟩ : Str)) ++ cutS sc (some (z8 + 1)) none).length + 1 ≤ 2 * (sc.length + 1) := by
        have h1 := c1 none (some z8)
        have h2 := c1 (some (z8 + 1)) none
        rw [ap, ap, l1]
        omega
      have i3 : i = 0 ∨ i = 1 ∨ i = 2 := by omega
      rcases i3 with rfl | rfl | rfl
      · exact ⟨_, rfl, l, _, _, _, rfl, rfl, SqL.of upd_same, rfl, q5 _ _ _ _ hA (b9.upd hl) (kp _)⟩
      · exact ⟨_, rfl, l, _, _, _, rfl, rfl, SqL.of upd_same, rfl, q5 _ _ _ _ hB (b9.upd hl) (kp _)⟩
      · exact ⟨_, rfl, l, _, _, _, rfl, rfl, SqL.of upd_same, rfl, q5 _ _ _ _ hC (b9.upd hl) (kp _)⟩
    refine ⟨_, rfl, _, _, rfl, rfl, ⟨by decide, by decide, by decide⟩, p, _, n, rfl, hb, by omega, by decide, by decide, fun a H1 a0 a1 b1 k1 => ?_⟩
    refine ⟨_, _, rfl, rfl, ⟨by decide, by decide, by decide⟩, _, _, rfl, rfl, ?_⟩
    refine ⟨_, rfl, _, _, rfl, rfl, ⟨by decide, by decide, by decide⟩, (by show 3 ≤ sizeLine; decide), fun l hl => ?_⟩
    refine ⟨_, rfl, p, _, n + 1, rfl, b1.upd hl, by omega, by decide, by decide, fun z2 H2 z20 z21 b2 k2 => ?_⟩
    have hl2 : H2 l = some (.lst [.int 9, .int 1000, .int (10 ^ 20)]) := by rw [k2 l (b1.ne hl).symm]; exact upd_same
    obtain ⟨v1, e1, m1⟩ := atI_in (xs := [V.int 9, V.int 1000, V.int (10 ^ 20)]) z20 z21
    obtain ⟨m, rfl, hm0, hm1⟩ : ∃ m : Int, v1 = V.int m ∧ 0 < m ∧ m ≤ 10 ^ 20 := by
      simp only [List.mem_cons, List.not_mem_nil, or_false] at m1
      rcases m1 with rfl | rfl | rfl
      · exact ⟨_, rfl, by decide, by decide⟩
      · exact ⟨_, rfl, by decide, by decide⟩
      · exact ⟨_, rfl, by decide, by decide⟩
    refine ⟨l, _, _, _, rfl, rfl, SqL.of hl2, e1, ?_⟩
    refine ⟨p, _, n + 2, rfl, b2, by omega, hm0, Int.lt_of_le_of_lt hm1 (by decide), fun z3 H3 z30 z31 b3 k3 => ?_⟩
    refine ⟨_, _, rfl, rfl, ?_⟩
    have a2 : a < 10 ^ 29 := a1
    have dA : (a - 10 ^ 28).natAbs < 10 ^ 59 := by omega
    have dB : (1 + z3).natAbs < 10 ^ 59 := by omega
    have dN : (1 : Int) + z3 ≠ 0 := by omega
    have w (n : Nat) (h : n < 10 ^ 59) : n < 2 ^ 199 := Nat.lt_of_lt_of_le h (by decide)
    refine ⟨_, _, rfl, _, rfl, _, rfl, _, _, rfl, dN, Nat.lt_of_lt_of_le (w _ dB) (Nat.pow_le_pow_right (by decide) (by decide)), fun r t u hr rd1 et tl ul => ?_⟩
    have s4 := Same.upd (o := .tup [.int t, .int u]) hr
    refine ⟨_, rfl, _, rfl, fun y dy hy hdy hne => spInit_imp (make_fact T (n := 199) dN (by decide) (w _ dA) (w _ dB) hy hdy hne) fun v0 H5 ⟨hv0, t2, u2, s5, iy, e2⟩ => ⟨hv0, ?_⟩⟩
    have ro : 2 ^ 199 ≤ 10 ^ 60 := by decide
    have iy2 := iy
    obtain ⟨_, _, _, _, rd2, tw, uw⟩ := iy
    have e2x : t2 * (1 + z3) = (a - 10 ^ Int.toNat 28) * u2 := e2
    have en := Am.uniq rd1 rd2 (Int.eq_of_mul_eq_mul_right dN (by
      rw [Int.mul_right_comm, et, Int.mul_right_comm, ← e2x, Int.mul_right_comm]))
    obtain ⟨rfl, rfl⟩ := en
    refine ⟨_, rfl, .inr ⟨t, u, 199, .inl iy2, Nat.lt_of_lt_of_le tw ro, by omega, fun H6 s6 => ?_⟩⟩
    have sA := s4.trans (s5.trans s6)
    have hr6 : H6 r = some (.tup [.int t, .int u]) := (s5.trans s6) _ _ upd_same
    refine ⟨_, rfl, r, _, 0, _, rfl, rfl, SqT.of hr6, rfl, ?_⟩
    refine ⟨_, rfl, r, _, 1, _, rfl, rfl, SqT.of hr6, rfl, ?_⟩
    refine ⟨t, u, rfl, Nat.lt_of_lt_of_le tw ro, Nat.lt_of_lt_of_le uw ro, ?_⟩
    refine ⟨rfl, _, rfl, ?_⟩
    rw [line_amt, decide_eq_true rfl]
    refine iteF ?_
    have dA6 : (a - 10 ^ 28).natAbs < 10 ^ 60 := Nat.lt_trans dA (by decide)
    refine ⟨_, rfl, _, rfl, .inr ⟨a - 10 ^ 28, 1, 199, .inr ⟨rfl, rfl, w _ dA, by decide⟩, dA6, by decide, fun H7 s7 => ?_⟩⟩
    refine ⟨_, rfl, _, rfl, log60 dA6, rfl, _, rfl, ?_⟩
    rw [amt_one]
    refine if_false_of (by
      have e : decide (V.str (dec (a - 10 ^ 28)) = V.str (dec (a - 10 ^ 28))) = true := decide_eq_true rfl
      exact congrArg (!·) e) ?_
    have b7 : Box H7 p (n + 3) := b3.sm (sA.trans s7)

    refine ⟨_, _, rfl, rfl, (by show 2 ≤ sizeLine; decide), fun l8 hl8 => ?_⟩
    refine ⟨_, rfl, p, _, n + 3, rfl, b7.upd hl8, by omega, by decide, by decide, fun z4 H8 z40 z41 b8 k8 => ?_⟩
    have hl9 : H8 l8 = some (.lst [.int 1, .int (0 - 1)]) := by rw [k8 l8 (b7.ne hl8).symm]; exact upd_same
    obtain ⟨v4, e4, m4⟩ := atI_in (xs := [V.int 1, V.int (0 - 1)]) z40 z41
    obtain ⟨g, rfl, hg⟩ : ∃ g : Int, v4 = V.int g ∧ (g = 1 ∨ g = -1) := by
      simp only [List.mem_cons, List.not_mem_nil, or_false] at m4
      rcases m4 with rfl | rfl
      · exact ⟨1, rfl, .inl rfl⟩
      · exact ⟨-1, rfl, .inr rfl⟩
    refine ⟨l8, _, _, _, rfl, rfl, SqL.of hl9, e4, ?_⟩
    refine ⟨(by show 2 ≤ sizeLine; decide), fun la hla => ?_⟩
    refine ⟨_, rfl, p, _, n + 4, rfl, b8.upd hla, by omega, by decide, by decide, fun z5 H9 z50 z51 b9 k9 => ?_⟩
    have hlb : H9 la = some (.lst [.int 12, .int 1000]) := by rw [k9 la (b8.ne hla).symm]; exact upd_same
    obtain ⟨v5, e5, m5⟩ := atI_in (xs := [V.int 12, V.int 1000]) z50 z51
    obtain ⟨wd, rfl, wd0, wd1⟩ : ∃ g : Int, v5 = V.int g ∧ 0 < g ∧ g ≤ 1000 := by
      simp only [List.mem_cons, List.not_mem_nil, or_false] at m5
      rcases m5 with rfl | rfl
      · exact ⟨_, rfl, by decide, by decide⟩
      · exact ⟨_, rfl, by decide, by decide⟩
    refine ⟨la, _, _, _, rfl, rfl, SqL.of hlb, e5, _, _, rfl, ?_⟩
    refine ⟨_, rfl, _, _, rfl, rfl, ⟨by decide, by decide, by decide⟩, p, _, n + 5, rfl, b9, by omega, by decide, by decide, fun z6 Ha z60 z61 ba ka => ?_⟩
    have z62 : z6 < 1000000 := z61
    refine ⟨_, rfl, _, _, rfl, rfl, .inl ⟨by omega, by omega⟩, _, rfl, _, rfl, p, wd, n + 6, rfl, ba, by omega, wd0, Int.lt_of_le_of_lt wd1 (by decide), fun z7 Hb z70 z71 bb kb => ?_⟩
    refine ⟨_, _, rfl, rfl, ?_⟩
    have gl : (z6 * g).natAbs < 10 ^ 6 := by rcases hg with rfl | rfl <;> omega
    refine ⟨z6 * g, 1 + z7, rfl, Nat.lt_trans gl (by decide), by omega, ?_⟩
    have len0 : (lineS (z6 * g) (1 + z7)).length ≤ 20 := by
      rw [line_amt]
      unfold amtS
      refine Nat.le_trans (len_app (n := 7) (m := 5) ?_ ?_) (by decide)
      · refine len_app (n := 1) (m := 6) ?_ (dec_len (by omega) (by decide) (by omega))
        split <;> decide +kernel
      · split
        · decide +kernel
        · exact len_app (n := 1) (m := 4) (by decide +kernel) (dec_len (by omega) (by decide) (by omega))
    have kp0 : Kp p H Hb := (Kp.but k1).trans ((Kp.same (Same.upd hl)).trans ((Kp.but k2).trans ((Kp.but k3).trans ((Kp.same (sA.trans s7)).trans ((Kp.same (Same.upd hl8)).trans ((Kp.but k8).trans ((Kp.same (Same.upd hla)).trans ((Kp.but k9).trans ((Kp.but ka).trans (Kp.but kb))))))))))
    generalize hs0 : lineS (z6 * g) (1 + z7) = s0 at len0 ⊢
    refine ⟨3, rfl, by decide, by decide, ?_⟩
    refine for_range (lo := 0) (n := 3) (fun i σ H' => ∃ (s : Str) (g : V) (v1 v2 v3 v5 v7 v8 v9 v10 : Option V), σ = [some (.ref p), v1, v2, v3, some g, v5, some (.str s), v7, v8, v9, v10] ∧ s.length + 1 ≤ 21 * 2 ^ i ∧ Box H' p (n + 7 + 2 * i) ∧ Kp p H H') ⟨_, _, _, _, _, _, _, _, _, _, rfl, by omega, bb, kp0⟩ ?_ ?_
    · rintro i σ Hc hi ⟨sc, gc, w1, w2, w3, w5, w7, w8, w9, w10, rfl, lc, bc, kc⟩
      have l2 : sc.length ≤ 99 := by
        have : i = 0 ∨ i = 1 ∨ i = 2 := by omega
        rcases this with rfl | rfl | rfl <;> omega
      rw [Int.zero_add]
      have fin : ∀ (He : Hp) (v8 v9 : V), Same Hc He → ∀ D : Ends, (∀ (s' : Str) (gc v10 : V) (H' : Hp), s'.length + 1 ≤ 21 * 2 ^ (i + 1) → Box H' p (n + 7 + 2 * (i + 1)) → Kp p H H' → D.nx [some (.ref p), w1, w2, w3, some gc, w5, some (.str s'), some (.int (i : Int)), some v8, some v9, some v10] H') →
          tailS p D [some (.ref p), w1, w2, w3, some gc, w5, some (.str sc), some (.int (i : Int)), some v8, some v9, w10] He := fun He v8 v9 se D k =>
        ⟨sc, i, n + 7 + 2 * i, _, _, _, _, _, _, _, _, hi, rfl, by omega, bc.sm se, by omega, fun s' g2 v10 H' h1 h2 h3 => k s' g2 v10 H' (by rw [Nat.pow_succ]; omega) h2 (kc.trans ((Kp.same se).trans h3))⟩
      have l3 : sc.length ≤ 2000 := by omega
      refine ⟨_, rfl, sc, rfl, l3, fun an Hd sd => ?_, fun a b an p2 t2 u2 Hd sd hr2 rdd ed hd => ?_⟩
      · refine ⟨_, rfl, _, rfl, .inr ⟨sc, rfl, l3, Nat.le_trans (part_len sc).1 l3, Nat.le_trans (part_len sc).2 l3, fun _ He se => ?_, fun a b e => by rw [an] at e; cases e⟩⟩
        refine ⟨_, _, rfl, ?_⟩
        refine ⟨_, rfl, rfl, _, rfl, rfl, rfl, _, rfl, ?_⟩
        refine if_false_of (by rfl) ⟨_, rfl, rfl, _, rfl, if_false_of (by rfl) (if_false_of (by rfl) ?_)⟩
        exact fin He _ _ (sd.trans se) _ fun s' g2 v10 H' h1 h2 h3 => ⟨s', g2, _, _, _, _, _, _, _, _, rfl, h1, h2, h3⟩
      · refine ⟨_, rfl, _, rfl, .inr ⟨sc, rfl, l3, Nat.le_trans (part_len sc).1 l3, Nat.le_trans (part_len sc).2 l3, (fun e => by rw [an] at e; cases e), fun a' b' e y He t u se iy et => ?_⟩⟩
        rw [an] at e
        cases e
        refine ⟨_, _, rfl, ?_⟩
        obtain ⟨py, dy, rfl, hy, ⟨u0, ru⟩, _⟩ := id iy
        refine ⟨_, rfl, rfl, _, rfl, rfl, rfl, _, rfl, ?_⟩
        refine if_false_of (by rfl) ⟨_, rfl, rfl, _, rfl, if_true_of (by rfl) ?_⟩
        refine ⟨_, rfl, py, dy, _, rfl, hy, py, dy, _, _, rfl, hy, fl_top _ _, ?_⟩
        refine ⟨_, rfl, py, dy, _, rfl, hy, py, dy, _, _, rfl, hy, fl_bot _ _, by show 2 ≤ sizeLine; decide, fun l hl => ?_⟩
        have b0 := amtOf_pos an
        have en := Am.uniq rdd ⟨u0, ru⟩ (Int.eq_of_mul_eq_mul_right (show b ≠ 0 by omega) (by grind))
        obtain ⟨rfl, rfl⟩ := en
        refine ⟨_, rfl, .tuple [.int t2, .int u2], .tuple [.int t2, .int u2], .tup (SqT.of upd_same) (.cons (.int _) (.cons (.int _) .nil)), .tup (SqT.of (Same.upd hl _ _ (se _ _ hd))) (.cons (.int _) (.cons (.int _) .nil)), by rfl, by rfl, _, rfl, ?_⟩
        rw [eqv_pair]
        refine if_false_of (by rfl) ?_
        exact fin _ _ _ ((sd.trans se).trans (Same.upd hl)) _ fun s' g2 v10 H' h1 h2 h3 => ⟨s', g2, _, _, _, _, _, _, _, _, rfl, h1, h2, h3⟩
    · rintro σ Hc ⟨sc, gc, w1, w2, w3, w5, w7, w8, w9, w10, rfl, lc, bc, kc⟩
      exact q _ (bc.mono (by omega)) kc
end
end K03

set_option Elab.async false
set_option linter.all false
set_option maxRecDepth 100000
set_option maxHeartbeats 4000000
/-! A law's end where its def shows lists: no repr is under way when it is called. -/
namespace Fg
open PySem PySem.Spec PyProof.Rows L2
section
variable {P : Program} {w : World} {K : PySem.W.Frag} {mg mb : Str → Option Value} {CX : CXT} {k : Nat} {fa a : Addr} {fd : FuncData} {x : Str} {sp : Sp} {s₁ : Shared} {vs : List Value} {ns : List Int}
/-- from a heap H that tracks the script at the most -/
theorem call_from (KX : K.In s₁.heap) (hns : s₁.heap.Ns mainGlobals mg) (hb : s₁.heap.Ns builtinsNs mb) (hbb : ∀ x : Str, x ≠ "__name__" → mb x = bootBuiltins x) (hlim : s₁.heap.NoLimit) (hg : s₁.gens = #[])
    (obj : s₁.heap.get? a = some { cls := .type "list", data := .seq vs.toArray }) (hr : Room k callerA) (F : ∀ base : Heap, K.In base → base.Ns mainGlobals mg → FnG P w K mg base CX k fa fd [x] sp)
    (bind : ∀ (s : Shared) (u : Value), BindsTo s fd ⟨[u], []⟩ [(x, u)]) (noX : ∀ H e s', CX [] H s₁ (fun _ _ _ => False) e s' → False) {H : Hp} (only : Only H) (hsp : sp [.ref a] H (fun v _ => v = .bl true) fun _ _ _ => False)
    (hok : HOk P w H s₁.heap) (at_ : ∀ b, H b ≠ none → b = a) (own : H a ≠ none → K.lookup a = none) :
    codeAny (model P w) callerA (.call (.ref fa) ⟨[.ref a], []⟩) (fun r s' => r = .ok (.ret (.bool true)) ∧ OldK s₁.heap s'.heap ∧ s'.os = s₁.os ∧ AllBare s'.gens) s₁ := by
  have free : ∀ {b : Addr} {o : Obj}, s₁.heap.get? b = some o → (b = a → o ≠ { cls := .type "list", data := .seq vs.toArray }) → H b = none := by
    intro b o e ne
    cases q : H b with
    | none => rfl
    | some u =>
      have eb := at_ b (by rw [q]; exact fun z => nomatch z)
      rw [eb, obj] at e
      exact absurd (Option.some.inj e).symm (ne eb)
  have hid : ∀ {b : Addr} {o : Obj}, s₁.heap.get? b = some o → H b = none → (hidT s₁.heap H).get? b = some o := fun e n => hidT_get e n
  have nsp : ∀ {b : Addr} {m : Str → Option Value}, s₁.heap.Ns b m → (hidT s₁.heap H).Ns b m := by
    rintro b m ⟨o, es, ep, e, d, r⟩
    refine ⟨o, es, ep, hid e (free e fun _ z => ?_), d, r⟩
    rw [z] at d
    cases d
  have inB : K.In (hidT s₁.heap H) := fun b o e => hid (KX b o e) (by
    cases q : H b with
    | none => rfl
    | some u =>
      have eb := at_ b (by rw [q]; exact fun z => nomatch z)
      rw [eb] at q e
      rw [own (by rw [q]; exact fun z => nomatch z)] at e
      cases e)
  have M : Mod K mg (hidT s₁.heap H) := ⟨inB, nsp hns, ⟨mb, nsp hb, hbb⟩, hlim.imp fun _ h => ⟨nsp h.1, h.2⟩⟩
  have e0 : Env0 P w K mg (hidT s₁.heap H) callerA [] s₁ H := by
    refine ⟨rfl, M, fun b o e => of_hidT e, Nat.le_of_eq (hidT_size _ _), trivial, fun b hb => ?_, hok, .of_eq hg⟩
    exact (List.not_mem_nil hb).elim
  refine codeAny_mono ((F _ inB (nsp hns)).run callerA [] s₁ H ⟨[.ref a], []⟩ [.ref a] [.ref a] _ _ rfl hr e0 (bind s₁ (.ref a)) (.cons rfl .nil) hsp) fun res s2 out => ?_
  match res, out with
  | .error er, out => exact (noX H er s2 out).elim
  | .ok .next, out => exact out.elim
  | .ok .brk, out => exact out.elim
  | .ok .cont, out => exact out.elim
  | .ok (.ret u), out =>
    obtain ⟨v, H2, os, bare, un, hok2, ru, qv⟩ := out
    cases (show v = V.bl true from qv)
    cases ru
    refine ⟨rfl, OldK.of_keep fun b o e => ?_, os, bare⟩
    rcases only b with n | ⟨ob, xs, z⟩
    · exact un.keep b o e n (fun m => (List.not_mem_nil m).elim) (by simp)
    · obtain ⟨g1, _⟩ := hok b _ z
      obtain ⟨g2, _⟩ := hok2 b _ (un.frzs b ob _ z)
      rw [g1] at e
      rw [g2]
      exact e
theorem law_callG (KX : K.In s₁.heap) (hns : s₁.heap.Ns mainGlobals mg) (hb : s₁.heap.Ns builtinsNs mb) (hbb : ∀ x : Str, x ≠ "__name__" → mb x = bootBuiltins x) (hlim : s₁.heap.NoLimit) (hg : s₁.gens = #[])
    (obj : s₁.heap.get? a = some { cls := .type "list", data := .seq vs.toArray }) (hi : IntsAre vs ns) (hl : ns.length ≤ sizeLine) (hr : Room k callerA) (F : ∀ base : Heap, K.In base → base.Ns mainGlobals mg → FnG P w K mg base CX k fa fd [x] sp)
    (bind : ∀ (s : Shared) (u : Value), BindsTo s fd ⟨[u], []⟩ [(x, u)]) (hsp : ∀ H : Hp, Only H → SqL K H a (ns.map V.int) → sp [.ref a] H (fun v _ => v = .bl true) fun _ _ _ => False)
    (noX : ∀ H e s', CX [] H s₁ (fun _ _ _ => False) e s' → False) :
    codeAny (model P w) callerA (.call (.ref fa) ⟨[.ref a], []⟩) (fun r s' => r = .ok (.ret (.bool true)) ∧ OldK s₁.heap s'.heap ∧ s'.os = s₁.os ∧ AllBare s'.gens) s₁ := by
  have rv := vals_ints hi
  cases hk : K.lookup a with
  | some o =>
    -- the script is an object of the written part
    have e : o = { cls := .type "list", data := .seq vs.toArray } := by
      have z := KX a o hk
      rw [obj] at z
      exact (Option.some.inj z).symm
    subst e
    have sq : SqL K (fun _ => none) a (ns.map V.int) := .inr ⟨_, vs.toArray, _, hk, rfl, rfl, rfl, by rw [List.size_toArray, hi.length]; exact hl, by simpa using rv⟩
    exact call_from KX hns hb hbb hlim hg obj hr F bind noX (H := fun _ => none) (fun _ => .inl rfl) (hsp _ (fun _ => .inl rfl) sq) (fun b u z => nomatch z) (fun b z => absurd rfl z) (fun z => absurd rfl z)
  | none =>
    let H : Hp := fun b => if b = a then some (.frz { cls := .type "list", data := .seq vs.toArray } (.lst (ns.map V.int))) else none
    have ha : H a = some (.frz { cls := .type "list", data := .seq vs.toArray } (.lst (ns.map V.int))) := if_pos rfl
    have hn : ∀ {b}, b ≠ a → H b = none := fun z => if_neg z
    have only : Only H := fun b => by
      by_cases z : b = a
      · subst z
        exact .inr ⟨_, _, ha⟩
      · exact .inl (hn z)
    refine call_from KX hns hb hbb hlim hg obj hr F bind noX (H := H) only (hsp H only (.inl (.inr ⟨_, ha⟩))) (fun b u z => ?_) (fun b z => ?_) (fun _ => hk)
    · by_cases eb : b = a
      · subst eb
        cases ha.symm.trans z
        exact ⟨obj, by rw [List.length_map]; exact hl, vs, _, rv, obj⟩
      · cases (hn eb).symm.trans z
    · by_cases eb : b = a
      · exact eb
      · exact absurd (hn eb) z
end
theorem walk_ofG {l : PySem.W.OpenLaw} {n k : Nat} {q : Program} {loose : List Str} {XP : (Str → Option Value) → Heap → Prop} {YP : World → Heap → Prop} {d : DefRec} {CX : World → CXT} {x : Str}
    (hn : l.most = some n) (small : n ≤ sizeLine) (hdf : d.params.defaults = []) (hr : Room k callerA)
    (F : ∀ (w : World) (mg : Str → Option Value) (fa : Addr) (h : Heap), YP w h → h.Ns mainGlobals mg → mg d.name = some (.ref fa) → ∃ (K : PySem.W.Frag) (fd : FuncData) (sp : Sp), K.In h ∧ (∀ (s : Shared) (u : Value), BindsTo s fd ⟨[u], []⟩ [(x, u)]) ∧
        (∀ (H : Hp) (a : Addr) (ns : List Int), ns.length ≤ n → Only H → SqL K H a (ns.map V.int) → sp [.ref a] H (fun v _ => v = .bl true) fun _ _ _ => False) ∧ ∀ base : Heap, K.In base → base.Ns mainGlobals mg → FnG l.prog w K mg base (CX w) k fa fd [x] sp)
    (noX : ∀ (w : World) (H : Hp) (s : Shared) (e : Value) (s' : Shared), CX w [] H s (fun _ _ _ => False) e s' → False) : PySem.W.WalkO q loose XP YP l.row.toRowW d [] (fun f vs => PySem.call f vs) := by
  refine Att.attach_call hn hdf ?_
  intro w s₀ s₁ mg mb fa o pm cd doc a vs ns G Y ho hd hcd hmg obj hints len hg
  obtain ⟨K, fd, sp, KX, bi, hsp, hF⟩ := F w mg fa _ Y G.T.g hmg
  refine law_callG KX G.T.g G.T.b G.T.builtins G.T.nolimit hg obj hints (Nat.le_trans len small) hr hF bi ?_ (fun H e s' => noX w H s₁ e s')
  exact fun H hO hS => hsp H a ns len hO hS
end Fg
set_option Elab.async false
set_option linter.all false
set_option maxRecDepth 100000
set_option maxHeartbeats 4000000
set_option exponentiation.threshold 100000
namespace K03
open PySem PySem.Spec PyProof.Rows L2 Fa Fb NumText TL
theorem boot_repr : bootBuiltins "repr" = some (.builtin "repr") := by decide +kernel
theorem call_repr_bl {X : Cx} : CallR X (.builtin "repr") (fun xs H Q => ∃ b, xs = [.bl b] ∧ Q (.str (if b then "True" else "False")) H) := by
  intro pins s σ H xs us Q I r h
  obtain ⟨b, rfl, q⟩ := h
  obtain ⟨u, rfl, r1⟩ := vals1 r
  cases r1
  exact PySem.P.repr_of_bool ⟨.str _, H, I.tok _, ⟨_, rfl⟩, q⟩
theorem Kp.no {p D : Addr} {H H1 : Hp} (k : Kp p H H1) (ne : D ≠ p) (h : H1 D = none) : H D = none := by
  cases e : H D with
  | none => rfl
  | some o =>
    rw [k _ _ ne e] at h
    cases h
theorem Kp.put {p D : Addr} {H H' : Hp} {o : HO} (k : Kp p H H') (h : H D = none) : Kp p H (upd H' D o) := fun q u n z => by
  rw [upd_ne (ne_of_none z h)]
  exact k q u n z
theorem _root_.Fa.Box.put {H : Hp} {p D : Addr} {n : Nat} {o : HO} (b : Box H p n) (ne : D ≠ p) : Box (upd H D o) p n := by
  obtain ⟨x, y, z, h, r⟩ := b
  exact ⟨x, y, z, by rw [upd_ne ne.symm]; exact h, r⟩
theorem app_len (a b : Str) : (a ++ b).length = a.length + b.length := by
  show (a.cps ++ b.cps).size = _
  rw [Array.size_append]
  rfl
theorem join1 : ∀ cs : List Str, (∀ c ∈ cs, c.length = 1) → (Str.join ("" : Str) cs).length = cs.length
  | [], _ => rfl
  | [a], h => h a (by simp)
  | a :: b :: r, h => by
    show ((a ++ ("" : Str)) ++ Str.join ("" : Str) (b :: r)).length = _
    have e0 : ("" : Str).length = 0 := by decide +kernel
    rw [app_len, app_len, e0, join1 (b :: r) fun c hc => h c (List.mem_cons_of_mem _ hc), h a (by simp)]
    simp
    omega
theorem sum1 : ∀ cs : List Str, (∀ c ∈ cs, c.length = 1) → (cs.map (·.length)).sum = cs.length
  | [], _ => rfl
  | a :: r, h => by
    rw [List.map_cons, List.sum_cons, sum1 r fun c hc => h c (List.mem_cons_of_mem _ hc), h a (by simp), List.length_cons]
    omega
theorem bools3 : ∀ a b c : Bool, (PyData.list [.bool a, .bool b, .bool c]).showable = true ∧ (PyData.list [.bool a, .bool b, .bool c]).depth ≤ 20 ∧ (PyData.list [.bool a, .bool b, .bool c]).shown.length ≤ sizeLine := by
  intro a b c
  cases a <;> cases b <;> cases c <;> exact ⟨by decide +kernel, by decide +kernel, by decide +kernel⟩
abbrev sWords : Stmt := top 45
theorem scWords : FnScope ["_law_box_here", "_law_small", "_law_word", "_law_at", "_law_sign", "_law_one", "_law_found", "_law_due", "_law_a", "_law_b", "_law_pairs", "_law_low", "_law_high", "_law_k"] ["_law_box_here"] (defScope sWords) := ⟨rfl, rfl, rfl, by decide +kernel, rfl, by decide +kernel, by decide +kernel⟩
def spWords : Sp := fun vs H Q _ => ∃ (p : Addr) (n : Nat), vs = [.ref p] ∧ Box H p n ∧ n + 20 ≤ 1000000 ∧ ∀ H', Box H' p (n + 20) → Kp p H H' → Q (.bl true) H'
section
variable {P : Program} {w : World} {K : PySem.W.Frag} {mg : Str → Option Value} {base : Heap} {f fT fN fU fW fM fI : Addr} {fd fdT fdN fdU fdW fdM fdI : FuncData}
theorem ok_words (F : FnP K "_law_words_right" sWords f fd) (hS : Fg.SysD K) (mR : mg "repr" = none) (mG : mg "range" = none) (mL : mg "len" = none) (mMin : mg "min" = none) (mMax : mg "max" = none)
    (GT : Fn0 P w K mg base "_law_take" 1 ["_law_box_here", "_law_many"] spTake fT fdT) (GN : Fn P w K mg base "is_name" 2 ["value"] (spName K) fN fdN) (GU : Fn P w K mg base "is_unit" 1 ["value"] (spText K isUnit) fU fdU) (GW : Fn P w K mg base "is_word" 1 ["value"] (spText K isWord) fW fdW)
    (GM : Fn P w K mg base "_law_is_named" 1 ["_law_word"] spNamed fM fdM) (GI : Fn P w K mg base "is_integer" 2 ["value", "low", "high"] (spIntg K) fI fdI) : Fg.FnG P w K mg base (L2.CX P w) 3 f fd ["_law_box_here"] spWords := by
  refine Fg.okG F scWords (fun vs H Q E h => ?_) (fun cdv A outer s H vs Q E G hr h => ?_)
  · obtain ⟨p, n, rfl, _⟩ := h
    rfl
  · obtain ⟨p, n, rfl, hb, hn, q⟩ := h
    have hr1 := hr.mono (show 1 ≤ 2 by decide)
    have hu : (A.deeper (envOfC "_law_words_right" (defScope sWords) s.heap.objs.size f cdv)).units + 64 < cLine := by
      have := hr.un
      omega
    have r2 : 2 ≤ sizeLine := by decide
    refine ⟨_, (pss_cons (ps_set (i := 1) scWords.nd rfl (Or.inr rfl) pe_str)
      (pss_cons (ps_set (i := 2) scWords.nd rfl (Or.inl rfl) (pe_join pe_str (pe_lc (own := [("_law_k", 13)]) (g := gName 13)  (by rfl) scWords.nd (pi_range1 rfl mG (pa_cons (pe_op op_add pe_int (pe_call GT.ok hr1 rfl GT.g GT.k GT.b .nil pass0 (pa_cons (pv 0) (pa_cons pe_int pa_nil)))) pa_nil)) (blkOk_by (own := [("_law_k", 13)]) (N := ["_law_box_here", "_law_small", "_law_word", "_law_at", "_law_sign", "_law_one", "_law_found", "_law_due", "_law_a", "_law_b", "_law_pairs", "_law_low", "_law_high", "_law_k"]) (sc := defScope sWords) (by decide +kernel)) (fun _ _ _ _ _ => (pg_name (i := 13) scWords.nd rfl (Or.inl rfl))) (fun _ _ _ _ _ => pts_nil) (fun _ _ _ _ _ => (pe_ix ix_str (pv 1) (pe_call GT.ok hr1 rfl GT.g GT.k GT.b .nil pass0 (pa_cons (pv 0) (pa_cons pe_int pa_nil))) (fun _ _ => rfl))))))
      (pss_cons (ps_par (by rfl) scWords.nd (i := 3) (j := 4) rfl rfl (by decide) rfl rfl (pa_cons (pe_call GT.ok hr1 rfl GT.g GT.k GT.b .nil pass0 (pa_cons (pv 0) (pa_cons (pe_op op_add (pe_callB call_len_str rfl mL PySem.boot_len (pa_cons (pv 2) pa_nil)) pe_int) pa_nil))) (pa_cons (pe_ix ix_str pe_str (pe_call GT.ok hr1 rfl GT.g GT.k GT.b .nil pass0 (pa_cons (pv 0) (pa_cons pe_int pa_nil))) (fun _ _ => rfl)) pa_nil)) (by rfl))
      (pss_cons (ps_for (passes_of rfl) rfl (pi_list (pe_lst (pa_cons (pv 2) (pa_cons (pe_op op_add_str (pe_op op_add_str (pe_slice sl_str (pv 2) po_none (po_some (pv 3))) (pv 4)) (pe_slice sl_str (pv 2) (po_some (pv 3)) po_none)) (pa_cons (pe_op op_add_str (pe_op op_add_str (pe_slice sl_str (pv 2) po_none (po_some (pv 3))) (pv 4)) (pe_slice sl_str (pv 2) (po_some (pe_op op_add (pv 3) pe_int)) po_none)) (pa_cons pe_str (pa_cons pe_str pa_nil))))))) (pg_name (i := 5) scWords.nd rfl (Or.inl rfl))
      (pss_cons (ps_set (i := 6) scWords.nd rfl (Or.inl rfl) (pe_lst (pa_cons (pe_call GN.ok hr rfl GN.g GN.k GN.b .nil passL (pa_cons (pv 5) pa_nil)) (pa_cons (pe_call GU.ok hr1 rfl GU.g GU.k GU.b .nil passL (pa_cons (pv 5) pa_nil)) (pa_cons (pe_call GW.ok hr1 rfl GW.g GW.k GW.b .nil passL (pa_cons (pv 5) pa_nil)) pa_nil)))))
      (pss_cons (ps_set (i := 7) scWords.nd rfl (Or.inl rfl) (pe_lst (pa_cons (pe_call GM.ok hr1 rfl GM.g GM.k GM.b .nil passL (pa_cons (pv 5) pa_nil)) (pa_cons (pe_cmpR op_in_seq (pv 5) (pe_lst (pa_cons pe_str (pa_cons pe_str pa_nil))) (by rfl)) (pa_cons (pe_cmpR op_in_seq (pv 5) (pe_lst (pa_cons pe_str (pa_cons pe_str (pa_cons pe_str pa_nil)))) (by rfl)) pa_nil)))))
      (pss_one (ps_if (pt_cmpR op_ne (pe_callB (Fg.call_reprD hS G hu) rfl mR boot_repr (pa_cons (pv 6) pa_nil)) (pe_callB (Fg.call_reprD hS G hu) rfl mR boot_repr (pa_cons (pv 7) pa_nil)) (nomark _)) (pss_one (ps_ret pe_bl)) pss_nil)))))
      (pss_cons (ps_par (by rfl) scWords.nd (i := 8) (j := 9) rfl rfl (by decide) rfl rfl (pa_cons (pe_op op_sub (pe_call GT.ok hr1 rfl GT.g GT.k GT.b .nil pass0 (pa_cons (pv 0) (pa_cons (pe_op op_pow pe_int pe_int) pa_nil))) (pe_op op_pow pe_int pe_int)) (pa_cons (pe_op op_sub (pe_call GT.ok hr1 rfl GT.g GT.k GT.b .nil pass0 (pa_cons (pv 0) (pa_cons (pe_op op_pow pe_int pe_int) pa_nil))) (pe_op op_pow pe_int pe_int)) pa_nil)) (by rfl))
      (pss_cons (ps_set (i := 10) scWords.nd rfl (Or.inl rfl) (pe_lst (pa_cons (pe_tup (pa_cons (pv 8) (pa_cons (pv 9) pa_nil))) (pa_cons (pe_tup (pa_cons (pv 9) (pa_cons (pv 8) pa_nil))) (pa_cons (pe_tup (pa_cons (pv 8) (pa_cons (pv 8) pa_nil))) (pa_cons (pe_tup (pa_cons (pe_callB (call_min2 rfl) rfl mMin (by decide +kernel) (pa_cons (pv 8) (pa_cons (pv 9) pa_nil))) (pa_cons (pe_callB (call_max2 rfl) rfl mMax (by decide +kernel) (pa_cons (pv 8) (pa_cons (pv 9) pa_nil))) pa_nil))) pa_nil))))))
      (pss_cons (ps_for (passes_of rfl) rfl (pi_list (pv 10)) (pg_tup (by rfl) (pgs_cons (pg_name (i := 11) scWords.nd rfl (Or.inl rfl)) (pgs_cons (pg_name (i := 12) scWords.nd rfl (Or.inl rfl)) pgs_nil)))
      (pss_one (ps_for (passes_of rfl) rfl (pi_list (pe_lst (pa_cons (pv 8) (pa_cons (pv 9) (pa_cons (pe_op op_sub (pv 11) pe_int) (pa_cons (pe_op op_add (pv 12) pe_int) (pa_cons (pe_op op_fdiv (pe_op op_add (pv 11) (pv 12)) pe_int) (pa_cons pe_int pa_nil)))))))) (pg_name (i := 5) scWords.nd rfl (Or.inl rfl))
      (pss_one (ps_if (pt_cmpR op_ne (pe_callB call_repr_bl rfl mR boot_repr (pa_cons (pe_call GI.ok hr rfl GI.g GI.k GI.b .nil passL (pa_cons (pv 5) (pa_cons (pv 11) (pa_cons (pv 12) pa_nil)))) pa_nil)) (pe_callB call_repr_bl rfl mR boot_repr (pa_cons (pe_chain op_le op_le (pv 11) (pv 5) (pv 12)) pa_nil)) (nomark _)) (pss_one (ps_ret pe_bl)) pss_nil)))))
      (pss_one (ps_ret pe_bl))))))))), ?_⟩
    refine ⟨⟨_, rfl⟩, ?_⟩
    refine ⟨_, rfl, p, _, n, rfl, hb, by omega, by decide, by decide, fun z1 H1 z10 z11 b1 k1 => ?_⟩
    refine ⟨_, _, rfl, rfl, _, rfl, by omega, by omega, fun D hD => ?_⟩
    have nD : D ≠ p := (b1.ne hD).symm
    have hD0 : H D = none := (Kp.but k1).no nD hD
    have l36 : (("abcdefghijklmnopqrstuvwxyz0123456789" : Str).cps.toList).length = 36 := by decide +kernel
    have sl : 2000 ≤ sizeLine := by decide
    refine lc_range (lo := 0) (n := (1 + z1).toNat) (fun i H' => Box H' p (n + 1 + i) ∧ Kp p H H' ∧ ∃ cs : List Str, cs.length = i ∧ H' D = some (.lst (cs.map V.str)) ∧ ∀ c ∈ cs, c.length = 1) ⟨b1.upd hD, (Kp.but k1).put hD0, [], rfl, upd_same, by simp⟩ ?_ ?_
    · rintro i H4 hi ⟨b4, k4, cs, hl, hD4, hc⟩
      refine ⟨rfl, _, rfl, _, rfl, p, _, n + 1 + i, rfl, b4, by omega, by decide, by decide, fun z5 H5 z50 z51 b5 k5 => ?_⟩
      obtain ⟨c, hcc, _⟩ := atI_in (xs := ("abcdefghijklmnopqrstuvwxyz0123456789" : Str).cps.toList) z50 (by rw [l36]; exact z51)
      have hD5 := Kp.but k5 _ _ nD hD4
      refine ⟨_, _, _, rfl, rfl, Nat.le_trans (show (("abcdefghijklmnopqrstuvwxyz0123456789" : Str)).length ≤ 2000 by decide +kernel) sl, hcc, _, hD5, ?_, b5.put nD, (k4.trans (Kp.but k5)).put hD0, cs ++ [⟨#[c]⟩], ?_, ?_, ?_⟩
      · rw [List.length_map, hl]
        exact Nat.lt_of_lt_of_le (show i < 2000 by omega) sl
      · rw [List.length_append, hl]
        rfl
      · rw [upd_same, List.map_append]
        rfl
      · intro c' hc'
        rcases List.mem_append.mp hc' with m | m
        · exact hc c' m
        · rw [List.mem_singleton] at m
          subst m
          rfl
    rintro H4 ⟨b4, k4, cs, hl, hD4, hc⟩
    have lw := join1 cs hc
    have e0 : ("" : Str).length = 0 := by decide +kernel
    refine ⟨_, _, cs, rfl, rfl, .inl (SqL.of hD4), ?_, ?_⟩
    · rw [sum1 cs hc, e0]
      omega
    generalize hw : Txt.join "" cs = word
    replace hw : Str.join "" cs = word := (PySem.StrLaws.glued_eq_join _ _).symm.trans hw
    rw [hw] at lw
    replace b4 := b4.mono (show n + 1 + (1 + z1).toNat ≤ n + 10 by omega)
    clear hD4 hw hc
    have lw9 : word.length ≤ 9 := by omega
    refine ⟨_, rfl, _, rfl, word, rfl, by omega, _, _, rfl, rfl, p, _, n + 10, rfl, b4, by omega, by omega, ?_, fun z8 H8 z80 z81 b8 k8 => ?_⟩
    · exact Int.lt_of_le_of_lt (show (word.length : Int) + 1 ≤ 101 by omega) (by decide)
    refine ⟨_, rfl, p, _, n + 11, rfl, b8, by omega, by decide, by decide, fun z9 H9 z90 z91 b9 k9 => ?_⟩
    have l8 : ((" AZ_-.()" : Str).cps.toList).length = 8 := by decide +kernel
    obtain ⟨c, hcc, _⟩ := atI_in (xs := (" AZ_-.()" : Str).cps.toList) z90 (by rw [l8]; exact z91)
    refine ⟨_, _, _, rfl, rfl, Nat.le_trans (show ((" AZ_-.()" : Str)).length ≤ 2000 by decide +kernel) sl, hcc, _, _, rfl, ?_⟩
    have c1 : ∀ lo hi, (cutS word lo hi).length ≤ word.length := cutS_length word
    have l1 : (⟨#[c]⟩ : Str).length = 1 := rfl
    have k9' : Kp p H H9 := k4.trans ((Kp.but k8).trans (Kp.but k9))
    refine ⟨_, rfl, _, rfl, _, rfl, _, rfl, word, rfl, by omega, _, rfl, _, _, rfl, rfl, ?_, _, rfl, _, rfl, _, rfl, word, rfl, by omega, _, _, rfl, rfl, ?_, ?_⟩
    · have := c1 none (some z8)
      rw [l1]
      omega
    · have h1 := c1 none (some z8)
      have h2 := c1 (some z8) none
      rw [app_len, l1]
      omega
    refine ⟨_, rfl, _, rfl, _, rfl, word, rfl, by omega, _, rfl, _, _, rfl, rfl, ?_, _, rfl, _, rfl, _, _, rfl, rfl, _, rfl, word, rfl, by omega, _, _, rfl, rfl, ?_, ?_⟩
    · have := c1 none (some z8)
      rw [l1]
      omega
    · have h1 := c1 none (some z8)
      have h2 := c1 (some (z8 + 1)) none
      rw [app_len, l1]
      omega
    refine ⟨by show 5 ≤ sizeLine; decide, fun l hl => ⟨l, rfl, ⟨_, SqL.of upd_same⟩, ?_⟩⟩
    have nl : l ≠ p := (b9.ne hl).symm
    have hl0 : H l = none := k9'.no nl hl
    generalize hxs : [V.str word, V.str ((cutS word none (some z8) ++ (⟨#[c]⟩ : Str)) ++ cutS word (some z8) none), V.str ((cutS word none (some z8) ++ (⟨#[c]⟩ : Str)) ++ cutS word (some (z8 + 1)) none), V.str "start", V.str "beats"] = xs
    have hx : ∀ x ∈ xs, ∃ z : Str, x = .str z ∧ z.length ≤ 100 := by
      have h1 := c1 none (some z8)
      have h2 := c1 (some z8) none
      have h3 := c1 (some (z8 + 1)) none
      subst hxs
      intro x hx
      simp only [List.mem_cons, List.not_mem_nil, or_false] at hx
      rcases hx with rfl | rfl | rfl | rfl | rfl
      · exact ⟨_, rfl, by omega⟩
      · exact ⟨_, rfl, by rw [app_len, app_len, l1]; omega⟩
      · exact ⟨_, rfl, by rw [app_len, app_len, l1]; omega⟩
      · exact ⟨_, rfl, by decide +kernel⟩
      · exact ⟨_, rfl, by decide +kernel⟩
    refine for_list (K := K) (a := l) (xs := xs) (fun i σ H' => ∃ v5 v6 v7 : Option V, σ = [some (.ref p), some (.str "abcdefghijklmnopqrstuvwxyz0123456789"), some (.str word), some (.int z8), some (.str ⟨#[c]⟩), v5, v6, v7, none, none, none, none, none, none] ∧ H' l = some (.lst xs) ∧ Box H' p (n + 12) ∧ Kp p H H') ⟨_, _, _, rfl, upd_same, b9.upd hl, k9'.put hl0⟩ (fun i σ H' _ ⟨_, _, _, _, h, _⟩ => SqL.of h) ?_ ?_
    · rintro i x σ H5 hi ⟨v5, v6, v7, rfl, h5, b5, k5⟩
      obtain ⟨z, rfl, hz⟩ := hx x (List.mem_of_getElem? hi)
      refine ⟨_, rfl, _, rfl, .inr ⟨z, rfl, by omega, fun H6 s6 => ⟨_, rfl, _, rfl, .inr ⟨z, rfl, _, rfl, _, rfl, .inr ⟨z, rfl, by show 3 ≤ sizeLine; decide, fun l2 h2 => ?_⟩⟩⟩⟩⟩
      have s7 := s6.trans (Same.upd (o := .lst [.bl (isName z), .bl (isUnit z), .bl (isWord z)]) h2)
      have e7 : upd H6 l2 (.lst [.bl (isName z), .bl (isUnit z), .bl (isWord z)]) l2 = some (.lst [.bl (isName z), .bl (isUnit z), .bl (isWord z)]) := upd_same
      generalize upd H6 l2 (.lst [.bl (isName z), .bl (isUnit z), .bl (isWord z)]) = H7 at s7 e7
      refine ⟨_, rfl, z, rfl, by omega, fun H8' s8 => ?_⟩
      refine ⟨_, rfl, by show 2 ≤ sizeLine; decide, fun l3 h3 => ⟨l3, _, rfl, .inl (SqL.of upd_same), rfl, rfl, ?_⟩⟩
      rw [if_neg (by decide), inV_unit]
      refine ⟨_, rfl, by show 3 ≤ sizeLine; decide, fun l4 h4 => ⟨l4, _, rfl, .inl (SqL.of upd_same), rfl, rfl, ?_⟩⟩
      rw [if_neg (by decide), inV_word]
      refine ⟨by show 3 ≤ sizeLine; decide, fun l5 h5' => ?_⟩
      have sA := s8.trans ((Same.upd h3).trans ((Same.upd h4).trans (Same.upd (o := .lst [.bl (isName z), .bl (isUnit z), .bl (isWord z)]) h5')))
      obtain ⟨w1, w2, w3⟩ := bools3 (isName z) (isUnit z) (isWord z)
      refine ⟨_, rfl, l2, _, rfl, .lst (sA _ _ e7) (.cons (.bl _) (.cons (.bl _) (.cons (.bl _) .nil))), w1, w2, w3, _, rfl, l5, _, rfl, .lst upd_same (.cons (.bl _) (.cons (.bl _) (.cons (.bl _) .nil))), w1, w2, w3, rfl, _, rfl, ?_⟩
      refine if_false_of (by rw [decide_eq_true rfl]; rfl) ?_
      exact ⟨_, _, _, rfl, (s7.trans sA) _ _ h5, b5.sm (s7.trans sA), k5.trans (Kp.same (s7.trans sA))⟩
    rintro σ H5 ⟨v5, v6, v7, rfl, h5, b5, k5⟩
    refine ⟨_, rfl, _, _, rfl, rfl, ⟨by decide, by decide, by decide⟩, p, _, _, rfl, b5, by omega, by decide, by decide, fun a H6 a0 a1 b6 k6 => ?_⟩
    refine ⟨_, _, rfl, rfl, ⟨by decide, by decide, by decide⟩, _, _, rfl, rfl, ?_⟩
    refine ⟨_, rfl, _, _, rfl, rfl, ⟨by decide, by decide, by decide⟩, p, _, _, rfl, b6, by omega, by decide, by decide, fun b H7 b0 b1' b7 k7 => ?_⟩
    refine ⟨_, _, rfl, rfl, ⟨by decide, by decide, by decide⟩, _, _, rfl, rfl, _, _, rfl, ?_⟩
    have k7' : Kp p H H7 := k5.trans ((Kp.but k6).trans (Kp.but k7))
    clear hx hxs
    dsimp only
    generalize a - 10 ^ Int.toNat 28 = A
    generalize b - 10 ^ Int.toNat 28 = B
    refine ⟨_, rfl, _, rfl, r2, fun t1 h1 => ⟨_, rfl, _, rfl, r2, fun t2 h2 => ⟨_, rfl, _, rfl, r2, fun t3 h3 => ⟨_, rfl, _, rfl, _, _, rfl, _, rfl, _, rfl, _, _, rfl, r2, fun t4 h4 => ⟨by show 4 ≤ sizeLine; decide, fun lp hlp => ?_⟩⟩⟩⟩⟩
    have g1 := Same.upd (o := .tup [.int A, .int B]) h1
    have g2 := Same.upd (o := .tup [.int B, .int A]) h2
    have g3 := Same.upd (o := .tup [.int A, .int A]) h3
    have g4 := Same.upd (o := .tup [.int (if B < A then B else A), .int (if B > A then B else A)]) h4
    have g5 := Same.upd (o := .lst [.ref t1, .ref t2, .ref t3, .ref t4]) hlp
    have f1 := g5 _ _ (g4 _ _ (g3 _ _ (g2 _ _ upd_same)))
    have f2 := g5 _ _ (g4 _ _ (g3 _ _ upd_same))
    have f3 := g5 _ _ (g4 _ _ upd_same)
    have f4 := g5 _ _ upd_same
    have gg := g1.trans (g2.trans (g3.trans (g4.trans g5)))
    refine ⟨_, rfl, lp, rfl, ⟨_, SqL.of upd_same⟩, ?_⟩
    refine for_list (K := K) (a := lp) (xs := [.ref t1, .ref t2, .ref t3, .ref t4]) (fun i σ H' => ∃ w5 w11 w12 : Option V, σ = [some (.ref p), some (.str "abcdefghijklmnopqrstuvwxyz0123456789"), some (.str word), some (.int z8), some (.str ⟨#[c]⟩), w5, v6, v7, some (.int A), some (.int B), some (.ref lp), w11, w12, none] ∧
        H' lp = some (.lst [.ref t1, .ref t2, .ref t3, .ref t4]) ∧ (∀ x ∈ [V.ref t1, .ref t2, .ref t3, .ref t4], ∃ t lo hi, x = .ref t ∧ H' t = some (.tup [.int lo, .int hi])) ∧ Box H' p (n + 20) ∧ Kp p H H') ⟨_, _, _, rfl, upd_same, ?_, (b7.sm gg).mono (by omega), k7'.trans (Kp.same gg)⟩ (fun i σ H' _ ⟨_, _, _, _, h, _⟩ => SqL.of h) ?_ ?_
    · intro x hx
      simp only [List.mem_cons, List.not_mem_nil, or_false] at hx
      rcases hx with rfl | rfl | rfl | rfl
      · exact ⟨_, _, _, rfl, f1⟩
      · exact ⟨_, _, _, rfl, f2⟩
      · exact ⟨_, _, _, rfl, f3⟩
      · exact ⟨_, _, _, rfl, f4⟩
    · rintro i x σ H8 hi ⟨w5, w11, w12, rfl, q1, q2, q3, q4⟩
      obtain ⟨t, lo, hi', rfl, ht⟩ := q2 x (List.mem_of_getElem? hi)
      refine ⟨t, _, rfl, SqT.of ht, rfl, _, _, rfl, _, _, rfl, rfl, ?_⟩
      refine ⟨_, rfl, _, rfl, _, rfl, _, _, rfl, rfl, _, rfl, _, _, rfl, rfl, _, rfl, _, rfl, _, _, rfl, rfl, _, _, rfl, rfl, ⟨by decide, by decide⟩, by show 6 ≤ sizeLine; decide, fun l5 h5 => ⟨l5, rfl, ⟨_, SqL.of upd_same⟩, ?_⟩⟩
      have s5 := Same.upd (o := .lst [.int A, .int B, .int (lo - 1), .int (hi' + 1), .int ((lo + hi') / 2), .int 0]) h5
      refine for_list (K := K) (a := l5) (xs := [A, B, lo - 1, hi' + 1, (lo + hi') / 2, 0].map V.int) (fun i σ H' => ∃ w5 : Option V, σ = [some (.ref p), some (.str "abcdefghijklmnopqrstuvwxyz0123456789"), some (.str word), some (.int z8), some (.str ⟨#[c]⟩), w5, v6, v7, some (.int A), some (.int B), some (.ref lp), some (.int lo), some (.int hi'), none] ∧ Same H8 H' ∧ H' l5 = some (.lst ([A, B, lo - 1, hi' + 1, (lo + hi') / 2, 0].map V.int))) ⟨_, rfl, s5, upd_same⟩ (fun i σ H' _ ⟨_, _, _, h⟩ => SqL.of h) ?_ ?_
      · rintro j x σ H9 hj ⟨w5, rfl, s9, e9⟩
        obtain ⟨v, hv, rfl⟩ : ∃ v : Int, True ∧ x = .int v := by
          rw [List.getElem?_map] at hj
          cases e : [A, B, lo - 1, hi' + 1, (lo + hi') / 2, 0][j]? with
          | none =>
            rw [e] at hj
            cases hj
          | some v =>
            rw [e] at hj
            cases hj
            exact ⟨v, trivial, rfl⟩
        refine ⟨_, rfl, _, rfl, _, rfl, _, lo, hi', rfl, .inr ⟨v, rfl, _, rfl, ?_⟩⟩
        refine ⟨_, rfl, _, rfl, _, _, rfl, rfl, _, rfl, ?_⟩
        by_cases c2 : lo ≤ v
        · refine if_true_of (decide_eq_true c2) ⟨_, rfl, _, _, rfl, rfl, _, rfl, rfl, _, rfl, if_false_of ?_ ⟨_, rfl, s9, e9⟩⟩
          rw [decide_eq_true c2, Bool.true_and, decide_eq_true rfl]
          rfl
        · refine if_false_of (decide_eq_false c2) ⟨_, rfl, rfl, _, rfl, if_false_of ?_ ⟨_, rfl, s9, e9⟩⟩
          rw [decide_eq_false c2, Bool.false_and, decide_eq_true rfl]
          rfl
      · rintro σ H9 ⟨w5, rfl, s9, e9⟩
        refine ⟨_, _, _, rfl, s9 _ _ q1, fun x hx => ?_, q3.sm s9, q4.trans (Kp.same s9)⟩
        obtain ⟨t, lo, hi, rfl, ht⟩ := q2 x hx
        exact ⟨t, lo, hi, rfl, s9 _ _ ht⟩
    rintro σ H8 ⟨w5, w11, w12, rfl, q1, q2, q3, q4⟩
    exact q _ q3 q4

end
end K03
set_option Elab.async false
set_option linter.all false
set_option maxRecDepth 100000
set_option maxHeartbeats 4000000
/-! a dict == a text: False -/
namespace Fd
open PySem PySem.SeqAt
open AutoSeq1 (wpAny_loadPart')
open MeetsSeq MeetsSeq2 MeetsSeq3 SeqRoads2
theorem dict_eq_declines_str (l : Addr) (o : Obj) (b : Str) (u : Tok) :
    Meets (Builtin.«dict.__eq__» ⟨[.ref l, .str b u], []⟩) (fun _ R s => (s.heap.get? l = some o ∧ o.cls = .type "dict" ∧ ∃ es ep, o.data = .dict es ep) ∧ R (.ok (.ret .notImplemented)) s) :=
  .of_wp fun prog w A R s h => by
    obtain ⟨hp, g, d, tk, os⟩ := s
    obtain ⟨⟨hl, hc, es, ep, hd⟩, h⟩ := h
    obtain ⟨c, dd, da, sl⟩ := o
    simp only at hc hd
    subst hc hd
    have f1 := F.sub_str_dict
    wp_walk using wpAny_loadPart' hl, wpAny_load hl
    exact ⟨_, rfl, h⟩
theorem str_eq_declines_dict (l : Addr) (o : Obj) (b : Str) (u : Tok) :
    Meets (Builtin.«str.__eq__» ⟨[.str b u, .ref l], []⟩) (fun _ R s => (s.heap.get? l = some o ∧ o.cls = .type "dict" ∧ ∃ es ep, o.data = .dict es ep) ∧ R (.ok (.ret .notImplemented)) s) :=
  .of_wp fun prog w A R s h => by
    obtain ⟨hp, g, d, tk, os⟩ := s
    obtain ⟨⟨hl, hc, es, ep, hd⟩, h⟩ := h
    obtain ⟨c, dd, da, sl⟩ := o
    simp only at hc hd
    subst hc hd
    wp_walk using wpAny_loadPart' hl, wpAny_load hl
    exact ⟨_, rfl, h⟩
end Fd
namespace Fd
open PySem PySem.Spec PyProof.Rows L2
theorem op_eqDS {X : Cx} (hu : X.A.units < cLine) : OpR X (compareOp .Eq) (fun x y H Q => ∃ a kvs z, x = .ref a ∧ y = .str z ∧ H a = some (.dK kvs) ∧ Q (.bl false) H) := by
  intro pins s σ H x y v u Q I rx ry h
  obtain ⟨a, kvs, z, rfl, rfl, ha, q⟩ := h
  cases rx
  obtain ⟨t, rfl⟩ := ry
  obtain ⟨_, h1, vs, kv, hd⟩ := dk_of I.hok ha
  obtain ⟨o, es, ep, ho, hc, hdat, _⟩ := hd
  have f : s.heap.get? a = some o ∧ o.cls = .type "dict" ∧ ∃ es ep, o.data = .dict es ep := ⟨ho, hc.1, es, ep, hdat⟩
  show wpAny (model X.prog X.w) X.A (richCompare .Eq (.ref a) (.str z t)) (EP X pins σ Q) X.xe s
  exact SeqAt.rc_eq_decline_or (k := false) ⟨_, ho, hc.1⟩ (typeIs_str s z t) (by decide) F.sub_str_dict F.slot_dict_eq F.slot_str_eq_refl
    (fun _ hq => call_meets F.slot_dict_eq ⟨_, ho, hc.1⟩ F.entry_dict_eq (F.args_dict_eq_2 _ _) (dict_eq_declines_str a o z t) ⟨f, hq⟩)
    (fun _ hq => call_meets F.slot_str_eq_refl (typeIs_str s z t) F.entry_str_eq (F.args_str_eq_2 _ _) (str_eq_declines_dict a o z t) ⟨f, hq⟩)
    (fun _ hq => wpAny_of_eq (rfl : isSame (.ref a) (.str z t) = pure false) hq) (.inr hu) ⟨.bl false, H, I, rfl, q⟩
end Fd
set_option Elab.async false
set_option linter.all false
set_option maxRecDepth 100000
set_option maxHeartbeats 4000000
/-! l != b of two lists whose items are equal by an own ==: False. -/
namespace Fe
open PySem PySem.SeqAt
open AutoSeq1 (wpAny_loadPart')
open MeetsSeq MeetsSeq2 MeetsSeq3 SeqRoads2 GQ
section
variable {prog : Program} {w : World} {A : Around} {R : Result → Shared → Prop}
theorem ne_goes (l b : Addr) (N : Nat) (I : Nat → Shared → Prop) (hl : ListI prog w A (fun e s' => R (.error e) s') l b N I) (fin : ∀ s, I N s → R (.ok (.ret (.bool false))) s) (m : Nat) :
    ∀ j : Nat, m + j = N → ∀ s, I j s → wpAny (model prog w) A.in1 (Builtin.«list.__eq__.loop» ⟨[.ref l, .ref b, rawInt j, rawInt 3], []⟩) (FinOf prog w A R) (fun e s' => R (.error e) s') s := by
  induction m with
  | zero =>
    intro j hj s h
    obtain ⟨xs, ys, n, n2, g1, g2, z1, z2, _⟩ := hl _ _ h
    have jN : j = N := by omega
    have done : R (.ok (.ret (.bool false))) s := fin s (jN ▸ h)
    obtain ⟨hp, gl, dr, tk, os⟩ := s
    wp_walk using wpAny_loadPart' g1, wpAny_loadPart' g2
    have e1 : xs[((j : Nat) : Int).toNat]? = none := by
      simp
      omega
    have e2 : ys[((j : Nat) : Int).toNat]? = none := by
      simp
      omega
    rw [e1, e2]
    wp_walk using wpAny_loadPart' g1, wpAny_loadPart' g2
    show R (.ok (.ret (.bool (xs.size != ys.size)))) _
    rw [z1, z2]
    simpa using done
  | succ m ih =>
    intro j hj s h
    obtain ⟨xs, ys, n, n2, g1, g2, z1, z2, turn⟩ := hl _ _ h
    have l1 : j < xs.size := by omega
    have l2 : j < ys.size := by omega
    have one := turn l1 l2
    obtain ⟨hp, gl, dr, tk, os⟩ := s
    wp_walk using wpAny_loadPart' g1, wpAny_loadPart' g2
    have e1 : xs[((j : Nat) : Int).toNat]? = some xs[j] := by simp [l1]
    have e2 : ys[((j : Nat) : Int).toNat]? = some ys[j] := by simp [l2]
    rw [e1, e2]
    refine wpAny_bind (wpAny_mono one (fun r s2 hr => ?_) fun _ _ z => z)
    obtain ⟨er, h2⟩ := hr
    subst er
    have rest := ih (j + 1) (by omega) s2 h2
    obtain ⟨hp2, gl2, dr2, tk2, os2⟩ := s2
    wp_walk
    rw [show ((j : Int) + 1) = ((j + 1 : Nat) : Int) by omega]
    refine ⟨plainId_quiet plain_eq_loop _, codeAny_builtin entry_eq_loop ?_⟩
    rw [Around.under_plainId plain_eq_loop _]
    exact rest
theorem list_ne (l b : Addr) (N : Nat) (I : Nat → Shared → Prop) (hl : ListI prog w A (fun e s' => R (.error e) s') l b N I) (fin : ∀ s, I N s → R (.ok (.ret (.bool false))) s) {s : Shared} (h : I 0 s) :
    wpAny (model prog w) A.in1 (Builtin.«list.__ne__» ⟨[.ref l, .ref b], []⟩) (FinOf prog w A R) (fun e s' => R (.error e) s') s := by
  obtain ⟨xs, ys, n, n2, g1, g2, z1, z2, _⟩ := hl _ _ h
  have rest := ne_goes (A := A) (R := R) l b N I hl fin N 0 (by omega) s h
  obtain ⟨hp, gl, dr, tk, os⟩ := s
  have sub := AutoSeq1.sub_list_list
  have same : ¬ (xs.size != ys.size) = true := by simp [z1, z2]
  wp_walk using wpAny_loadPart' g1, wpAny_loadPart' g2
  refine ⟨plainId_quiet plain_eq_loop _, codeAny_builtin entry_eq_loop ?_⟩
  rw [Around.under_plainId plain_eq_loop _]
  exact rest
theorem rc_ne {l b : Addr} {N : Nat} {E : Value → Shared → Prop} {s : Shared} {Q : Value → Shared → Prop} (hu : A.units < cLine) (I : Nat → Shared → Prop) (hl : ListI prog w A E l b N I) (fin : ∀ s, I N s → Q (.bool false) s) (h : I 0 s) :
    wpAny (model prog w) A (richCompare .NotEq (.ref l) (.ref b)) Q E s := by
  obtain ⟨xs, ys, n, n2, g1, g2, _, _, _⟩ := hl _ _ h
  refine wpAny_richCompare_same_room (op := .NotEq) ⟨_, g1, rfl⟩ ⟨_, g2, rfl⟩ F.slot_list_ne (call_here F.slot_list_ne ⟨_, g1, rfl⟩ F.entry_list_ne (F.args_list_ne_2 _ _) ?_) hu
  exact list_ne (R := wants (fun v s' => v ≠ .notImplemented ∧ Q v s') E) l b N I hl (fun s' q => ⟨(fun x => nomatch x), fin s' q⟩) h
end
end Fe
namespace Fe
open PySem PySem.Spec PyProof.Rows L2
theorem op_neG {X : Cx} {n : Nat} {D : Eqv} (hD : Mon D) (h : EqG X n D) (hr : Room (n + 1) X.A) : OpR X (compareOp .NotEq) (fun x y H Q => DList D x y H ∧ ∀ H', Ext H H' → Q (.bl false) H') := by
  intro pn s σ H x y v u Q I rx ry hq
  obtain ⟨⟨a, b, xs, ys, rfl, rfl, ha, hb, p⟩, q⟩ := hq
  cases rx
  cases ry
  show wpAny (model X.prog X.w) X.A (richCompare .NotEq (.ref a) (.ref b)) (EP X pn σ Q) X.xe s
  have sb : Sub X (n + 1) X.A := ⟨hr, rfl⟩
  refine rc_ne (N := xs.length) sb.room.units0 (fun _ s' => LoopI X pn σ H s') (fun i s' l => ?_) (fun s' l => ?_) ⟨H, I, Ext.rfl'⟩
  · obtain ⟨H1, I1, e1⟩ := id l
    obtain ⟨z, its, k, r, e⟩ := I1.hok a _ (e1 _ _ ha)
    obtain ⟨z2, its2, k2, r2, e2⟩ := I1.hok b _ (e1 _ _ hb)
    exact ⟨its.toArray, its2.toArray, k, k2, e, e2, by rw [List.size_toArray, ← r.length], by rw [List.size_toArray, ← r2.length, ← p.1], fun h1 h2 => turnG hD h sb p r r2 i h1 h2 s' l⟩
  · obtain ⟨H1, I1, e1⟩ := l
    exact ⟨.bl false, H1, I1, rfl, q H1 e1⟩
/-- one of two readings -/
theorem op_or {X : Cx} {f : Value → Value → Sem Value} {r1 r2 : R2} (h1 : OpR X f r1) (h2 : OpR X f r2) : OpR X f (fun x y H Q => r1 x y H Q ∨ r2 x y H Q) := by
  intro pn s σ H x y v u Q I rx ry h
  rcases h with h | h
  · exact h1 pn s σ H x y v u Q I rx ry h
  · exact h2 pn s σ H x y v u Q I rx ry h
end Fe
set_option Elab.async false
set_option linter.all false
set_option maxRecDepth 100000
set_option maxHeartbeats 1000000
set_option exponentiation.threshold 100000
namespace K03
open PySem PySem.Spec PyProof.Rows L2 Fa Fb NumText TL
/-- a thing that is no amount, unit or word; b: is it 'befor' -/
structure ThK (K : PySem.W.Frag) (H : Hp) (y : V) (d : PyData) (b : Bool) : Prop where
  bad : Bad K H y
  nm : (Tx K H y false ∧ b = false) ∨ ∃ z, y = .str z ∧ z.length ≤ 100 ∧ isName z = b ∧ isUnit z = false ∧ isWord z = false ∧ amtOf z = none
  sv : Fg.Sv H y d
  eq : ∀ H' Q, Same H H' → (∀ H2, Same H' H2 → Q (.bl b) H2) → (rEqD K y (.str "befor") H' Q ∨ ∃ a kvs z, y = .ref a ∧ V.str "befor" = .str z ∧ H' a = some (.dK kvs) ∧ Q (.bl false) H')
theorem bad_of {K : PySem.W.Frag} {H : Hp} {y : V} {Ty : String} {b1 b2 : Bool} (hT : Ty ∈ tys) (t : TyX K H y (.type Ty)) (h1 : kitB Ty "int" = some b1) (h2 : kitB Ty "bool" = some b2) (hb : (b1 && !b2) = false) : Bad K H y :=
  ⟨Ty, hT, t, _, b1, b2, t, kit_ty h1, kit_ty h2, hb.symm⟩
def D9 : List (PyData × Bool) := [(.none, false), (.bool true, false), (.list [], false), (.list [.str "beats"], false), (.dict [], false), (.str "", false), (.str "Beats", false), (.str "befor", true), (.tuple [.str "same"], false)]
theorem d9_ok : ∀ e ∈ D9, ∀ nm ∈ [("amount" : Str), "unit", "word"], (PyData.list [.str nm, e.1]).showable = true ∧ (PyData.list [.str nm, e.1]).depth ≤ 20 ∧ (PyData.list [.str nm, e.1]).shown.length ≤ sizeLine := by
  intro e he nm hn
  simp only [D9, List.mem_cons, List.not_mem_nil, or_false] at he hn
  rcases he with rfl | rfl | rfl | rfl | rfl | rfl | rfl | rfl | rfl <;> rcases hn with rfl | rfl | rfl <;> exact ⟨by decide +kernel, by decide +kernel, by decide +kernel⟩
theorem things9 {K : PySem.W.Frag} {H : Hp} {a1 a2 a3 a4 : Addr} (h1 : H a1 = some (.lst [])) (h2 : H a2 = some (.lst [.str "beats"])) (h3 : H a3 = some (.dK [])) (h4 : H a4 = some (.tup [.str "same"])) :
    ∀ x ∈ [V.non, .bl true, .ref a1, .ref a2, .ref a3, .str "", .str "Beats", .str "befor", .ref a4], ∃ e ∈ D9, ∀ H', Same H H' → ThK K H' x e.1 e.2 := by
  have eD : ∀ (x : V) (d : PyData) (b : Bool), (∀ H', Same H H' → Dp K H' x d) → SeqAt.shaped d = true → PyData.eqv d (.str "befor") = b → ∀ H' Q, Same H H' → (∀ H2, Same H' H2 → Q (.bl b) H2) → (rEqD K x (.str "befor") H' Q ∨ ∃ a kvs z, x = .ref a ∧ V.str "befor" = .str z ∧ H' a = some (.dK kvs) ∧ Q (.bl false) H') := fun x d b hd hs he H' Q s k =>
    .inl ⟨d, .str "befor", hd H' s, .str _, hs, by decide +kernel, by rw [he]; exact k H' (Same.refl _)⟩
  intro x hx
  simp only [List.mem_cons, List.not_mem_nil, or_false] at hx
  rcases hx with rfl | rfl | rfl | rfl | rfl | rfl | rfl | rfl | rfl
  · exact ⟨(.none, false), by simp [D9], fun J sJ => ⟨bad_of (Ty := "NoneType") (b1 := false) (b2 := false) (by simp [tys]) (.base .non) (by decide +kernel) (by decide +kernel) rfl, .inl ⟨⟨_, .base .non, kit_ty (by decide +kernel)⟩, rfl⟩, .non, fun H2 Q s2 k => eD _ .none _ (fun _ _ => .non) (by decide +kernel) (by decide +kernel) H2 Q (sJ.trans s2) k⟩⟩
  · exact ⟨(.bool true, false), by simp [D9], fun J sJ => ⟨bad_of (Ty := "bool") (b1 := true) (b2 := true) (by simp [tys]) (.base (.bl _)) (by decide +kernel) (by decide +kernel) rfl, .inl ⟨⟨_, .base (.bl _), kit_ty (by decide +kernel)⟩, rfl⟩, .bl _, fun H2 Q s2 k => eD _ (.bool true) _ (fun _ _ => .bl _) (by decide +kernel) (by decide +kernel) H2 Q (sJ.trans s2) k⟩⟩
  · exact ⟨(.list [], false), by simp [D9], fun J sJ => ⟨bad_of (Ty := "list") (b1 := false) (b2 := false) (by simp [tys]) (.base (.lst (sJ _ _ h1))) (by decide +kernel) (by decide +kernel) rfl, .inl ⟨⟨_, .base (.lst (sJ _ _ h1)), kit_ty (by decide +kernel)⟩, rfl⟩, .lst (sJ _ _ h1) .nil, fun H2 Q s2 k => eD _ (.list []) _ (fun _ s => .lst (SqL.of (s _ _ h1)) .nil) (by decide +kernel) (by decide +kernel) H2 Q (sJ.trans s2) k⟩⟩
  · exact ⟨(.list [.str "beats"], false), by simp [D9], fun J sJ => ⟨bad_of (Ty := "list") (b1 := false) (b2 := false) (by simp [tys]) (.base (.lst (sJ _ _ h2))) (by decide +kernel) (by decide +kernel) rfl, .inl ⟨⟨_, .base (.lst (sJ _ _ h2)), kit_ty (by decide +kernel)⟩, rfl⟩, .lst (sJ _ _ h2) (.cons (.str _) .nil), fun H2 Q s2 k => eD _ (.list [.str "beats"]) _ (fun _ s => .lst (SqL.of (s _ _ h2)) (.cons (.str _) .nil)) (by decide +kernel) (by decide +kernel) H2 Q (sJ.trans s2) k⟩⟩
  · exact ⟨(.dict [], false), by simp [D9], fun J sJ => ⟨bad_of (Ty := "dict") (b1 := false) (b2 := false) (by simp [tys]) (.base (.dK (sJ _ _ h3))) (by decide +kernel) (by decide +kernel) rfl, .inl ⟨⟨_, .base (.dK (sJ _ _ h3)), kit_ty (by decide +kernel)⟩, rfl⟩, .dic (sJ _ _ h3), fun H' Q s k => .inr ⟨_, _, _, rfl, rfl, (sJ.trans s) _ _ h3, k H' (Same.refl _)⟩⟩⟩
  · exact ⟨(.str "", false), by simp [D9], fun J sJ => ⟨bad_of (Ty := "str") (b1 := false) (b2 := false) (by simp [tys]) (.base (.str _)) (by decide +kernel) (by decide +kernel) rfl, .inr ⟨"", rfl, by decide +kernel, by decide +kernel, by decide +kernel, by decide +kernel, by decide +kernel⟩, .str _, fun H2 Q s2 k => eD _ (.str "") _ (fun _ _ => .str _) (by decide +kernel) (by decide +kernel) H2 Q (sJ.trans s2) k⟩⟩
  · exact ⟨(.str "Beats", false), by simp [D9], fun J sJ => ⟨bad_of (Ty := "str") (b1 := false) (b2 := false) (by simp [tys]) (.base (.str _)) (by decide +kernel) (by decide +kernel) rfl, .inr ⟨"Beats", rfl, by decide +kernel, by decide +kernel, by decide +kernel, by decide +kernel, by decide +kernel⟩, .str _, fun H2 Q s2 k => eD _ (.str "Beats") _ (fun _ _ => .str _) (by decide +kernel) (by decide +kernel) H2 Q (sJ.trans s2) k⟩⟩
  · exact ⟨(.str "befor", true), by simp [D9], fun J sJ => ⟨bad_of (Ty := "str") (b1 := false) (b2 := false) (by simp [tys]) (.base (.str _)) (by decide +kernel) (by decide +kernel) rfl, .inr ⟨"befor", rfl, by decide +kernel, by decide +kernel, by decide +kernel, by decide +kernel, by decide +kernel⟩, .str _, fun H2 Q s2 k => eD _ (.str "befor") _ (fun _ _ => .str _) (by decide +kernel) (by decide +kernel) H2 Q (sJ.trans s2) k⟩⟩
  · exact ⟨(.tuple [.str "same"], false), by simp [D9], fun J sJ => ⟨bad_of (Ty := "tuple") (b1 := false) (b2 := false) (by simp [tys]) (.base (.tup (sJ _ _ h4))) (by decide +kernel) (by decide +kernel) rfl, .inl ⟨⟨_, .base (.tup (sJ _ _ h4)), kit_ty (by decide +kernel)⟩, rfl⟩, .tup (sJ _ _ h4) (.cons (.str _) .nil), fun H2 Q s2 k => eD _ (.tuple [.str "same"]) _ (fun _ s => .tup (SqT.of (s _ _ h4)) (.cons (.str _) .nil)) (by decide +kernel) (by decide +kernel) H2 Q (sJ.trans s2) k⟩⟩
def tT1 (K : PySem.W.Frag) : TS := fun D σ H' => ∃ x v1 d b, σ = [some x, v1, none] ∧ (∀ J, Same H' J → ThK K J x d b) ∧ ∀ v J, Same H' J → D.nx [some x, some v, none] J
def tT2 (K : PySem.W.Frag) : TS := fun D σ H' => ∃ x l d b, σ = [some x, some (.ref l), none] ∧ H' l = some (.lst [.bl b, .bl false, .bl false, .bl false]) ∧ (∀ J, Same H' J → ThK K J x d b) ∧ ∀ J, Same H' J → D.nx [some x, some (.ref l), none] J
theorem bools4 (a : Bool) : (PyData.list [.bool a, .bool false, .bool false, .bool false]).showable = true ∧ (PyData.list [.bool a, .bool false, .bool false, .bool false]).depth ≤ 20 ∧ (PyData.list [.bool a, .bool false, .bool false, .bool false]).shown.length ≤ sizeLine := by
  cases a <;> exact ⟨by decide +kernel, by decide +kernel, by decide +kernel⟩
theorem neS (v : V) : (!decide (v = v)) = false := by rw [decide_eq_true rfl]; rfl
abbrev sThings : Stmt := top 47
theorem scThings : FnScope ["_law_thing", "_law_found", "_law_word"] [] (defScope sThings) := ⟨rfl, rfl, rfl, by decide +kernel, rfl, by decide +kernel, by decide +kernel⟩
def spThings : Sp := fun vs H Q _ => vs = [] ∧ ∀ H', Q (.bl true) H'
section
variable {P : Program} {w : World} {K : PySem.W.Frag} {mg : Str → Option Value} {base : Heap} {f fT fO fN fU fW fI f2 f3 : Addr} {fd fdT fdO fdN fdU fdW fdI fd2 fd3 fdA : FuncData}
theorem ok_things (F : FnP K "_law_things_right" sThings f fd) (T : AF K mg) (hS : Fg.SysD K) (kStr : PySem.W.kitOne K (.ref (CA K)) (.type "str") = some false) (mR : mg "repr" = none)
    (GT : Fn P w K mg base "_law_told" 8 ["_law_at", "_law_thing"] (spTold K) fT fdT) (GO : Fn P w K mg base "amount_of" 6 ["text"] (spAmtOf K) fO fdO) (GN : Fn P w K mg base "is_name" 2 ["value"] (spName K) fN fdN) (GU : Fn P w K mg base "is_unit" 1 ["value"] (spText K isUnit) fU fdU) (GW : Fn P w K mg base "is_word" 1 ["value"] (spText K isWord) fW fdW)
    (GI : Fn P w K mg base "is_integer" 2 ["value", "low", "high"] (spIntg K) fI fdI) (G3 : Fn P w K mg base "other_unit" 3 ["unit"] (spTurn K isUnit othU (CU K)) f3 fd3) (G2 : Fn P w K mg base "turned" 3 ["word"] (spTurn K isWord turnW (CW K)) f2 fd2)
    (GI4 : FnOk P w K mg base (L2.CX P w) 4 (aI K) fdA ["self", "top", "bottom"] (spInit K)) {ds : List Value} (hds : Vals [.int 1] ds) (bI : Binds K fdA ["self", "top", "bottom"] ds) :
    Fg.FnG P w K mg base (L2.CX P w) 9 f fd [] spThings := by
  refine Fg.okG F scThings (fun vs H Q E h => ?_) (fun cdv A outer s H vs Q E G hr h => ?_)
  · obtain ⟨rfl, _⟩ := h
    rfl
  · obtain ⟨rfl, q⟩ := h
    have hr1 := hr.mono (show 1 ≤ 8 by decide)
    have hr2 := hr.mono (show 2 ≤ 8 by decide)
    have hr3 := hr.mono (show 3 ≤ 8 by decide)
    have hr5 := hr.mono (show 5 ≤ 8 by decide)
    have hr6 := hr.mono (show 6 ≤ 8 by decide)
    have hu : (A.deeper (envOfC "_law_things_right" (defScope sThings) s.heap.objs.size f cdv)).units + 64 < cLine := by
      have := hr.un
      omega
    refine ⟨_, (pss_cons (ps_for (passes_of rfl) rfl (pi_list (pe_lst (pa_cons pe_non (pa_cons pe_bl (pa_cons (pe_lst pa_nil) (pa_cons (pe_lst (pa_cons pe_str pa_nil)) (pa_cons pe_dnewK (pa_cons pe_str (pa_cons pe_str (pa_cons pe_str (pa_cons (pe_tup (pa_cons pe_str pa_nil)) pa_nil))))))))))) (pg_name (i := 0) scThings.nd rfl (Or.inl rfl))
      (pss_cons (ps_if (PW.pt (pw_or (pt_cmpR op_ne (pe_callB (Fg.call_reprD hS G hu) rfl mR boot_repr (pa_cons (pe_call GT.ok hr rfl GT.g GT.k GT.b .nil passL (pa_cons pe_int (pa_cons (pv 0) pa_nil))) pa_nil)) (pe_callB (Fg.call_reprD hS G hu) rfl mR boot_repr (pa_cons (pe_lst (pa_cons pe_str (pa_cons (pv 0) pa_nil))) pa_nil)) (nomark _)) (pw_or1 (pt_cmpR op_ne (pe_callB (Fg.call_reprD hS G hu) rfl mR boot_repr (pa_cons (pe_call GT.ok hr rfl GT.g GT.k GT.b .nil passL (pa_cons pe_int (pa_cons (pv 0) pa_nil))) pa_nil)) (pe_callB (Fg.call_reprD hS G hu) rfl mR boot_repr (pa_cons (pe_lst (pa_cons pe_str (pa_cons (pv 0) pa_nil))) pa_nil)) (nomark _))))) (pss_one (ps_ret pe_bl)) pss_nil)
      (pss_cons (ps_if (PW.pt (pw_or (pt_cmpR op_ne (pe_callB (Fg.call_reprD hS G hu) rfl mR boot_repr (pa_cons (pe_call GT.ok hr rfl GT.g GT.k GT.b .nil passL (pa_cons pe_int (pa_cons (pv 0) pa_nil))) pa_nil)) (pe_callB (Fg.call_reprD hS G hu) rfl mR boot_repr (pa_cons (pe_lst (pa_cons pe_str (pa_cons (pv 0) pa_nil))) pa_nil)) (nomark _)) (pw_or1 (pt_cmpR op_notN (pe_call GO.ok hr6 rfl GO.g GO.k GO.b .nil passL (pa_cons (pv 0) pa_nil)) pe_non (nomark _))))) (pss_one (ps_ret pe_bl)) pss_nil)
      (pss_imp (S := tT1 K) (pss_cons (ps_set (i := 1) scThings.nd rfl (Or.inl rfl) (pe_lst (pa_cons (pe_call GN.ok hr2 rfl GN.g GN.k GN.b .nil passL (pa_cons (pv 0) pa_nil)) (pa_cons (pe_call GU.ok hr1 rfl GU.g GU.k GU.b .nil passL (pa_cons (pv 0) pa_nil)) (pa_cons (pe_call GW.ok hr1 rfl GW.g GW.k GW.b .nil passL (pa_cons (pv 0) pa_nil)) (pa_cons (pe_call GI.ok hr2 rfl GI.g GI.k GI.b .nil passL (pa_cons (pv 0) (pa_cons (pe_op op_sub pe_int pe_int) (pa_cons pe_int pa_nil)))) pa_nil))))))
      (pss_imp (S := tT2 K) (pss_one (ps_if (pt_cmpR op_ne (pe_callB (Fg.call_reprD hS G hu) rfl mR boot_repr (pa_cons (pv 1) pa_nil)) (pe_callB (Fg.call_reprD hS G hu) rfl mR boot_repr (pa_cons (pe_lst (pa_cons (pe_cmpR (Fe.op_or (op_eqD hu) (Fd.op_eqDS (Nat.lt_of_le_of_lt (Nat.le_add_right _ 64) hu))) (pv 0) pe_str (nomark _)) (pa_cons pe_bl (pa_cons pe_bl (pa_cons pe_bl pa_nil))))) pa_nil)) (nomark _)) (pss_one (ps_ret pe_bl)) pss_nil)) ?tail2)) ?tail1))))
      (pss_cons (ps_if (PW.pt (pw_or (pt_cmpR op_notN (pe_call GO.ok hr6 rfl GO.g GO.k GO.b .nil passL (pa_cons pe_int pa_nil)) pe_non (nomark _)) (pw_or1 (pt_cmpR op_notN (pe_call GO.ok hr6 rfl GO.g GO.k GO.b .nil passL (pa_cons (pe_make T.mkA GI4 hr5 rfl T.g bI hds passL (pa_cons pe_int pa_nil)) pa_nil)) pe_non (nomark _))))) (pss_one (ps_ret pe_bl)) pss_nil)
      (pss_cons (ps_if (pt_cmpR (op_neD hu) (pe_lst (pa_cons (pe_call G3.ok hr3 rfl G3.g G3.k G3.b .nil passL (pa_cons pe_str pa_nil)) (pa_cons (pe_call G3.ok hr3 rfl G3.g G3.k G3.b .nil passL (pa_cons pe_str pa_nil)) pa_nil))) (pe_lst (pa_cons pe_str (pa_cons pe_str pa_nil))) (nomark _)) (pss_one (ps_ret pe_bl)) pss_nil)
      (pss_one (ps_ret (pe_cmpR (op_eqD hu) (pe_lc (own := [("_law_word", 2)]) (g := gName 2)  (by rfl) scThings.nd (pi_list (pe_lst (pa_cons pe_str (pa_cons pe_str (pa_cons pe_str pa_nil))))) (blkOk_by (own := [("_law_word", 2)]) (N := ["_law_thing", "_law_found", "_law_word"]) (sc := defScope sThings) (by decide +kernel)) (fun _ _ _ _ _ => (pg_name (i := 2) scThings.nd rfl (Or.inl rfl))) (fun _ _ _ _ _ => pts_nil) (fun _ _ _ _ _ => (pe_call G2.ok hr3 rfl G2.g G2.k G2.b .nil passL (pa_cons (pv 2) pa_nil)))) (pe_lst (pa_cons pe_str (pa_cons pe_str (pa_cons pe_str pa_nil)))) (nomark _))))))), ?_⟩
    case tail1 =>
      rintro D σ H1 ⟨x, v1, d, b, rfl, th, k⟩
      obtain ⟨Ty, _, _, wh⟩ := (th H1 (Same.refl _)).bad
      rcases (th H1 (Same.refl _)).nm with ⟨tx, rfl⟩ | ⟨z, rfl, hz, n1, n2, n3, _⟩
      · refine ⟨_, rfl, _, rfl, .inl ⟨tx, _, rfl, _, rfl, .inl ⟨tx, _, rfl, _, rfl, .inl ⟨tx, _, rfl, _, _, rfl, rfl, _, _, _, rfl, .inl ⟨wh, by show 4 ≤ sizeLine; decide, fun l hl => ?_⟩⟩⟩⟩⟩
        exact ⟨x, l, d, false, rfl, upd_same, fun J s => th J ((Same.upd hl).trans s), fun J s => k _ J ((Same.upd hl).trans s)⟩
      · refine ⟨_, rfl, _, rfl, .inr ⟨z, rfl, by omega, fun H2 s2 => ?_⟩⟩
        obtain ⟨Ty, _, _, wh⟩ := (th H2 s2).bad
        refine ⟨_, rfl, _, rfl, .inr ⟨z, rfl, _, rfl, _, rfl, .inr ⟨z, rfl, _, rfl, _, _, rfl, rfl, _, _, _, rfl, .inl ⟨wh, by show 4 ≤ sizeLine; decide, fun l hl => ?_⟩⟩⟩⟩
        rw [n1, n2, n3]
        exact ⟨_, l, d, b, rfl, upd_same, fun J s => th J (s2.trans ((Same.upd hl).trans s)), fun J s => k _ J (s2.trans ((Same.upd hl).trans s))⟩
    case tail2 =>
      rintro D σ H1 ⟨x, l, d, b, rfl, hl, th, k⟩
      obtain ⟨w1, w2, w3⟩ := bools4 b
      refine ⟨_, rfl, l, _, rfl, .lst hl (.cons (.bl _) (.cons (.bl _) (.cons (.bl _) (.cons (.bl _) .nil)))), w1, w2, w3, _, rfl, ?_⟩
      refine (th H1 (Same.refl _)).eq H1 _ (Same.refl _) fun H2 s2 => ?_
      refine ⟨by show 4 ≤ sizeLine; decide, fun l2 h2 => ?_⟩
      refine ⟨l2, .list [.bool b, .bool false, .bool false, .bool false], rfl, .lst upd_same (.cons (.bl _) (.cons (.bl _) (.cons (.bl _) (.cons (.bl _) .nil)))), w1, w2, w3, rfl, _, rfl, ?_⟩
      generalize (PyData.list [.bool b, .bool false, .bool false, .bool false]).shown = sh
      refine if_false_of (neS _) ?_
      exact k _ (s2.trans (Same.upd h2))
    refine ⟨by show 0 ≤ sizeLine; decide, fun a1 h1 => ⟨by show 1 ≤ sizeLine; decide, fun a2 h2 => fun a3 h3 => ⟨by show 1 ≤ sizeLine; decide, fun a4 h4 => ⟨by show 9 ≤ sizeLine; decide, fun l hl => ⟨l, rfl, ⟨_, SqL.of upd_same⟩, ?_⟩⟩⟩⟩⟩
    have g2 := Same.upd (o := .lst [.str "beats"]) h2
    have g3 := Same.upd (o := .dK []) h3
    have g4 := Same.upd (o := .tup [.str "same"]) h4
    have g5 := Same.upd (o := .lst [V.non, .bl true, .ref a1, .ref a2, .ref a3, .str "", .str "Beats", .str "befor", .ref a4]) hl
    have things := things9 (K := K) (g5 _ _ (g4 _ _ (g3 _ _ (g2 _ _ upd_same)))) (g5 _ _ (g4 _ _ (g3 _ _ upd_same))) (g5 _ _ (g4 _ _ upd_same)) (g5 _ _ upd_same)
    have fl : (upd (upd (upd (upd (upd H a1 (.lst [])) a2 (.lst [.str "beats"])) a3 (.dK [])) a4 (.tup [.str "same"])) l (.lst [V.non, .bl true, .ref a1, .ref a2, .ref a3, .str "", .str "Beats", .str "befor", .ref a4])) l = some (.lst [V.non, .bl true, .ref a1, .ref a2, .ref a3, .str "", .str "Beats", .str "befor", .ref a4]) := upd_same
    generalize (upd (upd (upd (upd (upd H a1 (.lst [])) a2 (.lst [.str "beats"])) a3 (.dK [])) a4 (.tup [.str "same"])) l (.lst [V.non, .bl true, .ref a1, .ref a2, .ref a3, .str "", .str "Beats", .str "befor", .ref a4])) = HB at things fl
    clear g2 g3 g4 g5 h1 h2 h3 h4 hl
    refine for_list (K := K) (a := l) (xs := [V.non, .bl true, .ref a1, .ref a2, .ref a3, .str "", .str "Beats", .str "befor", .ref a4]) (fun i σ H' => ∃ v0 v1 : Option V, σ = [v0, v1, none] ∧ Same HB H') ⟨_, _, rfl, Same.refl _⟩ (fun i σ H' _ ⟨_, _, _, s⟩ => SqL.of (s _ _ fl)) ?_ ?_
    · rintro i x σ H1 hi ⟨v0, v1, rfl, s1⟩
      obtain ⟨⟨d, b⟩, he, th⟩ := things x (List.mem_of_getElem? hi)
      obtain ⟨a1, a2, a3⟩ := d9_ok _ he "amount" (by simp)
      obtain ⟨b1, b2, b3⟩ := d9_ok _ he "unit" (by simp)
      obtain ⟨c1, c2, c3⟩ := d9_ok _ he "word" (by simp)
      have outU : ∀ J, Same HB J → Out K isUnit J x := fun J sJ => by
        rcases (th J sJ).nm with ⟨tx, _⟩ | ⟨z, rfl, _, _, u, _⟩
        · exact .inl tx
        · exact .inr ⟨z, rfl, u⟩
      have outW : ∀ J, Same HB J → Out K isWord J x := fun J sJ => by
        rcases (th J sJ).nm with ⟨tx, _⟩ | ⟨z, rfl, _, _, _, u, _⟩
        · exact .inl tx
        · exact .inr ⟨z, rfl, u⟩
      refine ⟨_, rfl, 0, x, "amount", rfl, .inl ⟨rfl, (th _ s1).bad, rfl⟩, fun l1 H2 s2 e2 => ?_⟩
      have s2' := s1.trans s2
      refine ⟨l1, _, rfl, .lst e2 (.cons (.str _) (.cons (th _ s2').sv .nil)), a1, a2, a3, _, rfl, by show 2 ≤ sizeLine; decide, fun l3 h3 => ?_⟩
      have s3' := s2'.trans (Same.upd (o := .lst [.str "amount", x]) h3)
      refine ⟨l3, _, rfl, .lst upd_same (.cons (.str _) (.cons (th _ s3').sv .nil)), a1, a2, a3, rfl, _, rfl, ?_⟩
      generalize (PyData.list [.str "amount", d]).shown = sh
      refine if_false_of (neS _) ?_
      clear sh
      refine ⟨_, rfl, 1, x, "unit", rfl, .inr (.inl ⟨rfl, outU _ s3', rfl⟩), fun l1 H4 s4 e4 => ?_⟩
      have s4' := s3'.trans s4
      refine ⟨l1, _, rfl, .lst e4 (.cons (.str _) (.cons (th _ s4').sv .nil)), b1, b2, b3, _, rfl, by show 2 ≤ sizeLine; decide, fun l5 h5 => ?_⟩
      have s5' := s4'.trans (Same.upd (o := .lst [.str "unit", x]) h5)
      refine ⟨l5, _, rfl, .lst upd_same (.cons (.str _) (.cons (th _ s5').sv .nil)), b1, b2, b3, rfl, _, rfl, ?_⟩
      generalize (PyData.list [.str "unit", d]).shown = sh
      refine if_false_of (neS _) ?_
      clear sh
      refine ⟨_, rfl, 2, x, "word", rfl, .inr (.inr ⟨rfl, outW _ s5', rfl⟩), fun l1 H6 s6 e6 => ?_⟩
      have s6' := s5'.trans s6
      refine ⟨l1, _, rfl, .lst e6 (.cons (.str _) (.cons (th _ s6').sv .nil)), c1, c2, c3, _, rfl, by show 2 ≤ sizeLine; decide, fun l7 h7 => ?_⟩
      have s7' := s6'.trans (Same.upd (o := .lst [.str "word", x]) h7)
      refine ⟨l7, _, rfl, .lst upd_same (.cons (.str _) (.cons (th _ s7').sv .nil)), c1, c2, c3, rfl, _, rfl, ?_⟩
      generalize (PyData.list [.str "word", d]).shown = sh
      refine if_false_of (neS _) ?_
      clear sh
      have fin : ∀ H8, Same HB H8 → ∀ D : Ends, (∀ v J, Same HB J → D.nx [some x, some v, none] J) → tT1 K D [some x, v1, none] H8 := fun H8 s8 D k => ⟨x, v1, d, b, rfl, fun J sJ => th J (s8.trans sJ), fun v J sJ => k v J (s8.trans sJ)⟩
      rcases (th _ s7').nm with ⟨tx, _⟩ | ⟨z, rfl, hz, _, _, _, az⟩
      · exact ⟨_, rfl, x, rfl, .inl ⟨tx, rfl, _, rfl, if_false_of (by exact neS _) (fin _ s7' _ fun v J sJ => ⟨_, _, rfl, sJ⟩)⟩⟩
      · have l2 : z.length ≤ 2000 := by omega
        exact ⟨_, rfl, _, rfl, .inr ⟨z, rfl, l2, Nat.le_trans (part_len z).1 l2, Nat.le_trans (part_len z).2 l2, fun _ H8 s8 => ⟨rfl, _, rfl, if_false_of (by exact neS _) (fin _ (s7'.trans s8) _ fun v J sJ => ⟨_, _, rfl, sJ⟩)⟩, fun a b e => by rw [az] at e; cases e⟩⟩
    rintro σ H1 ⟨v0, v1, rfl, s1⟩
    refine ⟨.int 5, rfl, .inl ⟨⟨_, .base (.int _), kit_ty (by decide +kernel)⟩, rfl, _, rfl, if_false_of (by exact neS _) ?_⟩⟩
    refine fun y dy hy hdy hne => spInit_imp (make_fact T (n := 110) (a := 5) (b := 1) (by decide) (by decide) (by decide) (by decide) hy hdy hne) fun v2 H2 ⟨hv, t2, u2, s2, iy, e2⟩ => ⟨hv, ?_⟩
    obtain ⟨py, dy', e, hpy, _⟩ := iy
    cases e
    refine ⟨.ref y, rfl, .inl ⟨⟨_, T.ty hpy, kStr⟩, rfl, _, rfl, if_false_of (by exact neS _) ?_⟩⟩
    refine ⟨_, rfl, .inr ⟨"beats", rfl, fun h => absurd h (by decide +kernel), fun _ => ⟨_, rfl, .inr ⟨"seconds", rfl, fun h => absurd h (by decide +kernel), fun _ => ⟨by show 2 ≤ sizeLine; decide, fun l1 h1 => ⟨by show 2 ≤ sizeLine; decide, fun l2 h2 => ?_⟩⟩⟩⟩⟩⟩
    refine ⟨.list [.str (othU "beats"), .str (othU "seconds")], .list [.str "seconds", .str "beats"], .lst (SqL.of (Same.upd h2 _ _ upd_same)) (.cons (.str _) (.cons (.str _) .nil)), .lst (SqL.of upd_same) (.cons (.str _) (.cons (.str _) .nil)), by decide +kernel, by decide +kernel, _, rfl, if_false_of (by decide +kernel) ?_⟩
    refine ⟨by show 3 ≤ sizeLine; decide, fun l3 h3 => ⟨l3, rfl, ⟨_, SqL.of upd_same⟩, fun Dl hDl => ?_⟩⟩
    have f3 : ∀ o, upd (upd (upd H2 l1 (HO.lst [V.str (othU "beats"), V.str (othU "seconds")])) l2 (HO.lst [V.str "seconds", V.str "beats"])) l3 o l3 = some o := fun o => upd_same
    generalize (upd (upd H2 l1 (HO.lst [V.str (othU "beats"), V.str (othU "seconds")])) l2 (HO.lst [V.str "seconds", V.str "beats"])) = HX at f3 hDl
    have W3 : ∀ z ∈ [("before" : Str), "same", "after"], isWord z = true := by decide +kernel
    refine lc_list (K := K) (a := l3) (xs := [("before" : Str), "same", "after"].map V.str) (fun i H' => Same (upd HX l3 (.lst [.str "before", .str "same", .str "after"])) H' ∧ H' Dl = some (.lst (([("before" : Str), "same", "after"].take i).map fun z => V.str (turnW z)))) ⟨Same.upd hDl, upd_same⟩ (fun i H' _ ⟨s, _⟩ => SqL.of (s _ _ (f3 _))) ?_ ?_
    · rintro i x H3 hx ⟨s3, hD⟩
      rw [List.getElem?_map] at hx
      cases e : [("before" : Str), "same", "after"][i]? with
      | none =>
        rw [e] at hx
        cases hx
      | some z =>
        rw [e] at hx
        cases hx
        refine ⟨rfl, _, rfl, _, rfl, .inr ⟨z, rfl, fun h => ?_, fun _ => ⟨_, hD, ?_, same_put s3 hDl, ?_⟩⟩⟩
        · rw [W3 z (List.mem_of_getElem? e)] at h
          cases h
        · rw [List.length_map, List.length_take]
          exact Nat.lt_of_le_of_lt (Nat.min_le_right _ _) (by decide)
        · rw [upd_same, List.take_add_one, e]
          simp
    rintro H3 ⟨s3, hD⟩
    refine ⟨by show 3 ≤ sizeLine; decide, fun l4 h4 => ?_⟩
    refine ⟨.list [.str (turnW "before"), .str (turnW "same"), .str (turnW "after")], .list [.str "after", .str "same", .str "before"], .lst (SqL.of (Same.upd h4 _ _ hD)) (.cons (.str _) (.cons (.str _) (.cons (.str _) .nil))), .lst (SqL.of upd_same) (.cons (.str _) (.cons (.str _) (.cons (.str _) .nil))), by decide +kernel, by decide +kernel, ?_⟩
    have ev : PyData.eqv (.list [.str (turnW "before"), .str (turnW "same"), .str (turnW "after")]) (.list [.str "after", .str "same", .str "before"]) = true := by decide +kernel
    rw [ev]
    exact q _

end
end K03
set_option Elab.async false
set_option linter.all false
set_option maxRecDepth 100000
set_option maxHeartbeats 4000000
set_option exponentiation.threshold 100000
namespace K03
open PySem PySem.Spec PyProof.Rows L2 Fa Fb NumText TL
theorem passS {X : Cx} (σ : L2.St) : PassesAt (L2.CX X.prog X.w) X σ ((fun _ => E0 : L2.St → XK) σ) := fun pins H s e s' i c => passL pins σ H s e s' i c
structure FnS2 (P : Program) (w : World) (K : PySem.W.Frag) (mg : Str → Option Value) (base : Heap) (x : Str) (lev : Nat) (ps : List Str) (sp : Sp) (f : Addr) (fd : FuncData) : Prop where
  ok : Fg.FnG P w K mg base (L2.CX P w) lev f fd ps sp
  g : mg x = some (.ref f)
  k : PySem.W.keepIn K (.ref f) = true
  b : Binds K fd ps []
def ItemOk (H' : Hp) (x : V) : Prop := ∃ t z due, x = .ref t ∧ H' t = some (.tup [.str z, due]) ∧ z.length ≤ 100 ∧ ((amtOf z = none ∧ due = .non) ∨ ∃ a b q c e, amtOf z = some (a, b) ∧ due = .ref q ∧ H' q = some (.tup [.int c, .int e]) ∧ Am.Red c e ∧ c * b = a * e)
theorem ItemOk.same {H H' : Hp} {x : V} (h : ItemOk H x) (s : Same H H') : ItemOk H' x := by
  obtain ⟨t, z, due, e, ht, hz, d⟩ := h
  refine ⟨t, z, due, e, s _ _ ht, hz, ?_⟩
  rcases d with d | ⟨a, b, q, c, e, h1, h2, h3, h4⟩
  · exact .inl d
  · exact .inr ⟨a, b, q, c, e, h1, h2, s _ _ h3, h4⟩
theorem items_of {H' : Hp} {t1 t2 t3 t4 t5 p2 p3 : Addr} (x1 : H' t1 = some (.tup [.str "-0", .non])) (x2 : H' t2 = some (.tup [.str "0/7", .ref p2])) (x3 : H' t3 = some (.tup [.str "999999/1000", .ref p3])) (x4 : H' t4 = some (.tup [.str "1/1001", .non])) (x5 : H' t5 = some (.tup [.str "1000000", .non]))
    (y2 : H' p2 = some (.tup [.int 0, .int 1])) (y3 : H' p3 = some (.tup [.int 999999, .int 1000])) : ∀ x ∈ [V.ref t1, .ref t2, .ref t3, .ref t4, .ref t5], ItemOk H' x := by
  intro x hx
  simp only [List.mem_cons, List.not_mem_nil, or_false] at hx
  rcases hx with rfl | rfl | rfl | rfl | rfl
  · exact ⟨t1, "-0", .non, rfl, x1, by decide +kernel, .inl ⟨by decide +kernel, rfl⟩⟩
  · exact ⟨t2, "0/7", .ref p2, rfl, x2, by decide +kernel, .inr ⟨0, 7, p2, 0, 1, by decide +kernel, rfl, y2, ⟨by decide, by decide⟩, by decide⟩⟩
  · exact ⟨t3, "999999/1000", .ref p3, rfl, x3, by decide +kernel, .inr ⟨999999, 1000, p3, 999999, 1000, by decide +kernel, rfl, y3, ⟨by decide, by decide +kernel⟩, by decide⟩⟩
  · exact ⟨t4, "1/1001", .non, rfl, x4, by decide +kernel, .inl ⟨by decide +kernel, rfl⟩⟩
  · exact ⟨t5, "1000000", .non, rfl, x5, by decide +kernel, .inl ⟨by decide +kernel, rfl⟩⟩
abbrev sLaw : Stmt := top 48
theorem scLaw : FnScope ["_law_script", "_law_k", "_law_box_here", "_law_odds", "_law_line_here", "_law_due", "_law_found"] ["_law_script"] (defScope sLaw) := ⟨rfl, rfl, rfl, by decide +kernel, rfl, by decide +kernel, by decide +kernel⟩
def spLaw (K : PySem.W.Frag) : Sp := fun vs H Q _ => ∃ (a : Addr) (ns : List Int), vs = [.ref a] ∧ SqL K H a (ns.map V.int) ∧ ns.length ≤ 63 ∧ ∀ H', Q (.bl true) H'
section
variable {P : Program} {w : World} {K : PySem.W.Frag} {mg : Str → Option Value} {base : Heap} {f fc fb fL fW fO fT pT pB fTo fBo : Addr} {fd fdc fdb fdL fdW fdO fdT fdTo fdBo : FuncData}
theorem ok_law (F : FnP K "law" sLaw f fd) (T : AF K mg) (mL : mg "len" = none) (mG : mg "range" = none) (mMax : mg "max" = none) (mMin : mg "min" = none)
    (BC : Fn0 P w K mg base "_law_cell" 1 ["_law_script", "_law_k"] (spCel K) fc fdc) (BB : Fn0 P w K mg base "_law_box" 1 ["_law_cell_here"] spBox fb fdb)
    (GL : Fn P w K mg base "_law_lines_right" 8 ["_law_box_here"] spLines fL fdL) (GW : FnS2 P w K mg base "_law_words_right" 3 ["_law_box_here"] spWords fW fdW) (GO : Fn P w K mg base "amount_of" 6 ["text"] (spAmtOf K) fO fdO) (GT : FnS2 P w K mg base "_law_things_right" 9 [] spThings fT fdT)
    (RT : PrF P w K mg base "top" "_top" pT fTo fdTo) (RB : PrF P w K mg base "bottom" "_bottom" pB fBo fdBo) :
    Fg.FnG P w K mg base (L2.CX P w) 10 f fd ["_law_script"] (spLaw K) := by
  refine Fg.okG F scLaw (fun vs H Q E h => ?_) (fun cdv A outer s H vs Q E G hr h => ?_)
  · obtain ⟨a, ns, rfl, _⟩ := h
    rfl
  · obtain ⟨a, ns, rfl, ha, hn, q⟩ := h
    have hr1 := hr.mono (show 1 ≤ 9 by decide)
    have hr2 := hr.mono (show 2 ≤ 9 by decide)
    have hr3 := hr.mono (show 3 ≤ 9 by decide)
    have hr6 := hr.mono (show 6 ≤ 9 by decide)
    have hr8 := hr.mono (show 8 ≤ 9 by decide)
    have hu : (A.deeper (envOfC "law" (defScope sLaw) s.heap.objs.size f cdv)).units + 64 < cLine := by
      have := hr.un
      omega
    refine ⟨_, (pss_cons (ps_for (passes_of rfl) rfl (pi_range1 rfl mG (pa_cons (pe_callB (call_max2 rfl) rfl mMax (by decide +kernel) (pa_cons pe_int (pa_cons (pe_callB (call_min2 rfl) rfl mMin (by decide +kernel) (pa_cons pe_int (pa_cons (pe_callB call_len rfl mL PySem.boot_len (pa_cons (pv 0) pa_nil)) pa_nil))) pa_nil))) pa_nil)) (pg_name (i := 1) scLaw.nd rfl (Or.inl rfl))
      (pss_cons (ps_set (i := 2) scLaw.nd rfl (Or.inl rfl) (pe_call BB.ok hr1 rfl BB.g BB.k BB.b .nil pass0 (pa_cons (pe_call BC.ok hr1 rfl BC.g BC.k BC.b .nil pass0 (pa_cons (pv 0) (pa_cons (pv 1) pa_nil))) pa_nil)))
      (pss_one (ps_if (PW.pt (pw_or (pt_not (pt_val (pe_call GL.ok hr8 rfl GL.g GL.k GL.b .nil passL (pa_cons (pv 2) pa_nil)))) (pw_or1 (pt_not (pt_val (Fg.pe_callG G GW.ok hr3 rfl GW.g GW.k GW.b passS (pa_cons (pv 2) pa_nil))))))) (pss_one (ps_ret pe_bl)) pss_nil))))
      (pss_cons (ps_set (i := 3) scLaw.nd rfl (Or.inl rfl) (pe_lst (pa_cons (pe_tup (pa_cons pe_str (pa_cons pe_non pa_nil))) (pa_cons (pe_tup (pa_cons pe_str (pa_cons (pe_tup (pa_cons pe_int (pa_cons pe_int pa_nil))) pa_nil))) (pa_cons (pe_tup (pa_cons pe_str (pa_cons (pe_tup (pa_cons pe_int (pa_cons pe_int pa_nil))) pa_nil))) (pa_cons (pe_tup (pa_cons pe_str (pa_cons pe_non pa_nil))) (pa_cons (pe_tup (pa_cons pe_str (pa_cons pe_non pa_nil))) pa_nil)))))))
      (pss_cons (ps_for (passes_of rfl) rfl (pi_list (pv 3)) (pg_tup (by rfl) (pgs_cons (pg_name (i := 4) scLaw.nd rfl (Or.inl rfl)) (pgs_cons (pg_name (i := 5) scLaw.nd rfl (Or.inl rfl)) pgs_nil)))
      (pss_cons (ps_set (i := 6) scLaw.nd rfl (Or.inl rfl) (pe_call GO.ok hr6 rfl GO.g GO.k GO.b .nil passL (pa_cons (pv 4) pa_nil)))
      (pss_one (ps_if (pt_cmpR (op_neD hu) (pe_ifExp (pt_cmpR op_isN (pv 6) pe_non (nomark _)) pe_non (pe_tup (pa_cons (pe_prop (pv 6) T.cl RT.pr RT.ok hr2 RT.bi .nil passL rfl) (pa_cons (pe_prop (pv 6) T.cl RB.pr RB.ok hr2 RB.bi .nil passL rfl) pa_nil)))) (pv 5) (nomark _)) (pss_one (ps_ret pe_bl)) pss_nil))))
      (pss_one (ps_ret (Fg.pe_callG0 G GT.ok hr rfl GT.g GT.k GT.b passS)))))), ?_⟩
    have r2 : (2 : Nat) ≤ sizeLine := by decide
    refine ⟨_, rfl, _, (ns.map V.int).length, rfl, .inl ⟨_, ha, rfl⟩, _, _, rfl, _, _, rfl, _, rfl, ?_, ?_, ?_⟩
    · split <;> (try split) <;> omega
    · split <;> (try split) <;> omega
    have hN : Int.toNat (if (if ((ns.map V.int).length : Int) < 8 then ((ns.map V.int).length : Int) else 8) > 2 then (if ((ns.map V.int).length : Int) < 8 then ((ns.map V.int).length : Int) else 8) else 2) ≤ 8 := by
      split <;> (try split) <;> omega
    revert hN
    generalize Int.toNat (if (if ((ns.map V.int).length : Int) < 8 then ((ns.map V.int).length : Int) else 8) > 2 then (if ((ns.map V.int).length : Int) < 8 then ((ns.map V.int).length : Int) else 8) else 2) = N
    intro hN
    refine for_range (lo := 0) (n := N) (fun i σ H' => Same H H' ∧ ∃ vk vb : Option V, σ = [some (.ref a), vk, vb, none, none, none, none]) ⟨Same.refl _, _, _, rfl⟩ ?_ ?_
    · rintro j σ H1 hj ⟨s1, vk, vb, rfl⟩
      rw [Int.zero_add]
      refine ⟨_, rfl, _, rfl, a, ns, j, rfl, ha.ext s1, by omega, fun c => ⟨c, rfl, fun p H2 hp1 hk2 hb2 => ?_⟩⟩
      have hp : H p = none := none_of s1 hp1
      have s2 : Same H H2 := fun c o z => by rw [hk2 c (fun e => by rw [e, hp] at z; cases z)]; exact s1 c o z
      have sk : ∀ H3, Kp p H2 H3 → Same H H3 := fun H3 k c o z => k c o (fun e => by rw [e, hp] at z; cases z) (s2 c o z)
      refine ⟨_, rfl, p, 0, rfl, hb2, by decide, fun H3 b3 k3 => ⟨true, rfl, iteF ?_⟩⟩
      refine ⟨_, rfl, p, _, rfl, b3, by decide, fun H4 b4 k4 => ⟨true, rfl, iteF ?_⟩⟩
      exact ⟨sk _ (k3.trans k4), _, _, rfl⟩
    rintro σ H1 ⟨s1, vk, vb, rfl⟩
    refine ⟨r2, fun t1 h1 => ⟨r2, fun p2 g2 => ⟨r2, fun t2 h2 => ⟨r2, fun p3 g3 => ⟨r2, fun t3 h3 => ⟨r2, fun t4 h4 => ⟨r2, fun t5 h5 => ⟨by show 5 ≤ sizeLine; decide, fun l hl => ?_⟩⟩⟩⟩⟩⟩⟩⟩
    have e1 := Same.upd (o := .tup [.str "-0", .non]) h1
    have f2 := Same.upd (o := .tup [.int 0, .int 1]) g2
    have e2 := Same.upd (o := .tup [.str "0/7", .ref p2]) h2
    have f3 := Same.upd (o := .tup [.int 999999, .int 1000]) g3
    have e3 := Same.upd (o := .tup [.str "999999/1000", .ref p3]) h3
    have e4 := Same.upd (o := .tup [.str "1/1001", .non]) h4
    have e5 := Same.upd (o := .tup [.str "1000000", .non]) h5
    have e6 := Same.upd (o := .lst [.ref t1, .ref t2, .ref t3, .ref t4, .ref t5]) hl
    have s5 := e5.trans e6
    have s4 := e4.trans s5
    have s3 := e3.trans s4
    have sp3 := f3.trans s3
    have s2 := e2.trans sp3
    have sp2 := f2.trans s2
    have x1 := sp2 _ _ (upd_same (H := H1) (a := t1) (o := .tup [.str "-0", .non]))
    have y2 := s2 _ _ upd_same
    have x2 := sp3 _ _ upd_same
    have y3 := s3 _ _ upd_same
    have x3 := s4 _ _ upd_same
    have x4 := s5 _ _ upd_same
    have x5 := e6 _ _ upd_same
    have items := items_of x1 x2 x3 x4 x5 y2 y3
    refine ⟨_, rfl, l, rfl, ⟨_, SqL.of upd_same⟩, ?_⟩
    refine for_list (K := K) (a := l) (xs := [V.ref t1, .ref t2, .ref t3, .ref t4, .ref t5]) (fun i σ H' => ∃ v4 v5 v6 : Option V, σ = [some (.ref a), vk, vb, some (.ref l), v4, v5, v6] ∧ H' l = some (.lst [V.ref t1, .ref t2, .ref t3, .ref t4, .ref t5]) ∧ ∀ x ∈ [V.ref t1, .ref t2, .ref t3, .ref t4, .ref t5], ItemOk H' x) ⟨_, _, _, rfl, upd_same, items⟩ (fun i σ H' _ ⟨_, _, _, _, h, _⟩ => SqL.of h) ?_ ?_
    · clear items x1 x2 x3 x4 x5 y2 y3 s2 s3 s4 s5 sp2 sp3 e1 e2 e3 e4 e5 e6 f2 f3
      rintro i x σ H2 hi ⟨v4, v5, v6, rfl, q1, q2⟩
      obtain ⟨t, z, due, rfl, ht, hz, dd⟩ := q2 x (List.mem_of_getElem? hi)
      have l2 : z.length ≤ 2000 := by omega
      refine ⟨t, _, rfl, SqT.of ht, rfl, _, _, rfl, _, _, rfl, rfl, ?_⟩
      refine ⟨_, rfl, _, rfl, .inr ⟨z, rfl, l2, Nat.le_trans (part_len z).1 l2, Nat.le_trans (part_len z).2 l2, fun an H3 s3 => ?_, fun a b an y H3 t3 u3 s3 iy et => ?_⟩⟩
      · obtain rfl : due = .non := by
          rcases dd with ⟨_, e⟩ | ⟨a, b, _, _, _, e, _⟩
          · exact e
          · rw [an] at e
            cases e
        refine ⟨_, rfl, rfl, _, rfl, if_true_of (by rfl) ⟨_, rfl, .none, .none, .non, .non, by decide +kernel, by decide +kernel, _, rfl, if_false_of (by decide +kernel) ?_⟩⟩
        exact ⟨_, _, _, rfl, s3 _ _ q1, fun x hx => (q2 x hx).same s3⟩
      · obtain ⟨q, c, e, rfl, hq, rd, ec⟩ : ∃ q c e, due = .ref q ∧ H2 q = some (.tup [.int c, .int e]) ∧ Am.Red c e ∧ c * b = a * e := by
          rcases dd with ⟨e, _⟩ | ⟨a', b', q, c, e, h, h2, h3, h4, h5⟩
          · rw [an] at e
            cases e
          · rw [an] at h
            cases h
            exact ⟨q, c, e, h2, h3, h4, h5⟩
        obtain ⟨py, dy, rfl, hy, ⟨u0, ru⟩, _⟩ := id iy
        refine ⟨_, rfl, rfl, _, rfl, if_false_of (by rfl) ⟨_, rfl, py, dy, _, rfl, hy, py, dy, _, _, rfl, hy, fl_top _ _, _, rfl, py, dy, _, rfl, hy, py, dy, _, _, rfl, hy, fl_bot _ _, r2, fun lt hlt => ?_⟩⟩
        have b0 := amtOf_pos an
        have en := Am.uniq rd ⟨u0, ru⟩ (Int.eq_of_mul_eq_mul_right (show b ≠ 0 by omega) (by grind))
        obtain ⟨rfl, rfl⟩ := en
        refine ⟨_, rfl, .tuple [.int c, .int e], .tuple [.int c, .int e], .tup (SqT.of upd_same) (.cons (.int _) (.cons (.int _) .nil)), .tup (SqT.of (Same.upd hlt _ _ (s3 _ _ hq))) (.cons (.int _) (.cons (.int _) .nil)), by rfl, by rfl, _, rfl, ?_⟩
        rw [eqv_pair]
        refine if_false_of (by rfl) ?_
        have s4 := s3.trans (Same.upd (o := .tup [.int c, .int e]) hlt)
        exact ⟨_, _, _, rfl, s4 _ _ q1, fun x hx => (q2 x hx).same s4⟩
    rintro σ H2 ⟨v4, v5, v6, rfl, _, _⟩
    exact ⟨rfl, fun H' => q H'⟩

end
end K03
set_option Elab.async false
set_option linter.all false
set_option maxRecDepth 100000
set_option maxHeartbeats 0
set_option exponentiation.threshold 100000
namespace K03
open PySem PySem.Spec PyProof.Rows L2 Fa Fb
/-! ### where the defs stand, and what is asked of the written part -/
def pa (K : PySem.W.Frag) (f : Str) : Addr := He.ma K (CA K) f
def ga2 (K : PySem.W.Frag) (f : Str) : Addr := match PySem.W.recIn K (pa K f) "property" with
  | some (.ref g :: _) => g
  | _ => 0
open Hd in
def dG (x : Str) (i : Nat) : Def := { ad := fun K => He.ga K x, name := x, qual := x, st := top i }
open Hd in
def dM (m q : Str) (j : Nat) (dfl : List He.Dv := []) : Def := { ad := fun K => He.ma K (CA K) m, name := m, qual := q, st := inClass (top 28) j, dfl := dfl }
open Hd in
def dP (m q : Str) (j : Nat) : Def := { ad := fun K => ga2 K m, name := m, qual := q, st := inClass (top 28) j }
open Hd in
def ds : List Def := [dM "__init__" "Amount.__init__" 0 [.int 1], dP "top" "Amount.top" 1, dP "bottom" "Amount.bottom" 2, dG "is_whole" 14, dG "is_integer" 15, dG "is_name" 16, dG "has_only" 17, dG "is_unit" 18, dG "is_word" 19, dG "check_unit" 20, dG "other_unit" 21, dG "check_word" 22, dG "turned" 23, dG "is_amount" 29, dG "as_amount" 30, dG "amount_text" 31, dG "_decimal" 32, dG "amount_of" 33, dG "_is_number" 34, dG "_law_cell" 36, dG "_law_box" 37, dG "_law_take" 38, dG "_law_lowest" 39, dG "_law_line" 40, dG "_law_number" 41, dG "_law_read" 42, dG "_law_lines_right" 43, dG "_law_is_named" 44, dG "_law_words_right" 45, dG "_law_told" 46, dG "_law_things_right" 47, dG "law" 48, Hd.excD "InvalidInteger" "InvalidInteger.__init__" (inClass (top 4) 0), Hd.excD "InvalidAmount" "InvalidAmount.__init__" (inClass (top 5) 0), Hd.excD "InvalidUnit" "InvalidUnit.__init__" (inClass (top 6) 0), Hd.excD "InvalidWord" "InvalidWord.__init__" (inClass (top 7) 0)]
def gloB (K : PySem.W.Frag) (x : Str) : Bool := He.eqO (PySem.W.nsIn K mainGlobals x) (some (some (.ref (He.ga K x))))
def freeB (K : PySem.W.Frag) (x : Str) : Bool := He.eqO (PySem.W.nsIn K mainGlobals x) (some none)
def clsB (K : PySem.W.Frag) (C : Addr) : Bool := Hd.allB [PySem.W.plainGet K C Str.empty, PySem.W.hasDictIn K C, PySem.W.plainOver K C, He.eqO (PySem.W.findIn K (.ref C) "__setattr__") (some (some (.builtin "object.__setattr__"))), He.eqO (PySem.W.findIn K (.ref C) "_top") (some none), He.eqO (PySem.W.findIn K (.ref C) "_bottom") (some none),
  PySem.W.makesIn K C, He.eqO (PySem.W.findIn K (.ref C) "__init__") (some (some (.ref (He.ma K C "__init__")))), PySem.W.isFn K (.ref (He.ma K C "__init__")), PySem.W.keepIn K (.ref C), He.eqO (PySem.W.nsIn K mainGlobals "gcd") (some (some (.builtin "math.gcd"))),
  decide (PySem.W.kitOne K (.ref C) (.type "int") = some false), decide (PySem.W.kitOne K (.ref C) (.type "bool") = some false), decide (PySem.W.kitOne K (.ref C) (.ref C) = some true), tys.all fun T => decide (PySem.W.kitOne K (.type T) (.ref C) = some false),
  He.eqO (PySem.W.findIn K (.ref C) "__class__") (some (some (.builtin "object.__class__"))), He.eqO (PySem.W.specialIn K (.builtin "object.__class__") "__get__") (some (some (.builtin "getset_descriptor.__get__"))), decide (PySem.W.takesIn K (.builtin "object.__class__") = some true),
  decide (PySem.W.mroIn K C (.type "object") = some true), tys.all fun T => decide (PySem.W.subIn K (.type T) (.ref C) = some false), PySem.W.selfFirst K C]
def tyopB (K : PySem.W.Frag) (nm T : String) : Bool := (PySem.W.findIn K (.type T) (PySem.dunder nm)).isSome && (PySem.W.findIn K (.type T) (dunderR nm)).isSome
def opB (K : PySem.W.Frag) (nm : String) (m : Str) : Bool := He.eqO (PySem.W.findIn K (.ref (CA K)) (PySem.dunder nm)) (some (some (.ref (He.ma K (CA K) m)))) && (PySem.W.isFn K (.ref (He.ma K (CA K) m)) && (He.eqO (PySem.W.findIn K (.ref (CA K)) (dunderR nm)) (some none) && tys.all fun T => tyopB K nm T))
def meB (K : PySem.W.Frag) (m : Str) : Bool := He.eqO (PySem.W.findIn K (.ref (CA K)) m) (some (some (.ref (He.ma K (CA K) m)))) && (PySem.W.isFn K (.ref (He.ma K (CA K) m)) && PySem.W.keepIn K (.ref (He.ma K (CA K) m)))
def prB (K : PySem.W.Frag) (f : Str) : Bool := He.eqO (PySem.W.findIn K (.ref (CA K)) f) (some (some (.ref (pa K f)))) && (He.eqO (PySem.W.specialIn K (.ref (pa K f)) "__get__") (some (some (.builtin "property.__get__"))) && (decide (PySem.W.takesIn K (.ref (pa K f)) = some true) &&
  match PySem.W.recIn K (pa K f) "property" with
  | some (.ref g :: _) => decide (g = ga2 K f)
  | _ => false))
def sysB (K : PySem.W.Frag) : Bool := match K.lookup sysModules with
  | some ⟨_, _, .dict _ _, _⟩ => true
  | _ => false
def strsB : List Value → List Str → Bool
  | [], [] => true
  | .str x _ :: l, z :: r => decide (x = z) && strsB l r
  | _, _ => false
theorem strsB_ok : ∀ (us : List Value) (zs : List Str), strsB us zs = true → Vals (zs.map V.str) us
  | [], [], _ => .nil
  | .str x t :: l, z :: r, h => by
    obtain ⟨a, b⟩ := He.ba h
    have e := of_decide_eq_true a
    subst e
    exact .cons ⟨t, rfl⟩ (strsB_ok l r b)
def tupB (K : PySem.W.Frag) (a : Addr) (zs : List Str) : Bool := match K.lookup a with
  | some ⟨.type t, _, .seq its _, _⟩ => decide (t = "tuple") && (decide (its.size ≤ sizeLine) && strsB its.toList zs)
  | _ => false
theorem tupB_of {K : PySem.W.Frag} {a : Addr} {zs : List Str} (h : tupB K a zs = true) (H : Hp) : SqT K H a (zs.map V.str) := by
  unfold tupB at h
  split at h
  · rename_i t d its n sl e
    obtain ⟨h1, h⟩ := He.ba h
    obtain ⟨h2, h3⟩ := He.ba h
    have e1 := of_decide_eq_true h1
    subst e1
    exact .inr ⟨_, its, n, e, rfl, rfl, of_decide_eq_true h2, strsB_ok _ _ h3⟩
  · cases h
theorem prB_of {K : PySem.W.Frag} {f : Str} (h : prB K f = true) : PropOf K (CA K) f (pa K f) (ga2 K f) := by
  obtain ⟨h1, h⟩ := He.ba h
  obtain ⟨h2, h⟩ := He.ba h
  obtain ⟨h3, h4⟩ := He.ba h
  refine ⟨He.eqO_ok h1, He.eqO_ok h2, of_decide_eq_true h3, ?_⟩
  have h5 : (match PySem.W.recIn K (pa K f) "property" with
  | some (.ref g :: _) => decide (g = ga2 K f)
  | _ => false) = true := h4
  split at h5
  · rename_i g r e
    exact ⟨r, by rw [e, of_decide_eq_true h5]⟩
  · cases h5
theorem sysB_of {K : PySem.W.Frag} (h : sysB K = true) : Fg.SysD K := by
  unfold sysB at h
  split at h
  · rename_i c dd es ep sl e
    exact ⟨c, dd, es, ep, sl, e⟩
  · cases h
theorem meB_of {K : PySem.W.Frag} {m : Str} (h : meB K m = true) : Meth K (CA K) m (He.ma K (CA K) m) := by
  obtain ⟨h1, h⟩ := He.ba h
  obtain ⟨h2, h3⟩ := He.ba h
  exact ⟨He.eqO_ok h1, h2, h3⟩
def glos1 : List Str := ["law", "Amount", "InvalidInteger", "InvalidAmount", "InvalidUnit", "InvalidWord", "is_whole", "is_integer", "is_name", "has_only", "is_unit", "is_word", "check_unit", "other_unit", "check_word", "turned", "is_amount", "as_amount", "amount_text", "_decimal"]
def glos2 : List Str := ["amount_of", "_is_number", "_law_cell", "_law_box", "_law_take", "_law_lowest", "_law_line", "_law_number", "_law_read", "_law_lines_right", "_law_is_named", "_law_words_right", "_law_told", "_law_things_right", "UNITS", "WORDS"]
def glos : List Str := glos1 ++ glos2
def frees : List Str := ["isinstance", "int", "bool", "str", "len", "all", "max", "min", "range", "abs", "repr", "reversed"]
def file : Str := PySem.Challenge.pw_anytempo_k03_amounts_as_strings.main.file
def chk (K : PySem.W.Frag) : Bool := Hd.allB [glos.all (gloB K), frees.all (freeB K), clsB K (CA K), prB K "top", prB K "bottom", sysB K, decide (PySem.W.kitOne K (.ref (CA K)) (.type "str") = some false), decide (PySem.W.exmOne K (.ref (CU K)) (.ref (CV K)) = some false), decide (PySem.W.exmOne K (.ref (CW K)) (.ref (CV K)) = some false), decide (PySem.W.exmOne K (.ref (CW K)) (.ref (CU K)) = some false), tupB K (He.ga K "UNITS") ["beats", "seconds"], tupB K (He.ga K "WORDS") ["before", "same", "after"], (He.Fa.int "LONGEST_NAME" 8).ok K, (He.Fa.int "MOST_TOP_DIGITS" 6).ok K, (He.Fa.int "MOST_BOTTOM_DIGITS" 4).ok K, (He.Fa.int "MOST_BOTTOM" 1000).ok K, (He.Fa.str "LETTERS" LET).ok K, (He.Fa.str "DIGITS" DIG).ok K, Hd.excB file K "InvalidInteger" "value", Hd.excB file K "InvalidAmount" "value", Hd.excB file K "InvalidUnit" "value", Hd.excB file K "InvalidWord" "value"]
end K03
set_option Elab.async false
set_option linter.all false
set_option maxRecDepth 100000
set_option maxHeartbeats 4000000
/-! As HK2's hook, the dict of sys.modules beside. -/
namespace Hd
open PySem PySem.Spec PyProof.Rows L2
def adS (g : Addr → Option Obj) (n : Nat) : List Addr := sysModules :: grow g n
def hookS (n : Nat) (ds : List Def) (chk : PySem.W.Frag → Bool) : PySem.W.Hook where
  α := Al
  obs := fun s => obsK ds chk (He.frG s.heap.get? (adS s.heap.get? n))
  val := fun _ => valK ds
  says := fun _ h => ∃ K : PySem.W.Frag, K.In h ∧ obsK ds chk K = valK ds
  of := fun _ _ e => ⟨_, He.frG_in, e⟩
  keeps := fun _ _ _ ⟨K, hK, c⟩ k => ⟨K, PySem.W.Frag.In.keeps hK k, c⟩
def obS (n : Nat) (ds : List Def) (chk : PySem.W.Frag → Bool) (s : PySem.W.SharedT) : Al := obsK ds chk (He.frG (HandSHeadRun.getT s) (adS (HandSHeadRun.getT s) n))
theorem obS_eq (n : Nat) (ds : List Def) (chk : PySem.W.Frag → Bool) (s : PySem.W.SharedT) : obS n ds chk s = (hookS n ds chk).obs s.abs := by
  have e : HandSHeadRun.getT s = s.abs.heap.get? := funext fun a => HandSHeadRun.getT_eq s a
  unfold obS
  rw [e]
  rfl
end Hd
set_option Elab.async false
set_option linter.all false
set_option maxRecDepth 100000
set_option maxHeartbeats 4000000
set_option exponentiation.threshold 100000
namespace K03
open PySem PySem.Spec PyProof.Rows L2 Fa Fb
abbrev PP : Program := PySem.Challenge.pw_anytempo_k03_amounts_as_strings
theorem facts {w : World} {K : PySem.W.Frag} {h : Heap} {mg : Str → Option Value} {f : Addr} (X : K.In h) (G : h.Ns mainGlobals mg) (hfa : mg ("law" : Str) = some (.ref f)) (c : Hd.obsK ds chk K = Hd.valK ds) :
    ∃ fd : FuncData, (∀ (s : Shared) (v : Value), BindsTo s fd ⟨[v], []⟩ [("_law_script", v)]) ∧ ∀ base : Heap, K.In base → base.Ns mainGlobals mg → Fg.FnG PP w K mg base (L2.CX PP w) 10 f fd ["_law_script"] (spLaw K) := by
  have ck : Hd.allB _ = true := Hd.says_chk c
  have cg := Hd.allB_at ck 0
  have cf := Hd.allB_at ck 1
  have cc : Hd.allB _ = true := Hd.allB_at ck 2
  have glo : ∀ x ∈ glos, mg x = some (.ref (He.ga K x)) := fun x hx => PySem.W.mg_of X G (He.eqO_ok (List.all_eq_true.mp cg x hx))
  have fre : ∀ x ∈ frees, mg x = none := fun x hx => PySem.W.mg_none_of X G (He.eqO_ok (List.all_eq_true.mp cf x hx))
  have G_Amount := glo "Amount" (by simp [glos, glos1, glos2])
  have G_InvalidInteger := glo "InvalidInteger" (by simp [glos, glos1, glos2])
  have G_InvalidAmount := glo "InvalidAmount" (by simp [glos, glos1, glos2])
  have G_InvalidUnit := glo "InvalidUnit" (by simp [glos, glos1, glos2])
  have G_InvalidWord := glo "InvalidWord" (by simp [glos, glos1, glos2])
  have G_is_whole := glo "is_whole" (by simp [glos, glos1, glos2])
  have G_is_integer := glo "is_integer" (by simp [glos, glos1, glos2])
  have G_is_name := glo "is_name" (by simp [glos, glos1, glos2])
  have G_has_only := glo "has_only" (by simp [glos, glos1, glos2])
  have G_is_unit := glo "is_unit" (by simp [glos, glos1, glos2])
  have G_is_word := glo "is_word" (by simp [glos, glos1, glos2])
  have G_check_unit := glo "check_unit" (by simp [glos, glos1, glos2])
  have G_other_unit := glo "other_unit" (by simp [glos, glos1, glos2])
  have G_check_word := glo "check_word" (by simp [glos, glos1, glos2])
  have G_turned := glo "turned" (by simp [glos, glos1, glos2])
  have G_is_amount := glo "is_amount" (by simp [glos, glos1, glos2])
  have G_as_amount := glo "as_amount" (by simp [glos, glos1, glos2])
  have G_amount_text := glo "amount_text" (by simp [glos, glos1, glos2])
  have G__decimal := glo "_decimal" (by simp [glos, glos1, glos2])
  have G_amount_of := glo "amount_of" (by simp [glos, glos1, glos2])
  have G__is_number := glo "_is_number" (by simp [glos, glos1, glos2])
  have G__law_cell := glo "_law_cell" (by simp [glos, glos1, glos2])
  have G__law_box := glo "_law_box" (by simp [glos, glos1, glos2])
  have G__law_take := glo "_law_take" (by simp [glos, glos1, glos2])
  have G__law_lowest := glo "_law_lowest" (by simp [glos, glos1, glos2])
  have G__law_line := glo "_law_line" (by simp [glos, glos1, glos2])
  have G__law_number := glo "_law_number" (by simp [glos, glos1, glos2])
  have G__law_read := glo "_law_read" (by simp [glos, glos1, glos2])
  have G__law_lines_right := glo "_law_lines_right" (by simp [glos, glos1, glos2])
  have G__law_is_named := glo "_law_is_named" (by simp [glos, glos1, glos2])
  have G__law_words_right := glo "_law_words_right" (by simp [glos, glos1, glos2])
  have G__law_told := glo "_law_told" (by simp [glos, glos1, glos2])
  have G__law_things_right := glo "_law_things_right" (by simp [glos, glos1, glos2])
  have G_UNITS := glo "UNITS" (by simp [glos, glos1, glos2])
  have G_WORDS := glo "WORDS" (by simp [glos, glos1, glos2])
  have R_isinstance := fre "isinstance" (by simp [frees])
  have R_int := fre "int" (by simp [frees])
  have R_bool := fre "bool" (by simp [frees])
  have R_str := fre "str" (by simp [frees])
  have R_len := fre "len" (by simp [frees])
  have R_all := fre "all" (by simp [frees])
  have R_max := fre "max" (by simp [frees])
  have R_min := fre "min" (by simp [frees])
  have R_range := fre "range" (by simp [frees])
  have R_abs := fre "abs" (by simp [frees])
  have R_repr := fre "repr" (by simp [frees])
  have R_reversed := fre "reversed" (by simp [frees])
  obtain ⟨fdinit, ginit⟩ := Hd.says_def c 0
  obtain ⟨fdtop, gtop⟩ := Hd.says_def c 1
  obtain ⟨fdbot, gbot⟩ := Hd.says_def c 2
  obtain ⟨fdDiswhole, gDiswhole⟩ := Hd.says_def c 3
  obtain ⟨fdDisinteger, gDisinteger⟩ := Hd.says_def c 4
  obtain ⟨fdDisname, gDisname⟩ := Hd.says_def c 5
  obtain ⟨fdDhasonly, gDhasonly⟩ := Hd.says_def c 6
  obtain ⟨fdDisunit, gDisunit⟩ := Hd.says_def c 7
  obtain ⟨fdDisword, gDisword⟩ := Hd.says_def c 8
  obtain ⟨fdDcheckunit, gDcheckunit⟩ := Hd.says_def c 9
  obtain ⟨fdDotherunit, gDotherunit⟩ := Hd.says_def c 10
  obtain ⟨fdDcheckword, gDcheckword⟩ := Hd.says_def c 11
  obtain ⟨fdDturned, gDturned⟩ := Hd.says_def c 12
  obtain ⟨fdDisamount, gDisamount⟩ := Hd.says_def c 13
  obtain ⟨fdDasamount, gDasamount⟩ := Hd.says_def c 14
  obtain ⟨fdDamounttext, gDamounttext⟩ := Hd.says_def c 15
  obtain ⟨fdDdecimal, gDdecimal⟩ := Hd.says_def c 16
  obtain ⟨fdDamountof, gDamountof⟩ := Hd.says_def c 17
  obtain ⟨fdDisnumber, gDisnumber⟩ := Hd.says_def c 18
  obtain ⟨fdDlawcell, gDlawcell⟩ := Hd.says_def c 19
  obtain ⟨fdDlawbox, gDlawbox⟩ := Hd.says_def c 20
  obtain ⟨fdDlawtake, gDlawtake⟩ := Hd.says_def c 21
  obtain ⟨fdDlawlowest, gDlawlowest⟩ := Hd.says_def c 22
  obtain ⟨fdDlawline, gDlawline⟩ := Hd.says_def c 23
  obtain ⟨fdDlawnumber, gDlawnumber⟩ := Hd.says_def c 24
  obtain ⟨fdDlawread, gDlawread⟩ := Hd.says_def c 25
  obtain ⟨fdDlawlinesright, gDlawlinesright⟩ := Hd.says_def c 26
  obtain ⟨fdDlawisnamed, gDlawisnamed⟩ := Hd.says_def c 27
  obtain ⟨fdDlawwordsright, gDlawwordsright⟩ := Hd.says_def c 28
  obtain ⟨fdDlawtold, gDlawtold⟩ := Hd.says_def c 29
  obtain ⟨fdDlawthingsright, gDlawthingsright⟩ := Hd.says_def c 30
  obtain ⟨fdDlaw, gDlaw⟩ := Hd.says_def c 31
  obtain ⟨fdxInvalidInteger, gxInvalidInteger⟩ := Hd.says_def c 32
  obtain ⟨fdxInvalidAmount, gxInvalidAmount⟩ := Hd.says_def c 33
  obtain ⟨fdxInvalidUnit, gxInvalidUnit⟩ := Hd.says_def c 34
  obtain ⟨fdxInvalidWord, gxInvalidWord⟩ := Hd.says_def c 35
  have Finit := ginit.funD
  have Ftop := gtop.funD
  have Fbot := gbot.funD
  have FDiswhole := gDiswhole.funD
  have FDisinteger := gDisinteger.funD
  have FDisname := gDisname.funD
  have FDhasonly := gDhasonly.funD
  have FDisunit := gDisunit.funD
  have FDisword := gDisword.funD
  have FDcheckunit := gDcheckunit.funD
  have FDotherunit := gDotherunit.funD
  have FDcheckword := gDcheckword.funD
  have FDturned := gDturned.funD
  have FDisamount := gDisamount.funD
  have FDasamount := gDasamount.funD
  have FDamounttext := gDamounttext.funD
  have FDdecimal := gDdecimal.funD
  have FDamountof := gDamountof.funD
  have FDisnumber := gDisnumber.funD
  have FDlawcell := gDlawcell.funD
  have FDlawbox := gDlawbox.funD
  have FDlawtake := gDlawtake.funD
  have FDlawlowest := gDlawlowest.funD
  have FDlawline := gDlawline.funD
  have FDlawnumber := gDlawnumber.funD
  have FDlawread := gDlawread.funD
  have FDlawlinesright := gDlawlinesright.funD
  have FDlawisnamed := gDlawisnamed.funD
  have FDlawwordsright := gDlawwordsright.funD
  have FDlawtold := gDlawtold.funD
  have FDlawthingsright := gDlawthingsright.funD
  have FDlaw := gDlaw.funD
  have bDiswhole : Binds K fdDiswhole ["value"] [] := FDiswhole.bindsN fun _ _ _ _ _ _ us hl => match us, hl with | [_], _ => rfl
  have bDisinteger : Binds K fdDisinteger ["value", "low", "high"] [] := FDisinteger.bindsN fun _ _ _ _ _ _ us hl => match us, hl with | [_, _, _], _ => rfl
  have bDisname : Binds K fdDisname ["value"] [] := FDisname.bindsN fun _ _ _ _ _ _ us hl => match us, hl with | [_], _ => rfl
  have bDhasonly : Binds K fdDhasonly ["text", "characters"] [] := FDhasonly.bindsN fun _ _ _ _ _ _ us hl => match us, hl with | [_, _], _ => rfl
  have bDisunit : Binds K fdDisunit ["value"] [] := FDisunit.bindsN fun _ _ _ _ _ _ us hl => match us, hl with | [_], _ => rfl
  have bDisword : Binds K fdDisword ["value"] [] := FDisword.bindsN fun _ _ _ _ _ _ us hl => match us, hl with | [_], _ => rfl
  have bDcheckunit : Binds K fdDcheckunit ["unit"] [] := FDcheckunit.bindsN fun _ _ _ _ _ _ us hl => match us, hl with | [_], _ => rfl
  have bDotherunit : Binds K fdDotherunit ["unit"] [] := FDotherunit.bindsN fun _ _ _ _ _ _ us hl => match us, hl with | [_], _ => rfl
  have bDcheckword : Binds K fdDcheckword ["word"] [] := FDcheckword.bindsN fun _ _ _ _ _ _ us hl => match us, hl with | [_], _ => rfl
  have bDturned : Binds K fdDturned ["word"] [] := FDturned.bindsN fun _ _ _ _ _ _ us hl => match us, hl with | [_], _ => rfl
  have bDisamount : Binds K fdDisamount ["value"] [] := FDisamount.bindsN fun _ _ _ _ _ _ us hl => match us, hl with | [_], _ => rfl
  have bDasamount : Binds K fdDasamount ["value"] [] := FDasamount.bindsN fun _ _ _ _ _ _ us hl => match us, hl with | [_], _ => rfl
  have bDamounttext : Binds K fdDamounttext ["amount"] [] := FDamounttext.bindsN fun _ _ _ _ _ _ us hl => match us, hl with | [_], _ => rfl
  have bDdecimal : Binds K fdDdecimal ["number"] [] := FDdecimal.bindsN fun _ _ _ _ _ _ us hl => match us, hl with | [_], _ => rfl
  have bDamountof : Binds K fdDamountof ["text"] [] := FDamountof.bindsN fun _ _ _ _ _ _ us hl => match us, hl with | [_], _ => rfl
  have bDisnumber : Binds K fdDisnumber ["text", "most"] [] := FDisnumber.bindsN fun _ _ _ _ _ _ us hl => match us, hl with | [_, _], _ => rfl
  have bDlawcell : Binds K fdDlawcell ["_law_script", "_law_k"] [] := FDlawcell.bindsN fun _ _ _ _ _ _ us hl => match us, hl with | [_, _], _ => rfl
  have bDlawbox : Binds K fdDlawbox ["_law_cell_here"] [] := FDlawbox.bindsN fun _ _ _ _ _ _ us hl => match us, hl with | [_], _ => rfl
  have bDlawtake : Binds K fdDlawtake ["_law_box_here", "_law_many"] [] := FDlawtake.bindsN fun _ _ _ _ _ _ us hl => match us, hl with | [_, _], _ => rfl
  have bDlawlowest : Binds K fdDlawlowest ["_law_top", "_law_bottom"] [] := FDlawlowest.bindsN fun _ _ _ _ _ _ us hl => match us, hl with | [_, _], _ => rfl
  have bDlawline : Binds K fdDlawline ["_law_top", "_law_bottom"] [] := FDlawline.bindsN fun _ _ _ _ _ _ us hl => match us, hl with | [_, _], _ => rfl
  have bDlawnumber : Binds K fdDlawnumber ["_law_word", "_law_most"] [] := FDlawnumber.bindsN fun _ _ _ _ _ _ us hl => match us, hl with | [_, _], _ => rfl
  have bDlawread : Binds K fdDlawread ["_law_line_here"] [] := FDlawread.bindsN fun _ _ _ _ _ _ us hl => match us, hl with | [_], _ => rfl
  have bDlawlinesright : Binds K fdDlawlinesright ["_law_box_here"] [] := FDlawlinesright.bindsN fun _ _ _ _ _ _ us hl => match us, hl with | [_], _ => rfl
  have bDlawisnamed : Binds K fdDlawisnamed ["_law_word"] [] := FDlawisnamed.bindsN fun _ _ _ _ _ _ us hl => match us, hl with | [_], _ => rfl
  have bDlawwordsright : Binds K fdDlawwordsright ["_law_box_here"] [] := FDlawwordsright.bindsN fun _ _ _ _ _ _ us hl => match us, hl with | [_], _ => rfl
  have bDlawtold : Binds K fdDlawtold ["_law_at", "_law_thing"] [] := FDlawtold.bindsN fun _ _ _ _ _ _ us hl => match us, hl with | [_, _], _ => rfl
  have bDlawthingsright : Binds K fdDlawthingsright ([] : List Str) [] := FDlawthingsright.bindsN fun _ _ _ _ _ _ us hl => match us, hl with | [], _ => rfl
  have btop : Binds K fdtop ["self"] [] := Ftop.bindsN fun _ _ _ _ _ _ us hl => match us, hl with | [_], _ => rfl
  have bbot : Binds K fdbot ["self"] [] := Fbot.bindsN fun _ _ _ _ _ _ us hl => match us, hl with | [_], _ => rfl
  have sub : ∀ T ∈ tys, PySem.W.subIn K (.type T) (.ref (CA K)) = some false := fun T hT => of_decide_eq_true (List.all_eq_true.mp (Hd.allB_at cc 19) T hT)
  have sf : PySem.W.selfFirst K (CA K) = true := Hd.allB_at cc 20
  have A : AF K mg :=
    { cl := ⟨Hd.allB_at cc 0, Hd.allB_at cc 1, Hd.allB_at cc 2, He.eqO_ok (Hd.allB_at cc 3)⟩
      noT := He.eqO_ok (Hd.allB_at cc 4)
      noB := He.eqO_ok (Hd.allB_at cc 5)
      mkA := ⟨Hd.allB_at cc 6, He.eqO_ok (Hd.allB_at cc 7), Hd.allB_at cc 8, Hd.allB_at cc 9⟩
      g := G_Amount
      isi := R_isinstance
      int := R_int
      bool := R_bool
      gcd := PySem.W.mg_of X G (He.eqO_ok (Hd.allB_at cc 10))
      gI := G_InvalidInteger
      gV := G_InvalidAmount
      kI := of_decide_eq_true (Hd.allB_at cc 11)
      kB := of_decide_eq_true (Hd.allB_at cc 12)
      kS := of_decide_eq_true (Hd.allB_at cc 13)
      kT := fun T hT => of_decide_eq_true (List.all_eq_true.mp (Hd.allB_at cc 14) T hT)
      ca := He.eqO_ok (Hd.allB_at cc 15)
      cn := He.eqO_ok (Hd.allB_at cc 16)
      ct := of_decide_eq_true (Hd.allB_at cc 17)
      cm := of_decide_eq_true (Hd.allB_at cc 18) }
  have pT := prB_of (Hd.allB_at ck 3)
  have pB := prB_of (Hd.allB_at ck 4)
  have hS := sysB_of (Hd.allB_at ck 5)
  have kStr := of_decide_eq_true (Hd.allB_at ck 6)
  have hUV := of_decide_eq_true (Hd.allB_at ck 7)
  have hWV := of_decide_eq_true (Hd.allB_at ck 8)
  have hWU := of_decide_eq_true (Hd.allB_at ck 9)
  have xInvalidInteger := Hd.exc_txt Xb.nm_value gxInvalidInteger (Hd.allB_at ck 18) ⟨_, _, _, _, _, _, _, _, _, _, _, _, _, rfl, rfl, rfl, rfl⟩
  have xInvalidAmount := Hd.exc_txt Xb.nm_value gxInvalidAmount (Hd.allB_at ck 19) ⟨_, _, _, _, _, _, _, _, _, _, _, _, _, rfl, rfl, rfl, rfl⟩
  have xInvalidUnit := Hd.exc_txt Xb.nm_value gxInvalidUnit (Hd.allB_at ck 20) ⟨_, _, _, _, _, _, _, _, _, _, _, _, _, rfl, rfl, rfl, rfl⟩
  have xInvalidWord := Hd.exc_txt Xb.nm_value gxInvalidWord (Hd.allB_at ck 21) ⟨_, _, _, _, _, _, _, _, _, _, _, _, _, rfl, rfl, rfl, rfl⟩
  have V : VF K mg (He.ga K "UNITS") (He.ga K "WORDS") :=
    { str := R_str, len := R_len, all := R_all, letters := He.str_ok X G (Hd.allB_at ck 16), digits := He.str_ok X G (Hd.allB_at ck 17), longest := He.int_ok X G (Hd.allB_at ck 12),
      units := G_UNITS, words := G_WORDS, unitsT := fun H => tupB_of (Hd.allB_at ck 10) H, wordsT := fun H => tupB_of (Hd.allB_at ck 11) H }
  have m6 := He.int_ok X G (Hd.allB_at ck 13)
  have m4 := He.int_ok X G (Hd.allB_at ck 14)
  have m1 := He.int_ok X G (Hd.allB_at ck 15)
  have hlaw := glo "law" (by simp [glos, glos1, glos2])
  cases hfa.symm.trans hlaw
  have htop : (PP.main.scope.names.lookup ("super" : Str)).isSome = false := by decide +kernel
  have blaw := FDlaw.bindsA (ps := ["_law_script"]) fun _ _ _ _ _ _ us hl => match us, hl with | [_], _ => rfl
  refine ⟨fdDlaw, fun s v => blaw s [v] rfl, fun base _ _ => ?_⟩
  obtain ⟨dv, hds, bI⟩ := Finit.binds1 (ps := ["self", "top", "bottom"]) 2 0 (by simp [dM]) rfl (fun _ _ _ _ _ _ _ us its hu hi => match us, its, hu, hi with | [_, _], [_], _, _ => ⟨_, rfl, rfl⟩)
  obtain ⟨ds2, hds2, bI2⟩ := Finit.binds1 (ps := ["self", "top", "bottom"]) 3 1 (by simp [dM]) rfl (fun _ _ _ _ _ _ _ us its hu hi => match us, its, hu, hi with | [_, _, _], [_], _, _ => ⟨_, rfl, rfl⟩)
  cases hds2
  have OI : FnOk PP w K mg base (L2.CX PP w) 4 (aI K) fdinit ["self", "top", "bottom"] (spInit K) := ok_init Finit A FDiswhole G_is_whole xInvalidInteger htop
  have OS : FnOk PP w K mg base (L2.CX PP w) 6 _ fdDasamount ["value"] (spAs K) := ok_as FDasamount A FDiswhole G_is_whole FDisamount G_is_amount Finit xInvalidInteger xInvalidAmount htop
  have RT : PrF PP w K mg base "top" "_top" _ _ fdtop := ⟨pT, ok_top Ftop A, btop⟩
  have RB : PrF PP w K mg base "bottom" "_bottom" _ _ fdbot := ⟨pB, ok_bot Fbot A, bbot⟩
  have Has := ok_has (P := PP) (w := w) (base := base) FDhasonly R_all
  have Intg := ok_intg (P := PP) (w := w) (base := base) FDisinteger A FDiswhole G_is_whole
  have INT : Fn PP w K mg base "is_integer" 2 ["value", "low", "high"] (spIntg K) _ fdDisinteger := ⟨Intg, G_is_integer, FDisinteger.kp, bDisinteger⟩
  have NAM : Fn PP w K mg base "is_name" 2 ["value"] (spName K) _ fdDisname := ⟨ok_name FDisname A V Has G_has_only FDhasonly.kp bDhasonly, G_is_name, FDisname.kp, bDisname⟩
  have UNI : Fn PP w K mg base "is_unit" 1 ["value"] (spText K isUnit) _ fdDisunit := ⟨ok_unit FDisunit A V, G_is_unit, FDisunit.kp, bDisunit⟩
  have WOR : Fn PP w K mg base "is_word" 1 ["value"] (spText K isWord) _ fdDisword := ⟨ok_word FDisword A V, G_is_word, FDisword.kp, bDisword⟩
  have Chk := ok_chk (P := PP) (w := w) (base := base) FDcheckunit UNI.ok G_is_unit FDisunit.kp bDisunit G_InvalidUnit xInvalidUnit htop
  have OTH : Fn PP w K mg base "other_unit" 3 ["unit"] (spTurn K isUnit othU (CU K)) _ fdDotherunit := ⟨ok_other FDotherunit Chk G_check_unit FDcheckunit.kp bDcheckunit, G_other_unit, FDotherunit.kp, bDotherunit⟩
  have CHW : FnOk PP w K mg base (L2.CX PP w) 2 _ fdDcheckword ["word"] (spChkW K) := ok_chkw FDcheckword WOR.ok G_is_word FDisword.kp bDisword G_InvalidWord xInvalidWord htop
  have TUR : Fn PP w K mg base "turned" 3 ["word"] (spTurn K isWord turnW (CW K)) _ fdDturned := ⟨ok_turned FDturned CHW G_check_word FDcheckword.kp bDcheckword, G_turned, FDturned.kp, bDturned⟩
  have Dec := ok_dec (P := PP) (w := w) (base := base) FDdecimal R_str R_reversed
  have AMT : Fn PP w K mg base "amount_text" 7 ["amount"] (spAmt K) _ fdDamounttext := ⟨ok_amt FDamounttext A R_abs OS G_as_amount FDasamount.kp bDasamount Dec G__decimal FDdecimal.kp bDdecimal RT RB, G_amount_text, FDamounttext.kp, bDamounttext⟩
  have Num := ok_num (P := PP) (w := w) (base := base) FDisnumber V Has G_has_only FDhasonly.kp bDhasonly
  have AOF : Fn PP w K mg base "amount_of" 6 ["text"] (spAmtOf K) _ fdDamountof := ⟨ok_amtof FDamountof A V m6 m4 m1 Num G__is_number FDisnumber.kp bDisnumber Intg G_is_integer FDisinteger.kp bDisinteger OI hds bI bI2, G_amount_of, FDamountof.kp, bDamountof⟩
  have Cel : Fn0 PP w K mg base "_law_cell" 1 ["_law_script", "_law_k"] (spCel K) _ fdDlawcell := ⟨ok_cell FDlawcell R_len, G__law_cell, FDlawcell.kp, bDlawcell⟩
  have Bx : Fn0 PP w K mg base "_law_box" 1 ["_law_cell_here"] spBox _ fdDlawbox := ⟨ok_box FDlawbox R_max, G__law_box, FDlawbox.kp, bDlawbox⟩
  have Tk : Fn0 PP w K mg base "_law_take" 1 ["_law_box_here", "_law_many"] spTake _ fdDlawtake := ⟨ok_take FDlawtake, G__law_take, FDlawtake.kp, bDlawtake⟩
  have Low : Fn PP w K mg base "_law_lowest" 1 ["_law_top", "_law_bottom"] spLow _ fdDlawlowest := ⟨ok_low FDlawlowest R_abs, G__law_lowest, FDlawlowest.kp, bDlawlowest⟩
  have Lin : Fn PP w K mg base "_law_line" 1 ["_law_top", "_law_bottom"] spLine _ fdDlawline := ⟨ok_line FDlawline R_str, G__law_line, FDlawline.kp, bDlawline⟩
  have Nb : Fn PP w K mg base "_law_number" 1 ["_law_word", "_law_most"] spNumb _ fdDlawnumber := ⟨ok_numb FDlawnumber A R_len, G__law_number, FDlawnumber.kp, bDlawnumber⟩
  have Rd : Fn PP w K mg base "_law_read" 2 ["_law_line_here"] spRead _ fdDlawread := ⟨ok_read FDlawread A V R_len Low Nb, G__law_read, FDlawread.kp, bDlawread⟩
  have Nmd : Fn PP w K mg base "_law_is_named" 1 ["_law_word"] spNamed _ fdDlawisnamed := ⟨ok_named FDlawisnamed A R_len R_str, G__law_is_named, FDlawisnamed.kp, bDlawisnamed⟩
  have Told : Fn PP w K mg base "_law_told" 8 ["_law_at", "_law_thing"] (spTold K) _ fdDlawtold := ⟨ok_told FDlawtold A G_InvalidUnit G_InvalidWord xInvalidAmount xInvalidUnit xInvalidWord hUV hWV hWU AMT OTH TUR, G__law_told, FDlawtold.kp, bDlawtold⟩
  have Lines : Fn PP w K mg base "_law_lines_right" 8 ["_law_box_here"] spLines _ fdDlawlinesright := ⟨ok_lines FDlawlinesright A R_len R_str R_range Tk Low Lin Rd AOF AMT OI bI2 RT RB, G__law_lines_right, FDlawlinesright.kp, bDlawlinesright⟩
  have Words : FnS2 PP w K mg base "_law_words_right" 3 ["_law_box_here"] spWords _ fdDlawwordsright := ⟨ok_words FDlawwordsright hS R_repr R_range R_len R_min R_max Tk NAM UNI WOR Nmd INT, G__law_words_right, FDlawwordsright.kp, bDlawwordsright⟩
  have Things : FnS2 PP w K mg base "_law_things_right" 9 [] spThings _ fdDlawthingsright := ⟨ok_things FDlawthingsright A hS kStr R_repr Told AOF NAM UNI WOR INT OTH TUR OI hds bI, G__law_things_right, FDlawthingsright.kp, bDlawthingsright⟩
  exact ok_law FDlaw A R_len R_range R_max R_min Cel Bx Lines Words AOF Things RT RB
end K03
set_option Elab.async false
set_option linter.all false
set_option maxRecDepth 100000
set_option maxHeartbeats 0
namespace K03
open PySem PySem.Spec PyProof.Rows L2
def nm0 : List PySem.Str := ["_wall", "CueError", "InvalidInteger", "InvalidAmount", "InvalidUnit", "InvalidWord", "UNITS", "WORDS", "LETTERS", "DIGITS", "LONGEST_NAME", "is_whole", "is_integer", "is_name", "has_only", "is_unit", "is_word", "check_unit", "other_unit", "check_word", "turned", "MOST_TOP_DIGITS", "MOST_BOTTOM_DIGITS", "MOST_BOTTOM", "Amount", "is_amount", "as_amount", "amount_text", "_decimal", "amount_of"]
def nm1 : List PySem.Str := ["_is_number", "_law_cell", "_law_box", "_law_take", "_law_lowest", "_law_line", "_law_number", "_law_read", "_law_lines_right", "_law_is_named", "_law_words_right", "_law_told", "_law_things_right"]
def nms : List PySem.Str := nm0 ++ nm1
abbrev lawAt : Nat := 48
abbrev RR : PySem.W.OpenRow := PySem.W.OpenLaw.row PySem.Challenge.rw_anytempo_k03_amounts_as_strings
abbrev hk : PySem.W.Hook := Hd.hookS 5 ds chk
theorem run (w : World) : HandSHeadRun.RunEqI RR (PySem.W.view RR.prog [0, lawAt]) hk (Hd.obS 5 ds chk) 20000 nms w := by
  unfold HandSHeadRun.RunEqI
  kernel_rfl
theorem noX (P : Program) (w : World) (H : Hp) (s : Shared) (e : Value) (s' : Shared) : L2.CX P w [] H s (fun _ _ _ => False) e s' → False := fun ⟨_, _, _, _, _, _, _, _, _, _, _, _, z⟩ => z
end K03
open PySem PySem.W PySem.Calls PyProof.Rows
theorem PySem.Challenge.cw_anytempo_k03_amounts_as_strings_holds : PySem.Challenge.rw_anytempo_k03_amounts_as_strings.Holds := by
  w_on; o_law
  refine HandSHeadRun.head_imp (r := OpenLaw.row PySem.Challenge.rw_anytempo_k03_amounts_as_strings) (q := view (OpenLaw.row PySem.Challenge.rw_anytempo_k03_amounts_as_strings).prog [0, 48]) (H := K03.hk) (ob := Hd.obS 5 K03.ds K03.chk) (M := 20000) (loose := K03.nms) (d := HandSHeadRun.topDef (OpenLaw.row PySem.Challenge.rw_anytempo_k03_amounts_as_strings).prog 48) (kwd := [])
    (Hd.obS_eq 5 K03.ds K03.chk) K03.run (by kernel_rfl) (by kernel_rfl) (by kernel_rfl) (by rfl) (by first | assumption | decide +kernel) (by decide +kernel) ⟨rfl, rfl, rfl, rfl, rfl, by decide +kernel⟩ ?hw ?hc
  case hw => w_witness2
  case hc =>
    refine Fg.walk_ofG (l := PySem.Challenge.rw_anytempo_k03_amounts_as_strings) (n := 63) (k := 10) (x := "_law_script") (CX := fun w => L2.CX K03.PP w) rfl (by decide) (by kernel_rfl) ⟨rfl, by decide, by decide⟩ ?F (fun w => K03.noX K03.PP w)
    intro w mg fa h Y G hmg0
    obtain ⟨K, KX, c⟩ := Y
    have hmg : mg ("law" : PySem.Str) = some (.ref fa) := by
      have e : (HandSHeadRun.topDef (OpenLaw.row PySem.Challenge.rw_anytempo_k03_amounts_as_strings).prog 48).name = ("law" : PySem.Str) := by kernel_rfl
      rw [← e]
      exact hmg0
    obtain ⟨fd, hb, hF⟩ := K03.facts (w := w) KX G hmg c
    exact ⟨K, fd, K03.spLaw K, KX, hb, fun H a ns hl _ hS => ⟨a, ns, rfl, hS, hl, fun _ => rfl⟩, hF⟩

import PyProof.Rows.All
import Wide.All
import OpenK.AllK
import Wide.FinOn
import KE.KExcSuper
import HandS.Base
import HandS.Call
import HandS.List
import HandS.Exc
import HandS.ExcOwn
import HandS.TryOnly
import HandS.WordsExc
import KE.KStateDown
import HandS.Ends
import HandS.Defaults
import HandS.Head0
import HandS.Head1
import HandS.Head2
import HandS.Head3
import HandS.HeadEnd
import HandS.HeadHook1
import HandS.HeadHook2
import HandS.ForMost
import HandS.Wide
import HandS.IsInst
import HandS.Gcd
import HandS.Property
import HandS.Star
import KE.KOpsOwn
import HandS.CallSlots
import HandS.SlotsOwn
import HandS.RaiseMore
import HandS.Dict
import PyProof.ReprRoads
import HandS.OwnEq
import HandS.Comp
import HandS.Iter
import HandS.Zip
import HandS.TupLe
import PySem.Challenge.RW_anytempo_k02_amounts_reckoned
set_option Elab.async false
set_option linter.all false
set_option maxRecDepth 100000
set_option maxHeartbeats 4000000
/-! Exception classes whose __init__ says super().__init__(a text) and stores its one argument. -/
namespace Xb
open PySem PySem.W PySem.Calls PyProof.Rows
abbrev arg2 (F : Str) (p1 p2 : Pos) : Arguments :=
  { posonlyargs := [], args := [{ arg := "self", annotation := none, pos := p1 }, { arg := F, annotation := none, pos := p2 }],
    vararg := none, kwonlyargs := [], kw_defaults := [], kwarg := none, defaults := [] }
abbrev bod2 (F txt : Str) (k : Nat) (q1 q2 q3 q4 q5 q6 q7 q8 q9 q10 : Pos) : List Stmt :=
  [.Expr (.Call (.Attribute (.Call (.Name "super" q1) [] [] q2) "__init__" q3) [.Constant (.str txt) k q4] [] q5) q6,
   .Assign [.Attribute (.Name "self" q7) F q8] (.Name F q9) q10]
abbrev sco2 (F : Str) : Scope :=
  { kind := .function, names := [(PySem.Str.ofString "self", .local), (F, .local), (PySem.Str.ofString "__class__", .free), (PySem.Str.ofString "super", .globalImplicit)],
    isGenerator := false, isCoroutine := false, more := [] }
/-- the names of the one field are no other names -/
structure Nm (F : Str) : Prop where
  s : (sco2 F).names.lookup ("super" : Str) = some .globalImplicit
  c : (sco2 F).names.lookup ("__class__" : Str) = some .free
  f : (sco2 F).names.lookup F = some .local
  l : (sco2 F).names.lookup ("self" : Str) = some .local
  ne : (F == ("self" : Str)) = false
  en : (("self" : Str) == F) = false
  db : (F == ("__debug__" : Str)) = false
  b : ∀ (q : Str) (bd : List Stmt) (kV doc pm : Value) (an : Option Addr) (cd ct : Value) (cc : Addr) (p1 p2 : Pos) (u v : Value),
    bindArgs (ksFn "__init__" q (arg2 F p1 p2) bd (sco2 F) .none kV doc pm an cd ct cc) ⟨[u, v], []⟩ = pure [(("self" : Str), u), (F, v)]
theorem mcall1 {o : Expr} {name : Str} {apos pos p4 : Pos} {txt : Str} {kk : Nat} {env : Env} (h : (apos.endLine == pos.line) = true) :
    eval (.Call (.Attribute o name apos) [.Constant (.str txt) kk p4] [] pos) env = (do
      let ov ← attributeBase o name env (eval o env)
      standAt apos.atName
      let (f, first) ← holding [ov] (getMethod ov name (do return (← importBound o env).getD true))
      callWith pos f first (backTo pos (starEach [.Constant (.str txt) kk p4] env)) []) := by
  have e : ∀ ov, methodCall o name apos pos env ov 1 (backTo pos (starEach [.Constant (.str txt) kk p4] env)) [] = (do
      let (f, first) ← holding [ov] (getMethod ov name (do return (← importBound o env).getD true))
      callWith pos f first (backTo pos (starEach [.Constant (.str txt) kk p4] env)) []) := fun ov => by
    have hf : methodCallForm 1 (backTo pos (starEach [.Constant (.str txt) kk p4] env)) [] = true := rfl
    unfold methodCall methodCallPos calleeOf
    simp only [hf, h, Bool.not_true, Bool.false_or, if_true, pure_bind]
  show (do
      let ov ← attributeBase o name env (eval o env)
      standAt apos.atName
      methodCall o name apos pos env ov 1 (backTo pos (starEach [.Constant (.str txt) kk p4] env)) []) = _
  simp only [e]
theorem nm_value : Nm "value" := ⟨rfl, rfl, rfl, rfl, by decide, by decide, by decide, fun _ _ _ _ _ _ _ _ _ _ _ _ _ => rfl⟩
/-- what the written part says of the class at C and of its __init__ at fI -/
structure Txt (file : Str) (K : Frag) (q F txt : Str) (C fI : Addr) : Prop where
  nm : Nm F
  cls : ∃ nm q' N bs bm sn sub ab col dd k0 k1 k2 k3 k5, K.lookup C = some (excClassObj nm q' C N bs bm true sn sub ab col dd k0 k1 k2 k3 k5 "ValueError.__new__") ∧ HandSPX.refsVE bm = true
  sa : findIn K (.ref C) "__setattr__" = some (some (.builtin "object.__setattr__"))
  ga : findIn K (.ref C) "__getattribute__" = some (some (.builtin "BaseException.__getattribute__"))
  gg : findIn K (.ref C) "__getattr__" = some none
  noF : findIn K (.ref C) F = some none
  iC : findIn K (.ref C) "__init__" = some (some (.ref fI))
  tC : typeIn K (.ref fI) = some (.type "function")
  kC : keepIn K (.ref C) = true
  exC : subIn K (.ref C) (.type "BaseException") = some true
  veC : subIn K (.ref C) (.type "ValueError") = some true
  tyC : typeIn K (.ref C) = some (.type "type")
  hdC : hasDictIn K C = true
  te : exmOne K (.ref C) (.ref C) = some true
  sup : ks_superIn K C C "__init__" = some (some (.builtin "ValueError.__init__"))
  slf : mroIn K C (.ref C) = some true
  gs : nsIn K mainGlobals "super" = some none
  tp : nsIn K cStatics "thirdparty.any" = some none
  fn : ∃ (oc : Value) (od : Option Addr) (kV doc pm : Value) (an : Option Addr) (cda : Addr) (ct : Value) (osl : Array (Option Value)) (cc : Addr) (p1 p2 : Pos) (kk : Nat) (q1 q2 q3 q4 q5 q6 q7 q8 q9 q10 : Pos),
    K.lookup fI = some ⟨oc, od, .func (ksFn "__init__" q (arg2 F p1 p2) (bod2 F txt kk q1 q2 q3 q4 q5 q6 q7 q8 q9 q10) (sco2 F) .none kV doc pm an (.ref cda) ct cc), osl⟩ ∧ codeIn K (.ref cda) q = true ∧ (q3.endLine == q5.line) = true ∧
    (∃ ccl cdd vs ccs tf, K.lookup cda = some ⟨ccl, cdd, .fields vs, ccs⟩ ∧ vs[2]? = some (.str file tf)) ∧ (∃ cl cld csl, K.lookup cc = some ⟨cl, cld, .cell (some (.ref C)), csl⟩)
/-- behind __init__ -/
structure Done (h h' : Heap) (x C dx t1 : Addr) (F : Str) (v : Value) : Prop where
  keep : ∀ b o, b ≠ x → h.get? b = some o → h'.get? b = some o
  obj : h'.get? x = some { cls := .ref C, dict := some dx, data := .fields #[.ref t1, .none, .none, .none, .bool false, .none] }
  dbig : h.objs.size ≤ dx
  dne : dx ≠ x
  ns : h'.Ns1 dx (fun y => if y = F then some v else none)
section
variable {prog : Program} {w : World} {A : Around} {E : Value → Shared → Prop} {h : Heap} {g : Array GenState} {d : Drawn} {t : Nat} {os : OsState}
variable {nm q : Str} {C N : Addr} {bs bm : List Value} {hdct : Bool} {sn : List Str} {sub : List Value} {ab : Bool} {col : Option Bool} {dd : Option Addr} {k0 k1 k2 k3 k5 : Option Value}
/-- the bound built-in __init__ is called -/
theorem mw_call {u e t0 : Addr} {rest : List Value} {Q : Value → Shared → Prop}
    (hC : h.get? C = some (excClassObj nm q C N bs bm hdct sn sub ab col dd k0 k1 k2 k3 k5 "ValueError.__new__")) (he : h.get? e = some (HandSPX.excO C t0))
    (hu : h.get? u = some (kxs_mw "ValueError.__init__" e)) (hz : rest.length ≤ sizeLine)
    (hq : ∀ h' t1, (∀ b o, b ≠ e → h.get? b = some o → h'.get? b = some o) → h'.get? e = some (HandSPX.excO C t1) → Q .none ⟨h', g, d, t, os⟩) :
    wpAny (model prog w) A (call (.ref u) rest) Q E ⟨h, g, d, t, os⟩ := by
  have FB := F.excBase_ValueError
  have c1 : (Value.type "method-wrapper" == Value.type "method" || Value.type "method-wrapper" == Value.type "builtin_function_or_method" || Value.type "method-wrapper" == Value.type "method-wrapper") = true := by decide
  refine wpAny_call (codeAny_of_tree ?_)
  show wpAny _ A.in1 (callAny (.ref u) ⟨rest, []⟩) _ _ _
  simp only [callAny]
  refine wpAny_bind (wpAny_load hu ?_)
  simp only [kxs_mw, c1, if_true]
  refine KFB.if_so (by decide) ?_
  refine wpAny_bind (check_bound_init (initId := "ValueError.__init__") FB.toExcCallFacts hC he rfl ?_)
  refine wpAny_bind (wpAny_pure (wpAny_pure ?_))
  refine ⟨plainId_quiet FB.init.plain _, codeAny_builtin FB.initEntry ?_⟩
  refine exc_init_tree (cls := .ref C) (t0 := t0) (dv := none) (c2 := .none) (c3 := .none) (b4 := .bool false) he hz fun h' k e' _ => ?_
  exact hq h' _ k e'
end
section
variable {prog : Program} {w : World} {A : Around} {E : Value → Shared → Prop} {R : Result → Shared → Prop} {s : Shared} {K : Frag} {q F txt : Str} {C fI : Addr} {mg mb : Str → Option Value}
theorem initX (T : Txt prog.main.file K q F txt C fI) {x t0 : Addr} {v : Value} (X : K.In s.heap) (hlim : s.heap.NoLimit) (hg : s.heap.Ns mainGlobals mg) (hb : s.heap.Ns builtinsNs mb) (hbs : mb "super" = some (.type "super"))
    (htop : (prog.main.scope.names.lookup ("super" : Str)).isSome = false) (hx : s.heap.get? x = some (HandSPX.excO C t0)) (hnx : K.lookup x = none) (hroom : A.depth < recursionLimit)
    (hq : ∀ h' tk dx t1, Done s.heap h' x C dx t1 F v → R (.ok (.ret .none)) { s with heap := h', toks := tk }) :
    codeAny (model prog w) A (.call (.ref fI) ⟨[.ref x, v], []⟩) R s := by
  obtain ⟨oc, od, kV, doc, pm, an, cda, ct, osl, cc, p1, p2, kk, q1, q2, q3, q4, q5, q6, q7, q8, q9, q10, ho, hcd, hpl, ⟨ccl, cdd, vs, ccs, tf, hcode, hvs⟩, cl, cld, csl, hcell⟩ := T.fn
  obtain ⟨nm, q', N, bs, bm, sn, sub, ab, col, dd, k0, k1, k2, k3, k5, hC, hbm⟩ := T.cls
  have hcl : clsIn K C = some { name := nm, bases := bs, mro := .ref C :: bm, ns := N, qualname := q', hasDict := true, slotNames := sn, subclasses := sub, abstract := ab, collection := col, hasDel := false } := by unfold clsIn; rw [hC] <;> rfl
  refine ks_codeAny_call_defAt (fd := ksFn "__init__" q (arg2 F p1 p2) (bod2 F txt kk q1 q2 q3 q4 q5 q6 q7 q8 q9 q10) (sco2 F) .none kV doc pm an (.ref cda) ct cc) (binds := [("self", .ref x), (F, v)]) hroom (X _ _ ho) rfl hlim (codeRec_of X hcd) rfl
    (BindsTo.of_eq (T.nm.b _ _ _ _ _ _ _ _ _ _ _ _ _)) (fun y hy => ?_) (fun y hy => ?_) (fun h₁ hns hk => ?_)
  · simp only [List.mem_cons, List.not_mem_nil, or_false] at hy
    rcases hy with rfl | rfl | rfl | rfl <;> (intro z; cases z)
  · simp only [List.mem_cons, List.not_mem_nil, or_false] at hy
    rcases hy with rfl | rfl
    · exact T.nm.l
    · exact T.nm.f
  have X1 : K.In h₁ := X.keeps hk
  have g1 : h₁.Ns mainGlobals mg := hg.keeps hk
  have b1 : h₁.Ns builtinsNs mb := hb.keeps hk
  have x1 := hk _ _ hx
  have vS : ([(PySem.Str.ofString "self", Value.ref x), (F, v)] : List (Str × Value)).reverse.lookup ("self" : Str) = some (.ref x) := by
    show List.lookup ("self" : Str) [(F, v), (("self" : Str), Value.ref x)] = _
    simp [List.lookup, T.nm.en]
  have vF : ([(PySem.Str.ofString "self", Value.ref x), (F, v)] : List (Str × Value)).reverse.lookup F = some v := by
    show List.lookup F [(F, v), (("self" : Str), Value.ref x)] = _
    simp [List.lookup]
  show _root_.PySem.wpAt _ _ _ (execs (_ :: _) _) _ _ _
  refine ks_wpAt_execs_cons (ks_wpAt_Expr_any (ks_wpAt_MethodCall ?_ (mcall1 hpl)))
  obtain ⟨oD, hD1, hD2⟩ : ∃ oD, h₁.get? C = some oD ∧ oD.data = .cls { name := nm, bases := bs, mro := .ref C :: bm, ns := N, qualname := q', hasDict := true, slotNames := sn, subclasses := sub, abstract := ab, collection := col, hasDel := false } := ⟨_, X1 _ _ hC, rfl⟩
  have I1 : InstAt h₁ x (HandSPX.excO C t0) C none := ⟨x1, rfl, rfl, trivial⟩
  refine ks_wpAt_super_base T.nm.s T.nm.c (by decide) rfl (X1 _ _ ho) rfl rfl rfl (X1 _ _ hcode) rfl hvs (beq_self_eq_true _) htop ?_
  refine ks_loadName_global rfl T.nm.s (loadGlobal_builtin g1 (mg_none_of X1 g1 T.gs) b1 hbs ⟨rfl, ?_⟩)
  refine wpAny_loadName_free rfl T.nm.c (by rfl) ⟨_, X1 _ _ hcell, rfl⟩ ?_
  refine wpAny_loadName_local rfl T.nm.l hns vS ?_
  refine ks_wpAny_isType_cls hD1 hD2 ⟨rfl, ?_⟩
  refine ks_wpAny_call_super hD1 hD2 x1 rfl (fun c e => by cases e) (looks_mroIn X1 T.slf) (fun h₂ e2 k2' => ?_)
  have X2 : K.In h₂ := X1.keeps k2'
  have x2 := k2' _ _ x1
  have n2 : h₂.Ns s.heap.objs.size (fun y => ([(PySem.Str.ofString "self", Value.ref x), (F, v)] : List (Str × Value)).reverse.lookup y) := hns.keeps k2'
  have I2 : InstAt h₂ x (HandSPX.excO C t0) C none := ⟨x2, rfl, rfl, trivial⟩
  have hxC : x ≠ C := ks_ne X2 I2 hcl
  have hsup := T.sup
  unfold ks_superIn at hsup
  rw [hcl] at hsup
  have hI : Looks (model prog w) h₂ (isInstance (.ref x) (.type "ValueError")) true := I2.type.andThen (looks_subIn X2 T.veC)
  show wpAny _ _ (getMethod (.ref h₁.objs.size) "__init__" _) _ _ _
  refine kxs_getMethod kxs_ValueError e2 (looks_opaque X2 T.tp) (l₀ := .ref C :: bm) (fun A Q E s k z => wpAny_bind ((looks_clsIn X2 hcl) A _ E s k (wpAny_pure z))) rfl X2 hsup hI hxC (by decide) ?_
  have k3' : ∀ b o, h₂.get? b = some o → (h₂.push (kxs_mw "ValueError.__init__" x)).get? b = some o := fun b o e => Heap.get?_push_of_some _ e
  have u3 : (h₂.push (kxs_mw "ValueError.__init__" x)).get? h₂.objs.size = some (kxs_mw "ValueError.__init__" x) := Heap.get?_push_size _ rfl
  refine kxs_callWith (i := "ValueError.__init__") (x := x) rfl (evalArgs_plain (spliced_cons (Constant_str (k := kk) (pos := q4) (spliced_nil ⟨u3, ?_⟩))))
  refine mw_call (k3' _ _ (X2 _ _ hC)) (k3' _ _ x2) u3 (by show 1 ≤ sizeLine; rw [sizeLine_eq]; omega) fun h₄ t1 k4 x4 => ?_
  have X4 : K.In h₄ := fun a o e => k4 a o (fun z => by rw [z, hnx] at e; cases e) (k3' _ _ (X2 _ _ e))
  have hxL : s.heap.objs.size ≠ x := Nat.ne_of_gt (Heap.lt_size hx)
  have n4 : h₄.Ns s.heap.objs.size (fun y => ([(PySem.Str.ofString "self", Value.ref x), (F, v)] : List (Str × Value)).reverse.lookup y) := by
    obtain ⟨o, es, ep, e, r⟩ := n2
    exact ⟨o, es, ep, k4 _ _ hxL (k3' _ _ e), r⟩
  show _root_.PySem.wpAt _ _ _ (execs (_ :: _) _) _ _ _
  refine wpAt_of_wpAny (wpAny_execs_cons (plainObj_wpAny_Assign_Attribute ?_))
  refine wpAny_Name (wpAny_loadName_local rfl T.nm.f n4 vF ?_) T.nm.db
  refine wpAny_Name (wpAny_loadName_local rfl T.nm.l n4 vS ?_) (by decide)
  refine set_plain X4 (ox := HandSPX.excO C t1) (od := none) ⟨x4, rfl, rfl, trivial⟩ T.sa ?_
  refine HandSPX.exc_osa X4 x4 hcl (show HandSPX.refsVE (.ref C :: bm) = true from hbm) rfl T.noF (fun h₅ tk₅ dx k₅ dn dne hx₅ hn₅ => ?_)
  show wpAny _ _ (execs _ _) _ _ _
  have z4 : ∀ b o, b ≠ x → s.heap.get? b = some o → h₄.get? b = some o := fun b o hb e => k4 b o hb (k3' _ _ (k2' _ _ (hk _ _ e)))
  refine wpAny_execs_nil (hq h₅ tk₅ dx t1 ⟨fun b o hb e => k₅ b o hb (z4 b o hb e), hx₅, ?_, dne, hn₅⟩)
  obtain ⟨o4, es4, ep4, e4, _⟩ := n4
  exact Nat.le_of_lt (Nat.lt_of_lt_of_le (Heap.lt_size e4) dn)

/-- a made one -/
structure Made (h h' : Heap) (e C d : Addr) (F : Str) (v : Value) : Prop where
  keep : ∀ b o, h.get? b = some o → h'.get? b = some o
  new : h.objs.size ≤ e
  obj : ∃ t1 : Addr, h'.get? e = some { cls := .ref C, dict := some d, data := .fields #[.ref t1, .none, .none, .none, .bool false, .none] }
  dbig : h.objs.size ≤ d
  dne : d ≠ e
  ns : h'.Ns1 d (fun y => if y = F then some v else none)
theorem madeX (T : Txt prog.main.file K q F txt C fI) {v : Value} (X : K.In s.heap) (hlim : s.heap.NoLimit) (hg : s.heap.Ns mainGlobals mg) (hb : s.heap.Ns builtinsNs mb) (hbs : mb "super" = some (.type "super"))
    (htop : (prog.main.scope.names.lookup ("super" : Str)).isSome = false) (hroom : A.depth + 1 < recursionLimit)
    (hq : ∀ h' tk e d, Made s.heap h' e C d F v → R (.ok (.ret (.ref e))) { s with heap := h', toks := tk }) :
    codeAny (model prog w) A (.call (.ref C) ⟨[v], []⟩) R s := by
  obtain ⟨nm, q', N, bs, bm, sn, sub, ab, col, dd, k0, k1, k2, k3, k5, hC, hbm⟩ := T.cls
  obtain ⟨hp, g, dr, tk, os⟩ := s
  have k : ∀ b o, hp.get? b = some o → ((hp.push (kdv_tup [v])).push (HandSPX.excO C hp.objs.size)).get? b = some o := fun b o e => Heap.get?_push_of_some _ (Heap.get?_push_of_some _ e)
  have hget : ((hp.push (kdv_tup [v])).push (HandSPX.excO C hp.objs.size)).get? (hp.objs.size + 1) = some (HandSPX.excO C hp.objs.size) := by heap_get
  have hnx : K.lookup (hp.objs.size + 1) = none := by
    cases e : K.lookup (hp.objs.size + 1) with
    | none => rfl
    | some o =>
      have z : hp.get? (hp.objs.size + 1) = some o := X _ _ e
      exact absurd (Nat.lt_of_succ_lt (Heap.lt_size z)) (Nat.lt_irrefl _)
  refine HandSPX.call_own _root_.PySem.F.excBase_ValueError (fun X => HandSPX.refsVE_contains X bm hbm) (X _ _ hC) (looks_findIn X T.iC) (fun self => bind_fn X self T.tC) (by show 1 ≤ sizeLine; rw [sizeLine_eq]; omega) ?_
  refine initX (s := ⟨(hp.push (kdv_tup [v])).push (HandSPX.excO C hp.objs.size), g, dr, tk, os⟩) T (X.keeps k) (hlim.keeps k) (hg.keeps k) (hb.keeps k) hbs htop hget hnx ?_ fun h' tk' dx t1 D => ?_
  · show A.depth + 1 < recursionLimit
    exact hroom
  · have old : ∀ b o, hp.get? b = some o → h'.get? b = some o := fun b o e => D.keep b o (Nat.ne_of_lt (Nat.lt_succ_of_lt (Heap.lt_size e))) (k b o e)
    have z : hp.objs.size + 1 + 1 ≤ dx := by
      have q := D.dbig
      simp only [Heap.size_push] at q
      exact q
    exact ⟨rfl, hq h' tk' (hp.objs.size + 1) dx ⟨old, Nat.le_succ _, ⟨_, D.obj⟩, Nat.le_trans (Nat.le_trans (Nat.le_succ _) (Nat.le_succ _)) z, D.dne, D.ns⟩⟩
end
end Xb
set_option Elab.async false
set_option linter.all false
set_option maxRecDepth 100000
set_option maxHeartbeats 4000000
namespace Xb
open PySem PySem.Spec PyProof.Rows L2
theorem boot_super : bootBuiltins "super" = some (.type "super") := by decide +kernel
theorem relO_one {F : Str} {v : V} {v' : Value} (r : RelV v v') (f : Str) : RelO (List.lookup f [(F, v)]) (if f = F then some v' else none) := by
  by_cases hw : f = F
  · subst hw
    rw [if_pos rfl]
    have q : List.lookup f [(f, v)] = some v := by simp [List.lookup]
    rw [q]
    exact r
  · rw [if_neg hw]
    have qw : (f == F) = false := by simpa using hw
    have q2 : List.lookup f [(F, v)] = none := by simp [List.lookup, qw]
    rw [q2]
    trivial
section
variable {X : Cx} {C fI : Addr} {q F txt : Str}
/-- C(e), to be raised -/
def tMkX (C : Addr) (F : Str) (ta : TA) : L2.St → Hp → XK → Prop := fun σ H Q => ta σ H fun vs H1 => ∃ v, vs = [v] ∧ ∀ d, H1 d = none → Q (.ref C) (some d) (upd H1 d (.xd [(F, v)]))
theorem pmk_x {x : Str} {a : Expr} {ta : TA} {p pos : Pos} {k : Nat} (T : Txt X.prog.main.file X.K q F txt C fI) (hm : X.mg x = some (.ref C)) (htop : (X.prog.main.scope.names.lookup ("super" : Str)).isSome = false) (hr : Room k X.A) (ha : PA X [a] ta) (hg : Gl X x := by rfl)
    (hdb : (x == ("__debug__" : Str)) = false := by decide)
    (he : starEach (a :: []) X.env = (false, eval a X.env) :: starEach [] X.env := by rfl) (hpl : (backTo pos (starEach [] X.env)).any (·.1) = false := by rfl) :
    PMk X (.Call (.Name x p) [a] [] pos) (tMkX C F ta) := by
  intro pins s σ H Q I h
  refine wpAny_Call_Name_kw (ld_glob I hg hm ?_ hdb)
  refine PySem.W.callWith_K (h₀ := X.base) I.ok.mod.kin T.kC (thn (ha.run pos pins s σ H _ I h) fun us s1 hh => ?_) he hpl
  obtain ⟨vs, H1, I1, r1, v, ev, q1⟩ := hh
  subst ev
  refine ⟨I1.kIn, ?_⟩
  cases r1 with
  | cons rv rn =>
    rename_i v' us'
    cases rn
    show wpAny _ _ (call (.ref C) [v']) _ _ _
    have hlim := I1.nolimit
    have M := I1.mod
    have hns : s1.heap.Ns mainGlobals X.mg := M.glob.keeps I1.bk
    obtain ⟨mb, hb, hbb⟩ := M.blt
    have hb1 : s1.heap.Ns builtinsNs mb := hb.keeps I1.bk
    have hbs : mb "super" = some (.type "super") := (hbb _ (by decide)).trans boot_super
    obtain ⟨hp, g, dr, tk, os⟩ := s1
    refine wpAny_call (madeX T I1.kIn hlim hns hb1 hbs htop (by have := hr.dp; omega) fun h' tk' e d M => ?_)
    show MkP X pins σ Q (.ref e) ⟨h', g, dr, tk', os⟩
    obtain ⟨t1, hoe⟩ := M.obj
    obtain ⟨G', g1, g2⟩ := restrict h' fun b => decide (b ≠ e)
    have gk : ∀ b, b ≠ e → G'.get? b = h'.get? b := fun b hb => g1 b (decide_eq_true hb)
    have ge : G'.get? e = none := g2 e (by simp)
    have old : ∀ b o, hp.get? b = some o → G'.get? b = some o := fun b o q => (gk b (Nat.ne_of_lt (Nat.lt_of_lt_of_le (Heap.lt_size q) M.new))).trans (M.keep b o q)
    have ob : ObjOk X.prog X.w (upd H1 d (.xd [(F, v)])) G' d (.xd [(F, v)]) :=
      ⟨_, M.ns.at (fun o q => (gk d M.dne).trans q), fun f => relO_one rv f⟩
    have J : Inv X pins σ (upd H1 d (.xd [(F, v)])) ⟨G', g, dr, tk', os⟩ := I1.laid (t' := tk') old M.dbig ob
    refine ⟨e, _, _, ⟨G', g, dr, tk', os⟩, _, .ref C, some d, rfl, J, fun b o q => ?_, ge, hoe, ⟨rfl, rfl⟩, rfl, rfl, ?_, rfl, I1.bare, raises_own T.exC T.tyC, q1 d (I1.hok.fresh M.dbig)⟩
    · by_cases hb : b = e
      · have q' : G'.get? b = some o := q
        rw [hb, ge] at q'; cases q'
      · exact (gk b hb).symm.trans q
    · rw [upd_ne (Ne.symm M.dne)]
      exact I1.hok.fresh M.new
/-- raise C(e) -/
def tRaiseX (C : Addr) (F : Str) (W : WX) (ta : TA) : TS := fun _ σ H => tMkX C F ta σ H fun cls d H' => W cls d σ H'
theorem ps_raiseX {x : Str} {a : Expr} {ta : TA} {W : WX} {p pos pos2 : Pos} {k : Nat} (hc : X.calm = true) (T : Txt X.prog.main.file X.K q F txt C fI) (hm : X.mg x = some (.ref C)) (htop : (X.prog.main.scope.names.lookup ("super" : Str)).isSome = false) (hr : Room k X.A) (tk : Takes X W) (ha : PA X [a] ta) (hg : Gl X x := by rfl)
    (hdb : (x == ("__debug__" : Str)) = false := by decide)
    (he : starEach (a :: []) X.env = (false, eval a X.env) :: starEach [] X.env := by rfl) (hpl : (backTo pos (starEach [] X.env)).any (·.1) = false := by rfl) :
    PS X (.Raise (some (.Call (.Name x p) [a] [] pos)) none pos2) (tRaiseX C F W ta) := ps_raise hc tk (pmk_x T hm htop hr ha hg hdb he hpl)
/-- e.F, e the exception that the suite holds (at a; its class cls, its dict d) -/
def tByX (C : Addr) (F : Str) (a : Addr) (cls : Value) (d : Option Addr) (te : TE) : TE := fun σ H Q => te σ H fun x H1 => x = .ref a ∧ cls = .ref C ∧ ∃ (dd : Addr) (v : V), d = some dd ∧ H1 dd = some (.xd [(F, v)]) ∧ Q v H1
theorem pe_byX {a : Addr} {oe : Obj} {cls : Value} {d : Option Addr} {pn : List (Addr × Obj)} {e : Expr} {te : TE} {pos : Pos} (T : Txt X.prog.main.file X.K q F txt C fI) (hz : Zc cls d oe) (hf : ∃ vs, oe.data = .fields vs) (he : PE (X.suite a ((a, oe) :: pn)) e te)
    (hb : attributeBase e F X.env (eval e X.env) = eval e X.env := by rfl) :
    PE (X.suite a ((a, oe) :: pn)) (.Attribute e F pos) (tByX C F a cls d te) := by
  refine ⟨fun pins s σ H Q I h => ?_⟩
  refine attr_of hb (thn (he.run pins s σ H _ I h) fun u s1 hh => ?_)
  obtain ⟨x, H1, I1, rx, ex, ec, dd, v, ed, ea, q⟩ := hh
  subst ex
  obtain rfl : u = Value.ref a := rx
  subst ec
  subst ed
  obtain ⟨ha, _⟩ := I1.pin (a, oe) (List.mem_append_left _ List.mem_cons_self)
  obtain ⟨vs, hd⟩ := hf
  have hx : ObjOk X.prog X.w H1 s1.heap dd (.xd [(F, v)]) := I1.hok dd _ ea
  obtain ⟨mA, hns, hr⟩ := hx
  obtain ⟨od, ho, hl⟩ := lookIn_ns hns
  have l : List.lookup F [(F, v)] = some v := by simp [List.lookup]
  obtain ⟨u, hu, ru⟩ := RelO.some_of (v := v) (o := mA F) (by rw [← l]; exact hr F)
  have J : PySem.W.InstAt s1.heap a oe C (some od) := ⟨ha, hz.1, by unfold PySem.W.notCls; rw [hd] <;> rfl, by rw [hz.2]; exact ho⟩
  exact HandSPX.exc_get I1.kIn J T.ga T.gg T.exC (PySem.W.findObj_own T.hdC T.noF rfl (by rw [hl, hu])) (handed_of ru) ⟨v, H1, I1.tok _, ru, q⟩
end
end Xb
set_option Elab.async false
set_option linter.all false
set_option maxRecDepth 100000
set_option maxHeartbeats 0
namespace Hd
open PySem PySem.Spec PyProof.Rows L2
def hookB (n : Nat) (chk : PySem.W.Frag → Bool) : PySem.W.Hook where
  α := Bool
  obs := fun s => chk (He.frG s.heap.get? (He.asD s.heap.get? n))
  val := fun _ => true
  says := fun _ h => ∃ K : PySem.W.Frag, K.In h ∧ chk K = true
  of := fun _ _ e => ⟨_, He.frG_in, e⟩
  keeps := fun _ _ _ ⟨K, hK, c⟩ k => ⟨K, PySem.W.Frag.In.keeps hK k, c⟩
def obT (n : Nat) (chk : PySem.W.Frag → Bool) (s : PySem.W.SharedT) : Bool := chk (He.frG (HandSHeadRun.getT s) (He.asD (HandSHeadRun.getT s) n))
theorem obT_eq (n : Nat) (chk : PySem.W.Frag → Bool) (s : PySem.W.SharedT) : obT n chk s = (hookB n chk).obs s.abs := by
  have e : HandSHeadRun.getT s = s.abs.heap.get? := funext fun a => HandSHeadRun.getT_eq s a
  unfold obT
  rw [e]
  rfl
end Hd
set_option Elab.async false
set_option linter.all false
set_option maxRecDepth 100000
set_option maxHeartbeats 4000000
/-! The facts that a law leans on, read off the heap behind the top by one run. -/
namespace Hd
open PySem PySem.Spec PyProof.Rows L2
/-- a def of the text: where it stands, and what it is -/
structure Def where
  ad : PySem.W.Frag → Addr
  name : Str
  qual : Str
  st : Stmt
  cl : List Str := []
  dfl : List He.Dv := []
abbrev FnZ : Type := Option (Str × Str × Arguments × FuncBody × Scope × Addr × List Str × Addr)
def obs1 (K : PySem.W.Frag) (f : Addr) : FnZ := match K.lookup f with
  | some ⟨_, _, .func fd, _⟩ => some (fd.name, fd.qualname, fd.params, fd.body, fd.scope, fd.globals, fd.closure.map (·.1), fd.builtins)
  | _ => none
def Def.val (d : Def) : FnZ := some (d.name, d.qual, defArgs d.st, .stmts (defBody d.st), defScope d.st, mainGlobals, d.cl, builtinsNs)
def Def.ok (K : PySem.W.Frag) (d : Def) : Bool := PySem.W.keepIn K (.ref (d.ad K)) && (match K.lookup (d.ad K) with
  | some ⟨_, _, .func fd, _⟩ => PySem.W.codeIn K fd.code d.qual && He.dflB K fd.defaults (d.dfl.map (He.Dv.v K))
  | _ => false)
/-- what is known of one def -/
structure Got (K : PySem.W.Frag) (d : Def) (fd : FuncData) : Prop where
  kp : PySem.W.keepIn K (.ref (d.ad K)) = true
  ex : ∃ (oc : Value) (od : Option Addr) (dV kV doc pm : Value) (an : Option Addr) (cdv ct : Value) (osl : Array (Option Value)) (cl : List (Str × Addr)),
    fd = PySem.W.fnX d.name d.qual (defArgs d.st) (defBody d.st) (defScope d.st) cl dV kV doc pm an cdv ct ∧ K.lookup (d.ad K) = some ⟨oc, od, .func fd, osl⟩ ∧ PySem.W.codeIn K cdv d.qual = true ∧
    DflV K dV (d.dfl.map (He.Dv.v K)) ∧ cl.map (·.1) = d.cl
theorem got {K : PySem.W.Frag} {d : Def} (e : obs1 K (d.ad K) = d.val) (c : d.ok K = true) : ∃ fd, Got K d fd := by
  obtain ⟨kp, c2⟩ := He.ba c
  unfold obs1 at e
  cases q : K.lookup (d.ad K) with
  | none =>
    rw [q] at c2
    cases c2
  | some o =>
    obtain ⟨oc, od, dt, osl⟩ := o
    rw [q] at c2 e
    cases dt with
    | func fd =>
      obtain ⟨n1, n2, n3, n4, n5, n6, n7, n8, n9, n10, n11, n12, n13, n14, n15⟩ := fd
      have e2 : (some (n1, n2, n3, n4, n5, n6, n7.map (·.1), n15) : FnZ) = some (d.name, d.qual, defArgs d.st, .stmts (defBody d.st), defScope d.st, mainGlobals, d.cl, builtinsNs) := e
      simp only [Option.some.injEq, Prod.mk.injEq] at e2
      obtain ⟨h1, h2, h3, h4, h5, h6, h7, h8⟩ := e2
      subst h1 h2 h3 h4 h5 h6 h8
      obtain ⟨k1, k2⟩ := He.ba (show (PySem.W.codeIn K n13 d.qual && He.dflB K n8 (d.dfl.map (He.Dv.v K))) = true from c2)
      exact ⟨_, kp, oc, od, n8, n9, n10, n11, n12, n13, n14, osl, n7, rfl, q, k1, He.dflB_ok k2, h7⟩
    | _ => cases c2
theorem Got.funD {K : PySem.W.Frag} {d : Def} {fd : FuncData} (g : Got K d fd) (h : d.cl = [] := by rfl) : FunD K d.name d.qual (defArgs d.st) (defBody d.st) (defScope d.st) (d.dfl.map (He.Dv.v K)) [] (d.ad K) fd := by
  obtain ⟨oc, od, dV, kV, doc, pm, an, cdv, ct, osl, cl, h1, h2, h3, h4, h5⟩ := g.ex
  rw [h] at h5
  have h6 : cl = [] := List.map_eq_nil_iff.mp h5
  subst h6
  exact ⟨⟨oc, od, dV, kV, doc, pm, an, cdv, ct, osl, h1, h2, h3, h4, .inl rfl⟩, g.kp⟩
/-- all of them, and a further check -/
abbrev Al : Type := List FnZ × Bool × Bool
def obsK (ds : List Def) (chk : PySem.W.Frag → Bool) (K : PySem.W.Frag) : Al := (ds.map fun d => obs1 K (d.ad K), ds.all fun d => d.ok K, chk K)
def valK (ds : List Def) : Al := (ds.map Def.val, true, true)
def grow (g : Addr → Option Obj) : Nat → List Addr
  | 0 => [mainGlobals, cStatics]
  | n + 1 => He.growD g (grow g n)
def hook (n : Nat) (ds : List Def) (chk : PySem.W.Frag → Bool) : PySem.W.Hook where
  α := Al
  obs := fun s => obsK ds chk (He.frG s.heap.get? (grow s.heap.get? n))
  val := fun _ => valK ds
  says := fun _ h => ∃ K : PySem.W.Frag, K.In h ∧ obsK ds chk K = valK ds
  of := fun _ _ e => ⟨_, He.frG_in, e⟩
  keeps := fun _ _ _ ⟨K, hK, c⟩ k => ⟨K, PySem.W.Frag.In.keeps hK k, c⟩
def ob (n : Nat) (ds : List Def) (chk : PySem.W.Frag → Bool) (s : PySem.W.SharedT) : Al := obsK ds chk (He.frG (HandSHeadRun.getT s) (grow (HandSHeadRun.getT s) n))
theorem ob_eq (n : Nat) (ds : List Def) (chk : PySem.W.Frag → Bool) (s : PySem.W.SharedT) : ob n ds chk s = (hook n ds chk).obs s.abs := by
  have e : HandSHeadRun.getT s = s.abs.heap.get? := funext fun a => HandSHeadRun.getT_eq s a
  unfold ob
  rw [e]
  rfl
section
variable {K : PySem.W.Frag} {ds : List Def} {chk : PySem.W.Frag → Bool}
theorem says_def (c : obsK ds chk K = valK ds) (i : Nat) {d : Def} (h : ds[i]? = some d := by rfl) : ∃ fd, Got K d fd := by
  have e : ds.map (fun d => obs1 K (d.ad K)) = ds.map Def.val := congrArg (fun z : Al => z.1) c
  have c2 : (ds.all fun d => d.ok K) = true := congrArg (fun z : Al => z.2.1) c
  have e2 : (ds.map fun d => obs1 K (d.ad K))[i]? = (ds.map Def.val)[i]? := by rw [e]
  rw [List.getElem?_map, List.getElem?_map, h] at e2
  exact got (Option.some.inj e2) (List.all_eq_true.mp c2 d (List.mem_of_getElem? h))
theorem says_chk (c : obsK ds chk K = valK ds) : chk K = true := congrArg (fun z : Al => z.2.2) c
end
/-- a list of checks -/
def allB (l : List Bool) : Bool := l.all id
theorem allB_at {l : List Bool} (h : allB l = true) (i : Nat) {b : Bool} (e : l[i]? = some b := by rfl) : b = true := List.all_eq_true.mp h b (List.mem_of_getElem? e)
/-! ### an exception class -/
def clsVE (K : PySem.W.Frag) (C : Addr) : Bool := match K.lookup C with
  | some ⟨.type t, _, .cls cd, sl⟩ => (match cd.mro, sl.toList with
    | .ref C' :: bm, [_, _, _, _, some (.builtin n), _] => decide (t = "type") && (decide (C' = C) && (decide (n = "ValueError.__new__") && (!cd.hasDel && (cd.hasDict && HandSPX.refsVE bm))))
    | _, _ => false)
  | _ => false
theorem clsVE_ok {K : PySem.W.Frag} {C : Addr} (h : clsVE K C = true) : ∃ nm q' N bs bm sn sub ab col dd k0 k1 k2 k3 k5, K.lookup C = some (excClassObj nm q' C N bs bm true sn sub ab col dd k0 k1 k2 k3 k5 "ValueError.__new__") ∧ HandSPX.refsVE bm = true := by
  unfold clsVE at h
  split at h
  · rename_i t dd cd sl ho
    split at h
    · rename_i C' bm k0 k1 k2 k3 n k5 hm hs
      obtain ⟨h0, h⟩ := He.ba h
      obtain ⟨h1, h⟩ := He.ba h
      obtain ⟨h2, h⟩ := He.ba h
      obtain ⟨h3, h⟩ := He.ba h
      obtain ⟨h4, h5⟩ := He.ba h
      have h0 := of_decide_eq_true h0
      have h1 := of_decide_eq_true h1
      have h2 := of_decide_eq_true h2
      subst h0 h1 h2
      obtain ⟨nm, bs, mro, ns, qn, hd, sn, sub, ab, col, del⟩ := cd
      dsimp only at hm h3 h4
      subst hm h4
      have h3 : del = false := by simpa using h3
      subst h3
      have hsl : sl = #[k0, k1, k2, k3, some (.builtin "ValueError.__new__"), k5] := by
        obtain ⟨l⟩ := sl
        simp only at hs
        rw [hs]
      subst hsl
      exact ⟨_, _, _, _, _, _, _, _, _, _, _, _, _, _, _, ho, h5⟩
    · cases h
  · cases h
def fileB (file : Str) (vs : Array Value) : Bool := match vs[2]? with
  | some (Value.str fl _) => decide (fl = file)
  | _ => false
theorem fileB_ok {file : Str} {vs : Array Value} (h : fileB file vs = true) : ∃ tf, vs[2]? = some (Value.str file tf) := by
  unfold fileB at h
  split at h
  · rename_i fl tf e
    have z := of_decide_eq_true h
    subst z
    exact ⟨tf, e⟩
  · cases h
/-- the further facts of the class x whose one field is F -/
def excB (file : Str) (K : PySem.W.Frag) (x F : Str) : Bool :=
  let C := He.ga K x
  let fI := He.ma K C "__init__"
  allB [He.eqO (PySem.W.nsIn K mainGlobals x) (some (some (.ref C))), clsVE K C, He.eqO (PySem.W.findIn K (.ref C) "__setattr__") (some (some (.builtin "object.__setattr__"))),
    He.eqO (PySem.W.findIn K (.ref C) "__getattribute__") (some (some (.builtin "BaseException.__getattribute__"))), He.eqO (PySem.W.findIn K (.ref C) "__getattr__") (some none), He.eqO (PySem.W.findIn K (.ref C) F) (some none),
    He.eqO (PySem.W.findIn K (.ref C) "__init__") (some (some (.ref fI))), decide (PySem.W.typeIn K (.ref fI) = some (.type "function")), PySem.W.keepIn K (.ref C), decide (PySem.W.subIn K (.ref C) (.type "BaseException") = some true),
    decide (PySem.W.subIn K (.ref C) (.type "ValueError") = some true), decide (PySem.W.typeIn K (.ref C) = some (.type "type")), PySem.W.hasDictIn K C, decide (PySem.W.exmOne K (.ref C) (.ref C) = some true),
    He.eqO (PySem.W.ks_superIn K C C "__init__") (some (some (.builtin "ValueError.__init__"))), decide (PySem.W.mroIn K C (.ref C) = some true), He.eqO (PySem.W.nsIn K mainGlobals "super") (some none), He.eqO (PySem.W.nsIn K cStatics "thirdparty.any") (some none),
    (match K.lookup fI with
      | some ⟨_, _, .func fd, _⟩ => (match fd.code, fd.closure with
        | .ref cda, [(_, cc)] => (match K.lookup cda with
          | some ⟨_, _, .fields vs, _⟩ => fileB file vs
          | _ => false) && (match K.lookup cc with
          | some ⟨_, _, .cell (some (.ref D)), _⟩ => decide (D = C)
          | _ => false)
        | _, _ => false)
      | _ => false)]
/-- the def of its __init__ -/
def excD (x q : Str) (st : Stmt) : Def := { ad := fun K => He.ma K (He.ga K x) "__init__", name := "__init__", qual := q, st := st, cl := ["__class__"] }
theorem exc_txt {file : Str} {K : PySem.W.Frag} {x q F txt : Str} {st : Stmt} {fd : FuncData} (nm : Xb.Nm F) (g : Got K (excD x q st) fd) (c : excB file K x F = true)
    (hst : ∃ (p1 p2 : Pos) (kk : Nat) (q1 q2 q3 q4 q5 q6 q7 q8 q9 q10 : Pos), defArgs st = Xb.arg2 F p1 p2 ∧ defBody st = Xb.bod2 F txt kk q1 q2 q3 q4 q5 q6 q7 q8 q9 q10 ∧ defScope st = Xb.sco2 F ∧ (q3.endLine == q5.line) = true) :
    Xb.Txt file K q F txt (He.ga K x) (He.ma K (He.ga K x) "__init__") := by
  obtain ⟨oc, od, dV, kV, doc, pm, an, cdv, ct, osl, cl, h1, h2, h3, h4, h5⟩ := g.ex
  obtain ⟨p1, p2, kk, q1, q2, q3, q4, q5, q6, q7, q8, q9, q10, s1, s2, s3, s4⟩ := hst
  have hdV : dV = .none := by
    rcases h4 with ⟨_, e⟩ | ⟨e, _⟩
    · exact e
    · exact absurd rfl e
  have last := allB_at c 18
  have lk : K.lookup (He.ma K (He.ga K x) "__init__") = some ⟨oc, od, .func fd, osl⟩ := h2
  rw [lk] at last
  rw [h1] at last
  refine ⟨nm, clsVE_ok (allB_at c 1), He.eqO_ok (allB_at c 2), He.eqO_ok (allB_at c 3), He.eqO_ok (allB_at c 4), He.eqO_ok (allB_at c 5), He.eqO_ok (allB_at c 6), of_decide_eq_true (allB_at c 7), allB_at c 8, of_decide_eq_true (allB_at c 9), of_decide_eq_true (allB_at c 10),
    of_decide_eq_true (allB_at c 11), allB_at c 12, of_decide_eq_true (allB_at c 13), He.eqO_ok (allB_at c 14), of_decide_eq_true (allB_at c 15), He.eqO_ok (allB_at c 16), He.eqO_ok (allB_at c 17), ?_⟩
  cases cdv with
  | ref cda =>
    cases cl with
    | nil => cases h5
    | cons y r =>
      obtain ⟨y1, cc⟩ := y
      cases r with
      | cons _ _ => cases h5
      | nil =>
        have e1 : y1 = ("__class__" : Str) := (List.cons.inj h5).1
        subst e1
        obtain ⟨l1, l2⟩ := He.ba (show ((match K.lookup cda with
          | some ⟨_, _, .fields vs, _⟩ => fileB file vs
          | _ => false) && (match K.lookup cc with
          | some ⟨_, _, .cell (some (.ref D)), _⟩ => decide (D = He.ga K x)
          | _ => false)) = true from last)
        refine ⟨oc, od, kV, doc, pm, an, cda, ct, osl, cc, p1, p2, kk, q1, q2, q3, q4, q5, q6, q7, q8, q9, q10, ?_, h3, s4, ?_, ?_⟩
        · rw [lk, h1, hdV]
          show some (⟨oc, od, .func (PySem.W.fnX "__init__" q (defArgs st) (defBody st) (defScope st) [("__class__", cc)] .none kV doc pm an (.ref cda) ct), osl⟩ : Obj) = _
          rw [s1, s2, s3]
        · split at l1
          · rename_i ccl cdd vs ccs hk
            obtain ⟨tf, e⟩ := fileB_ok l1
            exact ⟨_, _, _, _, tf, hk, e⟩
          · cases l1
        · split at l2
          · rename_i a b D c2 hk
            have e := of_decide_eq_true l2
            subst e
            exact ⟨_, _, _, hk⟩
          · cases l2
  | _ => cases last
end Hd
set_option Elab.async false
set_option linter.all false
set_option maxRecDepth 100000
set_option maxHeartbeats 4000000
/-! As HK2's hook, the dict of sys.modules beside. -/
namespace Hd
open PySem PySem.Spec PyProof.Rows L2
def adS (g : Addr → Option Obj) (n : Nat) : List Addr := sysModules :: grow g n
def hookS (n : Nat) (ds : List Def) (chk : PySem.W.Frag → Bool) : PySem.W.Hook where
  α := Al
  obs := fun s => obsK ds chk (He.frG s.heap.get? (adS s.heap.get? n))
  val := fun _ => valK ds
  says := fun _ h => ∃ K : PySem.W.Frag, K.In h ∧ obsK ds chk K = valK ds
  of := fun _ _ e => ⟨_, He.frG_in, e⟩
  keeps := fun _ _ _ ⟨K, hK, c⟩ k => ⟨K, PySem.W.Frag.In.keeps hK k, c⟩
def obS (n : Nat) (ds : List Def) (chk : PySem.W.Frag → Bool) (s : PySem.W.SharedT) : Al := obsK ds chk (He.frG (HandSHeadRun.getT s) (adS (HandSHeadRun.getT s) n))
theorem obS_eq (n : Nat) (ds : List Def) (chk : PySem.W.Frag → Bool) (s : PySem.W.SharedT) : obS n ds chk s = (hookS n ds chk).obs s.abs := by
  have e : HandSHeadRun.getT s = s.abs.heap.get? := funext fun a => HandSHeadRun.getT_eq s a
  unfold obS
  rw [e]
  rfl
end Hd
set_option Elab.async false
set_option linter.all false
set_option maxRecDepth 100000
set_option maxHeartbeats 4000000
namespace Fa
open PySem PySem.Spec PyProof.Rows L2
/-! ### the draws of the laws: a box of three ints -/
/-- a box at p, of which fewer than n draws were taken by the second way -/
def Box (H : Hp) (p : Addr) (n : Nat) : Prop := ∃ a b c : Int, H p = some (.lst [.int a, .int b, .int c]) ∧ 0 ≤ a ∧ 0 ≤ b ∧ b < 2147483648 ∧ 0 ≤ c ∧ c ≤ (n : Int)
theorem Box.mono {H : Hp} {p : Addr} {n m : Nat} (h : Box H p n) (e : n ≤ m) : Box H p m := by
  obtain ⟨a, b, c, h1, h2, h3, h4, h5, h6⟩ := h
  exact ⟨a, b, c, h1, h2, h3, h4, h5, by omega⟩
/-- all but p is as it was -/
def But (p : Addr) (H H' : Hp) : Prop := ∀ q, q ≠ p → H' q = H q
theorem But.refl (p : Addr) (H : Hp) : But p H H := fun _ _ => rfl
theorem But.trans {p : Addr} {H H1 H2 : Hp} (a : But p H H1) (b : But p H1 H2) : But p H H2 := fun q h => (b q h).trans (a q h)
theorem But.upd {p : Addr} {H : Hp} {o : HO} : But p H (upd H p o) := fun _ h => upd_ne h
def spCel (K : PySem.W.Frag) : Sp := fun vs H Q _ => ∃ (l : Addr) (ns : List Int) (j : Nat), vs = [.ref l, .int (j : Int)] ∧ SqL K H l (ns.map V.int) ∧ j ≤ 1000 ∧ ∀ z : Int, Q (.int z) H
def spBox : Sp := fun vs H Q _ => ∃ c : Int, vs = [.int c] ∧ ∀ p H', H p = none → (∀ q, q ≠ p → H' q = H q) → Box H' p 0 → Q (.ref p) H'
def spTake : Sp := fun vs H Q _ => ∃ (p : Addr) (m : Int) (n : Nat), vs = [.ref p, .int m] ∧ Box H p n ∧ n ≤ 1000000 ∧ 0 < m ∧ m < 2 ^ 1000 ∧ ∀ (z : Int) (H' : Hp), 0 ≤ z → z < m → Box H' p (n + 1) → But p H H' → Q (.int z) H'
theorem cdivW {a m : Int} (h : 0 < m) (h2 : m < 2 ^ 1000) : CDivW a m := ⟨h, by
  have e : m.natAbs < 2 ^ 1000 := by omega
  exact Nat.lt_of_lt_of_le ((Nat.log2_lt (by omega)).mpr e) (by omega)⟩
theorem atI3 {α : Type} {a b c : α} (i : Int) (h0 : i = 0 ∨ i = 1 ∨ i = 2) : atI [a, b, c] i = some (if i = 0 then a else if i = 1 then b else c) := by
  rcases h0 with rfl | rfl | rfl <;> rfl
end Fa
set_option Elab.async false
set_option linter.all false
set_option maxRecDepth 100000
set_option maxHeartbeats 4000000
namespace Fb
open PySem PySem.W PySem.Calls PyProof.Rows
section
variable {prog : Program} {w : World} {A : Around} {E : Value → Shared → Prop} {s : Shared} {K : Frag} {x C L f : Addr} {h₀ : Heap} {m : Str → Option Value} {ox : Obj} {od : Option Obj} {T : String}
/-- x op b, x an instance with its own def for op, b of a built-in type T (b may be an object) -/
theorem bin_any {op : Operator} {b : Value} {fo ro rc : Option Value} {Q : Value → Shared → Prop}
    (X : K.In s.heap) (I : InstAt s.heap x ox C od) (hb : ∀ M : Model, Looks M s.heap (typeOf b) (.type T)) (hc : selfFirst K C = true)
    (hs : findIn K (.ref C) (PySem.dunder op.info.2) = some (some (.ref f))) (hf : isFn K (.ref f) = true)
    (hr : findIn K (.ref C) (dunderR op.info.2) = some rc) (hp : rc = none ∨ ∃ g : Addr, rc = some (.ref g))
    (h1 : findIn K (.type T) (PySem.dunder op.info.2) = some fo) (h2 : findIn K (.type T) (dunderR op.info.2) = some ro) (hsub : subIn K (.type T) (.ref C) = some false)
    (h : wpAny (model prog w) A (call (.ref f) [.ref x, b]) (W.CmpBack Q) E s) : wpAny (model prog w) A (binaryOp op (.ref x) b) Q E s := by
  obtain ⟨cd, rest, hcd, hm⟩ := ksp_first hc
  rcases hi : op.info with ⟨sym, nm⟩
  rw [hi] at hs hr h1 h2
  dsimp only at hs hr h1 h2
  have one := ksp_try X I hs hf h
  obtain ⟨hh, g, d, tt, os⟩ := s
  have A1 : Looks (model prog w) hh (typeOf (.ref x)) (.ref C) := I.type
  have A2 : Looks (model prog w) hh (typeOf b) (.type T) := hb _
  have A3 : Looks (model prog w) hh (fillsNumberSlot (.ref C) nm) true := fills_K X hcd hm hs
  have A4 := ksp_fillsT (M := model prog w) (nm := nm) (T := T) X h1 h2
  have A5 : Looks (model prog w) hh (isSubtype (.type T) (.ref C)) false := looks_subIn X hsub
  have A6 : Looks (model prog w) hh (numberSlotInPython (.ref C) nm) true := ksp_inPy X hs hr hp
  have A7 : Looks (model prog w) hh (numberSlotInPython (.type T) nm) false := Looks.of_pure rfl
  have A8 : Looks (model prog w) hh (typeLookup (.type T) (dunderR nm)) ro := looks_findIn X h2
  generalize ((fo.isSome && !isSeqSlot fo) || (ro.isSome && !isSeqSlot ro)) = rt at A4
  have ne : (Value.ref C == Value.type T) = false := Bool.eq_false_iff.mpr fun z => by cases beq_iff_eq.mp z
  simp only [binaryOp, hi]
  refine wpAny_holding (wpAny_bind ?_)
  unfold binaryOp1
  refine wpAny_bind (A1.at (wpAny_bind (A2.at (wpAny_bind (A3.at ?_)))))
  simp only [ne, Bool.false_eq_true, if_false]
  cases rt <;>
  · ksp_lk
    refine wpAny_mono one (fun r s' z => ?_) fun _ _ e => e
    obtain ⟨v, rfl, hq⟩ := z
    ksp_lk
    exact hq
end
end Fb
namespace Fb
open PySem PySem.Spec PyProof.Rows L2
/-- an own operator of the class C, at the def f -/
structure OwnOp (K : PySem.W.Frag) (C : Addr) (nm : String) (f : Addr) : Prop where
  sf : PySem.W.selfFirst K C = true
  at_ : PySem.W.findIn K (.ref C) (PySem.dunder nm) = some (some (.ref f))
  fn : PySem.W.isFn K (.ref f) = true
  nr : PySem.W.findIn K (.ref C) (dunderR nm) = some none
/-- a built-in type at the right of it -/
def TyOp (K : PySem.W.Frag) (C : Addr) (nm : String) (T : String) : Prop := ∃ fo ro, PySem.W.findIn K (.type T) (PySem.dunder nm) = some fo ∧ PySem.W.findIn K (.type T) (dunderR nm) = some ro ∧ PySem.W.subIn K (.type T) (.ref C) = some false
/-- what may stand at the right -/
def RK (K : PySem.W.Frag) (C : Addr) (nm : String) (H : Hp) (y : V) : Prop := (∃ q dy gs, y = .ref q ∧ H q = some (.ins C dy gs)) ∨ ∃ T, TyX K H y (.type T) ∧ TyOp K C nm T
def tBinX (K : PySem.W.Frag) (C : Addr) (nm : String) (sp : Sp) (E : L2.St → XK) (ta tb : TE) : TE := fun σ H Q => ta σ H fun x H1 => tb σ H1 fun y H2 => ∃ p dx fs, x = .ref p ∧ H2 p = some (.ins C dx fs) ∧ RK K C nm H2 y ∧ sp [x, y] H2 Q (E σ)
def tUnX (C : Addr) (sp : Sp) (E : L2.St → XK) (ta : TE) : TE := fun σ H Q => ta σ H fun x H1 => ∃ p dx fs, x = .ref p ∧ H1 p = some (.ins C dx fs) ∧ sp [x] H1 Q (E σ)
section
variable {X : Cx} {CX : CXT} {k : Nat} {f C : Addr} {fd : FuncData} {ps : List Str} {sp : Sp} {E : L2.St → XK} {a b : Expr} {ta tb : TE} {pos : Pos}
theorem pe_binX {op : Operator} (W : OwnOp X.K C op.info.2 f) (F : FnOk X.prog X.w X.K X.mg X.base CX k f fd ps sp) (hr : Room k X.A) (hb : Binds X.K fd ps []) (hx : ∀ σ, PassesAt CX X σ (E σ)) (ha : PE X a ta) (hb2 : PE X b tb) :
    PE X (.BinOp a op b pos) (tBinX X.K C op.info.2 sp E ta tb) := by
  refine ⟨fun pins s σ H Q I h => ?_⟩
  refine wpAny_BinOp (bin ha hb2 I h fun v u s2 x y H2 I2 rx ry q => ?_)
  obtain ⟨p, dx, fs, ex, hp, rk, q⟩ := q
  subst ex
  obtain rfl : v = Value.ref p := rx
  obtain ⟨mA, O, _⟩ := ins_get I2.hok hp
  obtain ⟨od, J, _⟩ := O.look
  have go : wpAny (model X.prog X.w) X.A (call (.ref f) [.ref p, u]) (PySem.W.CmpBack (EP X pins σ Q)) X.xe s2 :=
    wpAny_mono (run_fnSD (dvs := []) (ds := []) (us := [.ref p, u]) (vs := [.ref p, y]) F hr hb .nil (hx σ) I2 (.cons rfl (.cons ry .nil)) q) (fun z s' hz => by
      obtain ⟨z', H', I', rz, qz⟩ := hz
      exact SlX.cmpback rz ⟨z', H', I', rz, qz⟩) fun _ _ x => x
  obtain ⟨m, hF⟩ := I2.fr
  rcases rk with ⟨q', dy, gs, ey, hq'⟩ | ⟨T, ty, fo, ro, h1, h2, h3⟩
  · subst ey
    obtain rfl : u = Value.ref q' := ry
    obtain ⟨mB, O', _⟩ := ins_get I2.hok hq'
    obtain ⟨od', J', _⟩ := O'.look
    exact PySem.W.binop_K hF I2.ok.mod.kin J J'.type W.sf W.at_ W.fn go
  · obtain ⟨P, Z, hP, _⟩ := kit_of I2 ry ty
    exact bin_any I2.kIn J (fun M => Z.ty M _ I2.kIn hP) W.sf W.at_ W.fn W.nr (.inl rfl) h1 h2 h3 go
/-- -a -/
theorem pe_negX (at_ : PySem.W.findIn X.K (.ref C) "__neg__" = some (some (.ref f))) (fn : PySem.W.isFn X.K (.ref f) = true) (F : FnOk X.prog X.w X.K X.mg X.base CX k f fd ps sp) (hr : Room k X.A) (hb : Binds X.K fd ps []) (hx : ∀ σ, PassesAt CX X σ (E σ)) (ha : PE X a ta) :
    PE X (.UnaryOp .USub a pos) (tUnX C sp E ta) := by
  refine ⟨fun pins s σ H Q I h => ?_⟩
  refine UnaryOp_ (thn (ha.run pins s σ H _ I h) fun v s1 ⟨x, H1, I1, r1, q1⟩ => ?_)
  obtain ⟨p, dx, fs, ex, hp, q⟩ := q1
  subst ex
  obtain rfl : v = Value.ref p := r1
  obtain ⟨mA, O, _⟩ := ins_get I1.hok hp
  obtain ⟨od, J, _⟩ := O.look
  obtain ⟨m, hF⟩ := I1.fr
  exact PySem.W.ksp_neg hF I1.ok.mod.kin J at_ fn (run_fnSD (dvs := []) (ds := []) (us := [.ref p]) (vs := [.ref p]) F hr hb .nil (hx σ) I1 (.cons rfl .nil) q)
/-- a == b, a an instance -/
theorem pe_eqX (at_ : PySem.W.findIn X.K (.ref C) "__eq__" = some (some (.ref f))) (fn : PySem.W.isFn X.K (.ref f) = true) (F : FnOk X.prog X.w X.K X.mg X.base CX k f fd ps sp) (hr : Room k X.A) (hb : Binds X.K fd ps []) (hx : ∀ σ, PassesAt CX X σ (E σ)) (ha : PE X a ta) (hb2 : PE X b tb) :
    PC X .Eq a b (fun σ H Q => ta σ H fun x H1 => tb σ H1 fun y H2 => ∃ p dx fs, x = .ref p ∧ H2 p = some (.ins C dx fs) ∧ ((∃ q dy gs, y = .ref q ∧ H2 q = some (.ins C dy gs)) ∨ ∃ T, TyX X.K H2 y (.type T) ∧ PySem.W.subIn X.K (.type T) (.ref C) = some false) ∧ sp [x, y] H2 Q (E σ)) := by
  refine ⟨fun pins s σ H Q I h => ?_⟩
  refine bin ha hb2 I h fun v u s2 x y H2 I2 rx ry q => ?_
  obtain ⟨p, dx, fs, ex, hp, rk, q⟩ := q
  subst ex
  obtain rfl : v = Value.ref p := rx
  obtain ⟨mA, O, _⟩ := ins_get I2.hok hp
  obtain ⟨od, J, _⟩ := O.look
  have go : wpAny (model X.prog X.w) X.A (call (.ref f) [.ref p, u]) (PySem.W.CmpBack (EP X pins σ Q)) X.xe s2 :=
    wpAny_mono (run_fnSD (dvs := []) (ds := []) (us := [.ref p, u]) (vs := [.ref p, y]) F hr hb .nil (hx σ) I2 (.cons rfl (.cons ry .nil)) q) (fun z s' hz => by
      obtain ⟨z', H', I', rz, qz⟩ := hz
      exact SlX.cmpback rz ⟨z', H', I', rz, qz⟩) fun _ _ x => x
  obtain ⟨m, hF⟩ := I2.fr
  rcases rk with ⟨q', dy, gs, ey, hq'⟩ | ⟨T, ty, h3⟩
  · subst ey
    obtain rfl : u = Value.ref q' := ry
    obtain ⟨mB, O', _⟩ := ins_get I2.hok hq'
    obtain ⟨od', J', _⟩ := O'.look
    exact PySem.W.cmp_K (op := .Eq) (tb := .ref C) hr.units0 hF I2.ok.mod.kin J J'.type (by simp [PySem.W.notFirst]) at_ fn go
  · obtain ⟨P, Z, hP, _⟩ := kit_of I2 ry ty
    exact PySem.W.cmp_K (op := .Eq) (tb := .type T) hr.units0 hF I2.ok.mod.kin J (fun A Q E s k z => Z.ty _ _ I2.kIn hP A Q E s k z) (by simp [PySem.W.notFirst, h3]) at_ fn go
end
end Fb
set_option Elab.async false
set_option linter.all false
set_option maxRecDepth 100000
set_option maxHeartbeats 4000000
namespace Fb
open PySem PySem.Spec PyProof.Rows L2
section
variable {X : Cx} {CX : CXT} {k : Nat} {f C : Addr} {fd : FuncData} {ps : List Str} {sp : Sp} {E : L2.St → XK} {a b : Expr} {ta tb : TE} {pos p : Pos}
theorem pe_absX (at_ : PySem.W.findIn X.K (.ref C) "__abs__" = some (some (.ref f))) (fn : PySem.W.isFn X.K (.ref f) = true) (F : FnOk X.prog X.w X.K X.mg X.base CX k f fd ps sp) (hr : Room (k + 2) X.A) (hb : Binds X.K fd ps []) (hx : ∀ σ, PassesAt CX X σ (E σ)) (hg : Gl X "abs") (hm : X.mg "abs" = none) (ha : PE X a ta)
    (he : starEach [a] X.env = (false, eval a X.env) :: starEach [] X.env := by rfl) (hpl : (backTo pos (starEach [] X.env)).any (·.1) = false := by rfl) :
    PE X (.Call (.Name "abs" p) [a] [] pos) (tUnX C sp E ta) := by
  refine ⟨fun pins s σ H Q I h => ?_⟩
  refine wpAny_Call_Name_kw (ld_blt I hg hm (by decide +kernel : bootBuiltins "abs" = some (.builtin "abs")) ?_)
  refine PyProof.Rows.callWith_builtin1 ?_ he hpl
  rw [he]
  show wpAny _ _ (spliced ((false, eval a X.env) :: backTo pos (starEach [] X.env))) _ _ s
  refine Calls.spliced_cons (thn (ha.run pins s σ H _ I h) fun v s1 ⟨x, H1, I1, r1, q1⟩ => Calls.spliced_nil ?_)
  obtain ⟨q0, dx, fs, ex, hp, q⟩ := q1
  subst ex
  obtain rfl : v = Value.ref q0 := r1
  obtain ⟨mA, O, _⟩ := ins_get I1.hok hp
  obtain ⟨od, J, _⟩ := O.look
  refine Calls.call_function_entry kind_abs plain_abs entry_abs (args_abs _) ?_
  have hr2 : Room k X.A.in1 := (show Room (k + 1) X.A.in1 from Room.in1 hr).mono (Nat.le_succ _)
  have hl : ([Value.ref q0]).length = ps.length := by
    rw [← F.len _ _ _ _ q]
    rfl
  have go : wpAny (model X.prog X.w) X.A.in1 (call (.ref f) [.ref q0]) (EP X pins σ Q) X.xe s1 := by
    refine wpAny_call (codeAny_mono (F.run X.A.in1 X.stack s1 H1 ⟨[.ref q0], []⟩ [.ref q0] [.ref q0] Q (E σ) hr2 I1.env0.in1 (hb s1 [.ref q0] I1.kIn hl) (.cons rfl .nil) q) fun r s' hq => ?_)
    cases r with
    | error e => exact hx σ pins H1 s1 e s' I1 hq
    | ok fl =>
      cases fl with
      | ret u => exact I1.after hq
      | next => exact False.elim hq
      | brk => exact False.elim hq
      | cont => exact False.elim hq
  unfold Builtin.«abs»
  refine wpAny_bind (m := oneArg "abs" _) (wpAny_pure ?_)
  refine wpAny_bind (m := callSpecial? (.ref q0) (Str.ofString "__abs__")) (PySem.W.special_fn I1.kIn J at_ (beq_iff_eq.mp fn) (wpAny_mono go (fun v' s' hv => ?_) fun _ _ y => y))
  exact wpAny_pure ⟨_, rfl, hv⟩
end
end Fb
set_option maxRecDepth 100000
namespace Am
/-- in lowest terms, the bottom above 0 -/
def Red (t u : Int) : Prop := 0 < u ∧ Nat.gcd t.natAbs u.natAbs = 1
theorem mk (a b : Int) (hb : b ≠ 0) (c : Int) (hc : c = (if b < 0 then -((Nat.gcd a.natAbs b.natAbs : Nat) : Int) else ((Nat.gcd a.natAbs b.natAbs : Nat) : Int))) :
    c ≠ 0 ∧ c.natAbs ≤ b.natAbs ∧ Red (a.fdiv c) (b.fdiv c) ∧ a.fdiv c * b = a * b.fdiv c ∧ (a.fdiv c).natAbs ≤ a.natAbs ∧ (b.fdiv c).natAbs ≤ b.natAbs := by
  have hbp : 0 < b.natAbs := Int.natAbs_pos.mpr hb
  have hg : 0 < Nat.gcd a.natAbs b.natAbs := Nat.gcd_pos_of_pos_right _ hbp
  have hgb : Nat.gcd a.natAbs b.natAbs ≤ b.natAbs := Nat.le_of_dvd hbp (Nat.gcd_dvd_right _ _)
  have hn : c.natAbs = Nat.gcd a.natAbs b.natAbs := by
    rw [hc]
    split <;> omega
  have h0 : c ≠ 0 := by omega
  have da : c ∣ a := Int.natAbs_dvd_natAbs.mp (by rw [hn]; exact Nat.gcd_dvd_left _ _)
  have db : c ∣ b := Int.natAbs_dvd_natAbs.mp (by rw [hn]; exact Nat.gcd_dvd_right _ _)
  obtain ⟨t, ht⟩ := da
  obtain ⟨u, hu⟩ := db
  have ea : a.fdiv c = t := by
    rw [ht]
    exact Int.mul_fdiv_cancel_left _ h0
  have eb : b.fdiv c = u := by
    rw [hu]
    exact Int.mul_fdiv_cancel_left _ h0
  have na : a.natAbs = c.natAbs * t.natAbs := by rw [ht, Int.natAbs_mul]
  have nb : b.natAbs = c.natAbs * u.natAbs := by rw [hu, Int.natAbs_mul]
  have hcp : 0 < c.natAbs := by omega
  have co : Nat.gcd t.natAbs u.natAbs = 1 := by
    have e : c.natAbs = c.natAbs * Nat.gcd t.natAbs u.natAbs := by
      rw [← Nat.gcd_mul_left, ← na, ← nb]
      exact hn
    exact Nat.eq_of_mul_eq_mul_left hcp (by rw [← e, Nat.mul_one])
  rw [ea, eb]
  have up : 0 < u := by
    by_cases h : b < 0
    · have c0 : c < 0 := by
        rw [hc, if_pos h]
        omega
      have : 0 < c * u ∨ ¬ 0 < c * u := Classical.em _
      rcases Int.lt_or_le 0 u with q | q
      · exact q
      · have z : 0 ≤ c * u := Int.mul_nonneg_of_nonpos_of_nonpos (Int.le_of_lt c0) q
        omega
    · have c0 : 0 < c := by
        rw [hc, if_neg h]
        omega
      rcases Int.lt_or_le 0 u with q | q
      · exact q
      · have z : c * u ≤ 0 := Int.mul_nonpos_of_nonneg_of_nonpos (Int.le_of_lt c0) q
        omega
  refine ⟨h0, by omega, ⟨up, co⟩, ?_, ?_, ?_⟩
  · rw [ht, hu]
    rw [Int.mul_left_comm, Int.mul_assoc]
  · rw [na]
    exact Nat.le_mul_of_pos_left _ hcp
  · rw [nb]
    exact Nat.le_mul_of_pos_left _ hcp
theorem uniq {t u n d : Int} (h : Red t u) (h' : Red n d) (e : t * d = n * u) : t = n ∧ u = d := by
  obtain ⟨hu, ht⟩ := h
  obtain ⟨hd, hn⟩ := h'
  have e1 : t.natAbs * d.natAbs = n.natAbs * u.natAbs := by rw [← Int.natAbs_mul, ← Int.natAbs_mul, e]
  have d1 : u.natAbs ∣ d.natAbs := by
    have z : u.natAbs ∣ t.natAbs * d.natAbs := by
      rw [e1]
      exact Nat.dvd_mul_left _ _
    exact (Nat.Coprime.dvd_of_dvd_mul_left (show Nat.Coprime u.natAbs t.natAbs by rw [Nat.coprime_comm]; exact ht) z)
  have d2 : d.natAbs ∣ u.natAbs := by
    have z : d.natAbs ∣ n.natAbs * u.natAbs := by
      rw [← e1]
      exact Nat.dvd_mul_left _ _
    exact (Nat.Coprime.dvd_of_dvd_mul_left (show Nat.Coprime d.natAbs n.natAbs by rw [Nat.coprime_comm]; exact hn) z)
  have e2 : u.natAbs = d.natAbs := Nat.dvd_antisymm d1 d2
  have e3 : u = d := by omega
  subst e3
  exact ⟨Int.eq_of_mul_eq_mul_right (by omega) e, rfl⟩
/-- what a pair of ints is worth: (t, u) in lowest terms and (n, d), d not 0 -/
def Is (t u n d : Int) : Prop := Red t u ∧ d ≠ 0 ∧ t * d = n * u
theorem is_of {t u a b n d : Int} (h : Red t u) (hb : b ≠ 0) (e : t * b = a * u) (hd : d ≠ 0) (e2 : a * d = n * b) : Is t u n d := by
  refine ⟨h, hd, ?_⟩
  have z : (t * d) * b = (n * u) * b := by
    calc (t * d) * b = (t * b) * d := by rw [Int.mul_assoc, Int.mul_comm d b, ← Int.mul_assoc]
      _ = (a * u) * d := by rw [e]
      _ = (a * d) * u := by rw [Int.mul_assoc, Int.mul_comm u d, ← Int.mul_assoc]
      _ = (n * b) * u := by rw [e2]
      _ = (n * u) * b := by rw [Int.mul_assoc, Int.mul_comm b u, ← Int.mul_assoc]
  exact Int.eq_of_mul_eq_mul_right hb z
theorem gcd_step {x y : Nat} (hy : 0 < y) : Nat.gcd y (x % y) = Nat.gcd x y := by
  rw [Nat.gcd_comm y, ← Nat.gcd_rec, Nat.gcd_comm]
end Am
set_option Elab.async false
set_option linter.all false
set_option maxRecDepth 100000
set_option maxHeartbeats 4000000
/-! Defs that show lists: the guards of repr stand empty around them. -/
namespace Fg
open PySem PySem.Spec PyProof.Rows L2
/-- a def's promise where no repr is under way -/
structure FnG (P : Program) (w : World) (K : PySem.W.Frag) (mg : Str → Option Value) (base : Heap) (CX : CXT) (k : Nat) (f : Addr) (fd : FuncData) (ps : List Str) (sp : Sp) : Prop where
  len : ∀ vs H Q E, sp vs H Q E → vs.length = ps.length
  run : ∀ (A : Around) (ou : List Env) (s : Shared) (H : Hp) (ar : Args) (us : List Value) (vs : List V) (Q : VK) (E : XK), A.guards = some [] → Room k A → Env0 P w K mg base A ou s H → BindsTo s fd ar (ps.zip us) →
    Vals vs us → sp vs H Q E → codeAny (model P w) A (.call (.ref f) ar) (CR CX ou P w H s Q E) s
section
variable {CX : CXT} {P : Program} {w : World} {K : PySem.W.Frag} {mg : Str → Option Value} {base : Heap} {k : Nat} {f : Addr} {fd : FuncData} {x qual : Str} {params : Arguments} {body : List Stmt} {scope : Scope} {dvs : List V} {kws : List (Str × V)} {N ps : List Str} {sp : Sp}
theorem okG (F : FunD K x qual params body scope dvs kws f fd) (S : FnScope N ps scope) (len : ∀ vs H Q E, sp vs H Q E → vs.length = ps.length)
    (hb : ∀ (cdv : Value) (A : Around) (ou : List Env) (s : Shared) (H : Hp) (vs : List V) (Q : VK) (E : XK), A.guards = some [] → Room k (A.deeper (envOfC qual scope s.heap.objs.size f cdv)) → sp vs H Q E →
      ∃ t, PSs (cxOf CX P w K mg base N qual scope f cdv A ou s H E) body t ∧ t { nx := fun _ H' => Q .non H', rt := Q } (start N vs) H) : FnG P w K mg base CX (k + 1) f fd ps sp := by
  obtain ⟨oc, od, dV, kV, doc, pm, an, cdv, ct, osl, rfl, lk, hcd, _, _⟩ := F.ex
  constructor
  · exact len
  intro A ou s H ar us vs Q E hg hr e0 bi rv hsp
  have keep : ∀ b o, base.get? b = some o → s.heap.get? b = some o := fun b o e => (e0.bs b o e).1
  have inK : K.In s.heap := e0.mod.kin.keeps keep
  have noL : s.heap.NoLimit := e0.mod.nolimit.keeps keep
  have kinds : ∀ y ∈ ps.zip us, scope.names.lookup y.1 = some .local ∨ (scope.names.lookup y.1 = some .cell ∧ ((cellsFrom (s.heap.objs.size + 1) scope.names []).lookup y.1).isSome = true) := by
    rintro ⟨n, v⟩ hy
    exact (S.par n (List.of_mem_zip hy).1).imp id fun q => ⟨q, PySem.W.cellsFrom_some _ _ _ (.inl q)⟩
  refine codeAny_call_function hr.depth (inK _ _ lk) rfl S.co S.gen rfl (PySem.W.codeRec_of inK hcd) (bi _ _ _ _ ?_)
  refine wpAny_newFunctionEnv_cells S.kind kinds fun env he s1 ic => ?_
  cases he
  refine ⟨noL.keeps ic.toInCall.keep, codeAny_func ?_⟩
  obtain ⟨t, pt, tq⟩ := hb cdv A ou s H vs Q E hg (hr.deeper _) hsp
  have J : Inv (cxOf CX P w K mg base N qual scope f cdv A ou s H E) [] (start N vs) H s1 := inv_start S hr.hd e0 (len _ _ _ _ hsp) rv ic
  refine wpAny_mono (pt.run [] s1 (start N vs) H _ J tq) (fun fl s2 h2 => ?_) fun _ _ h2 => h2
  match fl, h2 with
  | .ret u, h2 =>
    obtain ⟨v, σ2, H2, J2, ru, q2⟩ := h2
    exact ⟨v, H2, J2.os, J2.bare, J2.base, J2.hok, ru, q2⟩
  | .next, h2 =>
    obtain ⟨σ2, H2, J2, q2⟩ := h2
    exact ⟨V.non, H2, J2.os, J2.bare, J2.base, J2.hok, rfl, q2⟩
  | .brk, h2 => exact (let ⟨_, _, _, z⟩ := h2; False.elim z)
  | .cont, h2 => exact (let ⟨_, _, _, z⟩ := h2; False.elim z)
end
section
variable {X : Cx} {CX : CXT} {k : Nat} {f : Addr} {fd : FuncData} {ps : List Str} {sp : Sp} {E : L2.St → XK} {x : Str} {p pos : Pos} {e : Expr} {es : List Expr} {t : TA}
theorem run_G {pn : List (Addr × Obj)} {σ : L2.St} {H : Hp} {s : Shared} {Q : VK} {us : List Value} {vs : List V} (G : X.A.guards = some []) (F : FnG X.prog X.w X.K X.mg X.base CX k f fd ps sp) (hr : Room k X.A) (hb : Binds X.K fd ps []) (px : PassesAt CX X σ (E σ))
    (I : Inv X pn σ H s) (r : Vals vs us) (h : sp vs H Q (E σ)) : wpAny (model X.prog X.w) X.A (call (.ref f) us) (EP X pn σ Q) X.xe s := by
  have bi := hb s us I.kIn (by rw [List.append_nil, ← r.length]; exact F.len _ _ _ _ h)
  rw [List.append_nil] at bi
  refine wpAny_call (codeAny_mono (F.run X.A X.stack s H ⟨us, []⟩ us vs Q (E σ) G hr I.env0 bi r h) fun res s2 out => ?_)
  match res, out with
  | .error er, out => exact px pn H s er s2 I out
  | .ok (.ret u), out => exact I.after out
  | .ok .next, out => exact out.elim
  | .ok .brk, out => exact out.elim
  | .ok .cont, out => exact out.elim
theorem pe_callG (G : X.A.guards = some []) (F : FnG X.prog X.w X.K X.mg X.base CX k f fd ps sp) (hr : Room k X.A) (hg : Gl X x) (hm : X.mg x = some (.ref f)) (hk : PySem.W.keepIn X.K (.ref f) = true) (hb : Binds X.K fd ps []) (px : ∀ σ, PassesAt CX X σ (E σ))
    (ha : PA X (e :: es) t) (nd : (x == ("__debug__" : Str)) = false := by decide) (he : starEach (e :: es) X.env = (false, eval e X.env) :: starEach es X.env := by rfl) (hpl : (backTo pos (starEach es X.env)).any (·.1) = false := by rfl) :
    PE X (.Call (.Name x p) (e :: es) [] pos) (tCallS sp E t) := by
  constructor
  intro pn s σ H Q I h
  refine wpAny_Call_Name_kw (ld_glob I hg hm ?_ nd)
  refine PySem.W.callWith_K (h₀ := X.base) I.ok.mod.kin hk (thn (ha.run pos pn s σ H _ I h) ?_) he hpl
  rintro us s1 ⟨vs, H1, I1, r, q⟩
  exact ⟨I1.kIn, run_G G F hr hb (px σ) I1 r q⟩
theorem pe_callG0 (G : X.A.guards = some []) (F : FnG X.prog X.w X.K X.mg X.base CX k f fd ps sp) (hr : Room k X.A) (hg : Gl X x) (hm : X.mg x = some (.ref f)) (hk : PySem.W.keepIn X.K (.ref f) = true) (hb : Binds X.K fd ps []) (px : ∀ σ, PassesAt CX X σ (E σ))
    (nd : (x == ("__debug__" : Str)) = false := by decide) : PE X (.Call (.Name x p) [] [] pos) (tCallS sp E tNil) := by
  constructor
  intro pn s σ H Q I h
  exact wpAny_Call_Name_kw (ld_glob I hg hm (PySem.W.callWith_K0 I.kIn hk (run_G (us := []) G F hr hb (px σ) I .nil h)) nd)
end
/-! ### repr of what is tracked -/
/-- the object of sys.modules is a dict of the written part -/
def SysD (K : PySem.W.Frag) : Prop := ∃ c dd es ep sl, K.lookup sysModules = some ⟨c, dd, .dict es ep, sl⟩
def Sh (X : Cx) (H : Hp) (v : V) (d : PyData) : Prop := ∀ (pn : List (Addr × Obj)) (σ : L2.St) (s : Shared) (u : Value), Inv X pn σ H s → RelV v u → ∃ as, Reads s.heap u d as ∧ sysModules ∉ as
inductive ShA (X : Cx) (H : Hp) : List V → List PyData → Prop
  | nil : ShA X H [] []
  | cons {v : V} {vs : List V} {d : PyData} {ds : List PyData} : Sh X H v d → ShA X H vs ds → ShA X H (v :: vs) (d :: ds)
section
variable {X : Cx} {H : Hp}
theorem ShA.reads {pn : List (Addr × Obj)} {σ : L2.St} {s : Shared} (I : Inv X pn σ H s) : ∀ {vs : List V} {ds : List PyData} {us : List Value}, ShA X H vs ds → Vals vs us → ∃ as, ReadsAll s.heap us ds as ∧ sysModules ∉ as
  | _, _, _, .nil, .nil => ⟨[], .nil, by simp⟩
  | _, _, _, .cons h hs, .cons r rs => by
    obtain ⟨as, a1, a2⟩ := h _ _ _ _ I r
    obtain ⟨bs, b1, b2⟩ := ShA.reads I hs rs
    exact ⟨as ++ bs, .cons a1 b1, by simp [a2, b2]⟩
theorem sh_non : Sh X H .non .none := fun _ _ _ u _ r => by
  cases r
  exact ⟨[], .none, by simp⟩
theorem sh_bl (b : Bool) : Sh X H (.bl b) (.bool b) := fun _ _ _ u _ r => by
  cases r
  exact ⟨[], .bool b, by simp⟩
theorem sh_int (i : Int) : Sh X H (.int i) (.int i) := fun _ _ _ u _ ⟨t, e⟩ => by
  cases e
  exact ⟨[], .int i t, by simp⟩
theorem sh_str (x : Str) : Sh X H (.str x) (.str x) := fun _ _ _ u _ ⟨t, e⟩ => by
  cases e
  exact ⟨[], .str x t, by simp⟩
theorem sh_lst (S : SysD X.K) {a : Addr} {xs : List V} {ds : List PyData} (h : H a = some (.lst xs)) (hs : ShA X H xs ds) : Sh X H (.ref a) (.list ds) := fun pn σ s u I r => by
  cases r
  obtain ⟨its, rv, ⟨o, n, ho, hc, _, hd⟩, _⟩ := I.list (SqL.of (K := X.K) h)
  obtain ⟨as, a1, a2⟩ := hs.reads I rv
  refine ⟨a :: as, .list ho hc hd a1, fun z => ?_⟩
  rcases List.mem_cons.mp z with z | z
  · obtain ⟨c, dd, es, ep, sl, hk⟩ := S
    have h2 := I.kIn _ _ hk
    rw [z, ho] at h2
    cases h2
    cases hd
  · exact a2 z
theorem sh_tup {a : Addr} {xs : List V} {ds : List PyData} (h : H a = some (.tup xs)) (hs : ShA X H xs ds) : Sh X H (.ref a) (.tuple ds) := fun pn σ s u I r => by
  cases r
  obtain ⟨its, rv, ⟨o, ho, hc, n, hd⟩, _⟩ := I.tuple (SqT.of (K := X.K) h)
  obtain ⟨as, a1, a2⟩ := hs.reads I rv
  exact ⟨as, .tuple ho hc hd a1, a2⟩
theorem sh_dict0 {a : Addr} (h : H a = some (.dK [])) : Sh X H (.ref a) (.dict []) := fun pn σ s u I r => by
  cases r
  obtain ⟨_, h1, vs, kv, hd⟩ := dk_of I.hok h
  obtain ⟨o, es, ep, ho, hc, hdat, _, hp, _⟩ := hd
  cases kv
  have el : es.toList = [] := List.eq_nil_of_length_eq_zero hp.length
  refine ⟨a :: [] ++ [], Reads.dict ho hc.1 hdat (by rw [el]; exact .nil) (by rw [el]; exact .nil), fun z => ?_⟩
  have z2 : sysModules = a := by simpa using z
  rw [← z2] at h1
  simp at h1
mutual
/-- what is shown of a value, by the tracked heap alone -/
inductive Sv (H : Hp) : V → PyData → Prop
  | non : Sv H .non .none
  | bl (b : Bool) : Sv H (.bl b) (.bool b)
  | int (i : Int) : Sv H (.int i) (.int i)
  | str (x : Str) : Sv H (.str x) (.str x)
  | lst {a : Addr} {xs : List V} {ds : List PyData} : H a = some (.lst xs) → SvA H xs ds → Sv H (.ref a) (.list ds)
  | tup {a : Addr} {xs : List V} {ds : List PyData} : H a = some (.tup xs) → SvA H xs ds → Sv H (.ref a) (.tuple ds)
  | dic {a : Addr} : H a = some (.dK []) → Sv H (.ref a) (.dict [])
inductive SvA (H : Hp) : List V → List PyData → Prop
  | nil : SvA H [] []
  | cons {v : V} {vs : List V} {d : PyData} {ds : List PyData} : Sv H v d → SvA H vs ds → SvA H (v :: vs) (d :: ds)
end
mutual
theorem Sv.sh (S : SysD X.K) : ∀ {d : PyData} {v : V}, Sv H v d → Sh X H v d
  | _, _, .non => sh_non
  | _, _, .bl b => sh_bl b
  | _, _, .int i => sh_int i
  | _, _, .str x => sh_str x
  | _, _, .lst h hs => sh_lst S h (SvA.sh S hs)
  | _, _, .tup h hs => sh_tup h (SvA.sh S hs)
  | _, _, .dic h => sh_dict0 h
theorem SvA.sh (S : SysD X.K) : ∀ {ds : List PyData} {vs : List V}, SvA H vs ds → ShA X H vs ds
  | _, _, .nil => .nil
  | _, _, .cons h hs => .cons (Sv.sh S h) (SvA.sh S hs)
end
mutual
theorem Sv.same {H' : Hp} (s : ∀ a o, H a = some o → H' a = some o) : ∀ {d : PyData} {v : V}, Sv H v d → Sv H' v d
  | _, _, .non => .non
  | _, _, .bl b => .bl b
  | _, _, .int i => .int i
  | _, _, .str x => .str x
  | _, _, .lst h hs => .lst (s _ _ h) (SvA.same s hs)
  | _, _, .tup h hs => .tup (s _ _ h) (SvA.same s hs)
  | _, _, .dic h => .dic (s _ _ h)
theorem SvA.same {H' : Hp} (s : ∀ a o, H a = some o → H' a = some o) : ∀ {ds : List PyData} {vs : List V}, SvA H vs ds → SvA H' vs ds
  | _, _, .nil => .nil
  | _, _, .cons h hs => .cons (Sv.same s h) (SvA.same s hs)
end
theorem call_reprD (S : SysD X.K) (G : X.A.guards = some []) (hu : X.A.units + 64 < cLine) : CallR X (.builtin "repr") (fun xs H Q => ∃ a d, xs = [.ref a] ∧ Sv H (.ref a) d ∧ d.showable = true ∧ d.depth ≤ 20 ∧ d.shown.length ≤ sizeLine ∧ Q (.str d.shown) H) := by
  intro pn s σ H xs us Q I r h
  obtain ⟨a, d, rfl, sv, h1, h2, h3, q⟩ := h
  obtain ⟨u, rfl, r1⟩ := vals1 r
  obtain rfl : u = Value.ref a := r1
  obtain ⟨as, rd, ns⟩ := sv.sh S _ _ _ _ I rfl
  exact repr_of_reads' rd h1 (fun _ => ns) G (by omega) (fun _ _ e => e) (fun h' u tk hk => ⟨.str d.shown, H, I.kept (t' := tk) hk, ⟨u, rfl⟩, q⟩) h3
end
theorem deeper_guards {A : Around} {env : Env} : (A.deeper env).guards = A.guards := rfl
end Fg
set_option Elab.async false
set_option linter.all false
set_option maxRecDepth 100000
set_option maxHeartbeats 4000000
/-! l != b of two lists whose items are equal by an own ==: False. -/
namespace Fe
open PySem PySem.SeqAt
open AutoSeq1 (wpAny_loadPart')
open MeetsSeq MeetsSeq2 MeetsSeq3 SeqRoads2 GQ
section
variable {prog : Program} {w : World} {A : Around} {R : Result → Shared → Prop}
theorem ne_goes (l b : Addr) (N : Nat) (I : Nat → Shared → Prop) (hl : ListI prog w A (fun e s' => R (.error e) s') l b N I) (fin : ∀ s, I N s → R (.ok (.ret (.bool false))) s) (m : Nat) :
    ∀ j : Nat, m + j = N → ∀ s, I j s → wpAny (model prog w) A.in1 (Builtin.«list.__eq__.loop» ⟨[.ref l, .ref b, rawInt j, rawInt 3], []⟩) (FinOf prog w A R) (fun e s' => R (.error e) s') s := by
  induction m with
  | zero =>
    intro j hj s h
    obtain ⟨xs, ys, n, n2, g1, g2, z1, z2, _⟩ := hl _ _ h
    have jN : j = N := by omega
    have done : R (.ok (.ret (.bool false))) s := fin s (jN ▸ h)
    obtain ⟨hp, gl, dr, tk, os⟩ := s
    wp_walk using wpAny_loadPart' g1, wpAny_loadPart' g2
    have e1 : xs[((j : Nat) : Int).toNat]? = none := by
      simp
      omega
    have e2 : ys[((j : Nat) : Int).toNat]? = none := by
      simp
      omega
    rw [e1, e2]
    wp_walk using wpAny_loadPart' g1, wpAny_loadPart' g2
    show R (.ok (.ret (.bool (xs.size != ys.size)))) _
    rw [z1, z2]
    simpa using done
  | succ m ih =>
    intro j hj s h
    obtain ⟨xs, ys, n, n2, g1, g2, z1, z2, turn⟩ := hl _ _ h
    have l1 : j < xs.size := by omega
    have l2 : j < ys.size := by omega
    have one := turn l1 l2
    obtain ⟨hp, gl, dr, tk, os⟩ := s
    wp_walk using wpAny_loadPart' g1, wpAny_loadPart' g2
    have e1 : xs[((j : Nat) : Int).toNat]? = some xs[j] := by simp [l1]
    have e2 : ys[((j : Nat) : Int).toNat]? = some ys[j] := by simp [l2]
    rw [e1, e2]
    refine wpAny_bind (wpAny_mono one (fun r s2 hr => ?_) fun _ _ z => z)
    obtain ⟨er, h2⟩ := hr
    subst er
    have rest := ih (j + 1) (by omega) s2 h2
    obtain ⟨hp2, gl2, dr2, tk2, os2⟩ := s2
    wp_walk
    rw [show ((j : Int) + 1) = ((j + 1 : Nat) : Int) by omega]
    refine ⟨plainId_quiet plain_eq_loop _, codeAny_builtin entry_eq_loop ?_⟩
    rw [Around.under_plainId plain_eq_loop _]
    exact rest
theorem list_ne (l b : Addr) (N : Nat) (I : Nat → Shared → Prop) (hl : ListI prog w A (fun e s' => R (.error e) s') l b N I) (fin : ∀ s, I N s → R (.ok (.ret (.bool false))) s) {s : Shared} (h : I 0 s) :
    wpAny (model prog w) A.in1 (Builtin.«list.__ne__» ⟨[.ref l, .ref b], []⟩) (FinOf prog w A R) (fun e s' => R (.error e) s') s := by
  obtain ⟨xs, ys, n, n2, g1, g2, z1, z2, _⟩ := hl _ _ h
  have rest := ne_goes (A := A) (R := R) l b N I hl fin N 0 (by omega) s h
  obtain ⟨hp, gl, dr, tk, os⟩ := s
  have sub := AutoSeq1.sub_list_list
  have same : ¬ (xs.size != ys.size) = true := by simp [z1, z2]
  wp_walk using wpAny_loadPart' g1, wpAny_loadPart' g2
  refine ⟨plainId_quiet plain_eq_loop _, codeAny_builtin entry_eq_loop ?_⟩
  rw [Around.under_plainId plain_eq_loop _]
  exact rest
theorem rc_ne {l b : Addr} {N : Nat} {E : Value → Shared → Prop} {s : Shared} {Q : Value → Shared → Prop} (hu : A.units < cLine) (I : Nat → Shared → Prop) (hl : ListI prog w A E l b N I) (fin : ∀ s, I N s → Q (.bool false) s) (h : I 0 s) :
    wpAny (model prog w) A (richCompare .NotEq (.ref l) (.ref b)) Q E s := by
  obtain ⟨xs, ys, n, n2, g1, g2, _, _, _⟩ := hl _ _ h
  refine wpAny_richCompare_same_room (op := .NotEq) ⟨_, g1, rfl⟩ ⟨_, g2, rfl⟩ F.slot_list_ne (call_here F.slot_list_ne ⟨_, g1, rfl⟩ F.entry_list_ne (F.args_list_ne_2 _ _) ?_) hu
  exact list_ne (R := wants (fun v s' => v ≠ .notImplemented ∧ Q v s') E) l b N I hl (fun s' q => ⟨(fun x => nomatch x), fin s' q⟩) h
end
end Fe
namespace Fe
open PySem PySem.Spec PyProof.Rows L2
theorem op_neG {X : Cx} {n : Nat} {D : Eqv} (hD : Mon D) (h : EqG X n D) (hr : Room (n + 1) X.A) : OpR X (compareOp .NotEq) (fun x y H Q => DList D x y H ∧ ∀ H', Ext H H' → Q (.bl false) H') := by
  intro pn s σ H x y v u Q I rx ry hq
  obtain ⟨⟨a, b, xs, ys, rfl, rfl, ha, hb, p⟩, q⟩ := hq
  cases rx
  cases ry
  show wpAny (model X.prog X.w) X.A (richCompare .NotEq (.ref a) (.ref b)) (EP X pn σ Q) X.xe s
  have sb : Sub X (n + 1) X.A := ⟨hr, rfl⟩
  refine rc_ne (N := xs.length) sb.room.units0 (fun _ s' => LoopI X pn σ H s') (fun i s' l => ?_) (fun s' l => ?_) ⟨H, I, Ext.rfl'⟩
  · obtain ⟨H1, I1, e1⟩ := id l
    obtain ⟨z, its, k, r, e⟩ := I1.hok a _ (e1 _ _ ha)
    obtain ⟨z2, its2, k2, r2, e2⟩ := I1.hok b _ (e1 _ _ hb)
    exact ⟨its.toArray, its2.toArray, k, k2, e, e2, by rw [List.size_toArray, ← r.length], by rw [List.size_toArray, ← r2.length, ← p.1], fun h1 h2 => turnG hD h sb p r r2 i h1 h2 s' l⟩
  · obtain ⟨H1, I1, e1⟩ := l
    exact ⟨.bl false, H1, I1, rfl, q H1 e1⟩
/-- one of two readings -/
theorem op_or {X : Cx} {f : Value → Value → Sem Value} {r1 r2 : R2} (h1 : OpR X f r1) (h2 : OpR X f r2) : OpR X f (fun x y H Q => r1 x y H Q ∨ r2 x y H Q) := by
  intro pn s σ H x y v u Q I rx ry h
  rcases h with h | h
  · exact h1 pn s σ H x y v u Q I rx ry h
  · exact h2 pn s σ H x y v u Q I rx ry h
end Fe
set_option Elab.async false
set_option linter.all false
set_option maxRecDepth 100000
set_option maxHeartbeats 4000000
/-! A law's end where its def shows lists: no repr is under way when it is called. -/
namespace Fg
open PySem PySem.Spec PyProof.Rows L2
section
variable {P : Program} {w : World} {K : PySem.W.Frag} {mg mb : Str → Option Value} {CX : CXT} {k : Nat} {fa a : Addr} {fd : FuncData} {x : Str} {sp : Sp} {s₁ : Shared} {vs : List Value} {ns : List Int}
/-- from a heap H that tracks the script at the most -/
theorem call_from (KX : K.In s₁.heap) (hns : s₁.heap.Ns mainGlobals mg) (hb : s₁.heap.Ns builtinsNs mb) (hbb : ∀ x : Str, x ≠ "__name__" → mb x = bootBuiltins x) (hlim : s₁.heap.NoLimit) (hg : s₁.gens = #[])
    (obj : s₁.heap.get? a = some { cls := .type "list", data := .seq vs.toArray }) (hr : Room k callerA) (F : ∀ base : Heap, K.In base → base.Ns mainGlobals mg → FnG P w K mg base CX k fa fd [x] sp)
    (bind : ∀ (s : Shared) (u : Value), BindsTo s fd ⟨[u], []⟩ [(x, u)]) (noX : ∀ H e s', CX [] H s₁ (fun _ _ _ => False) e s' → False) {H : Hp} (only : Only H) (hsp : sp [.ref a] H (fun v _ => v = .bl true) fun _ _ _ => False)
    (hok : HOk P w H s₁.heap) (at_ : ∀ b, H b ≠ none → b = a) (own : H a ≠ none → K.lookup a = none) :
    codeAny (model P w) callerA (.call (.ref fa) ⟨[.ref a], []⟩) (fun r s' => r = .ok (.ret (.bool true)) ∧ OldK s₁.heap s'.heap ∧ s'.os = s₁.os ∧ AllBare s'.gens) s₁ := by
  have free : ∀ {b : Addr} {o : Obj}, s₁.heap.get? b = some o → (b = a → o ≠ { cls := .type "list", data := .seq vs.toArray }) → H b = none := by
    intro b o e ne
    cases q : H b with
    | none => rfl
    | some u =>
      have eb := at_ b (by rw [q]; exact fun z => nomatch z)
      rw [eb, obj] at e
      exact absurd (Option.some.inj e).symm (ne eb)
  have hid : ∀ {b : Addr} {o : Obj}, s₁.heap.get? b = some o → H b = none → (hidT s₁.heap H).get? b = some o := fun e n => hidT_get e n
  have nsp : ∀ {b : Addr} {m : Str → Option Value}, s₁.heap.Ns b m → (hidT s₁.heap H).Ns b m := by
    rintro b m ⟨o, es, ep, e, d, r⟩
    refine ⟨o, es, ep, hid e (free e fun _ z => ?_), d, r⟩
    rw [z] at d
    cases d
  have inB : K.In (hidT s₁.heap H) := fun b o e => hid (KX b o e) (by
    cases q : H b with
    | none => rfl
    | some u =>
      have eb := at_ b (by rw [q]; exact fun z => nomatch z)
      rw [eb] at q e
      rw [own (by rw [q]; exact fun z => nomatch z)] at e
      cases e)
  have M : Mod K mg (hidT s₁.heap H) := ⟨inB, nsp hns, ⟨mb, nsp hb, hbb⟩, hlim.imp fun _ h => ⟨nsp h.1, h.2⟩⟩
  have e0 : Env0 P w K mg (hidT s₁.heap H) callerA [] s₁ H := by
    refine ⟨rfl, M, fun b o e => of_hidT e, Nat.le_of_eq (hidT_size _ _), trivial, fun b hb => ?_, hok, .of_eq hg⟩
    exact (List.not_mem_nil hb).elim
  refine codeAny_mono ((F _ inB (nsp hns)).run callerA [] s₁ H ⟨[.ref a], []⟩ [.ref a] [.ref a] _ _ rfl hr e0 (bind s₁ (.ref a)) (.cons rfl .nil) hsp) fun res s2 out => ?_
  match res, out with
  | .error er, out => exact (noX H er s2 out).elim
  | .ok .next, out => exact out.elim
  | .ok .brk, out => exact out.elim
  | .ok .cont, out => exact out.elim
  | .ok (.ret u), out =>
    obtain ⟨v, H2, os, bare, un, hok2, ru, qv⟩ := out
    cases (show v = V.bl true from qv)
    cases ru
    refine ⟨rfl, OldK.of_keep fun b o e => ?_, os, bare⟩
    rcases only b with n | ⟨ob, xs, z⟩
    · exact un.keep b o e n (fun m => (List.not_mem_nil m).elim) (by simp)
    · obtain ⟨g1, _⟩ := hok b _ z
      obtain ⟨g2, _⟩ := hok2 b _ (un.frzs b ob _ z)
      rw [g1] at e
      rw [g2]
      exact e
theorem law_callG (KX : K.In s₁.heap) (hns : s₁.heap.Ns mainGlobals mg) (hb : s₁.heap.Ns builtinsNs mb) (hbb : ∀ x : Str, x ≠ "__name__" → mb x = bootBuiltins x) (hlim : s₁.heap.NoLimit) (hg : s₁.gens = #[])
    (obj : s₁.heap.get? a = some { cls := .type "list", data := .seq vs.toArray }) (hi : IntsAre vs ns) (hl : ns.length ≤ sizeLine) (hr : Room k callerA) (F : ∀ base : Heap, K.In base → base.Ns mainGlobals mg → FnG P w K mg base CX k fa fd [x] sp)
    (bind : ∀ (s : Shared) (u : Value), BindsTo s fd ⟨[u], []⟩ [(x, u)]) (hsp : ∀ H : Hp, Only H → SqL K H a (ns.map V.int) → sp [.ref a] H (fun v _ => v = .bl true) fun _ _ _ => False)
    (noX : ∀ H e s', CX [] H s₁ (fun _ _ _ => False) e s' → False) :
    codeAny (model P w) callerA (.call (.ref fa) ⟨[.ref a], []⟩) (fun r s' => r = .ok (.ret (.bool true)) ∧ OldK s₁.heap s'.heap ∧ s'.os = s₁.os ∧ AllBare s'.gens) s₁ := by
  have rv := vals_ints hi
  cases hk : K.lookup a with
  | some o =>
    -- the script is an object of the written part
    have e : o = { cls := .type "list", data := .seq vs.toArray } := by
      have z := KX a o hk
      rw [obj] at z
      exact (Option.some.inj z).symm
    subst e
    have sq : SqL K (fun _ => none) a (ns.map V.int) := .inr ⟨_, vs.toArray, _, hk, rfl, rfl, rfl, by rw [List.size_toArray, hi.length]; exact hl, by simpa using rv⟩
    exact call_from KX hns hb hbb hlim hg obj hr F bind noX (H := fun _ => none) (fun _ => .inl rfl) (hsp _ (fun _ => .inl rfl) sq) (fun b u z => nomatch z) (fun b z => absurd rfl z) (fun z => absurd rfl z)
  | none =>
    let H : Hp := fun b => if b = a then some (.frz { cls := .type "list", data := .seq vs.toArray } (.lst (ns.map V.int))) else none
    have ha : H a = some (.frz { cls := .type "list", data := .seq vs.toArray } (.lst (ns.map V.int))) := if_pos rfl
    have hn : ∀ {b}, b ≠ a → H b = none := fun z => if_neg z
    have only : Only H := fun b => by
      by_cases z : b = a
      · subst z
        exact .inr ⟨_, _, ha⟩
      · exact .inl (hn z)
    refine call_from KX hns hb hbb hlim hg obj hr F bind noX (H := H) only (hsp H only (.inl (.inr ⟨_, ha⟩))) (fun b u z => ?_) (fun b z => ?_) (fun _ => hk)
    · by_cases eb : b = a
      · subst eb
        cases ha.symm.trans z
        exact ⟨obj, by rw [List.length_map]; exact hl, vs, _, rv, obj⟩
      · cases (hn eb).symm.trans z
    · by_cases eb : b = a
      · exact eb
      · exact absurd (hn eb) z
end
theorem walk_ofG {l : PySem.W.OpenLaw} {n k : Nat} {q : Program} {loose : List Str} {XP : (Str → Option Value) → Heap → Prop} {YP : World → Heap → Prop} {d : DefRec} {CX : World → CXT} {x : Str}
    (hn : l.most = some n) (small : n ≤ sizeLine) (hdf : d.params.defaults = []) (hr : Room k callerA)
    (F : ∀ (w : World) (mg : Str → Option Value) (fa : Addr) (h : Heap), YP w h → h.Ns mainGlobals mg → mg d.name = some (.ref fa) → ∃ (K : PySem.W.Frag) (fd : FuncData) (sp : Sp), K.In h ∧ (∀ (s : Shared) (u : Value), BindsTo s fd ⟨[u], []⟩ [(x, u)]) ∧
        (∀ (H : Hp) (a : Addr) (ns : List Int), ns.length ≤ n → Only H → SqL K H a (ns.map V.int) → sp [.ref a] H (fun v _ => v = .bl true) fun _ _ _ => False) ∧ ∀ base : Heap, K.In base → base.Ns mainGlobals mg → FnG l.prog w K mg base (CX w) k fa fd [x] sp)
    (noX : ∀ (w : World) (H : Hp) (s : Shared) (e : Value) (s' : Shared), CX w [] H s (fun _ _ _ => False) e s' → False) : PySem.W.WalkO q loose XP YP l.row.toRowW d [] (fun f vs => PySem.call f vs) := by
  refine Att.attach_call hn hdf ?_
  intro w s₀ s₁ mg mb fa o pm cd doc a vs ns G Y ho hd hcd hmg obj hints len hg
  obtain ⟨K, fd, sp, KX, bi, hsp, hF⟩ := F w mg fa _ Y G.T.g hmg
  refine law_callG KX G.T.g G.T.b G.T.builtins G.T.nolimit hg obj hints (Nat.le_trans len small) hr hF bi ?_ (fun H e s' => noX w H s₁ e s')
  exact fun H hO hS => hsp H a ns len hO hS
end Fg
set_option Elab.async false
set_option linter.all false
set_option maxRecDepth 100000
set_option maxHeartbeats 4000000
namespace K02
open PySem PySem.Spec PyProof.Rows L2 Fa
def top (i : Nat) : Stmt := PySem.Challenge.pw_anytempo_k02_amounts_reckoned.main.body.getD i (.Pass ⟨0, 0, 0, 0⟩)
abbrev FnP (K : PySem.W.Frag) (x : Str) (st : Stmt) (f : Addr) (fd : FuncData) : Prop := FunD K x x (defArgs st) (defBody st) (defScope st) [] [] f fd

abbrev sCell : Stmt := top 17
abbrev sBox : Stmt := top 18
abbrev sTake : Stmt := top 19
theorem scCell : FnScope ["_law_script", "_law_k"] ["_law_script", "_law_k"] (defScope sCell) := ⟨rfl, rfl, rfl, by decide +kernel, rfl, by decide +kernel, by decide +kernel⟩
theorem scBox : FnScope ["_law_cell_here"] ["_law_cell_here"] (defScope sBox) := ⟨rfl, rfl, rfl, by decide +kernel, rfl, by decide +kernel, by decide +kernel⟩
theorem scTake : FnScope ["_law_box_here", "_law_many", "_law_digit", "_law_mixed"] ["_law_box_here", "_law_many"] (defScope sTake) := ⟨rfl, rfl, rfl, by decide +kernel, rfl, by decide +kernel, by decide +kernel⟩
section
variable {P : Program} {w : World} {K : PySem.W.Frag} {mg : Str → Option Value} {base : Heap} {f : Addr} {fd : FuncData}
theorem ok_cell (F : FnP K "_law_cell" sCell f fd) (mL : mg "len" = none) : FnOk P w K mg base CX0 1 f fd ["_law_script", "_law_k"] (spCel K) := by
  refine F.ok scCell (fun vs H Q E h => ?_) (fun cdv A outer s H vs Q E hr h => ?_)
  · obtain ⟨l, ns, j, rfl, _⟩ := h
    rfl
  · obtain ⟨l, ns, j, rfl, hs, hj, q⟩ := h
    refine ⟨_, PSs.nox (pss_cons (ps_if (pt_cmpR op_lt (pv 1) (pe_callB call_len rfl mL boot_len (pa_cons (pv 0) pa_nil)) (nomark _)) (pss_one (ps_ret (pe_ix ix_list (pv 0) (pv 1) (fun _ _ => rfl)))) pss_nil)
      (pss_one (ps_ret (pe_op op_add (pe_op op_mul pe_int (pv 1)) pe_int)))), ?_⟩
    refine ⟨_, rfl, _, rfl, _, (ns.map V.int).length, rfl, .inl ⟨_, hs, rfl⟩, _, _, rfl, rfl, _, rfl, ?_⟩
    refine ite2 (fun c => ?_) (fun c => ?_)
    · have c2 := of_decide_eq_true c
      have c3 : j < ns.length := by
        rw [List.length_map] at c2
        omega
      have e : atI (ns.map V.int) (j : Int) = some (.int ns[j]) := atI_nat (by
        rw [List.getElem?_map, List.getElem?_eq_getElem c3]
        rfl)
      exact ⟨_, rfl, _, rfl, l, _, _, _, rfl, rfl, hs, e, q _⟩
    · refine ⟨_, rfl, _, _, rfl, rfl, .inl ⟨by decide, by decide⟩, _, _, rfl, rfl, q _⟩
theorem ok_box (F : FnP K "_law_box" sBox f fd) (mM : mg "max" = none) : FnOk P w K mg base CX0 1 f fd ["_law_cell_here"] spBox := by
  refine F.ok scBox (fun vs H Q E h => ?_) (fun cdv A outer s H vs Q E hr h => ?_)
  · obtain ⟨c, rfl, _⟩ := h
    rfl
  · obtain ⟨c, rfl, q⟩ := h
    refine ⟨_, PSs.nox (pss_one (ps_ret (pe_lst (pa_cons (pe_callB (call_max2 rfl) rfl mM (by decide +kernel) (pa_cons pe_int (pa_cons (pe_op op_sub (pv 0) (pe_op op_pow pe_int pe_int)) pa_nil)))
      (pa_cons (pe_op op_mod (pv 0) pe_int) (pa_cons pe_int pa_nil)))))), ?_⟩
    refine ⟨_, rfl, _, _, rfl, rfl, ⟨by decide, by decide, by decide⟩, _, _, rfl, rfl, _, _, rfl, ?_⟩
    refine ⟨_, rfl, _, _, rfl, rfl, (by show (0 : Int) < 2147483629; decide), (by show 3 ≤ sizeLine; decide), fun p hp => ?_⟩
    refine q p _ hp (fun z hz => upd_ne hz) ⟨_, _, _, upd_same, ?_, ?_, ?_, by decide, by decide⟩
    · split <;> omega
    · exact Int.emod_nonneg _ (by decide)
    · exact Int.lt_trans (Int.emod_lt_of_pos _ (by decide)) (by decide)
theorem ok_take (F : FnP K "_law_take" sTake f fd) : FnOk P w K mg base CX0 1 f fd ["_law_box_here", "_law_many"] spTake := by
  refine F.ok scTake (fun vs H Q E h => ?_) (fun cdv A outer s H vs Q E hr h => ?_)
  · obtain ⟨p, m, n, rfl, _⟩ := h
    rfl
  · obtain ⟨p, m, n, rfl, ⟨a, b, c, hp, ha, hb, hb2, hc, hc2⟩, hn, hm, hm2, q⟩ := h
    refine ⟨_, PSs.nox (pss_cons (ps_if (pt_cmpR op_gt (pe_ix ix_list (pv 0) pe_int (fun _ _ => rfl)) pe_int (nomark _))
        (pss_cons (ps_set (i := 2) scTake.nd rfl (Or.inl rfl) (pe_op op_mod (pe_ix ix_list (pv 0) pe_int (fun _ _ => rfl)) (pv 1)))
        (pss_cons (ps_asg (pe_op op_fdivW (pe_ix ix_list (pv 0) pe_int (fun _ _ => rfl)) (pv 1)) (pg_sub (pv 0) pe_int set_list))
        (pss_one (ps_ret (pv 2))))) pss_nil)
      (pss_cons (ps_asg (pe_op op_add (pe_ix ix_list (pv 0) pe_int (fun _ _ => rfl)) pe_int) (pg_sub (pv 0) pe_int set_list))
      (pss_cons (ps_set (i := 3) scTake.nd rfl (Or.inl rfl) (pe_op op_mod (pe_op op_pow (pe_op op_add (pe_op op_add (pe_ix ix_list (pv 0) pe_int (fun _ _ => rfl)) (pe_op op_mul pe_int (pe_ix ix_list (pv 0) pe_int (fun _ _ => rfl)))) pe_int) pe_int) pe_int))
      (pss_cons (ps_set (i := 3) scTake.nd rfl (Or.inl rfl) (pe_op op_mod (pe_op op_pow (pe_op op_add (pv 3) (pe_op op_mul pe_int (pe_ix ix_list (pv 0) pe_int (fun _ _ => rfl)))) pe_int) pe_int))
      (pss_one (ps_ret (pe_op op_mod (pe_op op_fdiv (pv 3) pe_int) (pv 1)))))))), ?_⟩
    refine ⟨_, rfl, p, _, _, _, rfl, rfl, SqL.of hp, rfl, _, _, rfl, rfl, _, rfl, ?_⟩
    refine ite2 (fun t => ?_) (fun t => ?_)
    · have t2 : (0 : Int) < a := of_decide_eq_true t
      refine ⟨_, rfl, p, _, _, _, rfl, rfl, SqL.of hp, rfl, _, rfl, _, _, rfl, rfl, hm, ?_⟩
      refine ⟨_, rfl, p, _, _, _, rfl, rfl, SqL.of hp, rfl, _, rfl, _, _, rfl, rfl, cdivW hm hm2, ?_⟩
      refine ⟨_, rfl, p, _, _, _, rfl, rfl, hp, rfl, ?_⟩
      refine ⟨_, rfl, ?_⟩
      refine q _ _ (Int.emod_nonneg _ (by omega)) (Int.emod_lt_of_pos _ hm) ⟨_, _, _, upd_same, Int.ediv_nonneg ha (by omega), hb, hb2, hc, by omega⟩ But.upd
    · refine ⟨_, rfl, p, _, _, _, rfl, rfl, SqL.of hp, rfl, _, _, rfl, rfl, _, rfl, p, _, _, _, rfl, rfl, hp, rfl, ?_⟩
      have s1 : SqL K (upd H p (.lst [.int a, .int b, .int (c + 1)])) p [.int a, .int b, .int (c + 1)] := SqL.of upd_same
      refine ⟨_, rfl, p, _, _, _, rfl, rfl, s1, rfl, _, rfl, p, _, _, _, rfl, rfl, s1, rfl, _, _, rfl, rfl, .inl ⟨by decide, by decide⟩, _, _, rfl, rfl, _, _, rfl, rfl, _, _, rfl, rfl, ⟨by decide, by decide, ?_⟩, _, _, rfl, rfl, (by show (0 : Int) < 2147483647; decide), ?_⟩
      · show (b + 15488929 * (c + 1) + 1543).natAbs < 2 ^ 64
        omega
      have g1 : 0 ≤ (b + 15488929 * (c + 1) + 1543) ^ Int.toNat 5 % 2147483647 := Int.emod_nonneg _ (by decide)
      have g2 : (b + 15488929 * (c + 1) + 1543) ^ Int.toNat 5 % 2147483647 < 2147483647 := Int.emod_lt_of_pos _ (by decide)
      refine ⟨_, rfl, _, rfl, p, _, _, _, rfl, rfl, s1, rfl, _, _, rfl, rfl, .inl ⟨by decide, by decide⟩, _, _, rfl, rfl, _, _, rfl, rfl, ⟨by decide, by decide, ?_⟩, _, _, rfl, rfl, (by show (0 : Int) < 2147483587; decide), ?_⟩
      · show ((b + 15488929 * (c + 1) + 1543) ^ Int.toNat 5 % 2147483647 + 104711 * (c + 1)).natAbs < 2 ^ 64
        omega
      refine ⟨_, rfl, _, _, rfl, rfl, ⟨by decide, by decide⟩, _, rfl, _, _, rfl, rfl, hm, ?_⟩
      exact q _ _ (Int.emod_nonneg _ (by omega)) (Int.emod_lt_of_pos _ hm) ⟨_, _, _, upd_same, ha, hb, hb2, by omega, by omega⟩ But.upd
end

end K02
set_option Elab.async false
set_option linter.all false
set_option maxRecDepth 100000
set_option maxHeartbeats 4000000
namespace K02
open PySem PySem.Spec PyProof.Rows L2 Fa Fb
theorem if_true_of {c : Bool} {A B : Prop} (hc : c = true) (h : A) : if c = true then A else B := by
  rw [if_pos hc]
  exact h
theorem if_false_of {c : Bool} {A B : Prop} (hc : c = false) (h : B) : if c = true then A else B := by
  rw [hc, if_neg Bool.false_ne_true]
  exact h


abbrev CA (K : PySem.W.Frag) : Addr := He.ga K "Amount"
abbrev CI (K : PySem.W.Frag) : Addr := He.ga K "InvalidInteger"
abbrev CV (K : PySem.W.Frag) : Addr := He.ga K "InvalidAmount"
abbrev aI (K : PySem.W.Frag) : Addr := He.ma K (CA K) "__init__"
abbrev sWhole : Stmt := top 7
abbrev sIsA : Stmt := top 10
abbrev sAsA : Stmt := top 11
abbrev sInit : Stmt := inClass (top 9) 0
abbrev sTop : Stmt := inClass (top 9) 1
abbrev sBot : Stmt := inClass (top 9) 2
abbrev sEq : Stmt := inClass (top 9) 3
theorem scWhole : FnScope ["value"] ["value"] (defScope sWhole) := ⟨rfl, rfl, rfl, by decide +kernel, rfl, by decide +kernel, by decide +kernel⟩
theorem scIsA : FnScope ["value"] ["value"] (defScope sIsA) := ⟨rfl, rfl, rfl, by decide +kernel, rfl, by decide +kernel, by decide +kernel⟩
theorem scAsA : FnScope ["value"] ["value"] (defScope sAsA) := ⟨rfl, rfl, rfl, by decide +kernel, rfl, by decide +kernel, by decide +kernel⟩
theorem scInit : FnScope ["self", "top", "bottom", "common"] ["self", "top", "bottom"] (defScope sInit) := ⟨rfl, rfl, rfl, by decide +kernel, rfl, by decide +kernel, by decide +kernel⟩
theorem scTop : FnScope ["self"] ["self"] (defScope sTop) := ⟨rfl, rfl, rfl, by decide +kernel, rfl, by decide +kernel, by decide +kernel⟩
theorem scBot : FnScope ["self"] ["self"] (defScope sBot) := ⟨rfl, rfl, rfl, by decide +kernel, rfl, by decide +kernel, by decide +kernel⟩
theorem scEq : FnScope ["self", "other"] ["self", "other"] (defScope sEq) := ⟨rfl, rfl, rfl, by decide +kernel, rfl, by decide +kernel, by decide +kernel⟩
/-- the fields of an amount -/
def fl (t u : Int) : List (Str × V) := putF "_bottom" (.int u) (putF "_top" (.int t) [])
theorem tb : ¬ (("_top" : Str) = "_bottom") := by decide +kernel
theorem fl_top (t u : Int) : (fl t u).lookup ("_top" : Str) = some (.int t) := by
  unfold fl
  rw [lookup_putF, if_neg tb, lookup_putF, if_pos rfl]
theorem fl_bot (t u : Int) : (fl t u).lookup ("_bottom" : Str) = some (.int u) := by
  unfold fl
  rw [lookup_putF, if_pos rfl]
theorem fl_no (t u : Int) {m : Str} (h1 : ¬ m = "_bottom") (h2 : ¬ m = "_top") : (fl t u).lookup m = none := by
  unfold fl
  rw [lookup_putF, if_neg h1, lookup_putF, if_neg h2]
  rfl
/-- x is an amount, in lowest terms, of less than n bits -/
def IsA (K : PySem.W.Frag) (H : Hp) (x : V) (t u : Int) (n : Nat) : Prop := ∃ p dx, x = .ref p ∧ H p = some (.ins (CA K) dx (fl t u)) ∧ Am.Red t u ∧ t.natAbs < 2 ^ n ∧ u.natAbs < 2 ^ n
theorem IsA.same {K : PySem.W.Frag} {H H' : Hp} {x : V} {t u : Int} {n : Nat} (h : IsA K H x t u n) (s : Same H H') : IsA K H' x t u n := by
  obtain ⟨p, dx, e, h1, h2⟩ := h
  exact ⟨p, dx, e, s _ _ h1, h2⟩
/-- whether a value counts as a whole number -/
def Wh (K : PySem.W.Frag) (H : Hp) (x : V) (b : Bool) : Prop := ∃ t b1 b2, TyX K H x t ∧ PySem.W.kitOne K t (.type "int") = some b1 ∧ PySem.W.kitOne K t (.type "bool") = some b2 ∧ b = (b1 && !b2)
theorem wh_int {K : PySem.W.Frag} {H : Hp} (i : Int) : Wh K H (.int i) true := ⟨_, true, false, .base (.int i), kit_ty (by decide +kernel), kit_ty (by decide +kernel), rfl⟩
def tys : List String := ["int", "bool", "NoneType", "str", "list", "tuple", "dict"]
/-- what the written part says of the class -/
structure AF (K : PySem.W.Frag) (mg : Str → Option Value) : Prop where
  cl : Cls K (CA K)
  noT : NoAttr K (CA K) "_top"
  noB : NoAttr K (CA K) "_bottom"
  mkA : Mk K (CA K) (aI K)
  g : mg "Amount" = some (.ref (CA K))
  isi : mg "isinstance" = none
  int : mg "int" = none
  bool : mg "bool" = none
  gcd : mg "gcd" = some (.builtin "math.gcd")
  gI : mg "InvalidInteger" = some (.ref (CI K))
  gV : mg "InvalidAmount" = some (.ref (CV K))
  kI : PySem.W.kitOne K (.ref (CA K)) (.type "int") = some false
  kB : PySem.W.kitOne K (.ref (CA K)) (.type "bool") = some false
  kS : PySem.W.kitOne K (.ref (CA K)) (.ref (CA K)) = some true
  kT : ∀ T ∈ tys, PySem.W.kitOne K (.type T) (.ref (CA K)) = some false
  ca : PySem.W.findIn K (.ref (CA K)) "__class__" = some (some (.builtin "object.__class__"))
  cn : PySem.W.specialIn K (.builtin "object.__class__") "__get__" = some (some (.builtin "getset_descriptor.__get__"))
  ct : PySem.W.takesIn K (.builtin "object.__class__") = some true
  cm : PySem.W.mroIn K (CA K) (.type "object") = some true
section
variable {K : PySem.W.Frag} {mg : Str → Option Value}
theorem AF.ty (T : AF K mg) {H : Hp} {p dx : Addr} {fs : List (Str × V)} (h : H p = some (.ins (CA K) dx fs)) : TyX K H (.ref p) (.ref (CA K)) := .base (.ins h T.cl T.ca T.cn T.ct T.cm)
theorem AF.wh (T : AF K mg) {H : Hp} {p dx : Addr} {fs : List (Str × V)} (h : H p = some (.ins (CA K) dx fs)) : Wh K H (.ref p) false := ⟨_, false, false, T.ty h, T.kI, T.kB, rfl⟩
end
def spWhole (K : PySem.W.Frag) : Sp := fun vs H Q _ => ∃ x b, vs = [x] ∧ Wh K H x b ∧ Q (.bl b) H
/-- an error of the class at C with the one field value = v -/
def Err (C : Addr) (v : V) (H : Hp) (E : XK) : Prop := ∀ d, H d = none → E (.ref C) (some d) (upd H d (.xd [("value", v)]))
def spInit (K : PySem.W.Frag) : Sp := fun vs H Q E => ∃ (p dx : Addr) (x y : V) (bx bz : Bool), vs = [.ref p, x, y] ∧ H p = some (.ins (CA K) dx []) ∧ Wh K H x bx ∧ Wh K H y bz ∧
  (bx = false → Err (CI K) x H E) ∧ (bx = true → bz = false → Err (CI K) y H E) ∧
  (bx = true → bz = true → ∃ a b : Int, x = .int a ∧ y = .int b ∧ (b = 0 → Err (CI K) y H E) ∧
    (b ≠ 0 → b.natAbs < 2 ^ 8000 ∧ ∀ t u : Int, Am.Red t u → t * b = a * u → t.natAbs ≤ a.natAbs → u.natAbs ≤ b.natAbs → Q .non (upd H p (.ins (CA K) dx (fl t u)))))
section
variable {X : Cx}
theorem op_fdivX : OpR X (binaryOp .FloorDiv) (rI (fun _ j => j ≠ 0 ∧ j.natAbs.log2 < 9000) fun i j => .int (i.fdiv j)) := opI fun _ _ _ _ _ _ _ hc q => floordiv_int hc.1 q (.inl (PyProof.noPylong_of_log2 hc.2))
theorem boot_isi : bootBuiltins "isinstance" = some (.builtin "isinstance") := by decide +kernel
theorem pe_isi {e c : Expr} {te tc : TE} {p pos : Pos} (hm : X.mg "isinstance" = none) (he : PE X e te) (hc : PE X c tc) (hg : Gl X "isinstance" := by rfl)
    (hs : starEach (e :: [c]) X.env = (false, eval e X.env) :: starEach [c] X.env := by rfl) (hs2 : starEach (c :: []) X.env = (false, eval c X.env) :: starEach [] X.env := by rfl) (hpl : (backTo pos (starEach [c] X.env)).any (·.1) = false := by rfl) : PE X (.Call (.Name "isinstance" p) [e, c] [] pos) (tCB (rIsi X.K) (tCons te (tCons tc tNil))) :=
  pe_callB call_isi hg hm boot_isi (pa_cons he (pa_cons hc pa_nil hs2) hs) (by decide) (by decide) hs hpl
theorem pe_ty {x : Str} {n : String} {p : Pos} (hm : X.mg x = none) (hv : bootBuiltins x = some (.type n)) (hg : Gl X x := by rfl) (hn : x ≠ "__name__" := by decide) (hd : (x == ("__debug__" : Str)) = false := by decide) : PE X (.Name x p) (tC (.ty n)) := pe_bltn hg hm hv rfl hn hd
theorem boot_int' : bootBuiltins "int" = some (.type "int") := by decide +kernel
theorem boot_bool' : bootBuiltins "bool" = some (.type "bool") := by decide +kernel
end
section
variable {P : Program} {w : World} {K : PySem.W.Frag} {mg : Str → Option Value} {base : Heap} {f fW : Addr} {fd fdW : FuncData} {F' : Str} {qi ti qv tv : Str} {fI fV : Addr}
theorem ok_whole (F : FnP K "is_whole" sWhole f fd) (T : AF K mg) {CX : CXT} : FnOk P w K mg base CX 1 f fd ["value"] (spWhole K) := by
  refine F.ok scWhole (fun vs H Q E h => ?_) (fun cdv A outer s H vs Q E hr h => ?_)
  · obtain ⟨x, b, rfl, _⟩ := h
    rfl
  · obtain ⟨x, b, rfl, ⟨t, b1, b2, ty, k1, k2, rfl⟩, q⟩ := h
    refine ⟨_, pss_one (ps_ret (pe_and (pe_isi T.isi (pv 0) (pe_ty T.int boot_int')) (pe_one (pe_not (pe_isi T.isi (pv 0) (pe_ty T.bool boot_bool')))))), ?_⟩
    refine ⟨_, rfl, x, _, t, _, b1, rfl, .ty "int", ty, k1, b1, rfl, ?_⟩
    cases b1 with
    | false => exact iteF q
    | true => exact iteT ⟨_, rfl, x, _, t, _, b2, rfl, .ty "bool", ty, k2, b2, rfl, q⟩
theorem ok_init (F : FunD K "__init__" "Amount.__init__" (defArgs sInit) (defBody sInit) (defScope sInit) [.int 1] [] f fd) (T : AF K mg) (FW : FnP K "is_whole" sWhole fW fdW) (gW : mg "is_whole" = some (.ref fW))
    (XI : Xb.Txt P.main.file K qi "value" ti (CI K) fI) (htop : (P.main.scope.names.lookup ("super" : Str)).isSome = false) : FnOk P w K mg base (L2.CX P w) 4 f fd ["self", "top", "bottom"] (spInit K) := by
  have GW : FnOk P w K mg base (L2.CX P w) 1 fW fdW ["value"] (spWhole K) := ok_whole FW T
  have bW : Binds K fdW ["value"] [] := FW.bindsN fun _ _ _ _ _ _ us hl => match us, hl with | [_], _ => rfl
  refine F.ok scInit (fun vs H Q E h => ?_) (fun cdv A outer s H vs Q E hr h => ?_)
  · obtain ⟨p, dx, x, y, bx, bz, rfl, _⟩ := h
    rfl
  · obtain ⟨p, dx, x, y, bx, bz, rfl, hp, wx, wy, e1, e2, e3⟩ := h
    have hr1 := hr.mono (show 1 ≤ 3 by decide)
    refine ⟨_, pss_cons (ps_if (pt_not (pt_val (pe_call GW hr1 rfl gW FW.kp bW .nil passL (pa_cons (pv 1) pa_nil)))) (pss_one (Xb.ps_raiseX (W := fun cls d _ H => E cls d H) rfl XI T.gI htop hr1 (takes_of rfl rfl rfl rfl) (pa_cons (pv 1) pa_nil))) pss_nil)
      (pss_cons (ps_if (PW.pt (pw_or (pt_not (pt_val (pe_call GW hr1 rfl gW FW.kp bW .nil passL (pa_cons (pv 2) pa_nil)))) (pw_or1 (pt_cmpR op_eq (pv 2) pe_int (nomark _)))))
        (pss_one (Xb.ps_raiseX (W := fun cls d _ H => E cls d H) rfl XI T.gI htop hr1 (takes_of rfl rfl rfl rfl) (pa_cons (pv 2) pa_nil))) pss_nil)
      (pss_cons (ps_set (i := 3) scInit.nd rfl (Or.inl rfl) (pe_callBfun cr_gcd rfl T.gcd (pa_cons (pv 1) (pa_cons (pv 2) pa_nil))))
      (pss_cons (ps_if (pt_cmpR op_lt (pv 2) pe_int (nomark _)) (pss_one (ps_set (i := 3) scInit.nd rfl (Or.inl rfl) (pe_un un_neg (pv 3)))) pss_nil)
      (pss_cons (ps_fld (pv 0) (pe_op op_fdivX (pv 1) (pv 3)) rfl)
      (pss_one (ps_fld (pv 0) (pe_op op_fdivX (pv 2) (pv 3)) rfl)))))), ?_⟩
    refine ⟨_, rfl, x, bx, rfl, wx, bx, rfl, ?_⟩
    cases bx with
    | false => exact iteT ⟨_, rfl, _, rfl, e1 rfl⟩
    | true =>
      refine iteF ⟨_, rfl, y, bz, rfl, wy, bz, rfl, ?_⟩
      cases bz with
      | false => exact iteT (iteT ⟨_, rfl, _, rfl, e2 rfl rfl⟩)
      | true =>
        obtain ⟨a, b, rfl, rfl, e4, e5⟩ := e3 rfl rfl
        refine iteF ⟨_, rfl, rfl, _, rfl, ?_⟩
        by_cases hb : b = 0
        · subst hb
          refine if_true_of (decide_eq_true rfl) ⟨_, rfl, _, rfl, e4 rfl⟩
        · refine if_false_of (decide_eq_false fun z => hb (V.int.inj z)) ?_
          obtain ⟨e6, e7⟩ := e5 hb
          obtain ⟨m1, m2, m3, m4, m5, m6⟩ := Am.mk a b hb _ rfl
          refine ⟨_, rfl, _, rfl, a, b, rfl, ?_⟩
          have fin : ∀ c : Int, c = (if b < 0 then -((Nat.gcd a.natAbs b.natAbs : Nat) : Int) else ((Nat.gcd a.natAbs b.natAbs : Nat) : Int)) →
              tSeq (sFld K (tVar 0) (tOp (rI (fun _ j => j ≠ 0 ∧ j.natAbs.log2 < 9000) fun i j => .int (i.fdiv j)) (tVar 1) (tVar 3)) "_top") (sFld K (tVar 0) (tOp (rI (fun _ j => j ≠ 0 ∧ j.natAbs.log2 < 9000) fun i j => .int (i.fdiv j)) (tVar 2) (tVar 3)) "_bottom")
                { nx := fun _ H' => Q .non H', rt := Q } [some (.ref p), some (.int a), some (.int b), some (.int c)] H := fun c hc => by
            rw [← hc] at m1 m2 m3 m4 m5 m6
            have lg : c.natAbs.log2 < 9000 := Nat.lt_trans ((Nat.log2_lt (by omega)).mpr (Nat.lt_of_le_of_lt m2 e6)) (by decide)
            refine ⟨_, rfl, _, rfl, _, _, rfl, rfl, ⟨m1, lg⟩, _, rfl, p, CA K, dx, [], rfl, hp, T.cl, T.noT, (by show 0 < 1000; decide), ?_⟩
            refine ⟨_, rfl, _, rfl, _, _, rfl, rfl, ⟨m1, lg⟩, _, rfl, p, CA K, dx, _, rfl, upd_same, T.cl, T.noB, (by show 1 < 1000; decide), ?_⟩
            rw [upd_upd]
            exact e7 _ _ m3 m4 m5 m6
          refine ⟨_, rfl, _, _, rfl, rfl, _, rfl, ?_⟩
          refine ite2 (fun c => ?_) (fun c => ?_)
          · have c2 : b < 0 := of_decide_eq_true c
            refine ⟨_, rfl, _, rfl, ?_⟩
            exact fin _ (by rw [if_pos c2])
          · have c2 : ¬ b < 0 := fun z => c (decide_eq_true z)
            exact fin _ (by rw [if_neg c2])
end

end K02
set_option Elab.async false
set_option linter.all false
set_option maxRecDepth 100000
set_option maxHeartbeats 4000000
namespace K02
open PySem PySem.Spec PyProof.Rows L2 Fa Fb


/-- an argument that counts as an amount -/
def Arg (K : PySem.W.Frag) (H : Hp) (x : V) (t u : Int) (n : Nat) : Prop := IsA K H x t u n ∨ (x = .int t ∧ u = 1 ∧ t.natAbs < 2 ^ n ∧ 1 ≤ n)
/-- one that doesn't -/
def Bad (K : PySem.W.Frag) (H : Hp) (x : V) : Prop := ∃ T, T ∈ tys ∧ TyX K H x (.type T) ∧ Wh K H x false
def spIsA (K : PySem.W.Frag) : Sp := fun vs H Q _ => ∃ x t b1 b2, vs = [x] ∧ TyX K H x t ∧ PySem.W.kitOne K t (.ref (CA K)) = some b1 ∧ Wh K H x b2 ∧ Q (.bl (b1 || b2)) H
def spAs (K : PySem.W.Frag) : Sp := fun vs H Q E => ∃ x, vs = [x] ∧ ((Bad K H x ∧ Err (CV K) x H E) ∨ ∃ t u n, Arg K H x t u n ∧ ∀ y H', Same H H' → IsA K H' y t u n → Q y H')
def spEq (K : PySem.W.Frag) : Sp := fun vs H Q _ => ∃ x y t u n, vs = [x, y] ∧ IsA K H x t u n ∧ ((∃ t2 u2 m, IsA K H y t2 u2 m ∧ Q (.bl (decide (t = t2) && decide (u = u2))) H) ∨ (∃ T, TyX K H y (.type T) ∧ PySem.W.kitOne K (.type T) (.ref (CA K)) = some false ∧ Q (.bl false) H))
section
variable {K : PySem.W.Frag} {mg : Str → Option Value}
theorem make_read (T : AF K mg) {H : Hp} {Q : VK} {E : XK} {a b : Int} {n : Nat} (hb : b ≠ 0) (hs : n ≤ 8000) (ha : a.natAbs < 2 ^ n) (hbn : b.natAbs < 2 ^ n)
    (k : ∀ y H' t u, Same H H' → IsA K H' y t u n → t * b = a * u → Q y H') : ∀ x dx, H x = none → H dx = none → dx ≠ x →
    spInit K [.ref x, .int a, .int b] (upd (upd H dx (.own x)) x (.ins (CA K) dx [])) (fun v H2 => v = .non ∧ Q (.ref x) H2) E := by
  intro x dx hx hdx hne
  refine ⟨x, dx, .int a, .int b, true, true, rfl, upd_same, wh_int _, wh_int _, (fun z => by cases z), (fun _ z => by cases z), fun _ _ => ⟨a, b, rfl, rfl, fun z => absurd z hb, fun _ => ⟨?_, fun t u r e h1 h2 => ⟨rfl, ?_⟩⟩⟩⟩
  · exact Nat.lt_of_lt_of_le hbn (Nat.pow_le_pow_right (by decide) hs)
  · refine k _ _ t u (fun c o z => ?_) ⟨x, dx, rfl, upd_same, r, Nat.lt_of_le_of_lt h1 ha, Nat.lt_of_le_of_lt h2 hbn⟩ e
    rw [upd_upd, upd_ne (ne_of_none z hx), upd_ne (ne_of_none z hdx)]
    exact z
theorem spInit_imp {vs : List V} {H : Hp} {Q Q' : VK} {E : XK} (h : spInit K vs H Q E) (k : ∀ v H2, Q v H2 → Q' v H2) : spInit K vs H Q' E := by
  obtain ⟨p, dx, x, y, bx, bz, e, hp, wx, wy, e1, e2, e3⟩ := h
  refine ⟨p, dx, x, y, bx, bz, e, hp, wx, wy, e1, e2, fun h1 h2 => ?_⟩
  obtain ⟨a, b, ea, eb, f1, f2⟩ := e3 h1 h2
  exact ⟨a, b, ea, eb, f1, fun hb => ⟨(f2 hb).1, fun t u r e4 e5 e6 => k _ _ ((f2 hb).2 t u r e4 e5 e6)⟩⟩
def MadeA (K : PySem.W.Frag) (H H2 : Hp) (x : Addr) (a b : Int) (n : Nat) : Prop := ∃ t u, Same H H2 ∧ IsA K H2 (.ref x) t u n ∧ t * b = a * u
theorem make_fact (T : AF K mg) {H : Hp} {E : XK} {a b : Int} {n : Nat} (hb : b ≠ 0) (hs : n ≤ 8000) (ha : a.natAbs < 2 ^ n) (hbn : b.natAbs < 2 ^ n) {x dx : Addr} (hx : H x = none) (hdx : H dx = none) (hne : dx ≠ x) :
    spInit K [.ref x, .int a, .int b] (upd (upd H dx (.own x)) x (.ins (CA K) dx [])) (fun v H2 => v = .non ∧ MadeA K H H2 x a b n) E := by
  refine ⟨x, dx, .int a, .int b, true, true, rfl, upd_same, wh_int _, wh_int _, (fun z => by cases z), (fun _ z => by cases z), fun _ _ => ⟨a, b, rfl, rfl, fun z => absurd z hb, fun _ => ⟨?_, fun t u r e h1 h2 => ⟨rfl, t, u, fun c o z => ?_, ⟨x, dx, rfl, upd_same, r, Nat.lt_of_le_of_lt h1 ha, Nat.lt_of_le_of_lt h2 hbn⟩, e⟩⟩⟩⟩
  · exact Nat.lt_of_lt_of_le hbn (Nat.pow_le_pow_right (by decide) hs)
  · rw [upd_upd, upd_ne (ne_of_none z hx), upd_ne (ne_of_none z hdx)]
    exact z
theorem one_pow {n : Nat} (h : 1 ≤ n) : (1 : Nat) < 2 ^ n := Nat.one_lt_two_pow (by omega)
theorem lt_pow_mul {a b n m : Nat} (h1 : a < 2 ^ n) (h2 : b < 2 ^ m) : a * b < 2 ^ (n + m) := by
  rw [Nat.pow_add]
  exact Nat.mul_lt_mul'' h1 h2
theorem mulW_of {i j : Int} {n m : Nat} (h1 : i.natAbs < 2 ^ n) (h2 : j.natAbs < 2 ^ m) (h : n + m < 900000) : CMulW i j := by
  have l : ∀ (x : Int) (k : Nat), x.natAbs < 2 ^ k → x.natAbs.log2 ≤ k := fun x k hx => by
    by_cases z : x.natAbs = 0
    · rw [z]
      exact Nat.zero_le _
    · exact Nat.le_of_lt ((Nat.log2_lt z).mpr hx)
  have a1 := l i n h1
  have a2 := l j m h2
  show i.natAbs.log2 + j.natAbs.log2 < 1000000
  omega
theorem abs_mul_lt {i j : Int} {n m : Nat} (h1 : i.natAbs < 2 ^ n) (h2 : j.natAbs < 2 ^ m) : (i * j).natAbs < 2 ^ (n + m) := by
  rw [Int.natAbs_mul]
  exact lt_pow_mul h1 h2
theorem abs_add_lt {i j : Int} {n : Nat} (h1 : i.natAbs < 2 ^ n) (h2 : j.natAbs < 2 ^ n) : (i + j).natAbs < 2 ^ (n + 1) := by
  have := Int.natAbs_add_le i j
  rw [Nat.pow_succ]
  omega
theorem abs_sub_lt {i j : Int} {n : Nat} (h1 : i.natAbs < 2 ^ n) (h2 : j.natAbs < 2 ^ n) : (i - j).natAbs < 2 ^ (n + 1) := by
  have := Int.natAbs_sub_le i j
  rw [Nat.pow_succ]
  omega
theorem pow_step {a n m : Nat} (h : a < 2 ^ n) (hm : n ≤ m) : a < 2 ^ m := Nat.lt_of_lt_of_le h (Nat.pow_le_pow_right (by decide) hm)
theorem IsA.one (h : IsA K H x t u n) : 1 ≤ n := by
  obtain ⟨p, dx, _, _, ⟨h1, _⟩, _, h2⟩ := h
  rcases Nat.eq_zero_or_pos n with z | z
  · subst z
    have : u.natAbs < 1 := h2
    omega
  · exact z
end
section
variable {P : Program} {w : World} {K : PySem.W.Frag} {mg : Str → Option Value} {base : Heap} {f fW : Addr} {fd fdW fdI fdA : FuncData} {qi ti qv tv : Str} {fI fV fAs : Addr}
theorem ok_top (F : FunD K "top" "Amount.top" (defArgs sTop) (defBody sTop) (defScope sTop) [] [] f fd) (T : AF K mg) {CX : CXT} : FnOk P w K mg base CX 1 f fd ["self"] (getSp (CA K) "_top") := by
  refine F.ok scTop (fun vs H Q E h => ?_) (fun cdv A outer s H vs Q E hr h => ?_)
  · obtain ⟨a, dx, fs, v, rfl, _⟩ := h
    rfl
  · obtain ⟨a, dx, fs, v, rfl, h1, h2, q⟩ := h
    exact ⟨_, pss_one (ps_ret (pe_fld (pv 0) rfl)), .ref a, rfl, a, CA K, dx, fs, v, rfl, h1, T.cl, T.noT, h2, q⟩
theorem ok_bot (F : FunD K "bottom" "Amount.bottom" (defArgs sBot) (defBody sBot) (defScope sBot) [] [] f fd) (T : AF K mg) {CX : CXT} : FnOk P w K mg base CX 1 f fd ["self"] (getSp (CA K) "_bottom") := by
  refine F.ok scBot (fun vs H Q E h => ?_) (fun cdv A outer s H vs Q E hr h => ?_)
  · obtain ⟨a, dx, fs, v, rfl, _⟩ := h
    rfl
  · obtain ⟨a, dx, fs, v, rfl, h1, h2, q⟩ := h
    exact ⟨_, pss_one (ps_ret (pe_fld (pv 0) rfl)), .ref a, rfl, a, CA K, dx, fs, v, rfl, h1, T.cl, T.noB, h2, q⟩
theorem ok_eq (F : FunD K "__eq__" "Amount.__eq__" (defArgs sEq) (defBody sEq) (defScope sEq) [] [] f fd) (T : AF K mg) {CX : CXT} : FnOk P w K mg base CX 1 f fd ["self", "other"] (spEq K) := by
  refine F.ok scEq (fun vs H Q E h => ?_) (fun cdv A outer s H vs Q E hr h => ?_)
  · obtain ⟨x, y, t, u, n, rfl, _⟩ := h
    rfl
  · obtain ⟨x, y, t, u, n, rfl, ⟨p, dx, rfl, hp, _⟩, q⟩ := h
    refine ⟨_, pss_one (ps_ret (pe_and (pe_isi T.isi (pv 1) (pe_glob (v := .ref (CA K)) rfl T.g rfl)) (pe_and (pe_cmpR op_eq (pe_fld (pv 0) rfl) (pe_fld (pv 1) rfl) (nomark _)) (pe_one (pe_cmpR op_eq (pe_fld (pv 0) rfl) (pe_fld (pv 1) rfl) (nomark _)))))), ?_⟩
    rcases q with ⟨t2, u2, m, ⟨p2, dx2, rfl, hp2, _⟩, q⟩ | ⟨Ty, ty, hk, q⟩
    · refine ⟨_, rfl, .ref p2, _, _, _, true, rfl, .own _, T.ty hp2, T.kS, true, rfl, iteT ?_⟩
      refine ⟨_, rfl, p, CA K, dx, _, _, rfl, hp, T.cl, T.noT, fl_top _ _, _, rfl, p2, CA K, dx2, _, _, rfl, hp2, T.cl, T.noT, fl_top _ _, rfl, decide (V.int t = V.int t2), rfl, ?_⟩
      by_cases e : t = t2
      · subst e
        refine if_true_of (decide_eq_true rfl) ?_
        refine ⟨_, rfl, p, CA K, dx, _, _, rfl, hp, T.cl, T.noB, fl_bot _ _, _, rfl, p2, CA K, dx2, _, _, rfl, hp2, T.cl, T.noB, fl_bot _ _, rfl, ?_⟩
        rw [decide_eq_true rfl, Bool.true_and] at q
        by_cases e2 : u = u2
        · subst e2
          rw [decide_eq_true rfl] at q
          show Q (.bl (decide (V.int u = V.int u))) H
          rw [decide_eq_true rfl]
          exact q
        · rw [decide_eq_false e2] at q
          show Q (.bl (decide (V.int u = V.int u2))) H
          rw [decide_eq_false fun z => e2 (V.int.inj z)]
          exact q
      · refine if_false_of (decide_eq_false fun z => e (V.int.inj z)) ?_
        rw [decide_eq_false e, Bool.false_and] at q
        exact q
    · exact ⟨_, rfl, y, _, _, _, false, rfl, .own _, ty, hk, false, rfl, iteF q⟩
theorem ok_isA (F : FnP K "is_amount" sIsA f fd) (T : AF K mg) (FW : FnP K "is_whole" sWhole fW fdW) (gW : mg "is_whole" = some (.ref fW)) : FnOk P w K mg base (L2.CX P w) 2 f fd ["value"] (spIsA K) := by
  have GW : FnOk P w K mg base (L2.CX P w) 1 fW fdW ["value"] (spWhole K) := ok_whole FW T
  have bW : Binds K fdW ["value"] [] := FW.bindsN fun _ _ _ _ _ _ us hl => match us, hl with | [_], _ => rfl
  refine F.ok scIsA (fun vs H Q E h => ?_) (fun cdv A outer s H vs Q E hr h => ?_)
  · obtain ⟨x, t, b1, b2, rfl, _⟩ := h
    rfl
  · obtain ⟨x, t, b1, b2, rfl, ty, k1, wh, q⟩ := h
    refine ⟨_, pss_one (ps_ret (pe_or (pe_isi T.isi (pv 0) (pe_glob (v := .ref (CA K)) rfl T.g rfl)) (pe_one (pe_call GW hr rfl gW FW.kp bW .nil passL (pa_cons (pv 0) pa_nil))))), ?_⟩
    refine ⟨_, rfl, x, _, t, _, b1, rfl, .own _, ty, k1, b1, rfl, ?_⟩
    cases b1 with
    | true => exact iteT q
    | false => exact iteF ⟨_, rfl, x, b2, rfl, wh, q⟩
theorem ok_as (F : FnP K "as_amount" sAsA f fd) (T : AF K mg) (FW : FnP K "is_whole" sWhole fW fdW) (gW : mg "is_whole" = some (.ref fW)) (FA : FnP K "is_amount" sIsA fAs fdA) (gA : mg "is_amount" = some (.ref fAs))
    (FI : FunD K "__init__" "Amount.__init__" (defArgs sInit) (defBody sInit) (defScope sInit) [.int 1] [] (aI K) fdI)
    (XI : Xb.Txt P.main.file K qi "value" ti (CI K) fI) (XV : Xb.Txt P.main.file K qv "value" tv (CV K) fV) (htop : (P.main.scope.names.lookup ("super" : Str)).isSome = false) : FnOk P w K mg base (L2.CX P w) 6 f fd ["value"] (spAs K) := by
  have GA : FnOk P w K mg base (L2.CX P w) 2 fAs fdA ["value"] (spIsA K) := ok_isA FA T FW gW
  have bA : Binds K fdA ["value"] [] := FA.bindsN fun _ _ _ _ _ _ us hl => match us, hl with | [_], _ => rfl
  have GI : FnOk P w K mg base (L2.CX P w) 4 (aI K) fdI ["self", "top", "bottom"] (spInit K) := ok_init FI T FW gW XI htop
  obtain ⟨ds, hds, bI⟩ := FI.binds1 (ps := ["self", "top", "bottom"]) 2 0 (by simp) rfl (fun _ _ _ _ _ _ _ us its hu hi => match us, its, hu, hi with | [_, _], [_], _, _ => ⟨_, rfl, rfl⟩)
  refine F.ok scAsA (fun vs H Q E h => ?_) (fun cdv A outer s H vs Q E hr h => ?_)
  · obtain ⟨x, rfl, _⟩ := h
    rfl
  · obtain ⟨x, rfl, q⟩ := h
    have hr1 := hr.mono (show 2 ≤ 5 by decide)
    refine ⟨_, pss_cons (ps_if (pt_not (pt_val (pe_call GA hr1 rfl gA FA.kp bA .nil passL (pa_cons (pv 0) pa_nil)))) (pss_one (Xb.ps_raiseX (W := fun cls d _ H => E cls d H) rfl XV T.gV htop hr1 (takes_of rfl rfl rfl rfl) (pa_cons (pv 0) pa_nil))) pss_nil)
      (pss_one (ps_ret (pe_ifExp (pt_val (pe_isi T.isi (pv 0) (pe_glob (v := .ref (CA K)) rfl T.g rfl))) (pv 0) (pe_make T.mkA GI hr rfl T.g bI hds passL (pa_cons (pv 0) pa_nil))))), ?_⟩
    rcases q with ⟨⟨Ty, hT, ty, wh⟩, er⟩ | ⟨t, u, n, ar, q⟩
    · refine ⟨_, rfl, x, _, false, false, rfl, ty, T.kT Ty hT, wh, false, rfl, iteT ⟨_, rfl, _, rfl, er⟩⟩
    · rcases ar with ia | ⟨rfl, rfl, hn, h1⟩
      · obtain ⟨p, dx, rfl, hp, r⟩ := id ia
        refine ⟨_, rfl, .ref p, _, true, false, rfl, T.ty hp, T.kS, T.wh hp, true, rfl, iteF ?_⟩
        exact ⟨_, rfl, .ref p, _, _, _, true, rfl, .own _, T.ty hp, T.kS, true, rfl, iteT ⟨_, rfl, q _ _ (Same.refl _) ia⟩⟩
      · have kI := T.kT "int" (by simp [tys])
        refine ⟨_, rfl, .int t, _, false, true, rfl, .base (.int t), kI, wh_int t, true, rfl, iteF ?_⟩
        refine ⟨_, rfl, .int t, _, _, _, false, rfl, .own _, .base (.int t), kI, false, rfl, iteF ⟨_, rfl, ?_⟩⟩
        intro y dy hy hdy hne
        refine ⟨y, dy, .int t, .int 1, true, true, rfl, upd_same, wh_int _, wh_int _, (fun z => by cases z), (fun _ z => by cases z), fun _ _ => ⟨t, 1, rfl, rfl, (fun z => by cases z), fun _ => ⟨by decide, fun t' u' r e h2 h3 => ⟨rfl, ?_⟩⟩⟩⟩
        have eu : u' = 1 := by
          have r0 := r.1
          have : u'.natAbs ≤ 1 := h3
          omega
        subst eu
        have et : t' = t := by omega
        subst et
        refine q _ _ (fun c o z => ?_) ⟨y, dy, rfl, upd_same, r, hn, by show (1 : Nat) < _; exact one_pow h1⟩
        rw [upd_upd, upd_ne (ne_of_none z hy), upd_ne (ne_of_none z hdy)]
        exact z
end

end K02
set_option Elab.async false
set_option linter.all false
set_option maxRecDepth 100000
set_option maxHeartbeats 4000000
set_option exponentiation.threshold 100000
namespace K02
open PySem PySem.Spec PyProof.Rows L2 Fa Fb


theorem IsA.mono {K : PySem.W.Frag} {H : Hp} {x : V} {t u : Int} {n m : Nat} (h : IsA K H x t u n) (e : n ≤ m) : IsA K H x t u m := by
  obtain ⟨p, dx, h1, h2, h3, h4, h5⟩ := h
  exact ⟨p, dx, h1, h2, h3, pow_step h4 e, pow_step h5 e⟩
abbrev gFl (K : PySem.W.Frag) (i : Nat) (f : Str) : TE := tFld K (tVar i) f
/-- a two-place operation: num and den are the fraction that is due -/
def spOp (K : PySem.W.Frag) (num den : Int → Int → Int → Int → Int) : Sp := fun vs H Q E => ∃ x y t u n, vs = [x, y] ∧ IsA K H x t u n ∧ ((Bad K H y ∧ Err (CV K) y H E) ∨ ∃ t2 u2 m, Arg K H y t2 u2 m ∧ n + m < 7000 ∧
  ∀ z H' t' u', Same H H' → IsA K H' z t' u' (n + m + 1) → t' * den t u t2 u2 = num t u t2 u2 * u' → Q z H')
def spDiv (K : PySem.W.Frag) : Sp := fun vs H Q E => ∃ x y t u n, vs = [x, y] ∧ IsA K H x t u n ∧ ((Bad K H y ∧ Err (CV K) y H E) ∨ ∃ t2 u2 m, Arg K H y t2 u2 m ∧ n + m < 7000 ∧
  (t2 = 0 → ∀ H', Same H H' → Err (CV K) y H' E) ∧ (t2 ≠ 0 → ∀ z H' t' u', Same H H' → IsA K H' z t' u' (n + m + 1) → t' * (u * t2) = (t * u2) * u' → Q z H'))
def spCmp (K : PySem.W.Frag) : Sp := fun vs H Q E => ∃ x y t u n, vs = [x, y] ∧ IsA K H x t u n ∧ ((Bad K H y ∧ Err (CV K) y H E) ∨ ∃ t2 u2 m, Arg K H y t2 u2 m ∧ n + m < 7000 ∧
  ∀ H', Same H H' → Q (.int (if t * u2 - t2 * u = 0 then 0 else if 0 < t * u2 - t2 * u then 1 else -1)) H')
def spUn (K : PySem.W.Frag) (g : Int → Int) : Sp := fun vs H Q _ => ∃ x t u n, vs = [x] ∧ IsA K H x t u n ∧ n ≤ 8000 ∧ ∀ z H' t' u', Same H H' → IsA K H' z t' u' n → t' * u = g t * u' → Q z H'
section
variable {P : Program} {w : World} {K : PySem.W.Frag} {mg : Str → Option Value} {base : Heap} {f fS : Addr} {fd fdS fdI : FuncData} {qv tv : Str} {fV : Addr}

abbrev sAdd : Stmt := inClass (top 9) 4
theorem scAdd : FnScope ["self", "other", "right"] ["self", "other"] (defScope sAdd) := ⟨rfl, rfl, rfl, by decide +kernel, rfl, by decide +kernel, by decide +kernel⟩
theorem ok_add (F : FunD K "__add__" "Amount.__add__" (defArgs sAdd) (defBody sAdd) (defScope sAdd) [] [] f fd) (T : AF K mg) (GS : FnOk P w K mg base (L2.CX P w) 6 fS fdS ["value"] (spAs K)) (gS : mg "as_amount" = some (.ref fS)) (kS : PySem.W.keepIn K (.ref fS) = true) (bS : Binds K fdS ["value"] [])
    (GI : FnOk P w K mg base (L2.CX P w) 4 (aI K) fdI ["self", "top", "bottom"] (spInit K)) (bI : Binds K fdI ["self", "top", "bottom"] []) : FnOk P w K mg base (L2.CX P w) 7 f fd ["self", "other"] (spOp K (fun t u t2 u2 => t * u2 + t2 * u) (fun _ u _ u2 => u * u2)) := by
  refine F.ok scAdd (fun vs H Q E h => ?_) (fun cdv A outer s H vs Q E hr h => ?_)
  · obtain ⟨x, y, t, u, n, rfl, _⟩ := h
    rfl
  · obtain ⟨x, y, t, u, n, rfl, ix, q⟩ := h
    have hr1 := hr.mono (show 5 ≤ 6 by decide)
    refine ⟨_, pss_cons (ps_set (i := 2) scAdd.nd rfl (Or.inl rfl) (pe_callS GS hr rfl gS kS bS (fun σ => passAt (W := fun cls d _ H => E cls d H) (takes_of rfl rfl rfl rfl) σ) (pa_cons (pv 1) pa_nil)))
      (pss_one (ps_ret (pe_make T.mkA GI hr1 rfl T.g bI .nil passL (pa_cons (pe_op op_add (pe_op op_mulW (pe_fld (pv 0) rfl) (pe_fld (pv 2) rfl)) (pe_op op_mulW (pe_fld (pv 2) rfl) (pe_fld (pv 0) rfl))) (pa_cons (pe_op op_mulW (pe_fld (pv 0) rfl) (pe_fld (pv 2) rfl)) pa_nil))))), ?_⟩
    refine ⟨_, rfl, y, rfl, ?_⟩
    rcases q with ⟨hb, er⟩ | ⟨t2, u2, m, ar, hnm, q⟩
    · exact .inl ⟨hb, er⟩
    · refine .inr ⟨t2, u2, m, ar, fun z H' sm iz => ?_⟩
      have ix' := ix.same sm
      obtain ⟨p, dx, rfl, hp, r, b1, b2⟩ := id ix'
      obtain ⟨p2, dx2, rfl, hp2, r2, b3, b4⟩ := id iz
      refine ⟨_, rfl, p, CA K, dx, _, _, rfl, hp, T.cl, T.noT, fl_top _ _, ?_⟩
      refine ⟨_, rfl, p2, CA K, dx2, _, _, rfl, hp2, T.cl, T.noB, fl_bot _ _, ?_⟩
      refine ⟨_, _, rfl, rfl, mulW_of b1 b4 (by omega), ?_⟩
      refine ⟨_, rfl, p2, CA K, dx2, _, _, rfl, hp2, T.cl, T.noT, fl_top _ _, ?_⟩
      refine ⟨_, rfl, p, CA K, dx, _, _, rfl, hp, T.cl, T.noB, fl_bot _ _, ?_⟩
      refine ⟨_, _, rfl, rfl, mulW_of b3 b2 (by omega), _, _, rfl, rfl, ?_⟩
      refine ⟨_, rfl, p, CA K, dx, _, _, rfl, hp, T.cl, T.noB, fl_bot _ _, ?_⟩
      refine ⟨_, rfl, p2, CA K, dx2, _, _, rfl, hp2, T.cl, T.noB, fl_bot _ _, ?_⟩
      refine ⟨_, _, rfl, rfl, mulW_of b2 b4 (by omega), ?_⟩
      have hu : u * u2 ≠ 0 := Int.mul_ne_zero (by have := r.1; omega) (by have := r2.1; omega)
      refine make_read T (n := n + m + 1) hu (by omega) ?_ ?_ fun y' H2 t' u' s2 i2 e => q y' H2 t' u' (sm.trans s2) i2 e
      · exact abs_add_lt (abs_mul_lt b1 b4) (by rw [Nat.add_comm]; exact abs_mul_lt b3 b2)
      · exact pow_step (abs_mul_lt b2 b4) (by omega)

abbrev sSub : Stmt := inClass (top 9) 5
theorem scSub : FnScope ["self", "other", "right"] ["self", "other"] (defScope sSub) := ⟨rfl, rfl, rfl, by decide +kernel, rfl, by decide +kernel, by decide +kernel⟩
theorem ok_sub (F : FunD K "__sub__" "Amount.__sub__" (defArgs sSub) (defBody sSub) (defScope sSub) [] [] f fd) (T : AF K mg) (GS : FnOk P w K mg base (L2.CX P w) 6 fS fdS ["value"] (spAs K)) (gS : mg "as_amount" = some (.ref fS)) (kS : PySem.W.keepIn K (.ref fS) = true) (bS : Binds K fdS ["value"] [])
    (GI : FnOk P w K mg base (L2.CX P w) 4 (aI K) fdI ["self", "top", "bottom"] (spInit K)) (bI : Binds K fdI ["self", "top", "bottom"] []) : FnOk P w K mg base (L2.CX P w) 7 f fd ["self", "other"] (spOp K (fun t u t2 u2 => t * u2 - t2 * u) (fun _ u _ u2 => u * u2)) := by
  refine F.ok scSub (fun vs H Q E h => ?_) (fun cdv A outer s H vs Q E hr h => ?_)
  · obtain ⟨x, y, t, u, n, rfl, _⟩ := h
    rfl
  · obtain ⟨x, y, t, u, n, rfl, ix, q⟩ := h
    have hr1 := hr.mono (show 5 ≤ 6 by decide)
    refine ⟨_, pss_cons (ps_set (i := 2) scSub.nd rfl (Or.inl rfl) (pe_callS GS hr rfl gS kS bS (fun σ => passAt (W := fun cls d _ H => E cls d H) (takes_of rfl rfl rfl rfl) σ) (pa_cons (pv 1) pa_nil)))
      (pss_one (ps_ret (pe_make T.mkA GI hr1 rfl T.g bI .nil passL (pa_cons (pe_op op_sub (pe_op op_mulW (pe_fld (pv 0) rfl) (pe_fld (pv 2) rfl)) (pe_op op_mulW (pe_fld (pv 2) rfl) (pe_fld (pv 0) rfl))) (pa_cons (pe_op op_mulW (pe_fld (pv 0) rfl) (pe_fld (pv 2) rfl)) pa_nil))))), ?_⟩
    refine ⟨_, rfl, y, rfl, ?_⟩
    rcases q with ⟨hb, er⟩ | ⟨t2, u2, m, ar, hnm, q⟩
    · exact .inl ⟨hb, er⟩
    · refine .inr ⟨t2, u2, m, ar, fun z H' sm iz => ?_⟩
      have ix' := ix.same sm
      obtain ⟨p, dx, rfl, hp, r, b1, b2⟩ := id ix'
      obtain ⟨p2, dx2, rfl, hp2, r2, b3, b4⟩ := id iz
      refine ⟨_, rfl, p, CA K, dx, _, _, rfl, hp, T.cl, T.noT, fl_top _ _, ?_⟩
      refine ⟨_, rfl, p2, CA K, dx2, _, _, rfl, hp2, T.cl, T.noB, fl_bot _ _, ?_⟩
      refine ⟨_, _, rfl, rfl, mulW_of b1 b4 (by omega), ?_⟩
      refine ⟨_, rfl, p2, CA K, dx2, _, _, rfl, hp2, T.cl, T.noT, fl_top _ _, ?_⟩
      refine ⟨_, rfl, p, CA K, dx, _, _, rfl, hp, T.cl, T.noB, fl_bot _ _, ?_⟩
      refine ⟨_, _, rfl, rfl, mulW_of b3 b2 (by omega), _, _, rfl, rfl, ?_⟩
      refine ⟨_, rfl, p, CA K, dx, _, _, rfl, hp, T.cl, T.noB, fl_bot _ _, ?_⟩
      refine ⟨_, rfl, p2, CA K, dx2, _, _, rfl, hp2, T.cl, T.noB, fl_bot _ _, ?_⟩
      refine ⟨_, _, rfl, rfl, mulW_of b2 b4 (by omega), ?_⟩
      have hu : u * u2 ≠ 0 := Int.mul_ne_zero (by have := r.1; omega) (by have := r2.1; omega)
      refine make_read T (n := n + m + 1) hu (by omega) ?_ ?_ fun y' H2 t' u' s2 i2 e => q y' H2 t' u' (sm.trans s2) i2 e
      · exact abs_sub_lt (abs_mul_lt b1 b4) (by rw [Nat.add_comm]; exact abs_mul_lt b3 b2)
      · exact pow_step (abs_mul_lt b2 b4) (by omega)

abbrev sMul : Stmt := inClass (top 9) 6
theorem scMul : FnScope ["self", "other", "right"] ["self", "other"] (defScope sMul) := ⟨rfl, rfl, rfl, by decide +kernel, rfl, by decide +kernel, by decide +kernel⟩
theorem ok_mul (F : FunD K "__mul__" "Amount.__mul__" (defArgs sMul) (defBody sMul) (defScope sMul) [] [] f fd) (T : AF K mg) (GS : FnOk P w K mg base (L2.CX P w) 6 fS fdS ["value"] (spAs K)) (gS : mg "as_amount" = some (.ref fS)) (kS : PySem.W.keepIn K (.ref fS) = true) (bS : Binds K fdS ["value"] [])
    (GI : FnOk P w K mg base (L2.CX P w) 4 (aI K) fdI ["self", "top", "bottom"] (spInit K)) (bI : Binds K fdI ["self", "top", "bottom"] []) : FnOk P w K mg base (L2.CX P w) 7 f fd ["self", "other"] (spOp K (fun t _ t2 _ => t * t2) (fun _ u _ u2 => u * u2)) := by
  refine F.ok scMul (fun vs H Q E h => ?_) (fun cdv A outer s H vs Q E hr h => ?_)
  · obtain ⟨x, y, t, u, n, rfl, _⟩ := h
    rfl
  · obtain ⟨x, y, t, u, n, rfl, ix, q⟩ := h
    have hr1 := hr.mono (show 5 ≤ 6 by decide)
    refine ⟨_, pss_cons (ps_set (i := 2) scMul.nd rfl (Or.inl rfl) (pe_callS GS hr rfl gS kS bS (fun σ => passAt (W := fun cls d _ H => E cls d H) (takes_of rfl rfl rfl rfl) σ) (pa_cons (pv 1) pa_nil)))
      (pss_one (ps_ret (pe_make T.mkA GI hr1 rfl T.g bI .nil passL (pa_cons (pe_op op_mulW (pe_fld (pv 0) rfl) (pe_fld (pv 2) rfl)) (pa_cons (pe_op op_mulW (pe_fld (pv 0) rfl) (pe_fld (pv 2) rfl)) pa_nil))))), ?_⟩
    refine ⟨_, rfl, y, rfl, ?_⟩
    rcases q with ⟨hb, er⟩ | ⟨t2, u2, m, ar, hnm, q⟩
    · exact .inl ⟨hb, er⟩
    · refine .inr ⟨t2, u2, m, ar, fun z H' sm iz => ?_⟩
      have ix' := ix.same sm
      obtain ⟨p, dx, rfl, hp, r, b1, b2⟩ := id ix'
      obtain ⟨p2, dx2, rfl, hp2, r2, b3, b4⟩ := id iz
      refine ⟨_, rfl, p, CA K, dx, _, _, rfl, hp, T.cl, T.noT, fl_top _ _, ?_⟩
      refine ⟨_, rfl, p2, CA K, dx2, _, _, rfl, hp2, T.cl, T.noT, fl_top _ _, ?_⟩
      refine ⟨_, _, rfl, rfl, mulW_of b1 b3 (by omega), ?_⟩
      refine ⟨_, rfl, p, CA K, dx, _, _, rfl, hp, T.cl, T.noB, fl_bot _ _, ?_⟩
      refine ⟨_, rfl, p2, CA K, dx2, _, _, rfl, hp2, T.cl, T.noB, fl_bot _ _, ?_⟩
      refine ⟨_, _, rfl, rfl, mulW_of b2 b4 (by omega), ?_⟩
      have hu : u * u2 ≠ 0 := Int.mul_ne_zero (by have := r.1; omega) (by have := r2.1; omega)
      refine make_read T (n := n + m + 1) hu (by omega) ?_ ?_ fun y' H2 t' u' s2 i2 e => q y' H2 t' u' (sm.trans s2) i2 e
      · exact pow_step (abs_mul_lt b1 b3) (by omega)
      · exact pow_step (abs_mul_lt b2 b4) (by omega)
end

end K02
set_option Elab.async false
set_option linter.all false
set_option maxRecDepth 100000
set_option maxHeartbeats 4000000
set_option exponentiation.threshold 100000
namespace K02
open PySem PySem.Spec PyProof.Rows L2 Fa Fb


abbrev sNeg : Stmt := inClass (top 9) 7
abbrev sAbs : Stmt := inClass (top 9) 8
abbrev sDiv : Stmt := inClass (top 9) 9
abbrev sCmp : Stmt := inClass (top 9) 10
theorem scNeg : FnScope ["self"] ["self"] (defScope sNeg) := ⟨rfl, rfl, rfl, by decide +kernel, rfl, by decide +kernel, by decide +kernel⟩
theorem scAbs : FnScope ["self"] ["self"] (defScope sAbs) := ⟨rfl, rfl, rfl, by decide +kernel, rfl, by decide +kernel, by decide +kernel⟩
theorem scDiv : FnScope ["self", "other", "right"] ["self", "other"] (defScope sDiv) := ⟨rfl, rfl, rfl, by decide +kernel, rfl, by decide +kernel, by decide +kernel⟩
theorem scCmp : FnScope ["self", "other", "right", "difference"] ["self", "other"] (defScope sCmp) := ⟨rfl, rfl, rfl, by decide +kernel, rfl, by decide +kernel, by decide +kernel⟩
section
variable {P : Program} {w : World} {K : PySem.W.Frag} {mg : Str → Option Value} {base : Heap} {f fS : Addr} {fd fdS fdI : FuncData} {qv tv : Str} {fV : Addr}
theorem ok_neg (F : FunD K "__neg__" "Amount.__neg__" (defArgs sNeg) (defBody sNeg) (defScope sNeg) [] [] f fd) (T : AF K mg) (GI : FnOk P w K mg base (L2.CX P w) 4 (aI K) fdI ["self", "top", "bottom"] (spInit K)) (bI : Binds K fdI ["self", "top", "bottom"] []) : FnOk P w K mg base (L2.CX P w) 6 f fd ["self"] (spUn K fun t => -t) := by
  refine F.ok scNeg (fun vs H Q E h => ?_) (fun cdv A outer s H vs Q E hr h => ?_)
  · obtain ⟨x, t, u, n, rfl, _⟩ := h
    rfl
  · obtain ⟨x, t, u, n, rfl, ix, hn, q⟩ := h
    obtain ⟨p, dx, rfl, hp, r, b1, b2⟩ := id ix
    refine ⟨_, pss_one (ps_ret (pe_make T.mkA GI hr rfl T.g bI .nil passL (pa_cons (pe_un un_neg (pe_fld (pv 0) rfl)) (pa_cons (pe_fld (pv 0) rfl) pa_nil)))), ?_⟩
    refine ⟨_, rfl, p, CA K, dx, _, _, rfl, hp, T.cl, T.noT, fl_top _ _, _, rfl, ?_⟩
    refine ⟨_, rfl, p, CA K, dx, _, _, rfl, hp, T.cl, T.noB, fl_bot _ _, ?_⟩
    exact make_read T (n := n) (by have := r.1; omega) hn (by rw [Int.natAbs_neg]; exact b1) b2 fun y' H2 t' u' s2 i2 e => q y' H2 t' u' s2 i2 e
theorem ok_abs (F : FunD K "__abs__" "Amount.__abs__" (defArgs sAbs) (defBody sAbs) (defScope sAbs) [] [] f fd) (T : AF K mg) (mA : mg "abs" = none) (GI : FnOk P w K mg base (L2.CX P w) 4 (aI K) fdI ["self", "top", "bottom"] (spInit K)) (bI : Binds K fdI ["self", "top", "bottom"] []) : FnOk P w K mg base (L2.CX P w) 6 f fd ["self"] (spUn K fun t => if t < 0 then -t else t) := by
  refine F.ok scAbs (fun vs H Q E h => ?_) (fun cdv A outer s H vs Q E hr h => ?_)
  · obtain ⟨x, t, u, n, rfl, _⟩ := h
    rfl
  · obtain ⟨x, t, u, n, rfl, ix, hn, q⟩ := h
    obtain ⟨p, dx, rfl, hp, r, b1, b2⟩ := id ix
    refine ⟨_, pss_one (ps_ret (pe_make T.mkA GI hr rfl T.g bI .nil passL (pa_cons (pe_callB call_abs rfl mA (by decide +kernel) (pa_cons (pe_fld (pv 0) rfl) pa_nil)) (pa_cons (pe_fld (pv 0) rfl) pa_nil)))), ?_⟩
    refine ⟨_, rfl, p, CA K, dx, _, _, rfl, hp, T.cl, T.noT, fl_top _ _, _, rfl, ?_⟩
    refine ⟨_, rfl, p, CA K, dx, _, _, rfl, hp, T.cl, T.noB, fl_bot _ _, ?_⟩
    exact make_read T (n := n) (by have := r.1; omega) hn (by split <;> omega) b2 fun y' H2 t' u' s2 i2 e => q y' H2 t' u' s2 i2 e
theorem ok_div (F : FunD K "divided" "Amount.divided" (defArgs sDiv) (defBody sDiv) (defScope sDiv) [] [] f fd) (T : AF K mg) (GS : FnOk P w K mg base (L2.CX P w) 6 fS fdS ["value"] (spAs K)) (gS : mg "as_amount" = some (.ref fS)) (kS : PySem.W.keepIn K (.ref fS) = true) (bS : Binds K fdS ["value"] [])
    (GI : FnOk P w K mg base (L2.CX P w) 4 (aI K) fdI ["self", "top", "bottom"] (spInit K)) (bI : Binds K fdI ["self", "top", "bottom"] []) (XV : Xb.Txt P.main.file K qv "value" tv (CV K) fV) (htop : (P.main.scope.names.lookup ("super" : Str)).isSome = false) :
    FnOk P w K mg base (L2.CX P w) 7 f fd ["self", "other"] (spDiv K) := by
  refine F.ok scDiv (fun vs H Q E h => ?_) (fun cdv A outer s H vs Q E hr h => ?_)
  · obtain ⟨x, y, t, u, n, rfl, _⟩ := h
    rfl
  · obtain ⟨x, y, t, u, n, rfl, ix, q⟩ := h
    have hr1 := hr.mono (show 5 ≤ 6 by decide)
    refine ⟨_, pss_cons (ps_set (i := 2) scDiv.nd rfl (Or.inl rfl) (pe_callS GS hr rfl gS kS bS (fun σ => passAt (W := fun cls d _ H => E cls d H) (takes_of rfl rfl rfl rfl) σ) (pa_cons (pv 1) pa_nil)))
      (pss_cons (ps_if (pt_cmpR op_eq (pe_fld (pv 2) rfl) pe_int (nomark _)) (pss_one (Xb.ps_raiseX (W := fun cls d _ H => E cls d H) rfl XV T.gV htop hr1 (takes_of rfl rfl rfl rfl) (pa_cons (pv 1) pa_nil))) pss_nil)
      (pss_one (ps_ret (pe_make T.mkA GI hr1 rfl T.g bI .nil passL (pa_cons (pe_op op_mulW (pe_fld (pv 0) rfl) (pe_fld (pv 2) rfl)) (pa_cons (pe_op op_mulW (pe_fld (pv 0) rfl) (pe_fld (pv 2) rfl)) pa_nil)))))), ?_⟩
    refine ⟨_, rfl, y, rfl, ?_⟩
    rcases q with ⟨hb, er⟩ | ⟨t2, u2, m, ar, hnm, qz, q⟩
    · exact .inl ⟨hb, er⟩
    · refine .inr ⟨t2, u2, m, ar, fun z H' sm iz => ?_⟩
      have ix' := ix.same sm
      obtain ⟨p, dx, rfl, hp, r, b1, b2⟩ := id ix'
      obtain ⟨p2, dx2, rfl, hp2, r2, b3, b4⟩ := id iz
      refine ⟨_, rfl, p2, CA K, dx2, _, _, rfl, hp2, T.cl, T.noT, fl_top _ _, rfl, _, rfl, ?_⟩
      by_cases h0 : t2 = 0
      · subst h0
        exact if_true_of (decide_eq_true rfl) ⟨_, rfl, _, rfl, qz rfl _ sm⟩
      · refine if_false_of (decide_eq_false fun z => h0 (V.int.inj z)) ?_
        refine ⟨_, rfl, p, CA K, dx, _, _, rfl, hp, T.cl, T.noT, fl_top _ _, ?_⟩
        refine ⟨_, rfl, p2, CA K, dx2, _, _, rfl, hp2, T.cl, T.noB, fl_bot _ _, ?_⟩
        refine ⟨_, _, rfl, rfl, mulW_of b1 b4 (by omega), ?_⟩
        refine ⟨_, rfl, p, CA K, dx, _, _, rfl, hp, T.cl, T.noB, fl_bot _ _, ?_⟩
        refine ⟨_, rfl, p2, CA K, dx2, _, _, rfl, hp2, T.cl, T.noT, fl_top _ _, ?_⟩
        refine ⟨_, _, rfl, rfl, mulW_of b2 b3 (by omega), ?_⟩
        have hu : u * t2 ≠ 0 := Int.mul_ne_zero (by have := r.1; omega) h0
        refine make_read T (n := n + m + 1) hu (by omega) ?_ ?_ fun y' H2 t' u' s2 i2 e => q h0 y' H2 t' u' (sm.trans s2) i2 e
        · exact pow_step (abs_mul_lt b1 b4) (by omega)
        · exact pow_step (abs_mul_lt b2 b3) (by omega)
theorem ok_cmp (F : FunD K "compare" "Amount.compare" (defArgs sCmp) (defBody sCmp) (defScope sCmp) [] [] f fd) (T : AF K mg) (GS : FnOk P w K mg base (L2.CX P w) 6 fS fdS ["value"] (spAs K)) (gS : mg "as_amount" = some (.ref fS)) (kS : PySem.W.keepIn K (.ref fS) = true) (bS : Binds K fdS ["value"] []) :
    FnOk P w K mg base (L2.CX P w) 7 f fd ["self", "other"] (spCmp K) := by
  refine F.ok scCmp (fun vs H Q E h => ?_) (fun cdv A outer s H vs Q E hr h => ?_)
  · obtain ⟨x, y, t, u, n, rfl, _⟩ := h
    rfl
  · obtain ⟨x, y, t, u, n, rfl, ix, q⟩ := h
    refine ⟨_, pss_cons (ps_set (i := 2) scCmp.nd rfl (Or.inl rfl) (pe_callS GS hr rfl gS kS bS (fun σ => passAt (W := fun cls d _ H => E cls d H) (takes_of rfl rfl rfl rfl) σ) (pa_cons (pv 1) pa_nil)))
      (pss_cons (ps_set (i := 3) scCmp.nd rfl (Or.inl rfl) (pe_op op_sub (pe_op op_mulW (pe_fld (pv 0) rfl) (pe_fld (pv 2) rfl)) (pe_op op_mulW (pe_fld (pv 2) rfl) (pe_fld (pv 0) rfl))))
      (pss_cons (ps_if (pt_cmpR op_eq (pv 3) pe_int (nomark _)) (pss_one (ps_ret pe_int)) pss_nil)
      (pss_one (ps_ret (pe_ifExp (pt_cmpR op_gt (pv 3) pe_int (nomark _)) pe_int (pe_un un_neg pe_int)))))), ?_⟩
    refine ⟨_, rfl, y, rfl, ?_⟩
    rcases q with ⟨hb, er⟩ | ⟨t2, u2, m, ar, hnm, q⟩
    · exact .inl ⟨hb, er⟩
    · refine .inr ⟨t2, u2, m, ar, fun z H' sm iz => ?_⟩
      have ix' := ix.same sm
      have q := q H' sm
      obtain ⟨p, dx, rfl, hp, r, b1, b2⟩ := id ix'
      obtain ⟨p2, dx2, rfl, hp2, r2, b3, b4⟩ := id iz
      refine ⟨_, rfl, p, CA K, dx, _, _, rfl, hp, T.cl, T.noT, fl_top _ _, ?_⟩
      refine ⟨_, rfl, p2, CA K, dx2, _, _, rfl, hp2, T.cl, T.noB, fl_bot _ _, ?_⟩
      refine ⟨_, _, rfl, rfl, mulW_of b1 b4 (by omega), ?_⟩
      refine ⟨_, rfl, p2, CA K, dx2, _, _, rfl, hp2, T.cl, T.noT, fl_top _ _, ?_⟩
      refine ⟨_, rfl, p, CA K, dx, _, _, rfl, hp, T.cl, T.noB, fl_bot _ _, ?_⟩
      refine ⟨_, _, rfl, rfl, mulW_of b3 b2 (by omega), _, _, rfl, rfl, ?_⟩
      refine ⟨_, rfl, rfl, _, rfl, ?_⟩
      by_cases h0 : t * u2 - t2 * u = 0
      · rw [if_pos h0] at q
        refine if_true_of (decide_eq_true (congrArg V.int h0)) q
      · rw [if_neg h0] at q
        refine if_false_of (decide_eq_false fun z => h0 (V.int.inj z)) ?_
        refine ⟨_, rfl, _, _, rfl, rfl, _, rfl, ?_⟩
        by_cases h1 : 0 < t * u2 - t2 * u
        · rw [if_pos h1] at q
          exact if_true_of (decide_eq_true h1) q
        · rw [if_neg h1] at q
          exact if_false_of (decide_eq_false h1) ⟨_, rfl, q⟩
end

end K02
set_option Elab.async false
set_option linter.all false
set_option maxRecDepth 100000
set_option maxHeartbeats 4000000
set_option exponentiation.threshold 100000
namespace K02
open PySem PySem.Spec PyProof.Rows L2 Fa Fb
/-! ### calls of a def with a star parameter; what grows keeps the kinds -/
section
variable {X : Cx} {CX : CXT} {k : Nat} {f : Addr} {sp : Sp} {E : L2.St → XK} {x : Str} {p pos : Pos} {e : Expr} {es : List Expr} {t : TA}
def tCallR (sp : Sp) (E : L2.St → XK) (t : TA) : TE := fun σ H Q => t σ H fun vs H1 => sp vs H1 Q (E σ)
theorem run_R {pins : List (Addr × Obj)} {σ : L2.St} {H : Hp} {s : Shared} {Q : VK} {us : List Value} {vs : List V} (F : FnR X.prog X.w X.K X.mg X.base CX k f sp) (hr : Room k X.A) (hx : PassesAt CX X σ (E σ)) (I : Inv X pins σ H s) (r : Vals vs us) (h : sp vs H Q (E σ)) :
    wpAny (model X.prog X.w) X.A (call (.ref f) us) (EP X pins σ Q) X.xe s := by
  refine wpAny_call (codeAny_mono (F X.A X.stack s H us vs Q (E σ) hr I.env0 r h) fun r s' hq => ?_)
  cases r with
  | error e => exact hx pins H s e s' I hq
  | ok fl =>
    cases fl with
    | ret u => exact I.after hq
    | next => exact False.elim hq
    | brk => exact False.elim hq
    | cont => exact False.elim hq
theorem pe_callR (F : FnR X.prog X.w X.K X.mg X.base CX k f sp) (hr : Room k X.A) (hg : Gl X x) (hm : X.mg x = some (.ref f)) (hk : PySem.W.keepIn X.K (.ref f) = true) (hx : ∀ σ, PassesAt CX X σ (E σ))
    (ha : PA X (e :: es) t) (hdb : (x == ("__debug__" : Str)) = false := by decide) (he : starEach (e :: es) X.env = (false, eval e X.env) :: starEach es X.env := by rfl) (hpl : (backTo pos (starEach es X.env)).any (·.1) = false := by rfl) :
    PE X (.Call (.Name x p) (e :: es) [] pos) (tCallR sp E t) := by
  refine ⟨fun pins s σ H Q I h => ?_⟩
  refine wpAny_Call_Name_kw (ld_glob I hg hm ?_ hdb)
  refine PySem.W.callWith_K (h₀ := X.base) I.ok.mod.kin hk (thn (ha.run pos pins s σ H _ I h) fun us s1 ⟨vs, H1, I1, r, q⟩ => ⟨I1.kIn, ?_⟩) he hpl
  exact run_R F hr (hx σ) I1 r q
theorem pe_callR0 (F : FnR X.prog X.w X.K X.mg X.base CX k f sp) (hr : Room k X.A) (hg : Gl X x) (hm : X.mg x = some (.ref f)) (hk : PySem.W.keepIn X.K (.ref f) = true) (hx : ∀ σ, PassesAt CX X σ (E σ))
    (hdb : (x == ("__debug__" : Str)) = false := by decide) : PE X (.Call (.Name x p) [] [] pos) (tCallR sp E tNil) := by
  refine ⟨fun pins s σ H Q I h => ?_⟩
  refine wpAny_Call_Name_kw (ld_glob I hg hm ?_ hdb)
  exact PySem.W.callWith_K0 I.kIn hk (run_R (us := []) F hr (hx σ) I .nil h)
end
theorem _root_.L2.TyX.same {K : PySem.W.Frag} {H H' : Hp} {x : V} {t : Value} (h : TyX K H x t) (s : Same H H') : TyX K H' x t := by
  cases h with
  | base b =>
    cases b with
    | non => exact .base .non
    | bl y => exact .base (.bl y)
    | int i => exact .base (.int i)
    | str y => exact .base (.str y)
    | flt y => exact .base (.flt y)
    | lst e => exact .base (.lst (s _ _ e))
    | frz e => exact .base (.frz (s _ _ e))
    | tup e => exact .base (.tup (s _ _ e))
    | dK e => exact .base (.dK (s _ _ e))
    | dT e => exact .base (.dT (s _ _ e))
    | ins e cl ha hn htk hm => exact .base (.ins (s _ _ e) cl ha hn htk hm)
  | byt b => exact .byt b
  | set e => exact .set (s _ _ e)
  | kList e c => exact .kList e c
  | kTuple e c => exact .kTuple e c
  | kDict e c => exact .kDict e c
  | fTuple e => exact .fTuple (s _ _ e)
  | fDict e => exact .fDict (s _ _ e)
theorem Wh.same {K : PySem.W.Frag} {H H' : Hp} {x : V} {b : Bool} (h : Wh K H x b) (s : Same H H') : Wh K H' x b := by
  obtain ⟨t, b1, b2, ty, r⟩ := h
  exact ⟨t, b1, b2, ty.same s, r⟩
theorem Bad.same {K : PySem.W.Frag} {H H' : Hp} {x : V} (h : Bad K H x) (s : Same H H') : Bad K H' x := by
  obtain ⟨T, k, ty, w⟩ := h
  exact ⟨T, k, ty.same s, w.same s⟩
theorem Arg.same {K : PySem.W.Frag} {H H' : Hp} {x : V} {t u : Int} {n : Nat} (h : Arg K H x t u n) (s : Same H H') : Arg K H' x t u n := h.elim (fun h => .inl (h.same s)) .inr
theorem Same.upd {H : Hp} {p : Addr} {o : HO} (h : H p = none) : Same H (upd H p o) := fun c u z => by
  rw [upd_ne (ne_of_none z h)]
  exact z
/-! ### total -/
structure Gd where
  v : V
  t : Int
  u : Int
  n : Nat
/-- the sum of fractions as they are written -/
def fsum (l : List Gd) : Int × Int := l.foldl (fun s g => (s.1 * g.u + g.t * s.2, s.2 * g.u)) (0, 1)
def nsum (l : List Gd) : Nat := l.foldl (fun s g => s + g.n + 1) 1
theorem fsum_more (l : List Gd) (g : Gd) : fsum (l ++ [g]) = ((fsum l).1 * g.u + g.t * (fsum l).2, (fsum l).2 * g.u) := by
  unfold fsum
  rw [List.foldl_append]
  rfl
theorem nsum_more (l : List Gd) (g : Gd) : nsum (l ++ [g]) = nsum l + g.n + 1 := by
  unfold nsum
  rw [List.foldl_append]
  rfl
theorem nsum_le (l r : List Gd) : nsum l ≤ nsum (l ++ r) := by
  induction r generalizing l with
  | nil => rw [List.append_nil]; exact Nat.le_refl _
  | cons g r ih =>
    have := ih (l ++ [g])
    rw [nsum_more] at this
    rw [List.append_assoc] at this
    exact Nat.le_trans (by omega) this
/-- the arguments: good ones, and behind them nothing, or one that is none -/
def spTot (K : PySem.W.Frag) : Sp := fun vs H Q E => ∃ (gs : List Gd) (rest : List V), vs = gs.map Gd.v ++ rest ∧ vs.length ≤ 100 ∧ (∀ g ∈ gs, Arg K H g.v g.t g.u g.n ∧ 0 < g.u) ∧ nsum gs < 6000 ∧
  ((rest = [] ∧ ∀ z H' t u, Same H H' → IsA K H' z t u (nsum gs) → t * (fsum gs).2 = (fsum gs).1 * u → Q z H') ∨
   (∃ b r, rest = b :: r ∧ Bad K H b ∧ ∀ H', Same H H' → Err (CV K) b H' E))
abbrev sTotal : Stmt := top 12
theorem scTotal : FnScope ["amounts", "found", "amount"] ["amounts"] (defScope sTotal) := ⟨rfl, rfl, rfl, by decide +kernel, rfl, by decide +kernel, by decide +kernel⟩
theorem sum_step {t u n d t2 u2 t' u' : Int} (hu : u ≠ 0) (e : t * d = n * u) (e2 : t' * (u * u2) = (t * u2 + t2 * u) * u') : t' * (d * u2) = (n * u2 + t2 * d) * u' := by
  have z : (t' * (d * u2)) * u = ((n * u2 + t2 * d) * u') * u := by grind
  exact Int.eq_of_mul_eq_mul_right hu z
/-- the right side of an own operator -/
structure OpF (K : PySem.W.Frag) (nm : String) (f : Addr) : Prop where
  own : OwnOp K (CA K) nm f
  ty : ∀ T ∈ tys, TyOp K (CA K) nm T
theorem OpF.arg {K : PySem.W.Frag} {nm : String} {f : Addr} (o : OpF K nm f) {H : Hp} {x : V} {t u : Int} {n : Nat} (h : Arg K H x t u n) : RK K (CA K) nm H x := by
  rcases h with ⟨p, dx, e, hp, _⟩ | ⟨e, _⟩
  · exact .inl ⟨p, dx, _, e, hp⟩
  · rw [e]
    exact .inr ⟨"int", .base (.int t), o.ty "int" (by simp [tys])⟩
theorem OpF.bad {K : PySem.W.Frag} {nm : String} {f : Addr} (o : OpF K nm f) {H : Hp} {x : V} (h : Bad K H x) : RK K (CA K) nm H x := by
  obtain ⟨T, k, ty, _⟩ := h
  exact .inr ⟨T, ty, o.ty T k⟩
section
variable {P : Program} {w : World} {K : PySem.W.Frag} {mg : Str → Option Value} {base : Heap} {f fAdd : Addr} {fd fdI fdAdd : FuncData}
theorem ok_total (F : FnP K "total" sTotal f fd) (T : AF K mg) (GI : FnOk P w K mg base (L2.CX P w) 4 (aI K) fdI ["self", "top", "bottom"] (spInit K)) {ds : List Value} (hds : Vals [.int 1] ds) (bI : Binds K fdI ["self", "top", "bottom"] ds)
    (GA : FnOk P w K mg base (L2.CX P w) 7 fAdd fdAdd ["self", "other"] (spOp K (fun t u t2 u2 => t * u2 + t2 * u) (fun _ u _ u2 => u * u2))) (oA : OpF K "add" fAdd) (bA : Binds K fdAdd ["self", "other"] []) : FnR P w K mg base (L2.CX P w) 8 f (spTot K) := by
  obtain ⟨oc, od, dV, kV, doc, pm, an, cdv, ct, osl, rfl, lk, hcd, hD, hK⟩ := F.ex
  have hdV : dV = .none := by
    rcases hD with ⟨_, e⟩ | ⟨e, _⟩
    · exact e
    · exact absurd rfl e
  subst hdV
  have core := StX.fn_star (P := P) (w := w) (mg := mg) (base := base) (k := 7) (CX := L2.CX P w) (ps := []) (pv := "amounts") (N := ["amounts", "found", "amount"]) (sp := fun vs H Q E => ∃ p, vs = [.ref p] ∧ ∃ xs, H p = some (.tup xs) ∧ spTot K xs H Q E)
    lk hcd scTotal StX.cxUp (fun us rest hu => by
      obtain rfl : us = [] := List.eq_nil_of_length_eq_zero hu
      cases rest <;> rfl) (fun A outer s H vs Q E hr h => ?_)
  · intro A outer s H us vs Q E hr e0 rv h
    refine core A outer s H us vs Q E hr e0 rv ⟨[], vs, rfl, rfl, ?_, fun p hp => ⟨p, rfl, vs, upd_same, ?_⟩⟩
    · obtain ⟨gs, rest, e, hl, _⟩ := h
      exact Nat.le_trans hl (by decide)
    · have sm : Same H (upd H p (.tup vs)) := Same.upd hp
      obtain ⟨gs, rest, e, hl, hg, hn, q⟩ := h
      refine ⟨gs, rest, e, hl, fun g hgm => ⟨(hg g hgm).1.same sm, (hg g hgm).2⟩, hn, ?_⟩
      rcases q with ⟨e1, q⟩ | ⟨b, r, e1, hb, q⟩
      · exact .inl ⟨e1, fun z H' t u s2 => q z H' t u (sm.trans s2)⟩
      · exact .inr ⟨b, r, e1, hb.same sm, fun H' s2 => q H' (sm.trans s2)⟩
  · obtain ⟨p, rfl, xs, hp, gs, rest, e, hl, hg, hn, q⟩ := h
    have hr1 := hr.mono (show 5 ≤ 7 by decide)
    refine ⟨_, pss_cons (ps_set (i := 1) scTotal.nd rfl (Or.inl rfl) (pe_make T.mkA GI hr1 rfl T.g bI hds passL (pa_cons pe_int pa_nil)))
      (pss_cons (ps_for (passes_of rfl) rfl (pi_tup (pv 0)) (pg_name (i := 2) scTotal.nd rfl (Or.inl rfl))
        (pss_one (ps_set (i := 1) scTotal.nd rfl (Or.inl rfl) (pe_binX (op := .Add) oA.own GA hr bA (fun σ => passAt (W := fun cls d _ H => E cls d H) (takes_of rfl rfl rfl rfl) σ) (pv 1) (pv 2)))))
      (pss_one (ps_ret (pv 1)))), ?_⟩
    refine fun x dx hx hdx hne => spInit_imp (make_fact T (n := 1) (a := 0) (b := 1) (by decide) (by decide) (by decide) (by decide) hx hdx hne) fun v0 H1 ⟨hv0, t, u, sm, iy, e1⟩ => ⟨hv0, ?_⟩
    have t0 : t = 0 := by omega
    subst t0
    refine ⟨_, rfl, p, rfl, ⟨xs, SqT.of (sm _ _ hp)⟩, for_tup (K := K) (a := p) (xs := xs) (fun i σ H2 => i ≤ gs.length ∧ Same H H2 ∧ ∃ (z : V) (v : Option V) (t u : Int), σ = [some (.ref p), some z, v] ∧ IsA K H2 z t u (nsum (gs.take i)) ∧ t * (fsum (gs.take i)).2 = (fsum (gs.take i)).1 * u)
      ⟨Nat.zero_le _, sm, .ref x, none, 0, u, rfl, iy, by show (0 : Int) * 1 = 0 * u; omega⟩ (fun i σ H2 _ ⟨_, s2, _⟩ => SqT.of (s2 _ _ hp)) ?_ ?_⟩
    · rintro i y1 σ H2 hi ⟨hil, s2, z, v, t1, u1, rfl, iz, ez⟩
      refine ⟨_, rfl, _, rfl, ?_⟩
      obtain ⟨pz, dz, ez0, hz, rz, _⟩ := id iz
      by_cases c : i < gs.length
      · have hy : y1 = gs[i].v := by
          rw [e, List.getElem?_append_left (by rw [List.length_map]; exact c), List.getElem?_map, List.getElem?_eq_getElem c] at hi
          exact (Option.some.inj hi).symm
        obtain ⟨ag, hu0⟩ := hg gs[i] (List.getElem_mem c)
        have ag2 := ag.same s2
        rw [hy]
        have ht : gs.take (i + 1) = gs.take i ++ [gs[i]] := by
          rw [List.take_add_one, List.getElem?_eq_getElem c]
          rfl
        have hns : nsum (gs.take (i + 1)) = nsum (gs.take i) + gs[i].n + 1 := by rw [ht, nsum_more]
        have hle : nsum (gs.take (i + 1)) ≤ nsum gs := by
          have := nsum_le (gs.take (i + 1)) (gs.drop (i + 1))
          rw [List.take_append_drop] at this
          exact this
        refine ⟨pz, dz, _, ez0, hz, oA.arg ag2, z, gs[i].v, t1, u1, _, rfl, iz, .inr ⟨gs[i].t, gs[i].u, gs[i].n, ag2, by omega, fun z' H3 t' u' s3 i3 e3 => ?_⟩⟩
        refine ⟨c, s2.trans s3, z', some gs[i].v, t', u', rfl, by rw [hns]; exact i3, ?_⟩
        rw [ht, fsum_more]
        exact sum_step (by have := rz.1; omega) ez e3
      · have ei : i = gs.length := by omega
        rcases q with ⟨e1, _⟩ | ⟨b, r, e1, hb, er⟩
        · rw [e, e1, List.append_nil, ei] at hi
          rw [List.getElem?_eq_none (by rw [List.length_map]; exact Nat.le_refl _)] at hi
          cases hi
        · have hy : y1 = b := by
            rw [e, e1, List.getElem?_append_right (by rw [List.length_map]; omega), List.length_map, ei, Nat.sub_self] at hi
            exact (Option.some.inj hi).symm
          rw [hy]
          exact ⟨pz, dz, _, ez0, hz, oA.bad (hb.same s2), z, b, t1, u1, _, rfl, iz, .inl ⟨hb.same s2, er H2 s2⟩⟩
    · rintro σ H2 ⟨hil, s2, z, v, t1, u1, rfl, iz, ez⟩
      have hx : xs.length ≤ gs.length := hil
      rcases q with ⟨e1, q⟩ | ⟨b, r, e1, _⟩
      · have hlen : xs.length = gs.length := by rw [e, e1, List.append_nil, List.length_map]
        rw [hlen, List.take_length] at iz ez
        exact ⟨z, rfl, q z H2 t1 u1 s2 iz ez⟩
      · rw [e, e1, List.length_append, List.length_map, List.length_cons] at hx
        omega
end
end K02

set_option Elab.async false
set_option linter.all false
set_option maxRecDepth 100000
set_option maxHeartbeats 4000000
set_option exponentiation.threshold 100000
namespace K02
open PySem PySem.Spec PyProof.Rows L2 Fa Fb
abbrev CP (K : PySem.W.Frag) : Addr := He.ga K "InvalidPart"
abbrev sFur : Stmt := top 15
abbrev sLeast : Stmt := top 13
abbrev sGreat : Stmt := top 14
theorem scFur : FnScope ["amounts", "side", "found", "item", "amount"] ["amounts", "side"] (defScope sFur) := ⟨rfl, rfl, rfl, by decide +kernel, rfl, by decide +kernel, by decide +kernel⟩
theorem scLeast : FnScope ["amounts"] ["amounts"] (defScope sLeast) := ⟨rfl, rfl, rfl, by decide +kernel, rfl, by decide +kernel, by decide +kernel⟩
theorem scGreat : FnScope ["amounts"] ["amounts"] (defScope sGreat) := ⟨rfl, rfl, rfl, by decide +kernel, rfl, by decide +kernel, by decide +kernel⟩
/-- how two fractions stand -/
def scmp (a b : Gd) : Int := if a.t * b.u - b.t * a.u = 0 then 0 else if 0 < a.t * b.u - b.t * a.u then 1 else -1
def best (side : Int) (g : Gd) (l : List Gd) : Gd := l.foldl (fun b a => if scmp a b = side then a else b) g
theorem best_more (side : Int) (g : Gd) (l : List Gd) (a : Gd) : best side g (l ++ [a]) = if scmp a (best side g l) = side then a else best side g l := by
  unfold best
  rw [List.foldl_append]
  rfl
theorem best_mem (side : Int) (l : List Gd) : ∀ g : Gd, best side g l = g ∨ best side g l ∈ l := by
  induction l with
  | nil => exact fun g => .inl rfl
  | cons a l ih =>
    intro g
    have h := ih (if scmp a g = side then a else g)
    have e : best side g (a :: l) = best side (if scmp a g = side then a else g) l := rfl
    rw [e]
    rcases h with h | h
    · rw [h]
      by_cases c : scmp a g = side
      · rw [if_pos c]
        exact .inr (List.mem_cons_self ..)
      · rw [if_neg c]
        exact .inl rfl
    · exact .inr (List.mem_cons_of_mem _ h)
/-- a list of values: good ones, and behind them nothing, or one that is none -/
def spFurL (K : PySem.W.Frag) (side : Int) (xs : List V) (H : Hp) (Q : VK) (E : XK) : Prop :=
  (xs = [] ∧ ∀ H' q, Same H H' → H' q = none → Err (CP K) (.ref q) (upd H' q (.tup [])) E) ∨
  (∃ (gs : List Gd) (rest : List V), xs = gs.map Gd.v ++ rest ∧ xs ≠ [] ∧ xs.length ≤ 100 ∧ (∀ g ∈ gs, Arg K H g.v g.t g.u g.n ∧ g.n ≤ 3000) ∧
    ((rest = [] ∧ ∃ g tl, gs = g :: tl ∧ ∀ z H', Same H H' → IsA K H' z (best side g tl).t (best side g tl).u (best side g tl).n → Q z H') ∨
     (∃ b r, rest = b :: r ∧ Bad K H b ∧ ∀ H', Same H H' → Err (CV K) b H' E)))
theorem spFurL.up {K : PySem.W.Frag} {side : Int} {xs : List V} {H H1 : Hp} {Q : VK} {E : XK} (h : spFurL K side xs H Q E) (sm : Same H H1) : spFurL K side xs H1 Q E := by
  rcases h with ⟨e, h⟩ | ⟨gs, rest, e1, e2, e3, hg, h⟩
  · exact .inl ⟨e, fun H' q s2 => h H' q (sm.trans s2)⟩
  · refine .inr ⟨gs, rest, e1, e2, e3, fun g hm => ⟨(hg g hm).1.same sm, (hg g hm).2⟩, ?_⟩
    rcases h with ⟨e4, g, tl, e5, h⟩ | ⟨b, r, e4, hb, h⟩
    · exact .inl ⟨e4, g, tl, e5, fun z H' s2 => h z H' (sm.trans s2)⟩
    · exact .inr ⟨b, r, e4, hb.same sm, fun H' s2 => h H' (sm.trans s2)⟩
def spFur (K : PySem.W.Frag) : Sp := fun vs H Q E => ∃ p side xs, vs = [.ref p, .int side] ∧ H p = some (.tup xs) ∧ spFurL K side xs H Q E
theorem sIx1 {n : Nat} (h : 1 ≤ n) : HT.sIx n 0 (some 1) = 1 := by
  show (if (1 : Int) < 0 then ((1 : Int) + (n : Int)).toNat else min (1 : Int).toNat n) = 1
  rw [if_neg (by decide)]
  show min 1 n = 1
  omega
theorem sIxN {n m : Nat} : HT.sIx n m none = m := rfl
section
variable {P : Program} {w : World} {K : PySem.W.Frag} {mg : Str → Option Value} {base : Heap} {f fS fC fF : Addr} {fd fdS fdC fdF : FuncData} {qv tv qp tp : Str} {fV fP : Addr}
theorem ok_fur (F : FnP K "_furthest" sFur f fd) (T : AF K mg) (GS : FnOk P w K mg base (L2.CX P w) 6 fS fdS ["value"] (spAs K)) (gS : mg "as_amount" = some (.ref fS)) (kS : PySem.W.keepIn K (.ref fS) = true) (bS : Binds K fdS ["value"] [])
    (GC : FnOk P w K mg base (L2.CX P w) 7 fC fdC ["self", "other"] (spCmp K)) (mC : Meth K (CA K) "compare" fC) (bC : Binds K fdC ["self", "other"] []) (gP : mg "InvalidPart" = some (.ref (CP K))) (mL : mg "len" = none)
    (XP : Xb.Txt P.main.file K qp "value" tp (CP K) fP) (htop : (P.main.scope.names.lookup ("super" : Str)).isSome = false) : FnOk P w K mg base (L2.CX P w) 8 f fd ["amounts", "side"] (spFur K) := by
  refine F.ok scFur (fun vs H Q E h => ?_) (fun cdv A outer s H vs Q E hr h => ?_)
  · obtain ⟨p, side, xs, rfl, _⟩ := h
    rfl
  · obtain ⟨p, side, xs, rfl, hp, q⟩ := h
    have hr1 := hr.mono (show 6 ≤ 7 by decide)
    have hr0 := hr.mono (show 1 ≤ 7 by decide)
    refine ⟨_, pss_cons (ps_if (pt_cmpR op_eq (pe_callB call_len_seq rfl mL PySem.boot_len (pa_cons (pv 0) pa_nil)) pe_int (nomark _)) (pss_one (Xb.ps_raiseX (W := fun cls d _ H => E cls d H) rfl XP gP htop hr0 (takes_of rfl rfl rfl rfl) (pa_cons (pe_tup pa_nil) pa_nil))) pss_nil)
      (pss_cons (ps_set (i := 2) scFur.nd rfl (Or.inl rfl) (pe_callS GS hr1 rfl gS kS bS (fun σ => passAt (W := fun cls d _ H => E cls d H) (takes_of rfl rfl rfl rfl) σ) (pa_cons (pe_ix ix_tup (pv 0) pe_int (fun _ _ => rfl)) pa_nil)))
      (pss_cons (ps_for (passes_of rfl) rfl (pi_tup (pe_slice sl_tup (pv 0) (po_some pe_int) po_none)) (pg_name (i := 3) scFur.nd rfl (Or.inl rfl))
        (pss_cons (ps_set (i := 4) scFur.nd rfl (Or.inl rfl) (pe_callS GS hr1 rfl gS kS bS (fun σ => passAt (W := fun cls d _ H => E cls d H) (takes_of rfl rfl rfl rfl) σ) (pa_cons (pv 3) pa_nil)))
        (pss_one (ps_if (pt_cmpR op_eq (pe_meth (pv 4) T.cl mC GC hr bC .nil passL (pa_cons (pv 2) pa_nil)) (pv 1) (nomark _)) (pss_one (ps_set (i := 2) scFur.nd rfl (Or.inl rfl) (pv 4))) pss_nil))))
      (pss_one (ps_ret (pv 2))))), ?_⟩
    refine ⟨_, rfl, p, xs, rfl, .inr (SqT.of hp), rfl, _, rfl, ?_⟩
    rcases q with ⟨e, er⟩ | ⟨gs, rest, e1, e2, e3, hg, q⟩
    · subst e
      exact if_true_of (decide_eq_true rfl) ⟨by decide, fun q0 hq0 => ⟨_, rfl, fun d hd => er H q0 (Same.refl _) hq0 d hd⟩⟩
    · have hlen : 1 ≤ xs.length := by
        cases xs with
        | nil => exact absurd rfl e2
        | cons _ _ => simp
      refine if_false_of (decide_eq_false fun z => by
        have := V.int.inj z
        omega) ?_
      have a0 : atI xs 0 = some (xs[0]'(by omega)) := atI_nat (j := 0) (List.getElem?_eq_getElem (by omega))
      refine ⟨_, rfl, p, xs, _, _, rfl, rfl, SqT.of hp, a0, _, rfl, ?_⟩
      cases gs with
      | nil =>
        rcases q with ⟨_, g, tl, z, _⟩ | ⟨b, r, e4, hb, er⟩
        · cases z
        · have hx0 : xs[0]'(by omega) = b := by
            subst e4
            subst e1
            rfl
          rw [hx0]
          exact .inl ⟨hb, er H (Same.refl _)⟩
      | cons g tl =>
        have hx0 : xs[0]'(by omega) = g.v := by
          subst e1
          rfl
        rw [hx0]
        obtain ⟨ag, hn⟩ := hg g (List.mem_cons_self ..)
        refine .inr ⟨g.t, g.u, g.n, ag, fun z H1 s1 iz => ?_⟩
        have hd : xs.drop 1 = tl.map Gd.v ++ rest := by
          subst e1
          rfl
        have hw : ¬ (HT.sIx xs.length 0 (some 1) = 0 ∧ HT.sIx xs.length xs.length none = xs.length) := fun z => by
          rw [sIx1 hlen] at z
          cases z.1
        have hcut : cutV xs (some 1) none = xs.drop 1 := by
          unfold cutV
          rw [sIx1 hlen, sIxN]
          exact List.take_of_length_le (by rw [List.length_drop]; exact Nat.le_refl _)
        refine ⟨_, rfl, _, rfl, p, xs, rfl, SqT.of (s1 _ _ hp), hw, fun p2 hp2 => ?_⟩
        rw [hcut, hd]
        have s2 : Same H1 (upd H1 p2 (.tup (tl.map Gd.v ++ rest))) := Same.upd hp2
        refine ⟨p2, rfl, ⟨_, SqT.of upd_same⟩, for_tup (K := K) (a := p2) (xs := tl.map Gd.v ++ rest) (fun i σ H2 => i ≤ tl.length ∧ Same (upd H1 p2 (.tup (tl.map Gd.v ++ rest))) H2 ∧ ∃ (z : V) (v v4 : Option V), σ = [some (.ref p), some (.int side), some z, v, v4] ∧
            IsA K H2 z (best side g (tl.take i)).t (best side g (tl.take i)).u (best side g (tl.take i)).n)
          ⟨Nat.zero_le _, Same.refl _, z, none, none, rfl, iz.same s2⟩ (fun i σ H2 _ ⟨_, s3, _⟩ => SqT.of (s3 _ _ upd_same)) ?_ ?_⟩
        · rintro i y1 σ H2 hi ⟨hil, s3, z2, v, v4, rfl, iz2⟩
          have sH : Same H H2 := s1.trans (s2.trans s3)
          refine ⟨_, rfl, _, rfl, ?_⟩
          by_cases c : i < tl.length
          · have hy : y1 = tl[i].v := by
              rw [List.getElem?_append_left (by rw [List.length_map]; exact c), List.getElem?_map, List.getElem?_eq_getElem c] at hi
              exact (Option.some.inj hi).symm
            obtain ⟨ai, hni⟩ := hg tl[i] (List.mem_cons_of_mem _ (List.getElem_mem c))
            rw [hy]
            refine .inr ⟨tl[i].t, tl[i].u, tl[i].n, ai.same sH, fun z3 H3 s4 iz3 => ?_⟩
            obtain ⟨p3, d3, rfl, hp3, r3, b3⟩ := id iz3
            have hbn : (best side g (tl.take i)).n ≤ 3000 := by
              rcases best_mem side (tl.take i) g with h | h
              · rw [h]
                exact hn
              · exact (hg _ (List.mem_cons_of_mem _ (List.mem_of_mem_take h))).2
            refine ⟨_, rfl, p3, d3, _, rfl, hp3, fl_no _ _ (by decide +kernel) (by decide +kernel), _, rfl, ?_⟩
            refine ⟨.ref p3, z2, tl[i].t, tl[i].u, tl[i].n, rfl, iz3, .inr ⟨_, _, _, .inl (iz2.same s4), by omega, fun H4 s5 => ?_⟩⟩
            have ht : tl.take (i + 1) = tl.take i ++ [tl[i]] := by
              rw [List.take_add_one, List.getElem?_eq_getElem c]
              rfl
            refine ⟨_, rfl, rfl, _, rfl, ?_⟩
            by_cases hs : scmp tl[i] (best side g (tl.take i)) = side
            · refine if_true_of (decide_eq_true (congrArg V.int hs)) ⟨_, rfl, ?_⟩
              refine ⟨c, s3.trans (s4.trans s5), .ref p3, _, _, rfl, ?_⟩
              rw [ht, best_more, if_pos hs]
              exact iz3.same s5
            · refine if_false_of (decide_eq_false fun z => hs (V.int.inj z)) ?_
              refine ⟨c, s3.trans (s4.trans s5), z2, _, _, rfl, ?_⟩
              rw [ht, best_more, if_neg hs]
              exact iz2.same (s4.trans s5)
          · have ei : i = tl.length := by omega
            rcases q with ⟨e4, _⟩ | ⟨b, r, e4, hb, er⟩
            · rw [e4, List.append_nil, ei] at hi
              rw [List.getElem?_eq_none (by rw [List.length_map]; exact Nat.le_refl _)] at hi
              cases hi
            · have hy : y1 = b := by
                rw [e4, List.getElem?_append_right (by rw [List.length_map]; omega), List.length_map, ei, Nat.sub_self] at hi
                exact (Option.some.inj hi).symm
              rw [hy]
              exact .inl ⟨hb.same sH, er H2 sH⟩
        · rintro σ H2 ⟨hil, s3, z2, v, v4, rfl, iz2⟩
          rcases q with ⟨e4, g', tl', e5, q⟩ | ⟨b, r, e4, _⟩
          · cases e5
            have hl2 : (tl.map Gd.v ++ rest).length = tl.length := by rw [e4, List.append_nil, List.length_map]
            rw [hl2, List.take_length] at iz2
            exact ⟨z2, rfl, q z2 H2 (s1.trans (s2.trans s3)) iz2⟩
          · rw [e4, List.length_append, List.length_map, List.length_cons] at hil
            omega
def spFL (K : PySem.W.Frag) (side : Int) : Sp := fun vs H Q E => vs.length ≤ 100 ∧ spFurL K side vs H Q E
theorem ok_least (F : FnP K "least" sLeast f fd) (GF : FnOk P w K mg base (L2.CX P w) 8 fF fdF ["amounts", "side"] (spFur K)) (gF : mg "_furthest" = some (.ref fF)) (kF : PySem.W.keepIn K (.ref fF) = true) (bF : Binds K fdF ["amounts", "side"] []) : FnR P w K mg base (L2.CX P w) 9 f (spFL K (-1)) := by
  obtain ⟨oc, od, dV, kV, doc, pm, an, cdv, ct, osl, rfl, lk, hcd, hD, hK⟩ := F.ex
  have hdV : dV = .none := by
    rcases hD with ⟨_, e⟩ | ⟨e, _⟩
    · exact e
    · exact absurd rfl e
  subst hdV
  have core := StX.fn_star (P := P) (w := w) (mg := mg) (base := base) (k := 8) (CX := L2.CX P w) (ps := []) (pv := "amounts") (N := ["amounts"]) (sp := fun vs H Q E => ∃ p, vs = [.ref p] ∧ ∃ xs, H p = some (.tup xs) ∧ spFurL K (-1) xs H Q E)
    lk hcd scLeast StX.cxUp (fun us rest hu => by
      obtain rfl : us = [] := List.eq_nil_of_length_eq_zero hu
      cases rest <;> rfl) (fun A outer s H vs Q E hr h => ?_)
  · intro A outer s H us vs Q E hr e0 rv h
    refine core A outer s H us vs Q E hr e0 rv ⟨[], vs, rfl, rfl, Nat.le_trans h.1 (by decide), fun p hp => ⟨p, rfl, vs, upd_same, h.2.up (Same.upd hp)⟩⟩
  · obtain ⟨p, rfl, xs, hp, q⟩ := h
    refine ⟨_, pss_one (ps_ret (pe_callS GF hr rfl gF kF bF (fun σ => passAt (W := fun cls d _ H => E cls d H) (takes_of rfl rfl rfl rfl) σ) (pa_cons (pv 0) (pa_cons (pe_un un_neg pe_int) pa_nil)))), ?_⟩
    exact ⟨_, rfl, _, rfl, p, -1, xs, rfl, hp, q⟩
theorem ok_great (F : FnP K "greatest" sGreat f fd) (GF : FnOk P w K mg base (L2.CX P w) 8 fF fdF ["amounts", "side"] (spFur K)) (gF : mg "_furthest" = some (.ref fF)) (kF : PySem.W.keepIn K (.ref fF) = true) (bF : Binds K fdF ["amounts", "side"] []) : FnR P w K mg base (L2.CX P w) 9 f (spFL K 1) := by
  obtain ⟨oc, od, dV, kV, doc, pm, an, cdv, ct, osl, rfl, lk, hcd, hD, hK⟩ := F.ex
  have hdV : dV = .none := by
    rcases hD with ⟨_, e⟩ | ⟨e, _⟩
    · exact e
    · exact absurd rfl e
  subst hdV
  have core := StX.fn_star (P := P) (w := w) (mg := mg) (base := base) (k := 8) (CX := L2.CX P w) (ps := []) (pv := "amounts") (N := ["amounts"]) (sp := fun vs H Q E => ∃ p, vs = [.ref p] ∧ ∃ xs, H p = some (.tup xs) ∧ spFurL K 1 xs H Q E)
    lk hcd scGreat StX.cxUp (fun us rest hu => by
      obtain rfl : us = [] := List.eq_nil_of_length_eq_zero hu
      cases rest <;> rfl) (fun A outer s H vs Q E hr h => ?_)
  · intro A outer s H us vs Q E hr e0 rv h
    refine core A outer s H us vs Q E hr e0 rv ⟨[], vs, rfl, rfl, Nat.le_trans h.1 (by decide), fun p hp => ⟨p, rfl, vs, upd_same, h.2.up (Same.upd hp)⟩⟩
  · obtain ⟨p, rfl, xs, hp, q⟩ := h
    refine ⟨_, pss_one (ps_ret (pe_callS GF hr rfl gF kF bF (fun σ => passAt (W := fun cls d _ H => E cls d H) (takes_of rfl rfl rfl rfl) σ) (pa_cons (pv 0) (pa_cons pe_int pa_nil)))), ?_⟩
    exact ⟨_, rfl, p, 1, xs, rfl, hp, q⟩
end
end K02

set_option Elab.async false
set_option linter.all false
set_option maxRecDepth 100000
set_option maxHeartbeats 4000000
set_option exponentiation.threshold 100000
namespace K02
open PySem PySem.Spec PyProof.Rows L2 Fa Fb
/-- everything but what stands at p is as it was -/
def Kp (p : Addr) (H H' : Hp) : Prop := ∀ q o, q ≠ p → H q = some o → H' q = some o
theorem Kp.refl (p : Addr) (H : Hp) : Kp p H H := fun _ _ _ h => h
theorem Kp.trans {p : Addr} {H H1 H2 : Hp} (a : Kp p H H1) (b : Kp p H1 H2) : Kp p H H2 := fun q o n h => b q o n (a q o n h)
theorem Kp.but {p : Addr} {H H' : Hp} (h : But p H H') : Kp p H H' := fun q o n z => by rw [h q n]; exact z
theorem Kp.same {p : Addr} {H H' : Hp} (h : Same H H') : Kp p H H' := fun q o _ z => h q o z
theorem _root_.Fa.Box.ne {H : Hp} {p l : Addr} {n : Nat} (b : Box H p n) (hl : H l = none) : p ≠ l := by
  obtain ⟨_, _, _, h, _⟩ := b
  exact ne_of_none h hl
theorem _root_.Fa.Box.upd {H : Hp} {p l : Addr} {n : Nat} {o : HO} (b : Box H p n) (hl : H l = none) : Box (upd H l o) p n := by
  have ne := b.ne hl
  obtain ⟨x, y, z, h, r⟩ := b
  exact ⟨x, y, z, by rw [upd_ne ne]; exact h, r⟩
theorem _root_.Fa.Box.same {H H' : Hp} {p : Addr} {n : Nat} (b : Box H p n) (s : Same H H') : Box H' p n := by
  obtain ⟨x, y, z, h, r⟩ := b
  exact ⟨x, y, z, s _ _ h, r⟩
theorem Kp.box {H H' : Hp} {p q : Addr} {n : Nat} (b : Box H p n) (k : Kp q H H') (ne : p ≠ q) : Box H' p n := by
  obtain ⟨x, y, z, h, r⟩ := b
  exact ⟨x, y, z, k _ _ ne h, r⟩
theorem atI_in {α : Type} {xs : List α} {z : Int} (h0 : 0 ≤ z) (h1 : z < (xs.length : Int)) : ∃ v, atI xs z = some v ∧ v ∈ xs := by
  obtain ⟨j, rfl⟩ := Int.eq_ofNat_of_zero_le h0
  have hj : j < xs.length := by omega
  exact ⟨xs[j], atI_nat (List.getElem?_eq_getElem hj), List.getElem_mem hj⟩
abbrev sInt : Stmt := top 20
abbrev sPair : Stmt := top 21
abbrev sIsP : Stmt := top 22
abbrev sSign : Stmt := top 23
theorem scInt : FnScope ["_law_box_here", "_law_sign_here", "_law_some"] ["_law_box_here"] (defScope sInt) := ⟨rfl, rfl, rfl, by decide +kernel, rfl, by decide +kernel, by decide +kernel⟩
theorem scPair : FnScope ["_law_box_here", "_law_factor", "_law_bottom"] ["_law_box_here"] (defScope sPair) := ⟨rfl, rfl, rfl, by decide +kernel, rfl, by decide +kernel, by decide +kernel⟩
theorem scIsP : FnScope ["_law_amount", "_law_pair_here", "_law_one", "_law_other"] ["_law_amount", "_law_pair_here"] (defScope sIsP) := ⟨rfl, rfl, rfl, by decide +kernel, rfl, by decide +kernel, by decide +kernel⟩
theorem scSign : FnScope ["_law_one", "_law_other", "_law_left", "_law_right"] ["_law_one", "_law_other"] (defScope sSign) := ⟨rfl, rfl, rfl, by decide +kernel, rfl, by decide +kernel, by decide +kernel⟩
def spLInt : Sp := fun vs H Q _ => ∃ (p : Addr) (n : Nat), vs = [.ref p] ∧ Box H p n ∧ n ≤ 100000 ∧ ∀ (z : Int) (H' : Hp), z.natAbs < 2 ^ 100 → Box H' p (n + 5) → Kp p H H' → Q (.int z) H'
def spLPair : Sp := fun vs H Q _ => ∃ (p : Addr) (n : Nat), vs = [.ref p] ∧ Box H p n ∧ n ≤ 90000 ∧ ∀ (a : Addr) (x d : Int) (H' : Hp), H a = none → a ≠ p → H' a = some (.tup [.int x, .int d]) → 0 ≤ x → x.natAbs < 2 ^ 100 → d ≠ 0 → d.natAbs < 2 ^ 50 → Box H' p (n + 11) → Kp p H H' → Q (.ref a) H'
/-- a pair of ints stands at a -/
def Pr (H : Hp) (v : V) (n d : Int) : Prop := ∃ a, v = .ref a ∧ H a = some (.tup [.int n, .int d])
theorem Pr.same {H H' : Hp} {v : V} {n d : Int} (h : Pr H v n d) (s : Same H H') : Pr H' v n d := by
  obtain ⟨a, e, h⟩ := h
  exact ⟨a, e, s _ _ h⟩
def spLIs (K : PySem.W.Frag) : Sp := fun vs H Q _ => ∃ x y t u n N D, vs = [x, y] ∧ IsA K H x t u n ∧ n ≤ 8000 ∧ Pr H y N D ∧ N.natAbs < 2 ^ 8000 ∧ D.natAbs < 2 ^ 8000 ∧ t * D = N * u ∧ Q (.bl true) H
def sgn (x y : Int) : Int := if x < y then -1 else if y < x then 1 else 0
def spLSign : Sp := fun vs H Q _ => ∃ x y a b c d, vs = [x, y] ∧ Pr H x a b ∧ Pr H y c d ∧ a.natAbs < 2 ^ 200 ∧ c.natAbs < 2 ^ 200 ∧ b.natAbs < 2 ^ 60 ∧ d.natAbs < 2 ^ 60 ∧ Q (.int (sgn (a * b * d ^ 2) (c * d * b ^ 2))) H
section
variable {P : Program} {w : World} {K : PySem.W.Frag} {mg : Str → Option Value} {base : Heap} {f fT fI fTop fBot : Addr} {fd fdT fdI fdTop fdBot : FuncData}
theorem ok_lint (F : FnP K "_law_integer" sInt f fd) (GT : FnOk P w K mg base CX0 1 fT fdT ["_law_box_here", "_law_many"] spTake) (gT : mg "_law_take" = some (.ref fT)) (kT : PySem.W.keepIn K (.ref fT) = true) (bT : Binds K fdT ["_law_box_here", "_law_many"] []) : FnOk P w K mg base CX0 2 f fd ["_law_box_here"] spLInt := by
  refine F.ok scInt (fun vs H Q E h => ?_) (fun cdv A outer s H vs Q E hr h => ?_)
  · obtain ⟨p, n, rfl, _⟩ := h
    rfl
  · obtain ⟨p, n, rfl, hb, hn, q⟩ := h
    refine ⟨_, pss_cons (ps_set (i := 1) scInt.nd rfl (Or.inl rfl) (pe_ix ix_list (pe_lst (pa_cons pe_int (pa_cons (pe_op op_sub pe_int pe_int) pa_nil))) (pe_call GT hr rfl gT kT bT .nil pass0 (pa_cons (pv 0) (pa_cons pe_int pa_nil))) (fun _ _ => rfl)))
      (pss_cons (ps_set (i := 2) scInt.nd rfl (Or.inl rfl) (pe_lst (pa_cons pe_int (pa_cons pe_int (pa_cons (pe_call GT hr rfl gT kT bT .nil pass0 (pa_cons (pv 0) (pa_cons pe_int pa_nil))) (pa_cons (pe_call GT hr rfl gT kT bT .nil pass0 (pa_cons (pv 0) (pa_cons (pe_op op_pow pe_int pe_int) pa_nil)))
        (pa_cons (pe_call GT hr rfl gT kT bT .nil pass0 (pa_cons (pv 0) (pa_cons (pe_op op_pow pe_int pe_int) pa_nil))) (pa_cons pe_int pa_nil))))))))
      (pss_one (ps_ret (pe_op op_mul (pv 1) (pe_ix ix_list (pv 2) (pe_call GT hr rfl gT kT bT .nil pass0 (pa_cons (pv 0) (pa_cons pe_int pa_nil))) (fun _ _ => rfl)))))), ?_⟩
    refine ⟨_, _, rfl, rfl, (by show 2 ≤ sizeLine; decide), fun l hl => ?_⟩
    refine ⟨_, rfl, p, _, n, rfl, hb.upd hl, by omega, by decide, by decide, fun z1 H1 z10 z11 b1 k1 => ?_⟩
    have hl1 : H1 l = some (.lst [.int 1, .int (0 - 1)]) := by rw [k1 l (hb.ne hl).symm]; exact upd_same
    obtain ⟨v1, e1, m1⟩ := atI_in (xs := [V.int 1, V.int (0 - 1)]) z10 z11
    obtain ⟨s1, rfl, hs1⟩ : ∃ s1 : Int, v1 = V.int s1 ∧ s1.natAbs = 1 := by
      simp only [List.mem_cons, List.not_mem_nil, or_false] at m1
      rcases m1 with rfl | rfl
      · exact ⟨1, rfl, rfl⟩
      · exact ⟨-1, rfl, rfl⟩
    refine ⟨l, _, _, _, rfl, rfl, SqL.of hl1, e1, ?_⟩
    refine ⟨_, rfl, p, _, n + 1, rfl, b1, by omega, by decide, by decide, fun z2 H2 z20 z21 b2 k2 => ?_⟩
    refine ⟨_, rfl, _, _, rfl, rfl, ⟨by decide, by decide, by decide⟩, p, _, n + 2, rfl, b2, by omega, by decide, by decide, fun z3 H3 z30 z31 b3 k3 => ?_⟩
    refine ⟨_, rfl, _, _, rfl, rfl, ⟨by decide, by decide, by decide⟩, p, _, n + 3, rfl, b3, by omega, by decide, by decide, fun z4 H4 z40 z41 b4 k4 => ?_⟩
    refine ⟨(by show 6 ≤ sizeLine; decide), fun l2 hl2 => ?_⟩
    refine ⟨_, rfl, _, rfl, _, rfl, p, _, n + 4, rfl, b4.upd hl2, by omega, by decide, by decide, fun z5 H5 z50 z51 b5 k5 => ?_⟩
    have hl5 : H5 l2 = some (.lst [.int 0, .int 1, .int z2, .int z3, .int z4, .int 360]) := by rw [k5 l2 (b4.ne hl2).symm]; exact upd_same
    obtain ⟨v5, e5, m5⟩ := atI_in (xs := [V.int 0, .int 1, .int z2, .int z3, .int z4, .int 360]) z50 z51
    have z31' : z3 < 1000000 := z31
    have z41' : z4 < 100000000000000000000000000000 := z41
    obtain ⟨s5, rfl, hs5⟩ : ∃ s5 : Int, v5 = V.int s5 ∧ s5.natAbs < 2 ^ 100 := by
      simp only [List.mem_cons, List.not_mem_nil, or_false] at m5
      rcases m5 with rfl | rfl | rfl | rfl | rfl | rfl
      · exact ⟨_, rfl, by decide⟩
      · exact ⟨_, rfl, by decide⟩
      · exact ⟨_, rfl, by omega⟩
      · exact ⟨_, rfl, by omega⟩
      · exact ⟨_, rfl, by omega⟩
      · exact ⟨_, rfl, by decide⟩
    refine ⟨l2, _, _, _, rfl, rfl, SqL.of hl5, e5, _, _, rfl, rfl, .inl ⟨by omega, by omega⟩, ?_⟩
    refine q _ _ ?_ b5 ?_
    · show (s1 * s5).natAbs < 2 ^ 100
      rw [Int.natAbs_mul, hs1, Nat.one_mul]
      exact hs5
    · have kA : Kp p H H1 := Kp.trans (Kp.same (Same.upd hl)) (Kp.but k1)
      have kB : Kp p H1 H4 := Kp.trans (Kp.but k2) (Kp.trans (Kp.but k3) (Kp.but k4))
      exact kA.trans (kB.trans (Kp.trans (Kp.same (Same.upd hl2)) (Kp.but k5)))
theorem ok_lpair (F : FnP K "_law_pair" sPair f fd) (GT : FnOk P w K mg base CX0 1 fT fdT ["_law_box_here", "_law_many"] spTake) (gT : mg "_law_take" = some (.ref fT)) (kT : PySem.W.keepIn K (.ref fT) = true) (bT : Binds K fdT ["_law_box_here", "_law_many"] [])
    (GI : FnOk P w K mg base CX0 2 fI fdI ["_law_box_here"] spLInt) (gI : mg "_law_integer" = some (.ref fI)) (kI : PySem.W.keepIn K (.ref fI) = true) (bI : Binds K fdI ["_law_box_here"] []) : FnOk P w K mg base CX0 3 f fd ["_law_box_here"] spLPair := by
  refine F.ok scPair (fun vs H Q E h => ?_) (fun cdv A outer s H vs Q E hr h => ?_)
  · obtain ⟨p, n, rfl, _⟩ := h
    rfl
  · obtain ⟨p, n, rfl, hb, hn, q⟩ := h
    have hr1 := hr.mono (show 1 ≤ 2 by decide)
    refine ⟨_, pss_cons (ps_set (i := 1) scPair.nd rfl (Or.inl rfl) (pe_ix ix_list (pe_lst (pa_cons pe_int (pa_cons (pe_op op_add pe_int (pe_call GT hr1 rfl gT kT bT .nil pass0 (pa_cons (pv 0) (pa_cons pe_int pa_nil)))) (pa_cons (pe_op op_pow pe_int pe_int) pa_nil)))) (pe_call GT hr1 rfl gT kT bT .nil pass0 (pa_cons (pv 0) (pa_cons pe_int pa_nil))) (fun _ _ => rfl)))
      (pss_cons (ps_set (i := 2) scPair.nd rfl (Or.inl rfl) (pe_ix ix_list (pe_lst (pa_cons pe_int (pa_cons (pe_op op_add pe_int (pe_call GT hr1 rfl gT kT bT .nil pass0 (pa_cons (pv 0) (pa_cons pe_int pa_nil)))) (pa_cons (pe_op op_add pe_int (pe_call GT hr1 rfl gT kT bT .nil pass0 (pa_cons (pv 0) (pa_cons (pe_op op_pow pe_int pe_int) pa_nil)))) pa_nil)))) (pe_call GT hr1 rfl gT kT bT .nil pass0 (pa_cons (pv 0) (pa_cons pe_int pa_nil))) (fun _ _ => rfl)))
      (pss_one (ps_ret (pe_tup (pa_cons (pe_op op_mod (pe_op op_mulW (pe_call GI hr rfl gI kI bI .nil pass0 (pa_cons (pv 0) pa_nil)) (pv 1)) (pe_op op_pow pe_int pe_int))
        (pa_cons (pe_op op_mul (pe_op op_mul (pe_ix ix_list (pe_lst (pa_cons pe_int (pa_cons (pe_op op_sub pe_int pe_int) pa_nil))) (pe_call GT hr1 rfl gT kT bT .nil pass0 (pa_cons (pv 0) (pa_cons pe_int pa_nil))) (fun _ _ => rfl)) (pv 2)) (pv 1)) pa_nil)))))), ?_⟩
    refine ⟨_, rfl, p, _, n, rfl, hb, by omega, by decide, by decide, fun z1 H1 z10 z11 b1 k1 => ?_⟩
    refine ⟨_, _, rfl, rfl, _, _, rfl, rfl, ⟨by decide, by decide, by decide⟩, (by show 3 ≤ sizeLine; decide), fun l hl => ?_⟩
    refine ⟨_, rfl, p, _, n + 1, rfl, b1.upd hl, by omega, by decide, by decide, fun z2 H2 z20 z21 b2 k2 => ?_⟩
    have hl2 : H2 l = some (.lst [.int 1, .int (1 + z1), .int (10 ^ 6)]) := by rw [k2 l (b1.ne hl).symm]; exact upd_same
    obtain ⟨v2, e2, m2⟩ := atI_in (xs := [V.int 1, .int (1 + z1), .int (10 ^ 6)]) z20 z21
    obtain ⟨fa, rfl, hf0, hf1⟩ : ∃ fa : Int, v2 = V.int fa ∧ 0 < fa ∧ fa ≤ 1000000 := by
      simp only [List.mem_cons, List.not_mem_nil, or_false] at m2
      rcases m2 with rfl | rfl | rfl
      · exact ⟨_, rfl, by decide, by decide⟩
      · exact ⟨_, rfl, by omega, by omega⟩
      · exact ⟨_, rfl, by decide, by decide⟩
    refine ⟨l, _, _, _, rfl, rfl, SqL.of hl2, e2, ?_⟩
    refine ⟨_, rfl, p, _, n + 2, rfl, b2, by omega, by decide, by decide, fun z3 H3 z30 z31 b3 k3 => ?_⟩
    refine ⟨_, _, rfl, rfl, _, rfl, _, _, rfl, rfl, ⟨by decide, by decide, by decide⟩, p, _, n + 3, rfl, b3, by omega, by decide, by decide, fun z4 H4 z40 z41 b4 k4 => ?_⟩
    refine ⟨_, _, rfl, rfl, (by show 3 ≤ sizeLine; decide), fun l2 hl2' => ?_⟩
    refine ⟨_, rfl, p, _, n + 4, rfl, b4.upd hl2', by omega, by decide, by decide, fun z5 H5 z50 z51 b5 k5 => ?_⟩
    have hl5 : H5 l2 = some (.lst [.int 1, .int (1 + z3), .int (1 + z4)]) := by rw [k5 l2 (b4.ne hl2').symm]; exact upd_same
    obtain ⟨v5, e5, m5⟩ := atI_in (xs := [V.int 1, .int (1 + z3), .int (1 + z4)]) z50 z51
    have z41' : z4 < 1000000 := z41
    obtain ⟨bo, rfl, hb0, hb1⟩ : ∃ bo : Int, v5 = V.int bo ∧ 0 < bo ∧ bo ≤ 1000000 := by
      simp only [List.mem_cons, List.not_mem_nil, or_false] at m5
      rcases m5 with rfl | rfl | rfl
      · exact ⟨_, rfl, by decide, by decide⟩
      · exact ⟨_, rfl, by omega, by omega⟩
      · exact ⟨_, rfl, by omega, by omega⟩
    refine ⟨l2, _, _, _, rfl, rfl, SqL.of hl5, e5, ?_⟩
    refine ⟨_, rfl, p, n + 5, rfl, b5, by omega, fun z6 H6 z60 b6 k6 => ?_⟩
    refine ⟨_, rfl, _, _, rfl, rfl, mulW_of (n := 100) (m := 20) z60 (by omega) (by decide), _, _, rfl, rfl, ⟨by decide, by decide, by decide⟩, _, _, rfl, rfl, (by show (0 : Int) < 10 ^ (30 : Int).toNat; decide), ?_⟩
    refine ⟨_, _, rfl, rfl, (by show 2 ≤ sizeLine; decide), fun l3 hl3 => ?_⟩
    refine ⟨_, rfl, p, _, n + 10, rfl, b6.upd hl3, by omega, by decide, by decide, fun z7 H7 z70 z71 b7 k7 => ?_⟩
    have hl7 : H7 l3 = some (.lst [.int 1, .int (0 - 1)]) := by rw [k7 l3 (b6.ne hl3).symm]; exact upd_same
    obtain ⟨v7, e7, m7⟩ := atI_in (xs := [V.int 1, V.int (0 - 1)]) z70 z71
    obtain ⟨s7, rfl, hs7⟩ : ∃ s7 : Int, v7 = V.int s7 ∧ (s7 = 1 ∨ s7 = -1) := by
      simp only [List.mem_cons, List.not_mem_nil, or_false] at m7
      rcases m7 with rfl | rfl
      · exact ⟨1, rfl, .inl rfl⟩
      · exact ⟨-1, rfl, .inr rfl⟩
    have hsb : (s7 * bo).natAbs ≤ 1000000 ∧ s7 * bo ≠ 0 := by rcases hs7 with rfl | rfl <;> omega
    refine ⟨l3, _, _, _, rfl, rfl, SqL.of hl7, e7, _, rfl, _, _, rfl, rfl, .inl ⟨by omega, by omega⟩, _, rfl, _, _, rfl, rfl, .inl ⟨?_, ?_⟩, (by show 2 ≤ sizeLine; decide), fun a ha => ?_⟩
    · show -(2 ^ 64) < s7 * bo
      omega
    · show s7 * bo < 2 ^ 64
      omega
    have g0 : 0 ≤ z6 * fa % 10 ^ (30 : Int).toNat := Int.emod_nonneg _ (by decide)
    have g1 : z6 * fa % 10 ^ (30 : Int).toNat < 10 ^ (30 : Int).toNat := Int.emod_lt_of_pos _ (by decide)
    have g2 : (10 : Int) ^ (30 : Int).toNat = 1000000000000000000000000000000 := by decide
    rw [g2] at g0 g1
    have kA : Kp p H H2 := Kp.trans (Kp.but k1) (Kp.trans (Kp.same (Same.upd hl)) (Kp.but k2))
    have kB : Kp p H2 H5 := Kp.trans (Kp.but k3) (Kp.trans (Kp.but k4) (Kp.trans (Kp.same (Same.upd hl2')) (Kp.but k5)))
    have kC : Kp p H5 H7 := Kp.trans k6 (Kp.trans (Kp.same (Same.upd hl3)) (Kp.but k7))
    have kall := kA.trans (kB.trans kC)
    have nea : a ≠ p := (b7.ne ha).symm
    refine q a _ _ _ ?_ nea upd_same ?_ ?_ ?_ ?_ (b7.upd ha) (kall.trans (Kp.same (Same.upd ha)))
    · cases z : H a with
      | none => rfl
      | some o =>
        rw [kall a o nea z] at ha
        cases ha
    · show 0 ≤ z6 * fa % 10 ^ (30 : Int).toNat
      rw [g2]
      exact g0
    · show (z6 * fa % 10 ^ (30 : Int).toNat).natAbs < 2 ^ 100
      rw [g2]
      omega
    · exact Int.mul_ne_zero hsb.2 (by omega)
    · show (s7 * bo * fa).natAbs < 2 ^ 50
      rw [Int.natAbs_mul]
      exact Nat.lt_of_le_of_lt (Nat.mul_le_mul hsb.1 (show fa.natAbs ≤ 1000000 by omega)) (by decide)
end
end K02

set_option Elab.async false
set_option linter.all false
set_option maxRecDepth 100000
set_option maxHeartbeats 4000000
set_option exponentiation.threshold 100000
namespace K02
open PySem PySem.Spec PyProof.Rows L2 Fa Fb
/-- a property of Amount with its getter -/
structure PrF (P : Program) (w : World) (K : PySem.W.Frag) (mg : Str → Option Value) (base : Heap) (f fld : Str) (pa fa : Addr) (fd : FuncData) : Prop where
  pr : PropOf K (CA K) f pa fa
  ok : FnOk P w K mg base (L2.CX P w) 1 fa fd ["self"] (getSp (CA K) fld)
  bi : Binds K fd ["self"] []
section
variable {P : Program} {w : World} {K : PySem.W.Frag} {mg : Str → Option Value} {base : Heap} {f fT fB pT pB : Addr} {fd fdT fdB : FuncData}
theorem ok_lis (F : FnP K "_law_is_pair" sIsP f fd) (T : AF K mg) (mA : mg "abs" = none) (R1 : PrF P w K mg base "top" "_top" pT fT fdT) (R2 : PrF P w K mg base "bottom" "_bottom" pB fB fdB) :
    FnOk P w K mg base (L2.CX P w) 3 f fd ["_law_amount", "_law_pair_here"] (spLIs K) := by
  refine F.ok scIsP (fun vs H Q E h => ?_) (fun cdv A outer s H vs Q E hr h => ?_)
  · obtain ⟨x, y, t, u, n, N, D, rfl, _⟩ := h
    rfl
  · obtain ⟨x, y, t, u, n, N, D, rfl, ix, hn, hpr, hN, hD, e, q⟩ := h
    obtain ⟨p, dx, rfl, hp, ⟨r1, r2⟩, b1, b2⟩ := id ix
    obtain ⟨pp, rfl, hpp⟩ := hpr
    refine ⟨_, pss_cons (ps_if (PW.pt (pw_or (pt_not (pt_val (pe_isi T.isi (pv 0) (pe_glob (v := .ref (CA K)) rfl T.g rfl)))) (pw_or (pt_cmpR op_lt (pe_prop (pv 0) T.cl R2.pr R2.ok hr R2.bi .nil passL rfl) pe_int (nomark _))
        (pw_or1 (pt_cmpR op_ne (pe_op op_mulW (pe_prop (pv 0) T.cl R1.pr R1.ok hr R1.bi .nil passL rfl) (pe_ix ix_tup (pv 1) pe_int (fun _ _ => rfl))) (pe_op op_mulW (pe_ix ix_tup (pv 1) pe_int (fun _ _ => rfl)) (pe_prop (pv 0) T.cl R2.pr R2.ok hr R2.bi .nil passL rfl)) (nomark _)))))) (pss_one (ps_ret pe_bl)) pss_nil)
      (pss_cons (ps_par (by rfl) scIsP.nd (i := 2) (j := 3) rfl rfl (by decide) rfl rfl (pa_cons (pe_callB call_abs rfl mA (by decide +kernel) (pa_cons (pe_prop (pv 0) T.cl R1.pr R1.ok hr R1.bi .nil passL rfl) pa_nil)) (pa_cons (pe_prop (pv 0) T.cl R2.pr R2.ok hr R2.bi .nil passL rfl) pa_nil)) (by rfl))
      (pss_cons (ps_while (passes_of rfl) (pt_cmpR op_gt (pv 3) pe_int (nomark _)) (pss_one (ps_par (by rfl) scIsP.nd (i := 2) (j := 3) rfl rfl (by decide) rfl rfl (pa_cons (pv 3) (pa_cons (pe_op op_mod (pv 2) (pv 3)) pa_nil)) (by rfl))))
      (pss_one (ps_ret (pe_cmpR op_eq (pv 2) pe_int (nomark _)))))), ?_⟩
    refine ⟨_, rfl, .ref p, _, _, _, true, rfl, .own _, T.ty hp, T.kS, true, rfl, iteF ?_⟩
    refine ⟨_, rfl, p, dx, _, rfl, hp, p, dx, _, _, rfl, hp, fl_bot _ _, _, _, rfl, rfl, _, rfl, ?_⟩
    refine if_false_of (decide_eq_false (by omega)) ?_
    have i0 : atI [V.int N, V.int D] 0 = some (.int N) := rfl
    have i1 : atI [V.int N, V.int D] 1 = some (.int D) := rfl
    refine ⟨_, rfl, p, dx, _, rfl, hp, p, dx, _, _, rfl, hp, fl_top _ _, _, rfl, pp, _, _, _, rfl, rfl, SqT.of hpp, i1, _, _, rfl, rfl, mulW_of b1 hD (by omega), ?_⟩
    refine ⟨_, rfl, pp, _, _, _, rfl, rfl, SqT.of hpp, i0, _, rfl, p, dx, _, rfl, hp, p, dx, _, _, rfl, hp, fl_bot _ _, _, _, rfl, rfl, mulW_of hN b2 (by omega), rfl, _, rfl, ?_⟩
    refine if_false_of ?_ ?_
    · show (!decide (V.int (t * D) = V.int (N * u))) = false
      rw [decide_eq_true (congrArg V.int e)]
      rfl
    refine ⟨_, rfl, p, dx, _, rfl, hp, p, dx, _, _, rfl, hp, fl_top _ _, _, rfl, ?_⟩
    refine ⟨_, rfl, p, dx, _, rfl, hp, p, dx, _, _, rfl, hp, fl_bot _ _, _, _, rfl, ?_⟩
    refine while_by (fun σ H' => H' = H ∧ ∃ a b : Int, σ = [some (.ref p), some (.ref pp), some (.int a), some (.int b)] ∧ 0 ≤ a ∧ 0 ≤ b ∧ Nat.gcd a.natAbs b.natAbs = 1)
      (fun σ _ => match σ with | [_, _, _, some (.int b)] => b.toNat | _ => 0) ⟨rfl, _, u, rfl, ?_, by omega, ?_⟩ ?_ ?_
    · split <;> omega
    · rw [← r2]
      congr 1
      split <;> omega
    · rintro σ H' ⟨rfl, a, b, rfl, ha, hb, hg⟩
      refine ⟨_, rfl, _, _, rfl, rfl, _, rfl, ?_⟩
      by_cases c : 0 < b
      · refine if_true_of (decide_eq_true c) ?_
        refine ⟨_, rfl, _, rfl, _, rfl, _, _, rfl, rfl, c, _, _, rfl, ?_⟩
        have m0 : 0 ≤ a % b := Int.emod_nonneg _ (by omega)
        have m1 : a % b < b := Int.emod_lt_of_pos _ c
        refine ⟨⟨rfl, b, a % b, rfl, hb, m0, ?_⟩, ?_⟩
        · rw [← hg, ← Am.gcd_step (show 0 < b.natAbs by omega)]
          congr 1
          rw [Int.natAbs_emod_of_nonneg ha]
        · show (a % b).toNat < b.toNat
          omega
      · refine if_false_of (decide_eq_false c) ?_
        have b0 : b = 0 := by omega
        subst b0
        have a1 : a = 1 := by
          have : a.natAbs = 1 := by simpa using hg
          omega
        subst a1
        exact ⟨_, rfl, rfl, q⟩
    · intro σ H' Q1 Q2 k h
      obtain ⟨v, h1, i, j, h2, h3, b, h4, h5⟩ := h
      exact ⟨v, h1, i, j, h2, h3, b, h4, k _ _ h5⟩
theorem ok_lsign (F : FnP K "_law_sign" sSign f fd) (mI : mg "int" = none) :
    FnOk P w K mg base (L2.CX P w) 1 f fd ["_law_one", "_law_other"] spLSign := by
  refine F.ok scSign (fun vs H Q E h => ?_) (fun cdv A outer s H vs Q E hr h => ?_)
  · obtain ⟨x, y, a, b, c, d, rfl, _⟩ := h
    rfl
  · obtain ⟨x, y, a, b, c, d, rfl, ⟨p1, rfl, h1⟩, ⟨p2, rfl, h2⟩, ha, hc, hb, hd, q⟩ := h
    refine ⟨_, pss_cons (ps_set (i := 2) scSign.nd rfl (Or.inl rfl) (pe_op op_mulW (pe_op op_mulW (pe_ix ix_tup (pv 0) pe_int (fun _ _ => rfl)) (pe_ix ix_tup (pv 0) pe_int (fun _ _ => rfl))) (pe_op op_pow (pe_ix ix_tup (pv 1) pe_int (fun _ _ => rfl)) pe_int)))
      (pss_cons (ps_set (i := 3) scSign.nd rfl (Or.inl rfl) (pe_op op_mulW (pe_op op_mulW (pe_ix ix_tup (pv 1) pe_int (fun _ _ => rfl)) (pe_ix ix_tup (pv 1) pe_int (fun _ _ => rfl))) (pe_op op_pow (pe_ix ix_tup (pv 0) pe_int (fun _ _ => rfl)) pe_int)))
      (pss_one (ps_ret (pe_op op_sub (pe_callTy call_int1 rfl mI boot_int' (pa_cons (pe_cmpR op_gt (pv 2) (pv 3) (nomark _)) pa_nil)) (pe_callTy call_int1 rfl mI boot_int' (pa_cons (pe_cmpR op_lt (pv 2) (pv 3) (nomark _)) pa_nil)))))), ?_⟩
    have i0 : ∀ x y : Int, atI [V.int x, V.int y] 0 = some (.int x) := fun _ _ => rfl
    have i1 : ∀ x y : Int, atI [V.int x, V.int y] 1 = some (.int y) := fun _ _ => rfl
    refine ⟨_, rfl, p1, _, _, _, rfl, rfl, SqT.of h1, i0 _ _, _, rfl, p1, _, _, _, rfl, rfl, SqT.of h1, i1 _ _, _, _, rfl, rfl, mulW_of ha hb (by omega), ?_⟩
    have e2 : (d ^ (2 : Int).toNat).natAbs < 2 ^ 200 := by
      show (d ^ 2).natAbs < 2 ^ 200
      rw [Int.pow_succ, Int.pow_succ, Int.pow_zero, Int.one_mul]
      exact pow_step (abs_mul_lt hd hd) (by omega)
    have f2 : (b ^ (2 : Int).toNat).natAbs < 2 ^ 200 := by
      show (b ^ 2).natAbs < 2 ^ 200
      rw [Int.pow_succ, Int.pow_succ, Int.pow_zero, Int.one_mul]
      exact pow_step (abs_mul_lt hb hb) (by omega)
    refine ⟨_, rfl, p2, _, _, _, rfl, rfl, SqT.of h2, i1 _ _, _, _, rfl, rfl, ⟨by decide, by decide, Nat.lt_of_lt_of_le hd (by decide)⟩, _, _, rfl, rfl, mulW_of (abs_mul_lt ha hb) e2 (by omega), ?_⟩
    refine ⟨_, rfl, p2, _, _, _, rfl, rfl, SqT.of h2, i0 _ _, _, rfl, p2, _, _, _, rfl, rfl, SqT.of h2, i1 _ _, _, _, rfl, rfl, mulW_of hc hd (by omega), ?_⟩
    refine ⟨_, rfl, p1, _, _, _, rfl, rfl, SqT.of h1, i1 _ _, _, _, rfl, rfl, ⟨by decide, by decide, Nat.lt_of_lt_of_le hb (by decide)⟩, _, _, rfl, rfl, mulW_of (abs_mul_lt hc hd) f2 (by omega), ?_⟩
    refine ⟨_, rfl, _, rfl, _, _, rfl, rfl, .inr ⟨_, rfl, _, rfl, _, rfl, _, _, rfl, rfl, .inr ⟨_, rfl, _, _, rfl, rfl, ?_⟩⟩⟩
    have key : ∀ L R : Int, (if decide (R < L) = true then (1 : Int) else 0) - (if decide (L < R) = true then (1 : Int) else 0) = sgn L R := by
      intro L R
      unfold sgn
      by_cases c1 : L < R
      · have c2 : ¬ R < L := by omega
        simp [c1, c2]
      · by_cases c2 : R < L
        · simp [c1, c2]
        · simp [c1, c2]
    have kk := key (a * b * d ^ 2) (c * d * b ^ 2)
    show Q (.int ((if decide (c * d * b ^ 2 < a * b * d ^ 2) = true then (1 : Int) else 0) - (if decide (a * b * d ^ 2 < c * d * b ^ 2) = true then (1 : Int) else 0))) H
    rw [kk]
    exact q
end
end K02

set_option Elab.async false
set_option linter.all false
set_option maxRecDepth 100000
set_option maxHeartbeats 4000000
set_option exponentiation.threshold 100000
namespace K02
open PySem PySem.Spec PyProof.Rows L2 Fa Fb
/-! ### what a def of the law or of the program is, with all that a call needs -/
structure Fn (P : Program) (w : World) (K : PySem.W.Frag) (mg : Str → Option Value) (base : Heap) (x : Str) (lev : Nat) (ps : List Str) (sp : Sp) (f : Addr) (fd : FuncData) : Prop where
  ok : FnOk P w K mg base (L2.CX P w) lev f fd ps sp
  g : mg x = some (.ref f)
  k : PySem.W.keepIn K (.ref f) = true
  b : Binds K fd ps []
structure FnS (P : Program) (w : World) (K : PySem.W.Frag) (mg : Str → Option Value) (base : Heap) (x : Str) (lev : Nat) (sp : Sp) (f : Addr) : Prop where
  ok : FnR P w K mg base (L2.CX P w) lev f sp
  g : mg x = some (.ref f)
  k : PySem.W.keepIn K (.ref f) = true
structure OpK (P : Program) (w : World) (K : PySem.W.Frag) (mg : Str → Option Value) (base : Heap) (nm : String) (lev : Nat) (sp : Sp) (f : Addr) (fd : FuncData) : Prop where
  op : OpF K nm f
  ok : FnOk P w K mg base (L2.CX P w) lev f fd ["self", "other"] sp
  b : Binds K fd ["self", "other"] []
structure MeK (P : Program) (w : World) (K : PySem.W.Frag) (mg : Str → Option Value) (base : Heap) (m : Str) (lev : Nat) (sp : Sp) (f : Addr) (fd : FuncData) : Prop where
  me : Meth K (CA K) m f
  ok : FnOk P w K mg base (L2.CX P w) lev f fd ["self", "other"] sp
  b : Binds K fd ["self", "other"] []
abbrev spAdd (K : PySem.W.Frag) : Sp := spOp K (fun t u t2 u2 => t * u2 + t2 * u) (fun _ u _ u2 => u * u2)
abbrev spSub (K : PySem.W.Frag) : Sp := spOp K (fun t u t2 u2 => t * u2 - t2 * u) (fun _ u _ u2 => u * u2)
abbrev spMul (K : PySem.W.Frag) : Sp := spOp K (fun t _ t2 _ => t * t2) (fun _ u _ u2 => u * u2)
/-! ### fractions -/
theorem alg_add {t u t2 u2 a b c d t' u' : Int} (hu : u ≠ 0) (hu2 : u2 ≠ 0) (e1 : t * b = a * u) (e2 : t2 * d = c * u2) (e : t' * (u * u2) = (t * u2 + t2 * u) * u') : t' * (b * d) = (a * d + c * b) * u' := by
  have z : (t' * (b * d)) * (u * u2) = ((a * d + c * b) * u') * (u * u2) := by grind
  exact Int.eq_of_mul_eq_mul_right (Int.mul_ne_zero hu hu2) z
theorem alg_sub {t u t2 u2 a b c d t' u' : Int} (hu : u ≠ 0) (hu2 : u2 ≠ 0) (e1 : t * b = a * u) (e2 : t2 * d = c * u2) (e : t' * (u * u2) = (t * u2 - t2 * u) * u') : t' * (b * d) = (a * d - c * b) * u' := by
  have z : (t' * (b * d)) * (u * u2) = ((a * d - c * b) * u') * (u * u2) := by grind
  exact Int.eq_of_mul_eq_mul_right (Int.mul_ne_zero hu hu2) z
theorem alg_mul {t u t2 u2 a b c d t' u' : Int} (hu : u ≠ 0) (hu2 : u2 ≠ 0) (e1 : t * b = a * u) (e2 : t2 * d = c * u2) (e : t' * (u * u2) = (t * t2) * u') : t' * (b * d) = (a * c) * u' := by
  have z : (t' * (b * d)) * (u * u2) = ((a * c) * u') * (u * u2) := by grind
  exact Int.eq_of_mul_eq_mul_right (Int.mul_ne_zero hu hu2) z
theorem alg_div {t u t2 u2 a b c d t' u' : Int} (hu : u ≠ 0) (hu2 : u2 ≠ 0) (ht : t2 ≠ 0) (e1 : t * b = a * u) (e2 : t2 * d = c * u2) (e : t' * (u * t2) = (t * u2) * u') : t' * (b * c) = (a * d) * u' := by
  have z : (t' * (b * c)) * (u * t2) = ((a * d) * u') * (u * t2) := by grind
  exact Int.eq_of_mul_eq_mul_right (Int.mul_ne_zero hu ht) z
theorem alg_zero {t2 u2 c d : Int} (hu2 : u2 ≠ 0) (e2 : t2 * d = c * u2) (ht : t2 = 0) : c = 0 := by
  subst ht
  rw [Int.zero_mul] at e2
  rcases Int.mul_eq_zero.mp e2.symm with h | h
  · exact h
  · exact absurd h hu2
theorem alg_tot {t u t2 u2 a b c d t' u' n1 n2 n3 n4 n5 n6 n7 : _} {v1 v2 : V} (hu : u ≠ 0) (hu2 : u2 ≠ 0) (e1 : t * b = a * u) (e2 : t2 * d = c * u2)
    (e : t' * (fsum [⟨v1, t, u, n1⟩, ⟨v2, t2, u2, n2⟩, ⟨v1, t, u, n3⟩, ⟨v2, t2, u2, n4⟩, ⟨.int 0, 0, 1, n5⟩, ⟨v1, t, u, n6⟩, ⟨v2, t2, u2, n7⟩]).2 = (fsum [⟨v1, t, u, n1⟩, ⟨v2, t2, u2, n2⟩, ⟨v1, t, u, n3⟩, ⟨v2, t2, u2, n4⟩, ⟨.int 0, 0, 1, n5⟩, ⟨v1, t, u, n6⟩, ⟨v2, t2, u2, n7⟩]).1 * u') : t' * (b * d) = (3 * a * d + 3 * c * b) * u' := by
  simp only [fsum, List.foldl] at e
  have h : u * u2 ≠ 0 := Int.mul_ne_zero hu hu2
  have z : (t' * (b * d)) * (u * u2) = ((3 * a * d + 3 * c * b) * u') * (u * u2) := by
    have e3 : (t' * (u * u2)) * ((u * u2) * (u * u2)) = (3 * (t * u2 + t2 * u) * u') * ((u * u2) * (u * u2)) := by grind
    have e4 : t' * (u * u2) = 3 * (t * u2 + t2 * u) * u' := Int.eq_of_mul_eq_mul_right (Int.mul_ne_zero h h) e3
    grind
  exact Int.eq_of_mul_eq_mul_right h z
theorem sg {x p q y : Int} (hp : 0 < p) (hq : 0 < q) (e : x * p = q * y) : (0 < x ↔ 0 < y) ∧ (x = 0 ↔ y = 0) := by
  refine ⟨⟨fun h => ?_, fun h => ?_⟩, ⟨fun h => ?_, fun h => ?_⟩⟩
  · have z : 0 < x * p := Int.mul_pos h hp
    rcases Int.lt_or_le 0 y with k | k
    · exact k
    · have z2 : q * y ≤ 0 := Int.mul_nonpos_of_nonneg_of_nonpos (Int.le_of_lt hq) k
      omega
  · have z : 0 < q * y := Int.mul_pos hq h
    rcases Int.lt_or_le 0 x with k | k
    · exact k
    · have z2 : x * p ≤ 0 := Int.mul_nonpos_of_nonpos_of_nonneg k (Int.le_of_lt hp)
      omega
  · subst h
    rw [Int.zero_mul] at e
    rcases Int.mul_eq_zero.mp e.symm with k | k
    · omega
    · exact k
  · subst h
    rw [Int.mul_zero] at e
    rcases Int.mul_eq_zero.mp e with k | k
    · exact k
    · omega
theorem sq_pos {x : Int} (h : x ≠ 0) : 0 < x * x := by
  rcases Int.lt_or_gt_of_ne h with k | k
  · exact Int.mul_pos_of_neg_of_neg k k
  · exact Int.mul_pos k k
theorem alg_cmp {t u t2 u2 a b c d : Int} {n m : Nat} {v1 v2 : V} (hu : 0 < u) (hu2 : 0 < u2) (hb : b ≠ 0) (hd : d ≠ 0) (e1 : t * b = a * u) (e2 : t2 * d = c * u2) : sgn (a * b * d ^ 2) (c * d * b ^ 2) = scmp ⟨v1, t, u, n⟩ ⟨v2, t2, u2, m⟩ := by
  have hk : 0 < (b * d) * (b * d) := sq_pos (Int.mul_ne_zero hb hd)
  have hq : 0 < u * u2 := Int.mul_pos hu hu2
  have e : (a * b * d ^ 2 - c * d * b ^ 2) * (u * u2) = ((b * d) * (b * d)) * (t * u2 - t2 * u) := by grind
  obtain ⟨k1, k2⟩ := sg hq hk e
  unfold sgn scmp
  show (if _ then _ else if _ then _ else _) = (if t * u2 - t2 * u = 0 then (0 : Int) else if 0 < t * u2 - t2 * u then 1 else -1)
  by_cases c0 : t * u2 - t2 * u = 0
  · have l0 := k2.mpr c0
    rw [if_pos c0, if_neg (by omega), if_neg (by omega)]
  · have l0 : ¬ a * b * d ^ 2 - c * d * b ^ 2 = 0 := fun z => c0 (k2.mp z)
    rw [if_neg c0]
    by_cases c1 : 0 < t * u2 - t2 * u
    · have l1 := k1.mpr c1
      rw [if_pos c1, if_neg (by omega), if_pos (by omega)]
    · have l1 : ¬ 0 < a * b * d ^ 2 - c * d * b ^ 2 := fun z => c1 (k1.mp z)
      rw [if_neg c1, if_pos (by omega)]
end K02

set_option Elab.async false
set_option linter.all false
set_option maxRecDepth 100000
set_option maxHeartbeats 4000000
set_option exponentiation.threshold 100000
namespace K02
open PySem PySem.Spec PyProof.Rows L2 Fa Fb
theorem scmp_self (g : Gd) : scmp g g = 0 := by
  unfold scmp
  rw [if_pos (by omega)]
theorem scmp_anti (g h : Gd) : scmp h g = - scmp g h := by
  unfold scmp
  by_cases c0 : g.t * h.u - h.t * g.u = 0
  · rw [if_pos c0, if_pos (by omega)]
    rfl
  · rw [if_neg c0, if_neg (by omega)]
    by_cases c1 : 0 < g.t * h.u - h.t * g.u
    · rw [if_pos c1, if_neg (by omega)]
    · rw [if_neg c1, if_pos (by omega)]
      rfl
theorem scmp_three (g h : Gd) : scmp g h = -1 ∨ scmp g h = 0 ∨ scmp g h = 1 := by
  unfold scmp
  split
  · exact .inr (.inl rfl)
  · split
    · exact .inr (.inr rfl)
    · exact .inl rfl
theorem best_two {side : Int} (hs : side = 1 ∨ side = -1) (g h : Gd) : best side h [h, h, h, g, h] = if scmp g h = side then g else h := by
  have n0 : ¬ (0 : Int) = side := by omega
  have e : best side h [h, h, h, g, h] = (if scmp h (if scmp g h = side then g else h) = side then h else (if scmp g h = side then g else h)) := by
    simp only [best, List.foldl, scmp_self, if_neg n0]
  rw [e]
  by_cases c : scmp g h = side
  · rw [if_pos c, scmp_anti, c, if_neg (by omega)]
  · rw [if_neg c, scmp_self, if_neg n0]
theorem scmp_zero {g h : Gd} (e : scmp g h = 0) : g.t * h.u = h.t * g.u := by
  unfold scmp at e
  by_cases c0 : g.t * h.u - h.t * g.u = 0
  · omega
  · rw [if_neg c0] at e
    split at e <;> omega
theorem lg_cmp (g h : Gd) : (scmp g h).natAbs.log2 < 1920 := by
  rcases scmp_three g h with e | e | e <;> rw [e] <;> decide
theorem alg_same {t u t2 u2 a b : Int} (hu : u ≠ 0) (e1 : t * b = a * u) (e : t * u2 = t2 * u) : t2 * b = a * u2 := by
  have z : (t2 * b) * u = (a * u2) * u := by grind
  exact Int.eq_of_mul_eq_mul_right hu z
theorem cut_of {R : Hp → Prop} {G : Prop} {S : Hp → Prop} (k : (∀ H5, S H5 → R H5) → G) (r : ∀ H5, S H5 → R H5) : G := k r
theorem cut_of2 {α β : Type} {R : α → β → Prop} {G : Prop} {S : α → β → Prop} (k : (∀ x y, S x y → R x y) → G) (r : ∀ x y, S x y → R x y) : G := k r
theorem boot_repr : bootBuiltins "repr" = some (.builtin "repr") := by decide +kernel
theorem passS {X : Cx} (σ : L2.St) : PassesAt (L2.CX X.prog X.w) X σ ((fun _ => E0 : L2.St → XK) σ) := fun pins H s e s' i c => passL pins σ H s e s' i c
abbrev sTwo : Stmt := top 24
theorem scTwo : FnScope ["_law_one", "_law_other", "_law_left", "_law_right", "_law_low", "_law_due", "_law_both", "_law_high"] ["_law_one", "_law_other", "_law_left", "_law_right"] (defScope sTwo) := ⟨rfl, rfl, rfl, by decide +kernel, rfl, by decide +kernel, by decide +kernel⟩
def spTwo (K : PySem.W.Frag) : Sp := fun vs H Q _ => ∃ x y l r t u t2 u2 a b c d, vs = [x, y, l, r] ∧ IsA K H x t u 110 ∧ Arg K H y t2 u2 110 ∧ Pr H l a b ∧ Pr H r c d ∧ b ≠ 0 ∧ d ≠ 0 ∧ a.natAbs < 2 ^ 110 ∧ c.natAbs < 2 ^ 110 ∧ b.natAbs < 2 ^ 60 ∧ d.natAbs < 2 ^ 60 ∧ t * b = a * u ∧ t2 * d = c * u2 ∧ ∀ H', Same H H' → Q (.bl true) H'
section
variable {P : Program} {w : World} {K : PySem.W.Frag} {mg : Str → Option Value} {base : Heap} {f f3 f4 fo1 fo2 fo3 fm1 fm2 fs1 fs2 fs3 : Addr} {fd fd3 fd4 fdo1 fdo2 fdo3 fdm1 fdm2 : FuncData}
theorem Arg.pos (h : Arg K H x t u n) : 0 < u := by
  rcases h with ⟨_, _, _, _, ⟨h, _⟩, _⟩ | ⟨_, h, _⟩
  · exact h
  · omega
theorem Arg.tb (h : Arg K H x t u n) : t.natAbs < 2 ^ n := by
  rcases h with ⟨_, _, _, _, _, h, _⟩ | ⟨_, _, h, _⟩
  · exact h
  · exact h
theorem ok_two (F : FnP K "_law_two_right" sTwo f fd) (T : AF K mg) (mR : mg "repr" = none) (L3 : Fn P w K mg base "_law_is_pair" 3 ["_law_amount", "_law_pair_here"] (spLIs K) f3 fd3) (L4 : Fn P w K mg base "_law_sign" 1 ["_law_one", "_law_other"] spLSign f4 fd4)
    (O1 : OpK P w K mg base "add" 7 (spAdd K) fo1 fdo1) (O2 : OpK P w K mg base "sub" 7 (spSub K) fo2 fdo2) (O3 : OpK P w K mg base "mul" 7 (spMul K) fo3 fdo3) (M1 : MeK P w K mg base "divided" 7 (spDiv K) fm1 fdm1) (M2 : MeK P w K mg base "compare" 7 (spCmp K) fm2 fdm2)
    (S1 : FnS P w K mg base "total" 8 (spTot K) fs1) (S2 : FnS P w K mg base "least" 9 (spFL K (-1)) fs2) (S3 : FnS P w K mg base "greatest" 9 (spFL K 1) fs3) :
    FnOk P w K mg base (L2.CX P w) 10 f fd ["_law_one", "_law_other", "_law_left", "_law_right"] (spTwo K) := by
  refine F.ok scTwo (fun vs H Q E h => ?_) (fun cdv A outer s H vs Q E hr h => ?_)
  · obtain ⟨x, y, l, r, t, u, t2, u2, a, b, c, d, rfl, _⟩ := h
    rfl
  · obtain ⟨x, y, l, r, t, u, t2, u2, a, b, c, d, rfl, ix, ay, ⟨pl, rfl, hl⟩, ⟨pr, rfl, hr0⟩, hb0, hd0, ha, hc, hb, hd, e1, e2, q⟩ := h
    have hr8 := hr.mono (show 8 ≤ 9 by decide)
    have hr7 := hr.mono (show 7 ≤ 9 by decide)
    have hr3 := hr.mono (show 3 ≤ 9 by decide)
    have hr1 := hr.mono (show 1 ≤ 9 by decide)
    have i0 : ∀ x y : Int, atI [V.int x, V.int y] 0 = some (.int x) := fun _ _ => rfl
    have i1 : ∀ x y : Int, atI [V.int x, V.int y] 1 = some (.int y) := fun _ _ => rfl
    have u0 : 0 < u := by
      obtain ⟨_, _, _, _, ⟨h, _⟩, _⟩ := id ix
      exact h
    have u20 : 0 < u2 := ay.pos
    obtain ⟨p, dx, rfl, hp, rr, bx1, bx2⟩ := id ix
    refine ⟨_, (pss_cons (ps_set (i := 4) scTwo.nd rfl (Or.inl rfl) (pe_op op_mulW (pe_ix ix_tup (pv 2) pe_int (fun _ _ => rfl)) (pe_ix ix_tup (pv 3) pe_int (fun _ _ => rfl))))
      (pss_cons (ps_set (i := 5) scTwo.nd rfl (Or.inl rfl) (pe_tup (pa_cons (pe_op op_add (pe_op op_mulW (pe_ix ix_tup (pv 2) pe_int (fun _ _ => rfl)) (pe_ix ix_tup (pv 3) pe_int (fun _ _ => rfl))) (pe_op op_mulW (pe_ix ix_tup (pv 3) pe_int (fun _ _ => rfl)) (pe_ix ix_tup (pv 2) pe_int (fun _ _ => rfl)))) (pa_cons (pv 4) pa_nil))))
      (pss_cons (ps_if (pt_not (pt_val (pe_call L3.ok hr3 rfl L3.g L3.k L3.b .nil passL (pa_cons (pe_binX (op := .Add) O1.op.own O1.ok hr7 O1.b (fun σ => passS σ) (pv 0) (pv 1)) (pa_cons (pv 5) pa_nil))))) (pss_one (ps_ret pe_bl)) pss_nil)
      (pss_cons (ps_set (i := 5) scTwo.nd rfl (Or.inl rfl) (pe_tup (pa_cons (pe_op op_sub (pe_op op_mulW (pe_ix ix_tup (pv 2) pe_int (fun _ _ => rfl)) (pe_ix ix_tup (pv 3) pe_int (fun _ _ => rfl))) (pe_op op_mulW (pe_ix ix_tup (pv 3) pe_int (fun _ _ => rfl)) (pe_ix ix_tup (pv 2) pe_int (fun _ _ => rfl)))) (pa_cons (pv 4) pa_nil))))
      (pss_cons (ps_if (pt_not (pt_val (pe_call L3.ok hr3 rfl L3.g L3.k L3.b .nil passL (pa_cons (pe_binX (op := .Sub) O2.op.own O2.ok hr7 O2.b (fun σ => passS σ) (pv 0) (pv 1)) (pa_cons (pv 5) pa_nil))))) (pss_one (ps_ret pe_bl)) pss_nil)
      (pss_cons (ps_set (i := 5) scTwo.nd rfl (Or.inl rfl) (pe_tup (pa_cons (pe_op op_mulW (pe_ix ix_tup (pv 2) pe_int (fun _ _ => rfl)) (pe_ix ix_tup (pv 3) pe_int (fun _ _ => rfl))) (pa_cons (pe_op op_mulW (pe_ix ix_tup (pv 2) pe_int (fun _ _ => rfl)) (pe_ix ix_tup (pv 3) pe_int (fun _ _ => rfl))) pa_nil))))
      (pss_cons (ps_if (pt_not (pt_val (pe_call L3.ok hr3 rfl L3.g L3.k L3.b .nil passL (pa_cons (pe_binX (op := .Mult) O3.op.own O3.ok hr7 O3.b (fun σ => passS σ) (pv 0) (pv 1)) (pa_cons (pv 5) pa_nil))))) (pss_one (ps_ret pe_bl)) pss_nil)
      (pss_cons (ps_set (i := 5) scTwo.nd rfl (Or.inl rfl) (pe_tup (pa_cons (pe_op op_mulW (pe_ix ix_tup (pv 2) pe_int (fun _ _ => rfl)) (pe_ix ix_tup (pv 3) pe_int (fun _ _ => rfl))) (pa_cons (pe_op op_mulW (pe_ix ix_tup (pv 2) pe_int (fun _ _ => rfl)) (pe_ix ix_tup (pv 3) pe_int (fun _ _ => rfl))) pa_nil))))
      (pss_cons (ps_if (PW.pt (pw_and (pt_cmpR op_ne (pe_ix ix_tup (pv 3) pe_int (fun _ _ => rfl)) pe_int (nomark _)) (pw_and1 (pt_not (pt_val (pe_call L3.ok hr3 rfl L3.g L3.k L3.b .nil passL (pa_cons (pe_meth (pv 0) T.cl M1.me M1.ok hr7 M1.b .nil passL (pa_cons (pv 1) pa_nil)) (pa_cons (pv 5) pa_nil)))))))) (pss_one (ps_ret pe_bl)) pss_nil)
      (pss_cons (ps_set (i := 6) scTwo.nd rfl (Or.inl rfl) (pe_callR S1.ok hr8 rfl S1.g S1.k (fun σ => passS σ) (pa_cons (pv 0) (pa_cons (pv 1) (pa_cons (pv 0) (pa_cons (pv 1) (pa_cons pe_int (pa_cons (pv 0) (pa_cons (pv 1) pa_nil)))))))))
      (pss_cons (ps_if (pt_not (pt_val (pe_call L3.ok hr3 rfl L3.g L3.k L3.b .nil passL (pa_cons (pv 6) (pa_cons (pe_tup (pa_cons (pe_op op_add (pe_op op_mulW (pe_op op_mulW pe_int (pe_ix ix_tup (pv 2) pe_int (fun _ _ => rfl))) (pe_ix ix_tup (pv 3) pe_int (fun _ _ => rfl))) (pe_op op_mulW (pe_op op_mulW pe_int (pe_ix ix_tup (pv 3) pe_int (fun _ _ => rfl))) (pe_ix ix_tup (pv 2) pe_int (fun _ _ => rfl)))) (pa_cons (pv 4) pa_nil))) pa_nil))))) (pss_one (ps_ret pe_bl)) pss_nil)
      (pss_cons (ps_asg (pe_ifExp (pt_cmpR op_lt (pe_call L4.ok hr1 rfl L4.g L4.k L4.b .nil passL (pa_cons (pv 2) (pa_cons (pv 3) pa_nil))) pe_int (nomark _)) (pe_tup (pa_cons (pv 2) (pa_cons (pv 3) pa_nil))) (pe_tup (pa_cons (pv 3) (pa_cons (pv 2) pa_nil)))) (pg_tup (by rfl) (pgs_cons (pg_name (i := 4) scTwo.nd rfl (Or.inl rfl)) (pgs_cons (pg_name (i := 7) scTwo.nd rfl (Or.inl rfl)) pgs_nil))))
      (pss_cons (ps_if (pt_not (pt_val (pe_call L3.ok hr3 rfl L3.g L3.k L3.b .nil passL (pa_cons (pe_callR S2.ok hr rfl S2.g S2.k (fun σ => passS σ) (pa_cons (pv 1) (pa_cons (pv 1) (pa_cons (pv 1) (pa_cons (pv 1) (pa_cons (pv 0) (pa_cons (pv 1) pa_nil))))))) (pa_cons (pv 4) pa_nil))))) (pss_one (ps_ret pe_bl)) pss_nil)
      (pss_cons (ps_if (pt_not (pt_val (pe_call L3.ok hr3 rfl L3.g L3.k L3.b .nil passL (pa_cons (pe_callR S3.ok hr rfl S3.g S3.k (fun σ => passS σ) (pa_cons (pv 1) (pa_cons (pv 1) (pa_cons (pv 1) (pa_cons (pv 1) (pa_cons (pv 0) (pa_cons (pv 1) pa_nil))))))) (pa_cons (pv 7) pa_nil))))) (pss_one (ps_ret pe_bl)) pss_nil)
      (pss_one (ps_ret (pe_cmpR op_eq (pe_callB SkE.call_repr_int rfl mR boot_repr (pa_cons (pe_meth (pv 0) T.cl M2.me M2.ok hr7 M2.b .nil passL (pa_cons (pv 1) pa_nil)) pa_nil)) (pe_callB SkE.call_repr_int rfl mR boot_repr (pa_cons (pe_call L4.ok hr1 rfl L4.g L4.k L4.b .nil passL (pa_cons (pv 2) (pa_cons (pv 3) pa_nil))) pa_nil)) (nomark _)))))))))))))))))), ?_⟩
    -- low
    refine ⟨_, rfl, pl, _, _, _, rfl, rfl, SqT.of hl, i1 _ _, _, rfl, pr, _, _, _, rfl, rfl, SqT.of hr0, i1 _ _, _, _, rfl, rfl, mulW_of hb hd (by omega), ?_⟩
    -- the sum
    refine ⟨_, rfl, pl, _, _, _, rfl, rfl, SqT.of hl, i0 _ _, _, rfl, pr, _, _, _, rfl, rfl, SqT.of hr0, i1 _ _, _, _, rfl, rfl, mulW_of ha hd (by omega), ?_⟩
    refine ⟨_, rfl, pr, _, _, _, rfl, rfl, SqT.of hr0, i0 _ _, _, rfl, pl, _, _, _, rfl, rfl, SqT.of hl, i1 _ _, _, _, rfl, rfl, mulW_of hc hb (by omega), ?_⟩
    refine ⟨_, _, rfl, rfl, _, rfl, (by show 2 ≤ sizeLine; decide), fun p1 hp1 => ?_⟩
    have s1 := Same.upd (o := .tup [.int (a * d + c * b), .int (b * d)]) hp1
    refine ⟨_, rfl, _, rfl, p, dx, _, rfl, s1 _ _ hp, O1.op.arg (ay.same s1), _, _, t, u, 110, rfl, ix.same s1, .inr ⟨t2, u2, 110, ay.same s1, by omega, fun z1 H1 t1' u1' sm1 iz1 ez1 => ?_⟩⟩
    refine ⟨_, rfl, z1, _, t1', u1', _, _, _, rfl, iz1, by omega, ⟨p1, rfl, sm1 _ _ upd_same⟩, pow_step (abs_add_lt (abs_mul_lt ha hd) (abs_mul_lt hc hb)) (by omega), pow_step (abs_mul_lt hb hd) (by omega), alg_add (by omega) (by omega) e1 e2 ez1, true, rfl, iteF ?_⟩
    have sA := s1.trans sm1
    -- the difference
    have hlA := sA _ _ hl
    have hrA := sA _ _ hr0
    refine ⟨_, rfl, pl, _, _, _, rfl, rfl, SqT.of hlA, i0 _ _, _, rfl, pr, _, _, _, rfl, rfl, SqT.of hrA, i1 _ _, _, _, rfl, rfl, mulW_of ha hd (by omega), ?_⟩
    refine ⟨_, rfl, pr, _, _, _, rfl, rfl, SqT.of hrA, i0 _ _, _, rfl, pl, _, _, _, rfl, rfl, SqT.of hlA, i1 _ _, _, _, rfl, rfl, mulW_of hc hb (by omega), ?_⟩
    refine ⟨_, _, rfl, rfl, _, rfl, (by show 2 ≤ sizeLine; decide), fun p2 hp2 => ?_⟩
    have s2 := sA.trans (Same.upd (o := .tup [.int (a * d - c * b), .int (b * d)]) hp2)
    refine ⟨_, rfl, _, rfl, p, dx, _, rfl, s2 _ _ hp, O2.op.arg (ay.same s2), _, _, t, u, 110, rfl, ix.same s2, .inr ⟨t2, u2, 110, ay.same s2, by omega, fun z2 H2 t2' u2' sm2 iz2 ez2 => ?_⟩⟩
    refine ⟨_, rfl, z2, _, t2', u2', _, _, _, rfl, iz2, by omega, ⟨p2, rfl, sm2 _ _ upd_same⟩, pow_step (abs_sub_lt (abs_mul_lt ha hd) (abs_mul_lt hc hb)) (by omega), pow_step (abs_mul_lt hb hd) (by omega), alg_sub (by omega) (by omega) e1 e2 ez2, true, rfl, iteF ?_⟩
    have sB := s2.trans sm2
    -- the product
    have hlB := sB _ _ hl
    have hrB := sB _ _ hr0
    refine ⟨_, rfl, pl, _, _, _, rfl, rfl, SqT.of hlB, i0 _ _, _, rfl, pr, _, _, _, rfl, rfl, SqT.of hrB, i0 _ _, _, _, rfl, rfl, mulW_of ha hc (by omega), ?_⟩
    refine ⟨_, rfl, pl, _, _, _, rfl, rfl, SqT.of hlB, i1 _ _, _, rfl, pr, _, _, _, rfl, rfl, SqT.of hrB, i1 _ _, _, _, rfl, rfl, mulW_of hb hd (by omega), ?_⟩
    refine ⟨(by show 2 ≤ sizeLine; decide), fun p3 hp3 => ?_⟩
    have s3 := sB.trans (Same.upd (o := .tup [.int (a * c), .int (b * d)]) hp3)
    refine ⟨_, rfl, _, rfl, p, dx, _, rfl, s3 _ _ hp, O3.op.arg (ay.same s3), _, _, t, u, 110, rfl, ix.same s3, .inr ⟨t2, u2, 110, ay.same s3, by omega, fun z3 H3 t3' u3' sm3 iz3 ez3 => ?_⟩⟩
    refine ⟨_, rfl, z3, _, t3', u3', _, _, _, rfl, iz3, by omega, ⟨p3, rfl, sm3 _ _ upd_same⟩, pow_step (abs_mul_lt ha hc) (by omega), pow_step (abs_mul_lt hb hd) (by omega), alg_mul (by omega) (by omega) e1 e2 ez3, true, rfl, iteF ?_⟩
    have sC := s3.trans sm3
    -- the quotient
    have hlC := sC _ _ hl
    have hrC := sC _ _ hr0
    refine ⟨_, rfl, pl, _, _, _, rfl, rfl, SqT.of hlC, i0 _ _, _, rfl, pr, _, _, _, rfl, rfl, SqT.of hrC, i1 _ _, _, _, rfl, rfl, mulW_of ha hd (by omega), ?_⟩
    refine ⟨_, rfl, pl, _, _, _, rfl, rfl, SqT.of hlC, i1 _ _, _, rfl, pr, _, _, _, rfl, rfl, SqT.of hrC, i0 _ _, _, _, rfl, rfl, mulW_of hb hc (by omega), ?_⟩
    refine ⟨(by show 2 ≤ sizeLine; decide), fun p4 hp4 => ?_⟩
    have s4 := sC.trans (Same.upd (o := .tup [.int (a * d), .int (b * c)]) hp4)
    apply cut_of (S := fun H5 => Same H H5)
    · intro rest
      have hr4 := s4 _ _ hr0
      refine ⟨_, rfl, pr, _, _, _, rfl, rfl, SqT.of hr4, i0 _ _, rfl, _, rfl, ?_⟩
      refine ite2 (fun c0 => ?_) (fun c0 => ?_)
      · have ht2 : t2 ≠ 0 := fun z => by
          have zc : c = 0 := alg_zero (by omega) e2 z
          have c1 : (!decide (V.int c = V.int 0)) = true := c0
          rw [decide_eq_true (congrArg V.int zc)] at c1
          exact absurd c1 Bool.false_ne_true
        refine ⟨_, rfl, p, dx, _, rfl, s4 _ _ hp, fl_no _ _ (by decide +kernel) (by decide +kernel), _, rfl, ?_⟩
        refine ⟨.ref p, y, t, u, 110, rfl, ix.same s4, .inr ⟨t2, u2, 110, ay.same s4, by omega, fun z => absurd z ht2, fun _ z5 H5 t5 u5 sm5 iz5 ez5 => ?_⟩⟩
        refine ⟨_, rfl, z5, _, t5, u5, _, _, _, rfl, iz5, by omega, ⟨p4, rfl, sm5 _ _ upd_same⟩, pow_step (abs_mul_lt ha hd) (by omega), pow_step (abs_mul_lt hb hc) (by omega), alg_div (by omega) (by omega) ht2 e1 e2 ez5, true, rfl, iteF ?_⟩
        exact rest H5 (s4.trans sm5)
      · exact rest _ s4
    intro H5 s5
    -- the sum of seven
    refine ⟨_, rfl, _, rfl, _, rfl, _, rfl, _, rfl, _, rfl, ?_⟩
    refine ⟨[⟨.ref p, t, u, 110⟩, ⟨y, t2, u2, 110⟩, ⟨.ref p, t, u, 110⟩, ⟨y, t2, u2, 110⟩, ⟨.int 0, 0, 1, 1⟩, ⟨.ref p, t, u, 110⟩, ⟨y, t2, u2, 110⟩], [], rfl, by show 7 ≤ 100; decide, ?_, by show 669 < 6000; decide, .inl ⟨rfl, fun z6 H6 t6 u6 sm6 iz6 ez6 => ?_⟩⟩
    · intro g hg
      simp only [List.mem_cons, List.not_mem_nil, or_false] at hg
      rcases hg with rfl | rfl | rfl | rfl | rfl | rfl | rfl
      · exact ⟨.inl (ix.same s5), u0⟩
      · exact ⟨ay.same s5, u20⟩
      · exact ⟨.inl (ix.same s5), u0⟩
      · exact ⟨ay.same s5, u20⟩
      · exact ⟨.inr ⟨rfl, rfl, by decide, by decide⟩, by decide⟩
      · exact ⟨.inl (ix.same s5), u0⟩
      · exact ⟨ay.same s5, u20⟩
    have s6 := s5.trans sm6
    have hl6 := s6 _ _ hl
    have hr6 := s6 _ _ hr0
    refine ⟨_, rfl, _, rfl, pl, _, _, _, rfl, rfl, SqT.of hl6, i0 _ _, _, _, rfl, rfl, mulW_of (i := 3) (n := 2) (by decide) ha (by omega), _, rfl, pr, _, _, _, rfl, rfl, SqT.of hr6, i1 _ _, _, _, rfl, rfl, mulW_of (abs_mul_lt (i := 3) (n := 2) (by decide) ha) hd (by omega), ?_⟩
    refine ⟨_, rfl, pr, _, _, _, rfl, rfl, SqT.of hr6, i0 _ _, _, _, rfl, rfl, mulW_of (i := 3) (n := 2) (by decide) hc (by omega), _, rfl, pl, _, _, _, rfl, rfl, SqT.of hl6, i1 _ _, _, _, rfl, rfl, mulW_of (abs_mul_lt (i := 3) (n := 2) (by decide) hc) hb (by omega), ?_⟩
    refine ⟨_, _, rfl, rfl, _, rfl, (by show 2 ≤ sizeLine; decide), fun p7 hp7 => ?_⟩
    have s67 := Same.upd (o := .tup [.int (3 * a * d + 3 * c * b), .int (b * d)]) hp7
    have s7 := s6.trans s67
    refine ⟨z6, _, t6, u6, 669, _, _, rfl, iz6.same s67, by decide, ⟨p7, rfl, upd_same⟩, pow_step (abs_add_lt (abs_mul_lt (abs_mul_lt (i := 3) (n := 2) (by decide) ha) hd) (abs_mul_lt (abs_mul_lt (i := 3) (n := 2) (by decide) hc) hb)) (by omega), pow_step (abs_mul_lt hb hd) (by omega), alg_tot (by omega) (by omega) e1 e2 ez6, true, rfl, iteF ?_⟩
    have hl7 := s7 _ _ hl
    have hr7' := s7 _ _ hr0
    have cm : sgn (a * b * d ^ 2) (c * d * b ^ 2) = scmp ⟨.ref p, t, u, 110⟩ ⟨y, t2, u2, 110⟩ := alg_cmp u0 u20 hb0 hd0 e1 e2
    refine ⟨_, rfl, _, rfl, .ref pl, .ref pr, a, b, c, d, rfl, ⟨pl, rfl, hl7⟩, ⟨pr, rfl, hr7'⟩, pow_step ha (by omega), pow_step hc (by omega), hb, hd, _, _, rfl, rfl, _, rfl, ?_⟩
    rw [cm]
    by_cases cs : scmp ⟨.ref p, t, u, 110⟩ ⟨y, t2, u2, 110⟩ = -1
    · refine if_true_of (decide_eq_true (by rw [cs]; decide)) ?_
      refine ⟨_, rfl, _, rfl, (by show 2 ≤ sizeLine; decide), fun p8 hp8 => ?_⟩
      have s8 := s7.trans (Same.upd (o := .tup [.ref pl, .ref pr]) hp8)
      refine ⟨p8, _, rfl, SqT.of upd_same, rfl, _, _, rfl, _, _, rfl, rfl, ?_⟩
      refine ⟨_, rfl, _, rfl, _, rfl, _, rfl, _, rfl, _, rfl, by show 6 ≤ 100; decide, .inr ⟨⟨y, t2, u2, 110⟩ :: [⟨y, t2, u2, 110⟩, ⟨y, t2, u2, 110⟩, ⟨y, t2, u2, 110⟩, ⟨.ref p, t, u, 110⟩, ⟨y, t2, u2, 110⟩], [], rfl, by simp, by show 6 ≤ 100; decide, by
        intro g hg
        simp only [List.mem_cons, List.not_mem_nil, or_false] at hg
        rcases hg with rfl | rfl | rfl | rfl | rfl | rfl
        · exact ⟨ay.same s8, by show 110 ≤ 3000; decide⟩
        · exact ⟨ay.same s8, by show 110 ≤ 3000; decide⟩
        · exact ⟨ay.same s8, by show 110 ≤ 3000; decide⟩
        · exact ⟨ay.same s8, by show 110 ≤ 3000; decide⟩
        · exact ⟨.inl (ix.same s8), by show 110 ≤ 3000; decide⟩
        · exact ⟨ay.same s8, by show 110 ≤ 3000; decide⟩, .inl ⟨rfl, _, _, rfl, fun z9 H9 sm9 iz9 => ?_⟩⟩⟩
      rw [best_two (.inr rfl)] at iz9
      have s9 := s8.trans sm9
      rw [if_pos cs] at iz9
      refine ⟨_, rfl, z9, _, t, u, 110, a, b, rfl, iz9, by decide, ⟨pl, rfl, s9 _ _ hl⟩, pow_step ha (by omega), pow_step hb (by omega), e1, true, rfl, iteF ?_⟩
      refine ⟨_, rfl, _, rfl, _, rfl, _, rfl, _, rfl, _, rfl, by show 6 ≤ 100; decide, .inr ⟨⟨y, t2, u2, 110⟩ :: [⟨y, t2, u2, 110⟩, ⟨y, t2, u2, 110⟩, ⟨y, t2, u2, 110⟩, ⟨.ref p, t, u, 110⟩, ⟨y, t2, u2, 110⟩], [], rfl, by simp, by show 6 ≤ 100; decide, by
        intro g hg
        simp only [List.mem_cons, List.not_mem_nil, or_false] at hg
        rcases hg with rfl | rfl | rfl | rfl | rfl | rfl
        · exact ⟨ay.same s9, by show 110 ≤ 3000; decide⟩
        · exact ⟨ay.same s9, by show 110 ≤ 3000; decide⟩
        · exact ⟨ay.same s9, by show 110 ≤ 3000; decide⟩
        · exact ⟨ay.same s9, by show 110 ≤ 3000; decide⟩
        · exact ⟨.inl (ix.same s9), by show 110 ≤ 3000; decide⟩
        · exact ⟨ay.same s9, by show 110 ≤ 3000; decide⟩, .inl ⟨rfl, _, _, rfl, fun zA HA smA izA => ?_⟩⟩⟩
      rw [best_two (.inl rfl)] at izA
      have sA2 := s9.trans smA
      rw [if_neg (by rw [cs]; decide)] at izA
      refine ⟨_, rfl, zA, _, t2, u2, 110, c, d, rfl, izA, by decide, ⟨pr, rfl, sA2 _ _ hr0⟩, pow_step hc (by omega), pow_step hd (by omega), e2, true, rfl, iteF ?_⟩
      refine ⟨_, rfl, p, dx, _, rfl, sA2 _ _ hp, fl_no _ _ (by decide +kernel) (by decide +kernel), _, rfl, .ref p, y, t, u, 110, rfl, ix.same sA2, .inr ⟨t2, u2, 110, ay.same sA2, by omega, fun HB sB2 => ?_⟩⟩
      have sC2 := sA2.trans sB2
      refine ⟨_, rfl, lg_cmp ⟨.ref p, t, u, 110⟩ ⟨y, t2, u2, 110⟩, _, rfl, _, rfl, .ref pl, .ref pr, a, b, c, d, rfl, ⟨pl, rfl, sC2 _ _ hl⟩, ⟨pr, rfl, sC2 _ _ hr0⟩, pow_step ha (by omega), pow_step hc (by omega), hb, hd, _, rfl, ?_, rfl, ?_⟩
      · rw [cm]
        exact lg_cmp ⟨.ref p, t, u, 110⟩ ⟨y, t2, u2, 110⟩
      · rw [cm]
        have g := q HB sC2
        rw [← decide_eq_true (rfl : V.str (toString (scmp ⟨.ref p, t, u, 110⟩ ⟨y, t2, u2, 110⟩)) = _)] at g
        exact g
    · refine if_false_of (decide_eq_false (by have := scmp_three ⟨.ref p, t, u, 110⟩ ⟨y, t2, u2, 110⟩; omega)) ?_
      refine ⟨_, rfl, _, rfl, (by show 2 ≤ sizeLine; decide), fun p8 hp8 => ?_⟩
      have s8 := s7.trans (Same.upd (o := .tup [.ref pr, .ref pl]) hp8)
      refine ⟨p8, _, rfl, SqT.of upd_same, rfl, _, _, rfl, _, _, rfl, rfl, ?_⟩
      refine ⟨_, rfl, _, rfl, _, rfl, _, rfl, _, rfl, _, rfl, by show 6 ≤ 100; decide, .inr ⟨⟨y, t2, u2, 110⟩ :: [⟨y, t2, u2, 110⟩, ⟨y, t2, u2, 110⟩, ⟨y, t2, u2, 110⟩, ⟨.ref p, t, u, 110⟩, ⟨y, t2, u2, 110⟩], [], rfl, by simp, by show 6 ≤ 100; decide, by
        intro g hg
        simp only [List.mem_cons, List.not_mem_nil, or_false] at hg
        rcases hg with rfl | rfl | rfl | rfl | rfl | rfl
        · exact ⟨ay.same s8, by show 110 ≤ 3000; decide⟩
        · exact ⟨ay.same s8, by show 110 ≤ 3000; decide⟩
        · exact ⟨ay.same s8, by show 110 ≤ 3000; decide⟩
        · exact ⟨ay.same s8, by show 110 ≤ 3000; decide⟩
        · exact ⟨.inl (ix.same s8), by show 110 ≤ 3000; decide⟩
        · exact ⟨ay.same s8, by show 110 ≤ 3000; decide⟩, .inl ⟨rfl, _, _, rfl, fun z9 H9 sm9 iz9 => ?_⟩⟩⟩
      rw [best_two (.inr rfl)] at iz9
      have s9 := s8.trans sm9
      rw [if_neg cs] at iz9
      refine ⟨_, rfl, z9, _, t2, u2, 110, c, d, rfl, iz9, by decide, ⟨pr, rfl, s9 _ _ hr0⟩, pow_step hc (by omega), pow_step hd (by omega), e2, true, rfl, iteF ?_⟩
      refine ⟨_, rfl, _, rfl, _, rfl, _, rfl, _, rfl, _, rfl, by show 6 ≤ 100; decide, .inr ⟨⟨y, t2, u2, 110⟩ :: [⟨y, t2, u2, 110⟩, ⟨y, t2, u2, 110⟩, ⟨y, t2, u2, 110⟩, ⟨.ref p, t, u, 110⟩, ⟨y, t2, u2, 110⟩], [], rfl, by simp, by show 6 ≤ 100; decide, by
        intro g hg
        simp only [List.mem_cons, List.not_mem_nil, or_false] at hg
        rcases hg with rfl | rfl | rfl | rfl | rfl | rfl
        · exact ⟨ay.same s9, by show 110 ≤ 3000; decide⟩
        · exact ⟨ay.same s9, by show 110 ≤ 3000; decide⟩
        · exact ⟨ay.same s9, by show 110 ≤ 3000; decide⟩
        · exact ⟨ay.same s9, by show 110 ≤ 3000; decide⟩
        · exact ⟨.inl (ix.same s9), by show 110 ≤ 3000; decide⟩
        · exact ⟨ay.same s9, by show 110 ≤ 3000; decide⟩, .inl ⟨rfl, _, _, rfl, fun zA HA smA izA => ?_⟩⟩⟩
      rw [best_two (.inl rfl)] at izA
      have sA2 := s9.trans smA
      obtain ⟨tA, uA, iA, eA⟩ : ∃ tA uA, IsA K HA zA tA uA 110 ∧ tA * b = a * uA := by
        by_cases c1 : scmp ⟨.ref p, t, u, 110⟩ ⟨y, t2, u2, 110⟩ = 1
        · rw [if_pos c1] at izA
          exact ⟨t, u, izA, e1⟩
        · rw [if_neg c1] at izA
          refine ⟨t2, u2, izA, alg_same (by omega) e1 ?_⟩
          have c3 : scmp ⟨.ref p, t, u, 110⟩ ⟨y, t2, u2, 110⟩ = 0 := by
            have := scmp_three ⟨.ref p, t, u, 110⟩ ⟨y, t2, u2, 110⟩
            omega
          exact scmp_zero c3
      refine ⟨_, rfl, zA, _, tA, uA, 110, a, b, rfl, iA, by decide, ⟨pl, rfl, sA2 _ _ hl⟩, pow_step ha (by omega), pow_step hb (by omega), eA, true, rfl, iteF ?_⟩
      refine ⟨_, rfl, p, dx, _, rfl, sA2 _ _ hp, fl_no _ _ (by decide +kernel) (by decide +kernel), _, rfl, .ref p, y, t, u, 110, rfl, ix.same sA2, .inr ⟨t2, u2, 110, ay.same sA2, by omega, fun HB sB2 => ?_⟩⟩
      have sC2 := sA2.trans sB2
      refine ⟨_, rfl, lg_cmp ⟨.ref p, t, u, 110⟩ ⟨y, t2, u2, 110⟩, _, rfl, _, rfl, .ref pl, .ref pr, a, b, c, d, rfl, ⟨pl, rfl, sC2 _ _ hl⟩, ⟨pr, rfl, sC2 _ _ hr0⟩, pow_step ha (by omega), pow_step hc (by omega), hb, hd, _, rfl, ?_, rfl, ?_⟩
      · rw [cm]
        exact lg_cmp ⟨.ref p, t, u, 110⟩ ⟨y, t2, u2, 110⟩
      · rw [cm]
        have g := q HB sC2
        rw [← decide_eq_true (rfl : V.str (toString (scmp ⟨.ref p, t, u, 110⟩ ⟨y, t2, u2, 110⟩)) = _)] at g
        exact g
end
end K02

set_option Elab.async false
set_option linter.all false
set_option maxRecDepth 100000
set_option maxHeartbeats 4000000
set_option exponentiation.threshold 100000
namespace K02
open PySem PySem.Spec PyProof.Rows L2 Fa Fb
/-- o.m(e, ..), which may raise, at the slots -/
def tMethX (C : Addr) (m : Str) (sp : Sp) (E : L2.St → XK) (ta : TE) (t : TA) : TE := fun σ H Q => ta σ H fun x H1 => ∃ a dx fs, x = .ref a ∧ H1 a = some (.ins C dx fs) ∧ fs.lookup m = none ∧ t σ H1 fun vs H2 => sp (.ref a :: vs) H2 Q (E σ)
theorem pe_methX {X : Cx} {CX : CXT} {k : Nat} {f C : Addr} {fd : FuncData} {ps : List Str} {sp : Sp} {E : L2.St → XK} {m : Str} {pos apos : Pos} {e o : Expr} {es : List Expr} {ta : TE} {t : TA} {pl : Sem Bool} (he : PE X o ta) (c : Cls X.K C) (hm : Meth X.K C m f) (F : FnOk X.prog X.w X.K X.mg X.base CX k f fd ps sp) (hr : Room k X.A) (hb : Binds X.K fd ps []) (hx : ∀ σ, PassesAt CX X σ (E σ)) (ha : PA X (e :: es) t)
    (hst : starEach (e :: es) X.env = (false, eval e X.env) :: starEach es X.env := by rfl) (hpl : (backTo pos (starEach es X.env)).any (·.1) = false := by rfl)
    (ht : eval (.Call (.Attribute o m apos) (e :: es) [] pos) X.env = (do
      let ov ← eval o X.env
      standAt apos.atName
      let (f, first) ← holding [ov] (getMethod ov m pl)
      callWith pos f first (backTo pos (starEach (e :: es) X.env)) (backToKw pos (keywordEach [] X.env))) := by rfl) :
    PE X (.Call (.Attribute o m apos) (e :: es) [] pos) (tMethX C m sp E ta t) := by
  refine ⟨fun pins s σ H Q I h => ?_⟩
  refine PySem.W.methodCall_KW (pl := pl) (thn (he.run pins s σ H _ I h) fun u s1 ⟨x, H1, I1, rx, a, dx, fs, ex, ea, l, q⟩ => ?_) ht
  subst ex
  obtain rfl : u = Value.ref a := rx
  refine getmeth_ok I1 ea c hm l ?_
  refine PySem.W.callWith_K (first := [.ref a]) (h₀ := X.base) I.ok.mod.kin hm.kp (thn (ha.run pos pins s1 σ H1 _ I1 q) fun us s2 ⟨vs, H2, I2, r, q2⟩ => ⟨I2.kIn, ?_⟩) hst hpl
  exact run_fnS (us := .ref a :: us) (vs := .ref a :: vs) F hr hb (hx σ) I2 (.cons rfl r) q2
abbrev sTold : Stmt := top 25
abbrev sMade : Stmt := top 26
theorem scTold : FnScope ["_law_at", "_law_one", "_law_thing", "e"] ["_law_at", "_law_one", "_law_thing"] (defScope sTold) := ⟨rfl, rfl, rfl, by decide +kernel, rfl, by decide +kernel, by decide +kernel⟩
theorem scMade : FnScope ["_law_top", "_law_bottom", "e"] ["_law_top", "_law_bottom"] (defScope sMade) := ⟨rfl, rfl, rfl, by decide +kernel, rfl, by decide +kernel, by decide +kernel⟩
def spTold (K : PySem.W.Frag) : Sp := fun vs H Q _ => ∃ j : Int, ∃ x y t u n, vs = [.int j, x, y] ∧ IsA K H x t u n ∧ n ≤ 110 ∧ 0 ≤ j ∧ j ≤ 7 ∧ (Bad K H y ∨ (j = 1 ∧ ∃ u2 m, Arg K H y 0 u2 m ∧ m ≤ 110)) ∧ ∀ l H', Same H H' → H' l = some (.lst [.str "amount", y]) → Q (.ref l) H'
def tbTold (K : PySem.W.Frag) : WX → TS := fun W => tIfS (tTest (tOp rEq (tVar 0) (tC (.int 0)))) (tDrop (tMethX (CA K) "compare" (spCmp K) (WE W) (tVar 1) (tCons (tVar 2) tNil))) (tIfS (tTest (tOp rEq (tVar 0) (tC (.int 1)))) (tDrop (tMethX (CA K) "divided" (spDiv K) (WE W) (tVar 1) (tCons (tVar 2) tNil))) (tIfS (tTest (tOp rEq (tVar 0) (tC (.int 2)))) (tRet (tLst (tCons (tC (.str "told")) (tCons (tBinX K (CA K) "add" (spAdd K) (WE W) (tVar 1) (tVar 2)) tNil)))) (tIfS (tTest (tOp rEq (tVar 0) (tC (.int 3)))) (tRet (tLst (tCons (tC (.str "told")) (tCons (tBinX K (CA K) "sub" (spSub K) (WE W) (tVar 1) (tVar 2)) tNil)))) (tIfS (tTest (tOp rEq (tVar 0) (tC (.int 4)))) (tRet (tLst (tCons (tC (.str "told")) (tCons (tBinX K (CA K) "mul" (spMul K) (WE W) (tVar 1) (tVar 2)) tNil)))) (tIfS (tTest (tOp rEq (tVar 0) (tC (.int 5)))) (tDrop (tCallR (spTot K) (WE W) (tCons (tVar 1) (tCons (tVar 2) (tCons (tC .non) tNil))))) (tIfS (tTest (tOp rEq (tVar 0) (tC (.int 6)))) (tDrop (tCallR (spFL K (-1)) (WE W) (tCons (tVar 2) (tCons (tC .non) tNil)))) (tDrop (tCallR (spFL K 1) (WE W) (tCons (tVar 1) (tCons (tVar 2) tNil))))))))))
def tsTold (K : PySem.W.Frag) : Addr → Value → Option Addr → TS := fun a cls d => tRet (tLst (tCons (tC (.str "amount")) (tCons (Xb.tByX (CV K) "value" a cls d (tVar 3)) tNil)))
theorem told_err {K : PySem.W.Frag} {file : Str} {qv tv : Str} {fV : Addr} (XV : Xb.Txt file K qv "value" tv (CV K) fV) {Wo : WX} {D : Ends} {a0 a1 a2 : Option V} {H1 : Hp} {y : V} (q : ∀ l H', Same H1 H' → H' l = some (.lst [.str "amount", y]) → D.rt (.ref l) H') :
    Err (CV K) y H1 (WE (wAs K (.ref (CV K)) 3 (tsTold K) Wo D) [a0, a1, a2, none]) := fun d hd => ⟨true, XV.te, fun _ a _ => ⟨_, rfl, rfl, rfl, d, y, rfl, upd_same, by show 2 ≤ sizeLine; decide, fun l hl => q l _ ((Same.upd hd).trans (Same.upd hl)) upd_same⟩, fun z => by cases z⟩
section
variable {P : Program} {w : World} {K : PySem.W.Frag} {mg : Str → Option Value} {base : Heap} {f fo1 fo2 fo3 fm1 fm2 fs1 fs2 fs3 fV fI : Addr} {fd fdo1 fdo2 fdo3 fdm1 fdm2 fdI : FuncData} {qv tv qi ti : Str}
theorem ok_told (F : FnP K "_law_told" sTold f fd) (T : AF K mg) (XV : Xb.Txt P.main.file K qv "value" tv (CV K) fV)
    (O1 : OpK P w K mg base "add" 7 (spAdd K) fo1 fdo1) (O2 : OpK P w K mg base "sub" 7 (spSub K) fo2 fdo2) (O3 : OpK P w K mg base "mul" 7 (spMul K) fo3 fdo3) (M1 : MeK P w K mg base "divided" 7 (spDiv K) fm1 fdm1) (M2 : MeK P w K mg base "compare" 7 (spCmp K) fm2 fdm2)
    (S1 : FnS P w K mg base "total" 8 (spTot K) fs1) (S2 : FnS P w K mg base "least" 9 (spFL K (-1)) fs2) (S3 : FnS P w K mg base "greatest" 9 (spFL K 1) fs3) :
    FnOk P w K mg base (L2.CX P w) 10 f fd ["_law_at", "_law_one", "_law_thing"] (spTold K) := by
  refine F.ok scTold (fun vs H Q E h => ?_) (fun cdv A outer s H vs Q E hr h => ?_)
  · obtain ⟨j, x, y, t, u, n, rfl, _⟩ := h
    rfl
  · obtain ⟨j, x, y, t, u, n, rfl, ix, hn, j0, j7, hy, q⟩ := h
    have hr8 := hr.mono (show 8 ≤ 9 by decide)
    have hr7 := hr.mono (show 7 ≤ 9 by decide)
    refine ⟨_, pss_cons (ps_try_as (i := 3) (tb := tbTold K) (ts := tsTold K) (Wout := fun cls d _ H => E cls d H) rfl rfl scTold.nd rfl rfl ⟨rfl, by decide, Or.inl T.gV⟩ (takes_of rfl rfl rfl rfl)
        (fun W pn xe tk _ => (pss_one (ps_if (pt_cmpR op_eq (pv 0) pe_int (nomark _)) (pss_one (ps_expr (pe_methX (pv 1) T.cl M2.me M2.ok hr7 M2.b (fun σ => passAt tk σ) (pa_cons (pv 2) pa_nil))))
            (pss_one (ps_if (pt_cmpR op_eq (pv 0) pe_int (nomark _)) (pss_one (ps_expr (pe_methX (pv 1) T.cl M1.me M1.ok hr7 M1.b (fun σ => passAt tk σ) (pa_cons (pv 2) pa_nil))))
            (pss_one (ps_if (pt_cmpR op_eq (pv 0) pe_int (nomark _)) (pss_one (ps_ret (pe_lst (pa_cons pe_str (pa_cons (pe_binX (op := .Add) O1.op.own O1.ok hr7 O1.b (fun σ => passAt tk σ) (pv 1) (pv 2)) pa_nil)))))
            (pss_one (ps_if (pt_cmpR op_eq (pv 0) pe_int (nomark _)) (pss_one (ps_ret (pe_lst (pa_cons pe_str (pa_cons (pe_binX (op := .Sub) O2.op.own O2.ok hr7 O2.b (fun σ => passAt tk σ) (pv 1) (pv 2)) pa_nil)))))
            (pss_one (ps_if (pt_cmpR op_eq (pv 0) pe_int (nomark _)) (pss_one (ps_ret (pe_lst (pa_cons pe_str (pa_cons (pe_binX (op := .Mult) O3.op.own O3.ok hr7 O3.b (fun σ => passAt tk σ) (pv 1) (pv 2)) pa_nil)))))
            (pss_one (ps_if (pt_cmpR op_eq (pv 0) pe_int (nomark _)) (pss_one (ps_expr (pe_callR S1.ok hr8 rfl S1.g S1.k (fun σ => passAt tk σ) (pa_cons (pv 1) (pa_cons (pv 2) (pa_cons pe_non pa_nil))))))
            (pss_one (ps_if (pt_cmpR op_eq (pv 0) pe_int (nomark _)) (pss_one (ps_expr (pe_callR S2.ok hr rfl S2.g S2.k (fun σ => passAt tk σ) (pa_cons (pv 2) (pa_cons pe_non pa_nil)))))
            (pss_one (ps_expr (pe_callR S3.ok hr rfl S3.g S3.k (fun σ => passAt tk σ) (pa_cons (pv 1) (pa_cons (pv 2) pa_nil))))))))))))))))))))
        (fun a oe cls d pn hz hf => pss_one (ps_ret (pe_lst (pa_cons pe_str (pa_cons (Xb.pe_byX XV hz hf (pv 3)) pa_nil))))))
      (pss_one (ps_ret (pe_lst (pa_cons pe_str pa_nil)))), ?_⟩
    obtain ⟨p, dx, rfl, hp, rr, bx1, bx2⟩ := id ix
    have u0 : 0 < u := rr.1
    have hj : j = 0 ∨ j = 1 ∨ j = 2 ∨ j = 3 ∨ j = 4 ∨ j = 5 ∨ j = 6 ∨ j = 7 := by omega
    have nx (a b : Int) (h : a ≠ b) : decide (V.int a = V.int b) = false := decide_eq_false fun z => h (V.int.inj z)
    have err := fun (H1 : Hp) (s1 : Same H H1) => told_err (K := K) XV (Wo := fun cls d _ H => E cls d H) (D := { nx := fun σ H' => tRet (tLst (tCons (tC (.str "told")) tNil)) { nx := fun _ H' => Q .non H', rt := Q } σ H', rt := Q }) (a0 := some (.int j)) (a1 := some (.ref p)) (a2 := some y) (H1 := H1) (y := y) fun l H' s2 hl => q l H' (s1.trans s2) hl
    have e0 := err H (Same.refl _)
    rcases hj with rfl | rfl | rfl | rfl | rfl | rfl | rfl | rfl
    · rcases hy with hb | ⟨jz, u2, m, ay, hm⟩
      · exact ⟨_, rfl, rfl, _, rfl, if_true_of (decide_eq_true rfl) ⟨_, rfl, p, dx, _, rfl, hp, fl_no _ _ (by decide +kernel) (by decide +kernel), _, rfl, .ref p, y, t, u, n, rfl, ix, .inl ⟨hb, e0⟩⟩⟩
      · omega
    · rcases hy with hb | ⟨jz, u2, m, ay, hm⟩
      · exact ⟨_, rfl, rfl, _, rfl, if_false_of (nx _ _ (by decide)) ⟨_, rfl, rfl, _, rfl, if_true_of (decide_eq_true rfl) ⟨_, rfl, p, dx, _, rfl, hp, fl_no _ _ (by decide +kernel) (by decide +kernel), _, rfl, .ref p, y, t, u, n, rfl, ix, .inl ⟨hb, e0⟩⟩⟩⟩
      · exact ⟨_, rfl, rfl, _, rfl, if_false_of (nx _ _ (by decide)) ⟨_, rfl, rfl, _, rfl, if_true_of (decide_eq_true rfl) ⟨_, rfl, p, dx, _, rfl, hp, fl_no _ _ (by decide +kernel) (by decide +kernel), _, rfl, .ref p, y, t, u, n, rfl, ix, .inr ⟨0, u2, m, ay, by omega, fun _ H1 s1 => err H1 s1, fun z => absurd rfl z⟩⟩⟩⟩
    · rcases hy with hb | ⟨jz, u2, m, ay, hm⟩
      · exact ⟨_, rfl, rfl, _, rfl, if_false_of (nx _ _ (by decide)) ⟨_, rfl, rfl, _, rfl, if_false_of (nx _ _ (by decide)) ⟨_, rfl, rfl, _, rfl, if_true_of (decide_eq_true rfl) ⟨_, rfl, _, rfl, p, dx, _, rfl, hp, O1.op.bad hb, .ref p, y, t, u, n, rfl, ix, .inl ⟨hb, e0⟩⟩⟩⟩⟩
      · omega
    · rcases hy with hb | ⟨jz, u2, m, ay, hm⟩
      · exact ⟨_, rfl, rfl, _, rfl, if_false_of (nx _ _ (by decide)) ⟨_, rfl, rfl, _, rfl, if_false_of (nx _ _ (by decide)) ⟨_, rfl, rfl, _, rfl, if_false_of (nx _ _ (by decide)) ⟨_, rfl, rfl, _, rfl, if_true_of (decide_eq_true rfl) ⟨_, rfl, _, rfl, p, dx, _, rfl, hp, O2.op.bad hb, .ref p, y, t, u, n, rfl, ix, .inl ⟨hb, e0⟩⟩⟩⟩⟩⟩
      · omega
    · rcases hy with hb | ⟨jz, u2, m, ay, hm⟩
      · exact ⟨_, rfl, rfl, _, rfl, if_false_of (nx _ _ (by decide)) ⟨_, rfl, rfl, _, rfl, if_false_of (nx _ _ (by decide)) ⟨_, rfl, rfl, _, rfl, if_false_of (nx _ _ (by decide)) ⟨_, rfl, rfl, _, rfl, if_false_of (nx _ _ (by decide)) ⟨_, rfl, rfl, _, rfl, if_true_of (decide_eq_true rfl) ⟨_, rfl, _, rfl, p, dx, _, rfl, hp, O3.op.bad hb, .ref p, y, t, u, n, rfl, ix, .inl ⟨hb, e0⟩⟩⟩⟩⟩⟩⟩
      · omega
    · rcases hy with hb | ⟨jz, u2, m, ay, hm⟩
      · exact ⟨_, rfl, rfl, _, rfl, if_false_of (nx _ _ (by decide)) ⟨_, rfl, rfl, _, rfl, if_false_of (nx _ _ (by decide)) ⟨_, rfl, rfl, _, rfl, if_false_of (nx _ _ (by decide)) ⟨_, rfl, rfl, _, rfl, if_false_of (nx _ _ (by decide)) ⟨_, rfl, rfl, _, rfl, if_false_of (nx _ _ (by decide)) ⟨_, rfl, rfl, _, rfl, if_true_of (decide_eq_true rfl) ⟨_, rfl, _, rfl, [⟨.ref p, t, u, n⟩], [y, .non], rfl, by show 3 ≤ 100; decide, fun g hg => by
          rw [List.mem_singleton] at hg
          subst hg
          exact ⟨.inl ix, u0⟩, (by show 1 + n + 1 < 6000; omega), .inr ⟨y, [.non], rfl, hb, fun H1 s1 => err H1 s1⟩⟩⟩⟩⟩⟩⟩⟩
      · omega
    · rcases hy with hb | ⟨jz, u2, m, ay, hm⟩
      · exact ⟨_, rfl, rfl, _, rfl, if_false_of (nx _ _ (by decide)) ⟨_, rfl, rfl, _, rfl, if_false_of (nx _ _ (by decide)) ⟨_, rfl, rfl, _, rfl, if_false_of (nx _ _ (by decide)) ⟨_, rfl, rfl, _, rfl, if_false_of (nx _ _ (by decide)) ⟨_, rfl, rfl, _, rfl, if_false_of (nx _ _ (by decide)) ⟨_, rfl, rfl, _, rfl, if_false_of (nx _ _ (by decide)) ⟨_, rfl, rfl, _, rfl, if_true_of (decide_eq_true rfl) ⟨_, rfl, by show 2 ≤ 100; decide, .inr ⟨[], [y, .non], rfl, by simp, by show 2 ≤ 100; decide, by simp, .inr ⟨y, [.non], rfl, hb, fun H1 s1 => err H1 s1⟩⟩⟩⟩⟩⟩⟩⟩⟩⟩
      · omega
    · rcases hy with hb | ⟨jz, u2, m, ay, hm⟩
      · exact ⟨_, rfl, rfl, _, rfl, if_false_of (nx _ _ (by decide)) ⟨_, rfl, rfl, _, rfl, if_false_of (nx _ _ (by decide)) ⟨_, rfl, rfl, _, rfl, if_false_of (nx _ _ (by decide)) ⟨_, rfl, rfl, _, rfl, if_false_of (nx _ _ (by decide)) ⟨_, rfl, rfl, _, rfl, if_false_of (nx _ _ (by decide)) ⟨_, rfl, rfl, _, rfl, if_false_of (nx _ _ (by decide)) ⟨_, rfl, rfl, _, rfl, if_false_of (nx _ _ (by decide)) ⟨_, rfl, _, rfl, by show 2 ≤ 100; decide, .inr ⟨[⟨.ref p, t, u, n⟩], [y], rfl, by simp, by show 2 ≤ 100; decide, fun g hg => by
          rw [List.mem_singleton] at hg
          subst hg
          exact ⟨.inl ix, by show n ≤ 3000; omega⟩, .inr ⟨y, [], rfl, hb, fun H1 s1 => err H1 s1⟩⟩⟩⟩⟩⟩⟩⟩⟩⟩
      · omega
end
/-! ### Amount(e, ..), which may raise, at the slots -/
section
variable {X : Cx} {CX : CXT} {k : Nat} {f C : Addr} {fd : FuncData} {ps : List Str} {sp : Sp} {E : L2.St → XK} {x : Str} {p pos : Pos} {e : Expr} {es : List Expr} {t : TA}
def tMakeX (C : Addr) (sp : Sp) (E : L2.St → XK) (t : TA) : TE := fun σ H Q => t σ H fun vs H1 => ∀ z dz, H1 z = none → H1 dz = none → dz ≠ z →
    sp (.ref z :: vs) (upd (upd H1 dz (.own z)) z (.ins C dz [])) (fun v H2 => v = .non ∧ Q (.ref z) H2) (E σ)
theorem run_makeX {pn : List (Addr × Obj)} {σ : L2.St} {H : Hp} {s : Shared} {Q : VK} {us : List Value} {vs : List V} (M : Mk X.K C f) (F : FnOk X.prog X.w X.K X.mg X.base CX k f fd ps sp) (hr : Room (k + 1) X.A) (hb : Binds X.K fd ps [])
    (px : PassesAt CX X σ (E σ)) (I : Inv X pn σ H s) (r : Vals vs us) (h : ∀ z dz, H z = none → H dz = none → dz ≠ z → sp (.ref z :: vs) (upd (upd H dz (.own z)) z (.ins C dz [])) (fun v H2 => v = .non ∧ Q (.ref z) H2) (E σ)) :
    wpAny (model X.prog X.w) X.A (call (.ref C) us) (EP X pn σ Q) X.xe s := by
  have hw := h (s.heap.objs.size + 1) s.heap.objs.size (I.hok.fresh (Nat.le_succ _)) (I.hok.fresh (Nat.le_refl _)) (Nat.ne_of_lt (Nat.lt_succ_self _))
  have J := Inv.made (C := C) I
  have rr : Vals (V.ref (s.heap.objs.size + 1) :: vs) (Value.ref (s.heap.objs.size + 1) :: us) := .cons rfl r
  have len : (Value.ref (s.heap.objs.size + 1) :: us).length = ps.length := rr.length.symm.trans (F.len _ _ _ _ hw)
  have bb := hb _ (Value.ref (s.heap.objs.size + 1) :: us) J.kIn (by rw [List.append_nil]; exact len)
  rw [List.append_nil] at bb
  refine wpAny_call (make_map (f := f) I.kIn M.makes M.init (beq_iff_eq.mp M.fn) (codeAny_mono (F.run _ X.stack _ _ ⟨Value.ref (s.heap.objs.size + 1) :: us, []⟩ (Value.ref (s.heap.objs.size + 1) :: us) _ _ (E σ) (hr.make C us []) (J.env0.make C us []) bb rr hw) fun res s2 out => ?_))
  match res, out with
  | .error er, out => exact px pn _ _ er s2 J out
  | .ok (.ret u), out =>
    obtain ⟨v, H3, I3, rv, ev, q3⟩ := J.after out
    cases ev
    exact ⟨rv, V.ref (s.heap.objs.size + 1), H3, I3, rfl, q3⟩
  | .ok .next, out => exact out.elim
  | .ok .brk, out => exact out.elim
  | .ok .cont, out => exact out.elim
theorem pe_makeX (M : Mk X.K C f) (F : FnOk X.prog X.w X.K X.mg X.base CX k f fd ps sp) (hr : Room (k + 1) X.A) (hg : Gl X x) (hm : X.mg x = some (.ref C)) (hb : Binds X.K fd ps []) (px : ∀ σ, PassesAt CX X σ (E σ)) (ha : PA X (e :: es) t)
    (nd : (x == ("__debug__" : Str)) = false := by decide) (he : starEach (e :: es) X.env = (false, eval e X.env) :: starEach es X.env := by rfl) (hpl : (backTo pos (starEach es X.env)).any (·.1) = false := by rfl) :
    PE X (.Call (.Name x p) (e :: es) [] pos) (tMakeX C sp E t) := by
  refine ⟨fun pn s σ H Q I h => ?_⟩
  refine wpAny_Call_Name_kw (ld_glob I hg hm ?_ nd)
  refine PySem.W.callWith_K (h₀ := X.base) I.ok.mod.kin M.kp (thn (ha.run pos pn s σ H _ I h) fun us s1 ⟨vs, H1, I1, r, q⟩ => ⟨I1.kIn, ?_⟩) he hpl
  exact run_makeX M F hr hb (px σ) I1 r q
end
def spMade (K : PySem.W.Frag) : Sp := fun vs H Q _ => ∃ x y v, vs = [x, y] ∧ ((Wh K H x false ∧ (∃ b, Wh K H y b) ∧ v = x) ∨ (Wh K H x true ∧ Wh K H y false ∧ v = y) ∨ (∃ a : Int, x = .int a ∧ y = .int 0 ∧ v = y)) ∧
  ∀ l H', Same H H' → H' l = some (.lst [.str "integer", v]) → Q (.ref l) H'
def tbMade (K : PySem.W.Frag) : WX → TS := fun W => tRet (tLst (tCons (tC (.str "told")) (tCons (tMakeX (CA K) (spInit K) (WE W) (tCons (tVar 0) (tCons (tVar 1) tNil))) tNil)))
def tsMade (K : PySem.W.Frag) : Addr → Value → Option Addr → TS := fun a cls d => tRet (tLst (tCons (tC (.str "integer")) (tCons (Xb.tByX (CI K) "value" a cls d (tVar 2)) tNil)))
section
variable {P : Program} {w : World} {K : PySem.W.Frag} {mg : Str → Option Value} {base : Heap} {f fI : Addr} {fd fdI : FuncData} {qi ti : Str}
theorem made_err {file : Str} (XI : Xb.Txt file K qi "value" ti (CI K) fI) {Wo : WX} {D : Ends} {a0 a1 : Option V} {H1 : Hp} {y : V} (q : ∀ l H', Same H1 H' → H' l = some (.lst [.str "integer", y]) → D.rt (.ref l) H') :
    Err (CI K) y H1 (WE (wAs K (.ref (CI K)) 2 (tsMade K) Wo D) [a0, a1, none]) := fun d hd => ⟨true, XI.te, fun _ a _ => ⟨_, rfl, rfl, rfl, d, y, rfl, upd_same, by show 2 ≤ sizeLine; decide, fun l hl => q l _ ((Same.upd hd).trans (Same.upd hl)) upd_same⟩, fun z => by cases z⟩
theorem ok_made (F : FnP K "_law_made" sMade f fd) (T : AF K mg) (XI : Xb.Txt P.main.file K qi "value" ti (CI K) fI) (GI : FnOk P w K mg base (L2.CX P w) 4 (aI K) fdI ["self", "top", "bottom"] (spInit K)) (bI : Binds K fdI ["self", "top", "bottom"] []) :
    FnOk P w K mg base (L2.CX P w) 6 f fd ["_law_top", "_law_bottom"] (spMade K) := by
  refine F.ok scMade (fun vs H Q E h => ?_) (fun cdv A outer s H vs Q E hr h => ?_)
  · obtain ⟨x, y, v, rfl, _⟩ := h
    rfl
  · obtain ⟨x, y, v, rfl, c, q⟩ := h
    refine ⟨_, pss_one (ps_try_as (i := 2) (tb := tbMade K) (ts := tsMade K) (Wout := fun cls d _ H => E cls d H) rfl rfl scMade.nd rfl rfl ⟨rfl, by decide, Or.inl T.gI⟩ (takes_of rfl rfl rfl rfl)
        (fun W pn xe tk _ => pss_one (ps_ret (pe_lst (pa_cons pe_str (pa_cons (pe_makeX T.mkA GI hr rfl T.g bI (fun σ => passAt tk σ) (pa_cons (pv 0) (pa_cons (pv 1) pa_nil))) pa_nil)))))
        (fun a oe cls d pn hz hf => pss_one (ps_ret (pe_lst (pa_cons pe_str (pa_cons (Xb.pe_byX XI hz hf (pv 2)) pa_nil)))))), ?_⟩
    refine ⟨_, rfl, _, rfl, fun z dz hz hdz hne => ?_⟩
    have sm : Same H (upd (upd H dz (.own z)) z (.ins (CA K) dz [])) := (Same.upd hdz).trans (Same.upd (by rw [upd_ne (Ne.symm hne)]; exact hz))
    have err := made_err (K := K) XI (Wo := fun cls d _ H => E cls d H) (D := { nx := fun _ H' => Q .non H', rt := Q }) (a0 := some x) (a1 := some y) (H1 := upd (upd H dz (.own z)) z (.ins (CA K) dz [])) (y := v) fun l H' s2 hl => q l H' (sm.trans s2) hl
    rcases c with ⟨wx, ⟨b, wy⟩, rfl⟩ | ⟨wx, wy, rfl⟩ | ⟨a, rfl, rfl, rfl⟩
    · exact ⟨z, dz, v, y, false, b, rfl, upd_same, wx.same sm, wy.same sm, (fun _ => err), (fun h => by cases h), fun h => by cases h⟩
    · exact ⟨z, dz, x, v, true, false, rfl, upd_same, wx.same sm, wy.same sm, (fun h => by cases h), fun _ _ => err, fun _ h => by cases h⟩
    · exact ⟨z, dz, .int a, .int 0, true, true, rfl, upd_same, wh_int _, wh_int _, (fun h => by cases h), (fun _ h => by cases h), fun _ _ => ⟨a, 0, rfl, rfl, fun _ => err, fun h => absurd rfl h⟩⟩
end
end K02

set_option Elab.async false
set_option linter.all false
set_option maxRecDepth 100000
set_option maxHeartbeats 4000000
set_option exponentiation.threshold 100000
namespace K02
open PySem PySem.Spec PyProof.Rows L2 Fa Fb
abbrev sLAll : Stmt := top 28
abbrev sMany : Stmt := top 29
theorem scLAll : FnScope ["_law_some", "_law_one", "_law_other", "_law_two", "_law_more"] ["_law_some"] (defScope sLAll) := ⟨rfl, rfl, rfl, by decide +kernel, rfl, by decide +kernel, by decide +kernel⟩
def spLAll (K : PySem.W.Frag) : Sp := fun vs H Q _ => ∃ p g tl, vs = [.ref p] ∧ H p = some (.lst ((g :: tl).map Gd.v)) ∧ tl.length ≤ 3 ∧ (∀ h ∈ g :: tl, IsA K H h.v h.t h.u 110 ∧ h.n = 110) ∧
  ∀ l H' z1 z2 z3 t u, Same H H' → H' l = some (.lst [z1, z2, z3]) → IsA K H' z1 t u 1000 → t * (fsum (g :: tl)).2 = (fsum (g :: tl)).1 * u →
    IsA K H' z2 (best (-1) g tl).t (best (-1) g tl).u 110 → IsA K H' z3 (best 1 g tl).t (best 1 g tl).u 110 → Q (.ref l) H'
theorem nsum_110 : ∀ (l : List Gd) (k : Nat), (∀ g ∈ l, g.n = 110) → l.foldl (fun s g => s + g.n + 1) k = k + 111 * l.length := by
  intro l
  induction l with
  | nil => intro k _; rfl
  | cons g l ih =>
    intro k h
    rw [List.foldl_cons, ih _ fun x hx => h x (List.mem_cons_of_mem _ hx), h g (List.mem_cons_self ..), List.length_cons]
    omega
theorem tot_of {K : PySem.W.Frag} {H : Hp} {g : Gd} {tl : List Gd} (hg : ∀ h ∈ g :: tl, IsA K H h.v h.t h.u 110 ∧ h.n = 110) (hl : tl.length ≤ 3) :
    (∀ {Q : VK} {E : XK}, (∀ z H' t u, Same H H' → IsA K H' z t u 1000 → t * (fsum (g :: tl)).2 = (fsum (g :: tl)).1 * u → Q z H') → spTot K ((g :: tl).map Gd.v) H Q E) ∧
    (∀ H1, Same H H1 → (∀ {Q : VK} {E : XK}, (∀ z H', Same H1 H' → IsA K H' z (best (-1) g tl).t (best (-1) g tl).u 110 → Q z H') → spFL K (-1) ((g :: tl).map Gd.v) H1 Q E) ∧
      (∀ {Q : VK} {E : XK}, (∀ z H', Same H1 H' → IsA K H' z (best 1 g tl).t (best 1 g tl).u 110 → Q z H') → spFL K 1 ((g :: tl).map Gd.v) H1 Q E)) := by
  have bn : ∀ side, (best side g tl).n = 110 := fun side => by
    rcases best_mem side tl g with h | h
    · rw [h]
      exact (hg g (List.mem_cons_self ..)).2
    · exact (hg _ (List.mem_cons_of_mem _ h)).2
  have len : ((g :: tl).map Gd.v).length ≤ 100 := by
    rw [List.length_map, List.length_cons]
    omega
  have hn : nsum (g :: tl) ≤ 1000 := by
    unfold nsum
    rw [nsum_110 _ _ fun x hx => (hg x hx).2, List.length_cons]
    omega
  refine ⟨fun {Q E} k => ⟨g :: tl, [], by rw [List.append_nil], len, fun h hm => ⟨.inl (by rw [(hg h hm).2]; exact (hg h hm).1), ?_⟩, by omega, .inl ⟨rfl, fun z H' t u s i e => k z H' t u s (i.mono hn) e⟩⟩, fun H1 s1 => ?_⟩
  · obtain ⟨_, _, _, _, ⟨h0, _⟩, _⟩ := (hg h hm).1
    exact h0
  · have fl : ∀ (side : Int) {Q : VK} {E : XK}, (∀ z H', Same H1 H' → IsA K H' z (best side g tl).t (best side g tl).u 110 → Q z H') → spFL K side ((g :: tl).map Gd.v) H1 Q E := fun side {Q E} k =>
      ⟨len, .inr ⟨g :: tl, [], by rw [List.append_nil], by simp, len, fun h hm => ⟨.inl (by rw [(hg h hm).2]; exact (hg h hm).1.same s1), by rw [(hg h hm).2]; decide⟩, .inl ⟨rfl, g, tl, rfl, fun z H' s i => k z H' s (by rw [bn side] at i; exact i)⟩⟩⟩
    exact ⟨fl (-1), fl 1⟩
section
variable {P : Program} {w : World} {K : PySem.W.Frag} {mg : Str → Option Value} {base : Heap} {f fs1 fs2 fs3 : Addr} {fd : FuncData}
theorem ok_lall (F : FnP K "_law_all" sLAll f fd) (mL : mg "len" = none) (S1 : FnS P w K mg base "total" 8 (spTot K) fs1) (S2 : FnS P w K mg base "least" 9 (spFL K (-1)) fs2) (S3 : FnS P w K mg base "greatest" 9 (spFL K 1) fs3) :
    FnOk P w K mg base (L2.CX P w) 10 f fd ["_law_some"] (spLAll K) := by
  refine F.ok scLAll (fun vs H Q E h => ?_) (fun cdv A outer s H vs Q E hr h => ?_)
  · obtain ⟨p, g, tl, rfl, _⟩ := h
    rfl
  · obtain ⟨p, g, tl, rfl, hp, hl, hi, q⟩ := h
    have hr8 := hr.mono (show 8 ≤ 9 by decide)
    have nx (a b : Int) (h : a ≠ b) : decide (V.int a = V.int b) = false := decide_eq_false fun z => h (V.int.inj z)
    refine ⟨_, (pss_cons (ps_par (by rfl) scLAll.nd (i := 1) (j := 2) rfl rfl (by decide) rfl rfl (pa_cons (pe_ix ix_list (pv 0) pe_int (fun _ _ => rfl)) (pa_cons (pe_ix ix_list (pv 0) (pe_un un_neg pe_int) (fun _ _ => rfl)) pa_nil)) (by rfl))
      (pss_cons (ps_if (pt_cmpR op_eq (pe_callB call_len_seq rfl mL PySem.boot_len (pa_cons (pv 0) pa_nil)) pe_int (nomark _)) (pss_one (ps_ret (pe_lst (pa_cons (pe_callR S1.ok hr8 rfl S1.g S1.k (fun σ => passS σ) (pa_cons (pv 1) pa_nil)) (pa_cons (pe_callR S2.ok hr rfl S2.g S2.k (fun σ => passS σ) (pa_cons (pv 1) pa_nil)) (pa_cons (pe_callR S3.ok hr rfl S3.g S3.k (fun σ => passS σ) (pa_cons (pv 1) pa_nil)) pa_nil)))))) pss_nil)
      (pss_cons (ps_if (pt_cmpR op_eq (pe_callB call_len_seq rfl mL PySem.boot_len (pa_cons (pv 0) pa_nil)) pe_int (nomark _)) (pss_one (ps_ret (pe_lst (pa_cons (pe_callR S1.ok hr8 rfl S1.g S1.k (fun σ => passS σ) (pa_cons (pv 1) (pa_cons (pv 2) pa_nil))) (pa_cons (pe_callR S2.ok hr rfl S2.g S2.k (fun σ => passS σ) (pa_cons (pv 1) (pa_cons (pv 2) pa_nil))) (pa_cons (pe_callR S3.ok hr rfl S3.g S3.k (fun σ => passS σ) (pa_cons (pv 1) (pa_cons (pv 2) pa_nil))) pa_nil)))))) pss_nil)
      (pss_cons (ps_set (i := 3) scLAll.nd rfl (Or.inl rfl) (pe_ix ix_list (pv 0) pe_int (fun _ _ => rfl)))
      (pss_cons (ps_if (pt_cmpR op_eq (pe_callB call_len_seq rfl mL PySem.boot_len (pa_cons (pv 0) pa_nil)) pe_int (nomark _)) (pss_one (ps_ret (pe_lst (pa_cons (pe_callR S1.ok hr8 rfl S1.g S1.k (fun σ => passS σ) (pa_cons (pv 1) (pa_cons (pv 3) (pa_cons (pv 2) pa_nil)))) (pa_cons (pe_callR S2.ok hr rfl S2.g S2.k (fun σ => passS σ) (pa_cons (pv 1) (pa_cons (pv 3) (pa_cons (pv 2) pa_nil)))) (pa_cons (pe_callR S3.ok hr rfl S3.g S3.k (fun σ => passS σ) (pa_cons (pv 1) (pa_cons (pv 3) (pa_cons (pv 2) pa_nil)))) pa_nil)))))) pss_nil)
      (pss_cons (ps_set (i := 4) scLAll.nd rfl (Or.inl rfl) (pe_ix ix_list (pv 0) pe_int (fun _ _ => rfl)))
      (pss_one (ps_ret (pe_lst (pa_cons (pe_callR S1.ok hr8 rfl S1.g S1.k (fun σ => passS σ) (pa_cons (pv 1) (pa_cons (pv 3) (pa_cons (pv 4) (pa_cons (pv 2) pa_nil))))) (pa_cons (pe_callR S2.ok hr rfl S2.g S2.k (fun σ => passS σ) (pa_cons (pv 1) (pa_cons (pv 3) (pa_cons (pv 4) (pa_cons (pv 2) pa_nil))))) (pa_cons (pe_callR S3.ok hr rfl S3.g S3.k (fun σ => passS σ) (pa_cons (pv 1) (pa_cons (pv 3) (pa_cons (pv 4) (pa_cons (pv 2) pa_nil))))) pa_nil)))))))))))), ?_⟩
    match tl, hl, hp, hi, q with
    | [], hl, hp, hi, q =>
      have hp2 : H p = some (.lst [g.v]) := hp
      have tt := @tot_of K H g [] hi hl
      refine ⟨_, rfl, p, _, _, _, rfl, rfl, SqL.of hp2, (rfl : atI [g.v] 0 = some g.v), _, rfl, _, rfl, p, _, _, _, rfl, rfl, SqL.of hp2, (rfl : atI [g.v] (-1) = some g.v), _, _, rfl, ?_⟩
      refine ⟨_, rfl, p, _, rfl, .inl (SqL.of hp2), rfl, _, rfl, if_true_of (decide_eq_true rfl) ?_⟩
      refine ⟨_, rfl, tt.1 fun z1 H1 t u s1 i1 e1 => ?_⟩
      refine ⟨_, rfl, (tt.2 H1 s1).1 fun z2 H2 s2 i2 => ?_⟩
      refine ⟨_, rfl, (tt.2 H2 (s1.trans s2)).2 fun z3 H3 s3 i3 => ?_⟩
      refine ⟨(by show 3 ≤ sizeLine; decide), fun l hl => ?_⟩
      exact q l _ z1 z2 z3 t u (s1.trans (s2.trans (s3.trans (Same.upd hl)))) upd_same (i1.same (s2.trans (s3.trans (Same.upd hl)))) e1 (i2.same (s3.trans (Same.upd hl))) (i3.same (Same.upd hl))
    | [a1], hl, hp, hi, q =>
      have hp2 : H p = some (.lst [g.v, a1.v]) := hp
      have tt := @tot_of K H g [a1] hi hl
      refine ⟨_, rfl, p, _, _, _, rfl, rfl, SqL.of hp2, (rfl : atI [g.v, a1.v] 0 = some g.v), _, rfl, _, rfl, p, _, _, _, rfl, rfl, SqL.of hp2, (rfl : atI [g.v, a1.v] (-1) = some a1.v), _, _, rfl, ?_⟩
      refine ⟨_, rfl, p, _, rfl, .inl (SqL.of hp2), rfl, _, rfl, if_false_of (nx _ _ (by simp)) ?_⟩
      refine ⟨_, rfl, p, _, rfl, .inl (SqL.of hp2), rfl, _, rfl, if_true_of (decide_eq_true rfl) ?_⟩
      refine ⟨_, rfl, _, rfl, tt.1 fun z1 H1 t u s1 i1 e1 => ?_⟩
      refine ⟨_, rfl, _, rfl, (tt.2 H1 s1).1 fun z2 H2 s2 i2 => ?_⟩
      refine ⟨_, rfl, _, rfl, (tt.2 H2 (s1.trans s2)).2 fun z3 H3 s3 i3 => ?_⟩
      refine ⟨(by show 3 ≤ sizeLine; decide), fun l hl => ?_⟩
      exact q l _ z1 z2 z3 t u (s1.trans (s2.trans (s3.trans (Same.upd hl)))) upd_same (i1.same (s2.trans (s3.trans (Same.upd hl)))) e1 (i2.same (s3.trans (Same.upd hl))) (i3.same (Same.upd hl))
    | [a1, a2], hl, hp, hi, q =>
      have hp2 : H p = some (.lst [g.v, a1.v, a2.v]) := hp
      have tt := @tot_of K H g [a1, a2] hi hl
      refine ⟨_, rfl, p, _, _, _, rfl, rfl, SqL.of hp2, (rfl : atI [g.v, a1.v, a2.v] 0 = some g.v), _, rfl, _, rfl, p, _, _, _, rfl, rfl, SqL.of hp2, (rfl : atI [g.v, a1.v, a2.v] (-1) = some a2.v), _, _, rfl, ?_⟩
      refine ⟨_, rfl, p, _, rfl, .inl (SqL.of hp2), rfl, _, rfl, if_false_of (nx _ _ (by simp)) ?_⟩
      refine ⟨_, rfl, p, _, rfl, .inl (SqL.of hp2), rfl, _, rfl, if_false_of (nx _ _ (by simp)) ?_⟩
      refine ⟨_, rfl, p, _, _, _, rfl, rfl, SqL.of hp2, (rfl : atI [g.v, a1.v, a2.v] 1 = some a1.v), ?_⟩
      refine ⟨_, rfl, p, _, rfl, .inl (SqL.of hp2), rfl, _, rfl, if_true_of (decide_eq_true rfl) ?_⟩
      refine ⟨_, rfl, _, rfl, _, rfl, tt.1 fun z1 H1 t u s1 i1 e1 => ?_⟩
      refine ⟨_, rfl, _, rfl, _, rfl, (tt.2 H1 s1).1 fun z2 H2 s2 i2 => ?_⟩
      refine ⟨_, rfl, _, rfl, _, rfl, (tt.2 H2 (s1.trans s2)).2 fun z3 H3 s3 i3 => ?_⟩
      refine ⟨(by show 3 ≤ sizeLine; decide), fun l hl => ?_⟩
      exact q l _ z1 z2 z3 t u (s1.trans (s2.trans (s3.trans (Same.upd hl)))) upd_same (i1.same (s2.trans (s3.trans (Same.upd hl)))) e1 (i2.same (s3.trans (Same.upd hl))) (i3.same (Same.upd hl))
    | [a1, a2, a3], hl, hp, hi, q =>
      have hp2 : H p = some (.lst [g.v, a1.v, a2.v, a3.v]) := hp
      have tt := @tot_of K H g [a1, a2, a3] hi hl
      refine ⟨_, rfl, p, _, _, _, rfl, rfl, SqL.of hp2, (rfl : atI [g.v, a1.v, a2.v, a3.v] 0 = some g.v), _, rfl, _, rfl, p, _, _, _, rfl, rfl, SqL.of hp2, (rfl : atI [g.v, a1.v, a2.v, a3.v] (-1) = some a3.v), _, _, rfl, ?_⟩
      refine ⟨_, rfl, p, _, rfl, .inl (SqL.of hp2), rfl, _, rfl, if_false_of (nx _ _ (by simp)) ?_⟩
      refine ⟨_, rfl, p, _, rfl, .inl (SqL.of hp2), rfl, _, rfl, if_false_of (nx _ _ (by simp)) ?_⟩
      refine ⟨_, rfl, p, _, _, _, rfl, rfl, SqL.of hp2, (rfl : atI [g.v, a1.v, a2.v, a3.v] 1 = some a1.v), ?_⟩
      refine ⟨_, rfl, p, _, rfl, .inl (SqL.of hp2), rfl, _, rfl, if_false_of (nx _ _ (by simp)) ?_⟩
      refine ⟨_, rfl, p, _, _, _, rfl, rfl, SqL.of hp2, (rfl : atI [g.v, a1.v, a2.v, a3.v] 2 = some a2.v), ?_⟩
      refine ⟨_, rfl, _, rfl, _, rfl, _, rfl, tt.1 fun z1 H1 t u s1 i1 e1 => ?_⟩
      refine ⟨_, rfl, _, rfl, _, rfl, _, rfl, (tt.2 H1 s1).1 fun z2 H2 s2 i2 => ?_⟩
      refine ⟨_, rfl, _, rfl, _, rfl, _, rfl, (tt.2 H2 (s1.trans s2)).2 fun z3 H3 s3 i3 => ?_⟩
      refine ⟨(by show 3 ≤ sizeLine; decide), fun l hl => ?_⟩
      exact q l _ z1 z2 z3 t u (s1.trans (s2.trans (s3.trans (Same.upd hl)))) upd_same (i1.same (s2.trans (s3.trans (Same.upd hl)))) e1 (i2.same (s3.trans (Same.upd hl))) (i3.same (Same.upd hl))
    | _ :: _ :: _ :: _ :: _, hl, hp, hi, q =>
      simp at hl
end
end K02

set_option Elab.async false
set_option linter.all false
set_option maxRecDepth 100000
set_option maxHeartbeats 4000000
set_option exponentiation.threshold 100000
namespace K02
open PySem PySem.Spec PyProof.Rows L2 Fa Fb
/-- a comprehension over zip of two lists of one length -/
theorem lc_zip2 {K : PySem.W.Frag} {a b : Addr} {xs ys : List V} {g : TG} {tt : TT} {te : TE} {vs : List Nat} {σ : L2.St} {H1 : Hp} {D : Addr} {Qd : Hp → Prop} (hl : xs.length = ys.length) (Pv : Nat → Hp → Prop) (h0 : Pv 0 (upd H1 D (.lst [])))
    (hq : ∀ i H, Pv i H → SqL K H a xs ∧ SqL K H b ys)
    (hs : ∀ i x y T H, xs[i]? = some x → ys[i]? = some y → Pv i H → H T = none → g (.ref T) (wipe σ vs) (upd H T (.tup [x, y])) fun σ2 H2 => wipe σ2 vs = wipe σ vs ∧ tt σ2 H2 fun b H3 =>
      if b = true then te σ2 H3 fun y H4 => ∃ acc, H4 D = some (.lst acc) ∧ acc.length < sizeLine ∧ Pv (i + 1) (upd H4 D (.lst (acc ++ [y]))) else Pv (i + 1) H3) (hd : ∀ H, Pv xs.length H → Qd H) :
    ∃ W : Nat → Nat → Hp → Prop, (∃ m, W 0 m (upd H1 D (.lst []))) ∧ ∀ i m H, W i m H →
      ((Itz K a b).stop i H ∧ Qd H) ∨ ((Itz K a b).go i H ∧ ∃ Nx : Hp → Prop, (∀ H', Nx H' → ∃ m', m' < m ∧ W (i + 1) m' H') ∧ ∀ x H', (Itz K a b).yld i H x H' → g x (wipe σ vs) H' fun σ2 H2 => wipe σ2 vs = wipe σ vs ∧ tt σ2 H2 fun b H3 =>
        if b = true then te σ2 H3 fun y H4 => ∃ acc, H4 D = some (.lst acc) ∧ acc.length < sizeLine ∧ Nx (upd H4 D (.lst (acc ++ [y]))) else Nx H3) := by
  refine ⟨fun i m H => m + i = xs.length ∧ Pv i H, ⟨xs.length, rfl, h0⟩, fun i m H ⟨hm, p⟩ => ?_⟩
  obtain ⟨qx, qy⟩ := hq i H p
  rcases Nat.lt_or_ge i xs.length with c | c
  · have ex := List.getElem?_eq_getElem c
    have ey := List.getElem?_eq_getElem (show i < ys.length by omega)
    refine .inr ⟨⟨xs, ys, _, _, qx, qy, ex, ey⟩, Pv (i + 1), fun H' p' => ⟨m - 1, by omega, by omega, p'⟩, fun v H' z => ?_⟩
    obtain ⟨T, x', y', rfl, hT, rfl, f1, f2⟩ := z
    exact hs i x' y' T H (f1 xs qx) (f2 ys qy) p hT
  · have e : i = xs.length := by omega
    rw [e] at p
    exact .inl ⟨⟨xs, ys, qx, qy, .inl c⟩, hd H p⟩
theorem scMany : FnScope ["_law_amounts", "_law_pairs", "_law_some", "_law_top", "_law_bottom", "_law_low", "_law_high", "_law_pair_here", "_law_found", "_law_one", "_law_due"] ["_law_amounts", "_law_pairs"] (defScope sMany) := ⟨rfl, rfl, rfl, by decide +kernel, rfl, by decide +kernel, by decide +kernel⟩
structure Gp where
  g : Gd
  pv : V
  a : Int
  b : Int
/-- an amount beside its pair -/
structure PairOk (K : PySem.W.Frag) (H : Hp) (x : Gp) : Prop where
  is : IsA K H x.g.v x.g.t x.g.u 110
  n : x.g.n = 110
  pr : Pr H x.pv x.a x.b
  b0 : x.b ≠ 0
  ab : x.a.natAbs < 2 ^ 110
  bb : x.b.natAbs < 2 ^ 50
  e : x.g.t * x.b = x.a * x.g.u
theorem PairOk.same {K : PySem.W.Frag} {H H' : Hp} {x : Gp} (h : PairOk K H x) (s : Same H H') : PairOk K H' x := ⟨h.is.same s, h.n, h.pr.same s, h.b0, h.ab, h.bb, h.e⟩
theorem PairOk.u {K : PySem.W.Frag} {H : Hp} {x : Gp} (h : PairOk K H x) : 0 < x.g.u := by
  obtain ⟨_, _, _, _, ⟨z, _⟩, _⟩ := h.is
  exact z
def pfold (l : List Gp) (s : Int × Int) : Int × Int := l.foldl (fun s x => (s.1 * x.b + x.a * s.2, s.2 * x.b)) s
def psum (l : List Gp) : Int × Int := pfold l (0, 1)
theorem psum_more (l : List Gp) (x : Gp) : psum (l ++ [x]) = ((psum l).1 * x.b + x.a * (psum l).2, (psum l).2 * x.b) := by
  unfold psum pfold
  rw [List.foldl_append]
  rfl
theorem pfold_ok {K : PySem.W.Frag} {H : Hp} : ∀ (l : List Gp) (s f : Int × Int) (k : Nat), (∀ x ∈ l, PairOk K H x) → s.1 * f.2 = f.1 * s.2 → s.2 ≠ 0 → f.2 ≠ 0 → s.1.natAbs < 2 ^ (171 * k + 1) → s.2.natAbs < 2 ^ (60 * k + 1) →
    (pfold l s).1 * ((l.map Gp.g).foldl (fun s g => (s.1 * g.u + g.t * s.2, s.2 * g.u)) f).2 = ((l.map Gp.g).foldl (fun s g => (s.1 * g.u + g.t * s.2, s.2 * g.u)) f).1 * (pfold l s).2 ∧ (pfold l s).2 ≠ 0 ∧
      ((l.map Gp.g).foldl (fun s g => (s.1 * g.u + g.t * s.2, s.2 * g.u)) f).2 ≠ 0 ∧ (pfold l s).1.natAbs < 2 ^ (171 * (k + l.length) + 1) ∧ (pfold l s).2.natAbs < 2 ^ (60 * (k + l.length) + 1)
  | [], s, f, k, _, h1, h2, h3, h4, h5 => ⟨h1, h2, h3, h4, h5⟩
  | x :: l, s, f, k, hx, h1, h2, h3, h4, h5 => by
    have hh := hx x (List.mem_cons_self ..)
    have hu := hh.u
    have e1 := hh.e
    have ih := pfold_ok l (s.1 * x.b + x.a * s.2, s.2 * x.b) (f.1 * x.g.u + x.g.t * f.2, f.2 * x.g.u) (k + 1) (fun y hy => hx y (List.mem_cons_of_mem _ hy)) (by grind) (Int.mul_ne_zero h2 hh.b0) (Int.mul_ne_zero h3 (by omega))
      (pow_step (abs_add_lt (n := 171 * k + 1 + 170) (pow_step (abs_mul_lt h4 hh.bb) (by omega)) (pow_step (abs_mul_lt hh.ab h5) (by omega))) (by omega))
      (pow_step (abs_mul_lt h5 hh.bb) (by omega))
    have el : k + 1 + l.length = k + (x :: l).length := by
      rw [List.length_cons]
      omega
    rw [el] at ih
    exact ih
theorem psum_ok {K : PySem.W.Frag} {H : Hp} {l : List Gp} (h : ∀ x ∈ l, PairOk K H x) (hl : l.length ≤ 4) : (psum l).1 * (fsum (l.map Gp.g)).2 = (fsum (l.map Gp.g)).1 * (psum l).2 ∧ (psum l).2 ≠ 0 ∧ (fsum (l.map Gp.g)).2 ≠ 0 ∧ (psum l).1.natAbs < 2 ^ 700 ∧ (psum l).2.natAbs < 2 ^ 300 := by
  obtain ⟨a1, a2, a3, a4, a5⟩ := pfold_ok (K := K) (H := H) l (0, 1) (0, 1) 0 h rfl (by decide) (by decide) (by decide) (by decide)
  exact ⟨a1, a2, a3, pow_step a4 (by omega), pow_step a5 (by omega)⟩
def bestP (side : Int) (x : Gp) (l : List Gp) : Gp := l.foldl (fun b a => if scmp a.g b.g = side then a else b) x
theorem bestP_more (side : Int) (x : Gp) (l : List Gp) (a : Gp) : bestP side x (l ++ [a]) = if scmp a.g (bestP side x l).g = side then a else bestP side x l := by
  unfold bestP
  rw [List.foldl_append]
  rfl
theorem bestP_mem (side : Int) : ∀ (l : List Gp) (x : Gp), bestP side x l = x ∨ bestP side x l ∈ l
  | [], _ => .inl rfl
  | a :: l, x => by
    have e : bestP side x (a :: l) = bestP side (if scmp a.g x.g = side then a else x) l := rfl
    rw [e]
    by_cases c : scmp a.g x.g = side
    · rw [if_pos c]
      rcases bestP_mem side l a with h | h
      · rw [h]
        exact .inr (List.mem_cons_self ..)
      · exact .inr (List.mem_cons_of_mem _ h)
    · rw [if_neg c]
      exact (bestP_mem side l x).imp id fun h => List.mem_cons_of_mem _ h
theorem bestP_g (side : Int) : ∀ (l : List Gp) (x : Gp), (bestP side x l).g = best side x.g (l.map Gp.g)
  | [], _ => rfl
  | a :: l, x => by
    have e : bestP side x (a :: l) = bestP side (if scmp a.g x.g = side then a else x) l := rfl
    have e2 : best side x.g ((a :: l).map Gp.g) = best side (if scmp a.g x.g = side then a.g else x.g) (l.map Gp.g) := rfl
    rw [e, e2, bestP_g side l]
    by_cases c : scmp a.g x.g = side
    · rw [if_pos c, if_pos c]
    · rw [if_neg c, if_neg c]
theorem bestP_self {side : Int} (hs : side = 1 ∨ side = -1) (x : Gp) (l : List Gp) : bestP side x (x :: l) = bestP side x l := by
  have e : bestP side x (x :: l) = bestP side (if scmp x.g x.g = side then x else x) l := rfl
  rw [e, scmp_self, if_neg (by omega)]
theorem map_at {α β : Type} {f : α → β} {l : List α} {i : Nat} {y : β} (h : (l.map f)[i]? = some y) : ∃ z, l[i]? = some z ∧ f z = y := by
  rw [List.getElem?_map] at h
  cases e : l[i]? with
  | none =>
    rw [e] at h
    cases h
  | some z =>
    rw [e] at h
    exact ⟨z, rfl, Option.some.inj h⟩
theorem take_at {α : Type} {l : List α} {i : Nat} {z : α} (h : l[i]? = some z) : l.take (i + 1) = l.take i ++ [z] := by
  rw [List.take_add_one, h]
  rfl
theorem best_in {K : PySem.W.Frag} {H : Hp} {side : Int} {x : Gp} {tl l : List Gp} (h : ∀ y ∈ x :: tl, PairOk K H y) (hl : ∀ y ∈ l, y ∈ x :: tl) : PairOk K H (bestP side x l) := by
  rcases bestP_mem side l x with e | e
  · rw [e]
    exact h x (List.mem_cons_self ..)
  · exact h _ (hl _ e)
theorem alg_fr {t u F1 F2 S1 S2 : Int} (h : F2 ≠ 0) (e1 : t * F2 = F1 * u) (e2 : S1 * F2 = F1 * S2) : t * S2 = S1 * u := by
  have z : (t * S2) * F2 = (S1 * u) * F2 := by grind
  exact Int.eq_of_mul_eq_mul_right h z
theorem sgn_scmp {K : PySem.W.Frag} {H : Hp} {x y : Gp} (h1 : PairOk K H x) (h2 : PairOk K H y) : sgn (x.a * x.b * y.b ^ 2) (y.a * y.b * x.b ^ 2) = scmp x.g y.g :=
  alg_cmp (t := x.g.t) (u := x.g.u) (t2 := y.g.t) (u2 := y.g.u) (n := x.g.n) (m := y.g.n) (v1 := x.g.v) (v2 := y.g.v) h1.u h2.u h1.b0 h2.b0 h1.e h2.e
def spMany (K : PySem.W.Frag) : Sp := fun vs H Q _ => ∃ p q x tl, vs = [.ref p, .ref q] ∧ H p = some (.lst ((x :: tl).map fun y => y.g.v)) ∧ H q = some (.lst ((x :: tl).map Gp.pv)) ∧ tl.length ≤ 3 ∧ (∀ y ∈ x :: tl, PairOk K H y) ∧ ∀ H', Same H H' → Q (.bl true) H'
section
variable {P : Program} {w : World} {K : PySem.W.Frag} {mg : Str → Option Value} {base : Heap} {f f3 f4 fl : Addr} {fd fd3 fd4 fdl : FuncData}
theorem ok_many (F : FnP K "_law_many_right" sMany f fd) (mZ : mg "zip" = none) (L3 : Fn P w K mg base "_law_is_pair" 3 ["_law_amount", "_law_pair_here"] (spLIs K) f3 fd3) (L4 : Fn P w K mg base "_law_sign" 1 ["_law_one", "_law_other"] spLSign f4 fd4)
    (LA : Fn P w K mg base "_law_all" 10 ["_law_some"] (spLAll K) fl fdl) :
    FnOk P w K mg base (L2.CX P w) 11 f fd ["_law_amounts", "_law_pairs"] (spMany K) := by
  refine F.ok scMany (fun vs H Q E h => ?_) (fun cdv A outer s H vs Q E hr h => ?_)
  · obtain ⟨p, q, x, tl, rfl, _⟩ := h
    rfl
  · obtain ⟨p, q, x, tl, rfl, hp, hq, hl, hi, k⟩ := h
    have hr3 := hr.mono (show 3 ≤ 10 by decide)
    have hr1 := hr.mono (show 1 ≤ 10 by decide)
    have hu : (A.deeper (envOfC "_law_many_right" (defScope sMany) s.heap.objs.size f cdv)).units + 64 < cLine := by
      have := hr.un
      omega
    refine ⟨_, pss_cons (ps_set (i := 2) scMany.nd rfl (Or.inl rfl) (pe_tup (pa_cons pe_int (pa_cons pe_int pa_nil))))
      (pss_cons (ps_for (passes_of rfl) rfl (pi_list (pv 1)) (pg_tup (by rfl) (pgs_cons (pg_name (i := 3) scMany.nd rfl (Or.inl rfl)) (pgs_cons (pg_name (i := 4) scMany.nd rfl (Or.inl rfl)) pgs_nil)))
        (pss_one (ps_set (i := 2) scMany.nd rfl (Or.inl rfl) (pe_tup (pa_cons (pe_op op_add (pe_op op_mulW (pe_ix ix_tup (pv 2) pe_int (fun _ _ => rfl)) (pv 4)) (pe_op op_mulW (pv 3) (pe_ix ix_tup (pv 2) pe_int (fun _ _ => rfl)))) (pa_cons (pe_op op_mulW (pe_ix ix_tup (pv 2) pe_int (fun _ _ => rfl)) (pv 4)) pa_nil))))))
      (pss_cons (ps_par (by rfl) scMany.nd (i := 5) (j := 6) rfl rfl (by decide) rfl rfl (pa_cons (pe_ix ix_list (pv 1) pe_int (fun _ _ => rfl)) (pa_cons (pe_ix ix_list (pv 1) pe_int (fun _ _ => rfl)) pa_nil)) (by rfl))
      (pss_cons (ps_for (passes_of rfl) rfl (pi_list (pv 1)) (pg_name (i := 7) scMany.nd rfl (Or.inl rfl))
        (pss_cons (ps_set (i := 5) scMany.nd rfl (Or.inl rfl) (pe_ifExp (pt_cmpR op_lt (pe_call L4.ok hr1 rfl L4.g L4.k L4.b .nil passL (pa_cons (pv 7) (pa_cons (pv 5) pa_nil))) pe_int (nomark _)) (pv 7) (pv 5)))
        (pss_one (ps_set (i := 6) scMany.nd rfl (Or.inl rfl) (pe_ifExp (pt_cmpR op_gt (pe_call L4.ok hr1 rfl L4.g L4.k L4.b .nil passL (pa_cons (pv 7) (pa_cons (pv 6) pa_nil))) pe_int (nomark _)) (pv 7) (pv 6))))))
      (pss_cons (ps_set (i := 8) scMany.nd rfl (Or.inl rfl) (pe_call LA.ok hr rfl LA.g LA.k LA.b .nil passL (pa_cons (pv 0) pa_nil)))
      (pss_one (ps_ret (pe_cmpR (op_eqD hu) (pe_lc (own := [("_law_one", 9), ("_law_due", 10)]) (g := gTup K 2 (gCons (gName 9) (gCons (gName 10) gNil))) (by rfl) scMany.nd (pi_zip (by rfl) mZ (pa_cons (pv 8) (pa_cons (pe_lst (pa_cons (pv 2) (pa_cons (pv 5) (pa_cons (pv 6) pa_nil)))) pa_nil)))
        (blkOk_by (own := [("_law_one", 9), ("_law_due", 10)]) (N := ["_law_amounts", "_law_pairs", "_law_some", "_law_top", "_law_bottom", "_law_low", "_law_high", "_law_pair_here", "_law_found", "_law_one", "_law_due"]) (sc := defScope sMany) (by decide +kernel))
        (fun _ _ _ _ _ => pg_tup (by rfl) (pgs_cons (pg_name (i := 9) scMany.nd rfl (Or.inl rfl)) (pgs_cons (pg_name (i := 10) scMany.nd rfl (Or.inl rfl)) pgs_nil)))
        (fun _ _ _ _ _ => pts_one (pt_not (pt_val (pe_call L3.ok hr3 rfl L3.g L3.k L3.b .nil passL (pa_cons (pv 9) (pa_cons (pv 10) pa_nil))))))
        (fun _ _ _ _ _ => pe_int)) (pe_lst pa_nil) (nomark _)))))))), ?_⟩
    have i0 : ∀ x y : Int, atI [V.int x, V.int y] 0 = some (.int x) := fun _ _ => rfl
    have i1 : ∀ x y : Int, atI [V.int x, V.int y] 1 = some (.int y) := fun _ _ => rfl
    have len4 : (x :: tl).length ≤ 4 := by
      rw [List.length_cons]
      omega
    have bnd := fun (i : Nat) => psum_ok (K := K) (H := H) (l := (x :: tl).take i) (fun y hy => hi y (List.mem_of_mem_take hy)) (Nat.le_trans (by rw [List.length_take]; exact Nat.min_le_right _ _) len4)
    refine ⟨by show 2 ≤ sizeLine; decide, fun c0 hc0 => ?_⟩
    have s1 := Same.upd (o := .tup [.int 0, .int 1]) hc0
    refine ⟨_, rfl, q, rfl, ⟨_, SqL.of (s1 _ _ hq)⟩, for_list (K := K) (a := q) (xs := (x :: tl).map Gp.pv) (fun i σ H' => Same H H' ∧ ∃ (v3 v4 : Option V) (c : Addr), σ = [some (.ref p), some (.ref q), some (.ref c), v3, v4, none, none, none, none, none, none] ∧
        H' c = some (.tup [.int (psum ((x :: tl).take i)).1, .int (psum ((x :: tl).take i)).2]))
      ⟨s1, none, none, c0, rfl, upd_same⟩ (fun i σ H' _ ⟨s2, _⟩ => SqL.of (s2 _ _ hq)) ?_ ?_⟩
    · rintro i y σ H1 hi1 ⟨s2, v3, v4, c, rfl, hc⟩
      obtain ⟨z, hz, rfl⟩ := map_at hi1
      have oz := (hi z (List.mem_of_getElem? hz)).same s2
      obtain ⟨pz, ez, hpz⟩ := oz.pr
      obtain ⟨_, _, _, b1, b2⟩ := bnd i
      refine ⟨pz, _, ez, SqT.of hpz, rfl, _, _, rfl, _, _, rfl, rfl, ?_⟩
      refine ⟨_, rfl, c, _, _, _, rfl, rfl, SqT.of hc, i0 _ _, _, rfl, _, _, rfl, rfl, mulW_of b1 oz.bb (by omega), _, rfl, _, rfl, c, _, _, _, rfl, rfl, SqT.of hc, i1 _ _, _, _, rfl, rfl, mulW_of oz.ab b2 (by omega), _, _, rfl, rfl, ?_⟩
      refine ⟨_, rfl, c, _, _, _, rfl, rfl, SqT.of hc, i1 _ _, _, rfl, _, _, rfl, rfl, mulW_of b2 oz.bb (by omega), (by show 2 ≤ sizeLine; decide), fun c2 hc2 => ?_⟩
      refine ⟨s2.trans (Same.upd hc2), _, _, c2, rfl, ?_⟩
      rw [take_at hz, psum_more]
      exact upd_same
    rintro σ H1 ⟨s2, v3, v4, c, rfl, hc⟩
    have hq2 := s2 _ _ hq
    have x0 : atI ((x :: tl).map Gp.pv) 0 = some x.pv := atI_nat (j := 0) rfl
    rw [List.length_map, List.take_length] at hc
    refine ⟨_, rfl, q, _, _, _, rfl, rfl, SqL.of hq2, x0, _, rfl, q, _, _, _, rfl, rfl, SqL.of hq2, x0, _, _, rfl, ?_⟩
    refine ⟨_, rfl, q, rfl, ⟨_, SqL.of hq2⟩, for_list (K := K) (a := q) (xs := (x :: tl).map Gp.pv) (fun i σ H' => Same H H' ∧ ∃ (v3 v4 v7 : Option V) (c : Addr), σ = [some (.ref p), some (.ref q), some (.ref c), v3, v4, some (bestP (-1) x ((x :: tl).take i)).pv, some (bestP 1 x ((x :: tl).take i)).pv, v7, none, none, none] ∧
        H' c = some (.tup [.int (psum (x :: tl)).1, .int (psum (x :: tl)).2]))
      ⟨s2, v3, v4, none, c, rfl, hc⟩ (fun i σ H' _ ⟨s3, _⟩ => SqL.of (s3 _ _ hq)) ?_ ?_⟩
    · clear s2 hc hq2 c v3 v4 H1
      rintro i y σ H1 hi1 ⟨s2, v3, v4, v7, c, rfl, hc⟩
      obtain ⟨z, hz, rfl⟩ := map_at hi1
      have oz := (hi z (List.mem_of_getElem? hz)).same s2
      have ol := (best_in (side := -1) (l := (x :: tl).take i) hi fun y hy => List.mem_of_mem_take hy).same s2
      have oh := (best_in (side := 1) (l := (x :: tl).take i) hi fun y hy => List.mem_of_mem_take hy).same s2
      refine ⟨_, rfl, _, rfl, z.pv, _, z.a, z.b, _, _, rfl, oz.pr, ol.pr, pow_step oz.ab (by omega), pow_step ol.ab (by omega), pow_step oz.bb (by omega), pow_step ol.bb (by omega), _, _, rfl, rfl, _, rfl, ?_⟩
      rw [sgn_scmp oz ol]
      refine ite2 (fun c1 => ?_) (fun c1 => ?_)
      · have k1 : scmp z.g (bestP (-1) x ((x :: tl).take i)).g = -1 := by
          have := scmp_three z.g (bestP (-1) x ((x :: tl).take i)).g
          have := of_decide_eq_true c1
          omega
        refine ⟨_, rfl, ?_⟩
        refine ⟨_, rfl, _, rfl, z.pv, _, z.a, z.b, _, _, rfl, oz.pr, oh.pr, pow_step oz.ab (by omega), pow_step oh.ab (by omega), pow_step oz.bb (by omega), pow_step oh.bb (by omega), _, _, rfl, rfl, _, rfl, ?_⟩
        rw [sgn_scmp oz oh]
        refine ite2 (fun c2 => ?_) (fun c2 => ?_)
        · have k2 : scmp z.g (bestP 1 x ((x :: tl).take i)).g = 1 := by
            have := scmp_three z.g (bestP 1 x ((x :: tl).take i)).g
            have := of_decide_eq_true c2
            omega
          refine ⟨_, rfl, ?_⟩
          refine ⟨s2, v3, v4, some z.pv, c, ?_, hc⟩
          rw [take_at hz, bestP_more, bestP_more, if_pos k1, if_pos k2]
          rfl
        · have k2 : ¬ scmp z.g (bestP 1 x ((x :: tl).take i)).g = 1 := fun y => c2 (decide_eq_true (by rw [y]; decide))
          refine ⟨_, rfl, ?_⟩
          refine ⟨s2, v3, v4, some z.pv, c, ?_, hc⟩
          rw [take_at hz, bestP_more, bestP_more, if_pos k1, if_neg k2]
          rfl
      · have k1 : ¬ scmp z.g (bestP (-1) x ((x :: tl).take i)).g = -1 := fun y => c1 (decide_eq_true (by rw [y]; decide))
        refine ⟨_, rfl, ?_⟩
        refine ⟨_, rfl, _, rfl, z.pv, _, z.a, z.b, _, _, rfl, oz.pr, oh.pr, pow_step oz.ab (by omega), pow_step oh.ab (by omega), pow_step oz.bb (by omega), pow_step oh.bb (by omega), _, _, rfl, rfl, _, rfl, ?_⟩
        rw [sgn_scmp oz oh]
        refine ite2 (fun c2 => ?_) (fun c2 => ?_)
        · have k2 : scmp z.g (bestP 1 x ((x :: tl).take i)).g = 1 := by
            have := scmp_three z.g (bestP 1 x ((x :: tl).take i)).g
            have := of_decide_eq_true c2
            omega
          refine ⟨_, rfl, ?_⟩
          refine ⟨s2, v3, v4, some z.pv, c, ?_, hc⟩
          rw [take_at hz, bestP_more, bestP_more, if_neg k1, if_pos k2]
          rfl
        · have k2 : ¬ scmp z.g (bestP 1 x ((x :: tl).take i)).g = 1 := fun y => c2 (decide_eq_true (by rw [y]; decide))
          refine ⟨_, rfl, ?_⟩
          refine ⟨s2, v3, v4, some z.pv, c, ?_, hc⟩
          rw [take_at hz, bestP_more, bestP_more, if_neg k1, if_neg k2]
          rfl
    clear s2 hc hq2 c v3 v4 H1
    rintro σ H1 ⟨s2, v3, v4, v7, c, rfl, hc⟩
    rw [List.length_map, List.take_length, bestP_self (.inr rfl), bestP_self (.inl rfl)]
    have hpg : H p = some (.lst ((x.g :: tl.map Gp.g).map Gd.v)) := by
      rw [hp, List.map_cons, List.map_cons, List.map_map]
      rfl
    refine ⟨_, rfl, p, x.g, tl.map Gp.g, rfl, s2 _ _ hpg, by rw [List.length_map]; exact hl, fun h hm => ?_, fun l H2 z1 z2 z3 t u s3 hl3 j1 e1 j2 j3 => ?_⟩
    · obtain ⟨z, hz, rfl⟩ := List.mem_map.mp (show h ∈ (x :: tl).map Gp.g from hm)
      exact ⟨(hi z hz).is.same s2, (hi z hz).n⟩
    have sA := s2.trans s3
    obtain ⟨e2, n1, n2, b1, b2⟩ := psum_ok hi len4
    have ol := (best_in (side := -1) (l := tl) hi fun y hy => List.mem_cons_of_mem _ hy).same sA
    have oh := (best_in (side := 1) (l := tl) hi fun y hy => List.mem_cons_of_mem _ hy).same sA
    rw [← bestP_g] at j2 j3
    refine ⟨_, rfl, _, rfl, _, rfl, _, rfl, (by show 3 ≤ sizeLine; decide), fun m hm => ?_⟩
    have s4 := Same.upd (o := .lst [.ref c, (bestP (-1) x tl).pv, (bestP 1 x tl).pv]) hm
    refine ⟨l, m, _, _, rfl, SqL.of (s4 _ _ hl3), SqL.of upd_same, fun D hD => ?_⟩
    have s5 := Same.upd (o := .lst []) hD
    refine lc_zip2 (K := K) (a := l) (b := m) (xs := [z1, z2, z3]) (ys := [.ref c, (bestP (-1) x tl).pv, (bestP 1 x tl).pv]) rfl (fun i H' => Same _ H') (Same.refl _) (fun i H' sH => ⟨SqL.of (sH _ _ (s5 _ _ (s4 _ _ hl3))), SqL.of (sH _ _ (s5 _ _ upd_same))⟩) ?_ ?_
    · intro i xx yy T H5 ex ey sH hT
      have s6 := s4.trans (s5.trans (sH.trans (Same.upd (o := .tup [xx, yy]) hT)))
      have s7 := sA.trans s6
      refine ⟨T, [xx, yy], rfl, SqT.of upd_same, rfl, _, _, rfl, _, _, rfl, rfl, rfl, ?_⟩
      match i, ex, ey with
      | 0, ex, ey =>
        cases ex
        cases ey
        exact ⟨_, rfl, _, rfl, z1, _, t, u, 1000, _, _, rfl, j1.same s6, by decide, ⟨c, rfl, s6 _ _ (s3 _ _ hc)⟩, pow_step b1 (by omega), pow_step b2 (by omega), alg_fr n2 e1 e2, true, rfl, iteF (sH.trans (Same.upd hT))⟩
      | 1, ex, ey =>
        cases ex
        cases ey
        exact ⟨_, rfl, _, rfl, z2, _, _, _, 110, _, _, rfl, j2.same s6, by decide, (ol.same s6).pr, pow_step ol.ab (by omega), pow_step ol.bb (by omega), ol.e, true, rfl, iteF (sH.trans (Same.upd hT))⟩
      | 2, ex, ey =>
        cases ex
        cases ey
        exact ⟨_, rfl, _, rfl, z3, _, _, _, 110, _, _, rfl, j3.same s6, by decide, (oh.same s6).pr, pow_step oh.ab (by omega), pow_step oh.bb (by omega), oh.e, true, rfl, iteF (sH.trans (Same.upd hT))⟩
      | i + 3, ex, ey => cases ex
    · intro H5 sH
      refine ⟨by decide, fun e he => ?_⟩
      have sE := Same.upd (o := .lst []) he
      have hD5 : upd H5 e (.lst []) D = some (.lst []) := sE _ _ (sH _ _ upd_same)
      refine ⟨.list [], .list [], .lst (SqL.of hD5) .nil, .lst (SqL.of upd_same) .nil, rfl, rfl, ?_⟩
      exact k _ (sA.trans (s4.trans (s5.trans (sH.trans sE))))
end
end K02

set_option Elab.async false
set_option linter.all false
set_option maxRecDepth 100000
set_option maxHeartbeats 4000000
set_option exponentiation.threshold 100000
namespace K02
open PySem PySem.Spec PyProof.Rows L2 Fa Fb
abbrev sRef : Stmt := top 27
theorem scRef : FnScope ["_law_one", "_law_thing", "_law_at", "_law_found", "_law_row", "_law_pairs", "_law_due", "_law_top", "_law_bottom"] ["_law_one"] (defScope sRef) := ⟨rfl, rfl, rfl, by decide +kernel, rfl, by decide +kernel, by decide +kernel⟩
/-- two amounts of one value -/
def RA (K : PySem.W.Frag) (a b : Addr) (H : Hp) : Prop := ∃ t u n m, IsA K H (.ref a) t u n ∧ IsA K H (.ref b) t u m
def eqAny (K : PySem.W.Frag) : R2 := fun x y H Q => rEq x y H Q ∨ (rEqD K x y H Q ∨ rEqG (DIns (CA K) (RA K)) x y H Q)
structure EqK (P : Program) (w : World) (K : PySem.W.Frag) (mg : Str → Option Value) (base : Heap) (f : Addr) (fd : FuncData) : Prop where
  at_ : PySem.W.findIn K (.ref (CA K)) "__eq__" = some (some (.ref f))
  fn : PySem.W.isFn K (.ref f) = true
  ok : FnOk P w K mg base (L2.CX P w) 1 f fd ["self", "other"] (spEq K)
  b : Binds K fd ["self", "other"] []
theorem EqK.okR {P : Program} {w : World} {K : PySem.W.Frag} {mg : Str → Option Value} {base : Heap} {f : Addr} {fd : FuncData} (Q : EqK P w K mg base f fd) : FnOk P w K mg base (L2.CX P w) 1 f fd ["self", "other"] (L2.spEq (RA K)) := Q.ok.imp fun vs H Q E h => by
  obtain ⟨a, b, rfl, ⟨t, u, n, m, i1, i2⟩, q⟩ := h
  refine ⟨.ref a, .ref b, t, u, n, rfl, i1, .inl ⟨t, u, m, i2, ?_⟩⟩
  rw [decide_eq_true rfl, decide_eq_true rfl]
  exact q H Ext.rfl'
abbrev DA (K : PySem.W.Frag) : Eqv := fun x y H => DFlat x y H ∨ DIns (CA K) (RA K) x y H
theorem monA (K : PySem.W.Frag) : Mon (DIns (CA K) (RA K)) := mon_ins fun a b H H' e ⟨t, u, n, m, i1, i2⟩ => ⟨t, u, n, m, i1.same e, i2.same e⟩
/-- a thing of another kind, and how it is shown -/
structure Th (K : PySem.W.Frag) (H : Hp) (y : V) (d : PyData) : Prop where
  bad : Bad K H y
  sv : Fg.Sv H y d
theorem bad_of {K : PySem.W.Frag} {H : Hp} {y : V} {Ty : String} {b1 b2 : Bool} (hT : Ty ∈ tys) (t : TyX K H y (.type Ty)) (h1 : kitB Ty "int" = some b1) (h2 : kitB Ty "bool" = some b2) (hb : (b1 && !b2) = false) : Bad K H y :=
  ⟨Ty, hT, t, _, b1, b2, t, kit_ty h1, kit_ty h2, hb.symm⟩
def D7 : List PyData := [.none, .bool true, .str "1", .list [.int 1], .tuple [.int 1, .int 2], .dict [], .str "1/2"]
theorem d7_ok : ∀ d ∈ D7, (PyData.list [.str "amount", d]).showable = true ∧ (PyData.list [.str "amount", d]).depth ≤ 20 ∧ (PyData.list [.str "amount", d]).shown.length ≤ sizeLine := by
  intro d hd
  simp only [D7, List.mem_cons, List.not_mem_nil, or_false] at hd
  rcases hd with rfl | rfl | rfl | rfl | rfl | rfl | rfl <;> exact ⟨by decide +kernel, by decide +kernel, by decide +kernel⟩
theorem things7 {K : PySem.W.Frag} {H : Hp} {a1 a2 a3 : Addr} (h1 : H a1 = some (.lst [.int 1])) (h2 : H a2 = some (.tup [.int 1, .int 2])) (h3 : H a3 = some (.dK [])) :
    ∀ (i : Nat) (y : V), [V.non, .bl true, .str "1", .ref a1, .ref a2, .ref a3, .str "1/2"][i]? = some y → ∃ d ∈ D7, Th K H y d := by
  intro i y hi
  match i, hi with
  | 0, hi =>
    cases hi
    exact ⟨.none, by simp [D7], bad_of (Ty := "NoneType") (b1 := false) (b2 := false) (by simp [tys]) (.base .non) (by decide +kernel) (by decide +kernel) rfl, .non⟩
  | 1, hi =>
    cases hi
    exact ⟨.bool true, by simp [D7], bad_of (Ty := "bool") (b1 := true) (b2 := true) (by simp [tys]) (.base (.bl _)) (by decide +kernel) (by decide +kernel) rfl, .bl _⟩
  | 2, hi =>
    cases hi
    exact ⟨.str "1", by simp [D7], bad_of (Ty := "str") (b1 := false) (b2 := false) (by simp [tys]) (.base (.str _)) (by decide +kernel) (by decide +kernel) rfl, .str _⟩
  | 3, hi =>
    cases hi
    exact ⟨.list [.int 1], by simp [D7], bad_of (Ty := "list") (b1 := false) (b2 := false) (by simp [tys]) (.base (.lst h1)) (by decide +kernel) (by decide +kernel) rfl, .lst h1 (.cons (.int _) .nil)⟩
  | 4, hi =>
    cases hi
    exact ⟨.tuple [.int 1, .int 2], by simp [D7], bad_of (Ty := "tuple") (b1 := false) (b2 := false) (by simp [tys]) (.base (.tup h2)) (by decide +kernel) (by decide +kernel) rfl, .tup h2 (.cons (.int _) (.cons (.int _) .nil))⟩
  | 5, hi =>
    cases hi
    exact ⟨.dict [], by simp [D7], bad_of (Ty := "dict") (b1 := false) (b2 := false) (by simp [tys]) (.base (.dK h3)) (by decide +kernel) (by decide +kernel) rfl, .dic h3⟩
  | 6, hi =>
    cases hi
    exact ⟨.str "1/2", by simp [D7], bad_of (Ty := "str") (b1 := false) (b2 := false) (by simp [tys]) (.base (.str _)) (by decide +kernel) (by decide +kernel) rfl, .str _⟩
  | i + 7, hi => cases hi
/-- a thing that is no integer, equal to itself -/
structure Th2 (K : PySem.W.Frag) (H : Hp) (y : V) : Prop where
  wh : Wh K H y false
  eq : ∀ H', Same H H' → ∀ Q : VK, (∀ H2, Same H' H2 → Q (.bl true) H2) → eqAny K y y H' Q
theorem sc_eq {K : PySem.W.Frag} {y : V} (h : scal y y = true) {H' : Hp} {Q : VK} (k : ∀ H2, Same H' H2 → Q (.bl true) H2) : eqAny K y y H' Q := by
  refine .inl ⟨h, ?_⟩
  rw [decide_eq_true rfl]
  exact k H' (Same.refl _)
theorem things6 {K : PySem.W.Frag} {mg : Str → Option Value} (T : AF K mg) {H : Hp} {a1 a2 p : Addr} {t u : Int} {n : Nat} (h1 : H a1 = some (.lst [.int 3])) (h2 : H a2 = some (.tup [.int 1])) (ip : IsA K H (.ref p) t u n) :
    ∀ (i : Nat) (y : V), [V.non, .bl false, .str "3", .ref a1, .ref a2, .ref p][i]? = some y → Th2 K H y := by
  intro i y hi
  have e1 : PyData.eqv (.list [.int 3]) (.list [.int 3]) = true := by decide +kernel
  have e2 : PyData.eqv (.tuple [.int 1]) (.tuple [.int 1]) = true := by decide +kernel
  match i, hi with
  | 0, hi =>
    cases hi
    exact ⟨⟨_, false, false, .base .non, kit_ty (by decide +kernel), kit_ty (by decide +kernel), rfl⟩, fun H' s Q k => sc_eq rfl k⟩
  | 1, hi =>
    cases hi
    exact ⟨⟨_, true, true, .base (.bl _), kit_ty (by decide +kernel), kit_ty (by decide +kernel), rfl⟩, fun H' s Q k => sc_eq rfl k⟩
  | 2, hi =>
    cases hi
    exact ⟨⟨_, false, false, .base (.str _), kit_ty (by decide +kernel), kit_ty (by decide +kernel), rfl⟩, fun H' s Q k => sc_eq rfl k⟩
  | 3, hi =>
    cases hi
    refine ⟨⟨_, false, false, .base (.lst h1), kit_ty (by decide +kernel), kit_ty (by decide +kernel), rfl⟩, fun H' s Q k => .inr (.inl ⟨.list [.int 3], .list [.int 3], .lst (SqL.of (s _ _ h1)) (.cons (.int _) .nil), .lst (SqL.of (s _ _ h1)) (.cons (.int _) .nil), by decide +kernel, by decide +kernel, ?_⟩)⟩
    rw [e1]
    exact k H' (Same.refl _)
  | 4, hi =>
    cases hi
    refine ⟨⟨_, false, false, .base (.tup h2), kit_ty (by decide +kernel), kit_ty (by decide +kernel), rfl⟩, fun H' s Q k => .inr (.inl ⟨.tuple [.int 1], .tuple [.int 1], .tup (SqT.of (s _ _ h2)) (.cons (.int _) .nil), .tup (SqT.of (s _ _ h2)) (.cons (.int _) .nil), by decide +kernel, by decide +kernel, ?_⟩)⟩
    rw [e2]
    exact k H' (Same.refl _)
  | 5, hi =>
    cases hi
    obtain ⟨p', dx, e, hp, _⟩ := id ip
    cases e
    exact ⟨T.wh hp, fun H' s Q k => .inr (.inr ⟨⟨p, p, dx, dx, _, _, rfl, rfl, s _ _ hp, s _ _ hp, t, u, n, n, ip.same s, ip.same s⟩, fun H2 e => k H2 e⟩)⟩
  | i + 6, hi => cases hi
theorem same_put {H H' : Hp} {D : Addr} {o : HO} (s : Same H H') (h : H D = none) : Same H (upd H' D o) := fun c u z => by
  rw [upd_ne (ne_of_none z h)]
  exact s c u z
def VS : List V := [.non, .str "3", .non, .bl true]
def DS : List PyData := [.list [.str "integer", .none], .list [.str "integer", .str "3"], .list [.str "integer", .none], .list [.str "integer", .bool true]]
theorem ds_ok : (PyData.list DS).showable = true ∧ (PyData.list DS).depth ≤ 20 ∧ (PyData.list DS).shown.length ≤ sizeLine := ⟨by decide +kernel, by decide +kernel, by decide +kernel⟩
/-- the list at D: j lists, each with its own thing -/
def Ls (D : Addr) (j : Nat) (H : Hp) : Prop := ∃ ls : List Addr, H D = some (.lst (ls.map V.ref)) ∧ ls.length = j ∧ ∀ (i : Nat) (l : Addr), ls[i]? = some l → l ≠ D ∧ ∃ v, VS[i]? = some v ∧ H l = some (.lst [.str "integer", v])
theorem Ls.more {Z H H2 : Hp} {D l : Addr} {j : Nat} {v : V} (h : Ls D j H) (s : Same H H2) (z : Same Z H2) (hD : Z D = none) (hv : VS[j]? = some v) (hl : H2 l = some (.lst [.str "integer", v])) :
    ∃ acc, H2 D = some (.lst acc) ∧ acc.length < sizeLine ∧ Same Z (upd H2 D (.lst (acc ++ [.ref l]))) ∧ Ls D (j + 1) (upd H2 D (.lst (acc ++ [.ref l]))) := by
  obtain ⟨ls, h1, h2, h3⟩ := h
  have h4 := s _ _ h1
  have ne : l ≠ D := fun e => by
    rw [e, h4] at hl
    cases ls with
    | nil => cases hl
    | cons a b => cases hl
  have j4 : j < 4 := by
    have := List.getElem?_eq_some_iff.mp hv
    exact this.1
  refine ⟨_, h4, ?_, same_put z hD, ls ++ [l], ?_, ?_, fun i a hi => ?_⟩
  · rw [List.length_map, h2]
    exact Nat.lt_trans j4 (by decide)
  · rw [upd_same, List.map_append]
    rfl
  · rw [List.length_append, h2]
    rfl
  · rcases Nat.lt_or_ge i ls.length with c | c
    · rw [List.getElem?_append_left c] at hi
      obtain ⟨a1, v1, a2, a3⟩ := h3 i a hi
      exact ⟨a1, v1, a2, by rw [upd_ne a1]; exact s _ _ a3⟩
    · rw [List.getElem?_append_right c] at hi
      have i0 : i - ls.length = 0 := by
        rcases Nat.eq_zero_or_pos (i - ls.length) with e | e
        · exact e
        · rw [List.getElem?_eq_none (by simp; omega)] at hi
          cases hi
      rw [i0] at hi
      cases hi
      have ei : i = j := by omega
      subst ei
      exact ⟨ne, v, hv, by rw [upd_ne ne]; exact hl⟩
theorem Ls.all {H : Hp} {D : Addr} (h : Ls D 4 H) : Fg.Sv H (.ref D) (.list DS) ∧ True := by
  obtain ⟨ls, h1, h2, h3⟩ := h
  match ls, h1, h2, h3 with
  | [l1, l2, l3, l4], h1, h2, h3 =>
    obtain ⟨_, v1, e1, g1⟩ := h3 0 l1 rfl
    obtain ⟨_, v2, e2, g2⟩ := h3 1 l2 rfl
    obtain ⟨_, v3, e3, g3⟩ := h3 2 l3 rfl
    obtain ⟨_, v4, e4, g4⟩ := h3 3 l4 rfl
    cases e1
    cases e2
    cases e3
    cases e4
    exact ⟨.lst h1 (.cons (.lst g1 (.cons (.str _) (.cons .non .nil))) (.cons (.lst g2 (.cons (.str _) (.cons (.str _) .nil))) (.cons (.lst g3 (.cons (.str _) (.cons .non .nil))) (.cons (.lst g4 (.cons (.str _) (.cons (.bl _) .nil))) .nil)))), trivial⟩
theorem red0 {u : Int} (h : Am.Red 0 u) : u = 1 := by
  obtain ⟨h1, h2⟩ := h
  have : u.natAbs = 1 := by simpa using h2
  omega
def spRef (K : PySem.W.Frag) : Sp := fun vs H Q _ => ∃ x t u n, vs = [x] ∧ IsA K H x t u n ∧ n ≤ 110 ∧ ∀ H', Same H H' → Q (.bl true) H'
section
variable {P : Program} {w : World} {K : PySem.W.Frag} {mg : Str → Option Value} {base : Heap} {f ft fm fi fe : Addr} {fd fdt fdm fdi fde fdI : FuncData}
theorem ok_ref (F : FnP K "_law_refused" sRef f fd) (T : AF K mg) (hS : Fg.SysD K) (mR : mg "repr" = none) (mG : mg "range" = none) (LT : Fn P w K mg base "_law_told" 10 ["_law_at", "_law_one", "_law_thing"] (spTold K) ft fdt)
    (LM : Fn P w K mg base "_law_made" 6 ["_law_top", "_law_bottom"] (spMade K) fm fdm) (LI : Fn P w K mg base "is_amount" 2 ["value"] (spIsA K) fi fdi) (Q1 : EqK P w K mg base fe fde) (tyE : ∀ T ∈ tys, PySem.W.subIn K (.type T) (.ref (CA K)) = some false)
    (GI : FnOk P w K mg base (L2.CX P w) 4 (aI K) fdI ["self", "top", "bottom"] (spInit K)) {ds : List Value} (hds : Vals [.int 1] ds) (bI : Binds K fdI ["self", "top", "bottom"] ds) :
    Fg.FnG P w K mg base (L2.CX P w) 11 f fd ["_law_one"] (spRef K) := by
  refine Fg.okG F scRef (fun vs H Q E h => ?_) (fun cdv A outer s H vs Q E G hr h => ?_)
  · obtain ⟨x, t, u, n, rfl, _⟩ := h
    rfl
  · obtain ⟨x, t, u, n, rfl, ix, hn, q⟩ := h
    have hr6 := hr.mono (show 6 ≤ 10 by decide)
    have hr5 := hr.mono (show 5 ≤ 10 by decide)
    have hr2 := hr.mono (show 2 ≤ 10 by decide)
    have hr1 := hr.mono (show 1 ≤ 10 by decide)
    have hu : (A.deeper (envOfC "_law_refused" (defScope sRef) s.heap.objs.size f cdv)).units + 64 < cLine := by
      have := hr.un
      omega
    have monD : Mon (DA K) := Mon.or mon_flat (monA K)
    have eqD : EqG (cxOf (L2.CX P w) P w K mg base ["_law_one", "_law_thing", "_law_at", "_law_found", "_law_row", "_law_pairs", "_law_due", "_law_top", "_law_bottom"] "_law_refused" (defScope sRef) f cdv A outer s H E) 1 (DA K) := EqG.or (eqG_flat.mono (by decide)) (eqG_ins Q1.okR Q1.at_ Q1.fn Q1.b passL)
    refine ⟨_, (pss_cons (ps_for (passes_of rfl) rfl (pi_list (pe_lst (pa_cons pe_non (pa_cons pe_bl (pa_cons pe_str (pa_cons (pe_lst (pa_cons pe_int pa_nil)) (pa_cons (pe_tup (pa_cons pe_int (pa_cons pe_int pa_nil))) (pa_cons pe_dnewK (pa_cons pe_str pa_nil))))))))) (pg_name (i := 1) scRef.nd rfl (Or.inr rfl)) (pss_cons (ps_if (pt_cmpR (op_neD hu) (pe_lc (own := [("_law_at", 2)]) (g := gName 2)  (by rfl) scRef.nd (pi_range1 rfl mG (pa_cons pe_int pa_nil)) (blkOk_by (own := [("_law_at", 2)]) (N := ["_law_one", "_law_thing", "_law_at", "_law_found", "_law_row", "_law_pairs", "_law_due", "_law_top", "_law_bottom"]) (sc := defScope sRef) (by decide +kernel)) (fun _ _ _ _ _ => pg_name (i := 2) scRef.nd rfl (Or.inl rfl)) (fun _ _ _ _ _ => pts_one (pt_cmpR op_ne (pe_callB (Fg.call_reprD hS G hu) rfl mR boot_repr (pa_cons (pe_call LT.ok hr rfl LT.g LT.k LT.b .nil passL (pa_cons (pv 2) (pa_cons (pv 0) (pa_cons (pv 1) pa_nil)))) pa_nil)) (pe_callB (Fg.call_reprD hS G hu) rfl mR boot_repr (pa_cons (pe_lst (pa_cons pe_str (pa_cons (pv 1) pa_nil))) pa_nil)) (nomark _))) (fun _ _ _ _ _ => pv 2)) (pe_lst pa_nil) (nomark _)) (pss_one (ps_ret pe_bl)) pss_nil) (pss_one (ps_if (PW.pt (pw_or (pt_cmpR op_isnot_bl (pe_call LI.ok hr2 rfl LI.g LI.k LI.b .nil passL (pa_cons (pv 1) pa_nil)) pe_bl (nomark _)) (pw_or1 (pt_cmp (pe_eqX Q1.at_ Q1.fn Q1.ok hr1 Q1.b passS (pv 0) (pv 1)))))) (pss_one (ps_ret pe_bl)) pss_nil))))
      (pss_cons (ps_if (pt_cmpR (Fe.op_neG monD eqD hr2) (pe_call LT.ok hr rfl LT.g LT.k LT.b .nil passL (pa_cons pe_int (pa_cons (pv 0) (pa_cons (pe_make T.mkA GI hr5 rfl T.g bI hds passL (pa_cons pe_int pa_nil)) pa_nil)))) (pe_lst (pa_cons pe_str (pa_cons (pe_make T.mkA GI hr5 rfl T.g bI hds passL (pa_cons pe_int pa_nil)) pa_nil))) (nomark _)) (pss_one (ps_ret pe_bl)) pss_nil)
      (pss_cons (ps_if (PW.pt (pw_or (pt_cmpR (op_neD hu) (pe_call LT.ok hr rfl LT.g LT.k LT.b .nil passL (pa_cons pe_int (pa_cons (pv 0) (pa_cons pe_int pa_nil)))) (pe_lst (pa_cons pe_str (pa_cons pe_int pa_nil))) (nomark _)) (pw_or (pt_cmpR op_isnot_bl (pe_call LI.ok hr2 rfl LI.g LI.k LI.b .nil passL (pa_cons (pv 0) pa_nil)) pe_bl (nomark _)) (pw_or1 (pt_cmpR op_isnot_bl (pe_call LI.ok hr2 rfl LI.g LI.k LI.b .nil passL (pa_cons pe_int pa_nil)) pe_bl (nomark _)))))) (pss_one (ps_ret pe_bl)) pss_nil)
      (pss_cons (ps_for (passes_of rfl) rfl (pi_list (pe_lst (pa_cons pe_non (pa_cons pe_bl (pa_cons pe_str (pa_cons (pe_lst (pa_cons pe_int pa_nil)) (pa_cons (pe_tup (pa_cons pe_int pa_nil)) (pa_cons (pv 0) pa_nil)))))))) (pg_name (i := 1) scRef.nd rfl (Or.inr rfl)) (pss_cons (ps_set (i := 3) scRef.nd rfl (Or.inl rfl) (pe_lst (pa_cons (pe_call LM.ok hr6 rfl LM.g LM.k LM.b .nil passL (pa_cons (pv 1) (pa_cons (pv 1) pa_nil))) (pa_cons (pe_call LM.ok hr6 rfl LM.g LM.k LM.b .nil passL (pa_cons pe_int (pa_cons (pv 1) pa_nil))) pa_nil)))) (pss_one (ps_if (PW.pt (pw_or (pt_cmpR (op_neD hu) (pe_lc (own := [("_law_row", 4)]) (g := gName 4) (te := tOp (rIxL K) (tVar 4) (tC (.int 0))) (by rfl) scRef.nd (pi_list (pv 3)) (blkOk_by (own := [("_law_row", 4)]) (N := ["_law_one", "_law_thing", "_law_at", "_law_found", "_law_row", "_law_pairs", "_law_due", "_law_top", "_law_bottom"]) (sc := defScope sRef) (by decide +kernel)) (fun _ _ _ _ _ => pg_name (i := 4) scRef.nd rfl (Or.inl rfl)) (fun _ _ _ _ _ => pts_nil) (fun _ _ _ _ _ => pe_ix ix_list (pv 4) pe_int (fun _ _ => rfl))) (pe_lst (pa_cons pe_str (pa_cons pe_str pa_nil))) (nomark _)) (pw_or1 (pt_cmpR (op_neD hu) (pe_lc (own := [("_law_row", 4)]) (g := gName 4) (te := tOp (eqAny K) (tOp (rIxL K) (tVar 4) (tC (.int 1))) (tVar 1)) (by rfl) scRef.nd (pi_list (pv 3)) (blkOk_by (own := [("_law_row", 4)]) (N := ["_law_one", "_law_thing", "_law_at", "_law_found", "_law_row", "_law_pairs", "_law_due", "_law_top", "_law_bottom"]) (sc := defScope sRef) (by decide +kernel)) (fun _ _ _ _ _ => pg_name (i := 4) scRef.nd rfl (Or.inl rfl)) (fun _ _ _ _ _ => pts_nil) (fun _ _ _ _ _ => pe_cmpR (Fe.op_or op_eq (Fe.op_or (op_eqD hu) (op_eqG (rcG_ins Q1.okR Q1.at_ Q1.fn Q1.b passL) hr1))) (pe_ix ix_list (pv 4) pe_int (fun _ _ => rfl)) (pv 1) (nomark _))) (pe_lst (pa_cons pe_bl (pa_cons pe_bl pa_nil))) (nomark _))))) (pss_one (ps_ret pe_bl)) pss_nil))))
      (pss_cons (ps_set (i := 5) scRef.nd rfl (Or.inl rfl) (pe_lst (pa_cons (pe_tup (pa_cons pe_non (pa_cons pe_int pa_nil))) (pa_cons (pe_tup (pa_cons pe_str (pa_cons pe_bl pa_nil))) (pa_cons (pe_tup (pa_cons pe_int (pa_cons pe_non pa_nil))) (pa_cons (pe_tup (pa_cons pe_bl (pa_cons pe_int pa_nil))) pa_nil))))))
      (pss_cons (ps_set (i := 6) scRef.nd rfl (Or.inl rfl) (pe_lst (pa_cons (pe_lst (pa_cons pe_str (pa_cons pe_non pa_nil))) (pa_cons (pe_lst (pa_cons pe_str (pa_cons pe_str pa_nil))) (pa_cons (pe_lst (pa_cons pe_str (pa_cons pe_non pa_nil))) (pa_cons (pe_lst (pa_cons pe_str (pa_cons pe_bl pa_nil))) pa_nil))))))
      (pss_cons (ps_if (pt_cmpR op_ne (pe_callB (Fg.call_reprD hS G hu) rfl mR boot_repr (pa_cons (pe_lc (own := [("_law_top", 7), ("_law_bottom", 8)]) (g := gTup K 2 (gCons (gName 7) (gCons (gName 8) gNil)))  (by rfl) scRef.nd (pi_list (pv 5)) (blkOk_by (own := [("_law_top", 7), ("_law_bottom", 8)]) (N := ["_law_one", "_law_thing", "_law_at", "_law_found", "_law_row", "_law_pairs", "_law_due", "_law_top", "_law_bottom"]) (sc := defScope sRef) (by decide +kernel)) (fun _ _ _ _ _ => pg_tup (by rfl) (pgs_cons (pg_name (i := 7) scRef.nd rfl (Or.inl rfl)) (pgs_cons (pg_name (i := 8) scRef.nd rfl (Or.inl rfl)) pgs_nil))) (fun _ _ _ _ _ => pts_nil) (fun _ _ _ _ _ => (pe_call LM.ok hr6 rfl LM.g LM.k LM.b .nil passL (pa_cons (pv 7) (pa_cons (pv 8) pa_nil))))) pa_nil)) (pe_callB (Fg.call_reprD hS G hu) rfl mR boot_repr (pa_cons (pv 6) pa_nil)) (nomark _)) (pss_one (ps_ret pe_bl)) pss_nil)
      (pss_one (ps_ret (pe_cmpR op_eq (pe_callB (Fg.call_reprD hS G hu) rfl mR boot_repr (pa_cons (pe_call LM.ok hr6 rfl LM.g LM.k LM.b .nil passL (pa_cons pe_int (pa_cons pe_int pa_nil))) pa_nil)) (pe_callB (Fg.call_reprD hS G hu) rfl mR boot_repr (pa_cons (pe_lst (pa_cons pe_str (pa_cons pe_int pa_nil))) pa_nil)) (nomark _))))))))))), ?_⟩
    obtain ⟨p, dx, rfl, hp, rr, bx1, bx2⟩ := id ix
    have r2 : (2 : Nat) ≤ sizeLine := by decide
    -- the first loop
    refine ⟨by decide, fun a1 h1 => ⟨r2, fun a2 h2 a3 h3 => ⟨by show 7 ≤ sizeLine; decide, fun a4 h4 => ?_⟩⟩⟩
    have s1 := Same.upd (o := .lst [.int 1]) h1
    have s2 := s1.trans (Same.upd (o := .tup [.int 1, .int 2]) h2)
    have s3 := s2.trans (Same.upd (o := .dK []) h3)
    have s4 := s3.trans (Same.upd (o := .lst [.non, .bl true, .str "1", .ref a1, .ref a2, .ref a3, .str "1/2"]) h4)
    refine ⟨a4, rfl, ⟨_, SqL.of upd_same⟩, for_list (K := K) (a := a4) (xs := [.non, .bl true, .str "1", .ref a1, .ref a2, .ref a3, .str "1/2"]) (fun i σ H' => Same _ H' ∧ ∃ v1 : Option V, σ = [some (.ref p), v1, none, none, none, none, none, none, none])
      ⟨Same.refl _, none, rfl⟩ (fun i σ H' _ ⟨s5, _⟩ => SqL.of (s5 _ _ upd_same)) ?_ ?_⟩
    · rintro i y σ H1 hi ⟨s5, v1, rfl⟩
      have sA := s4.trans s5
      have e4 := Same.upd (o := .lst [.non, .bl true, .str "1", .ref a1, .ref a2, .ref a3, .str "1/2"]) h4
      have e3 := (Same.upd (o := .dK []) h3).trans e4
      have e2 := (Same.upd (o := .tup [.int 1, .int 2]) h2).trans e3
      obtain ⟨d, hd, th⟩ := things7 (K := K) (s5 _ _ (e2 _ _ upd_same)) (s5 _ _ (e3 _ _ upd_same)) (s5 _ _ (e4 _ _ upd_same)) i y hi
      obtain ⟨sh1, sh2, sh3⟩ := d7_ok d hd
      obtain ⟨Ty, hT, ty, wh⟩ := id th.bad
      refine ⟨8, rfl, by decide, by decide, fun D hD => ?_⟩
      have sD := Same.upd (o := .lst []) hD
      refine lc_range (lo := 0) (n := 8) (fun j H' => Same _ H') (Same.refl _) ?_ ?_
      · intro j H2 hj s6
        have sB := sA.trans (sD.trans s6)
        have sBt := sD.trans s6
        refine ⟨rfl, _, rfl, _, rfl, _, rfl, 0 + (j : Int), .ref p, y, t, u, n, rfl, ix.same sB, hn, by omega, by omega, .inl (th.bad.same sBt), fun l H3 s7 hl => ?_⟩
        refine ⟨l, .list [.str "amount", d], rfl, .lst hl (.cons (.str _) (.cons (th.sv.same (sBt.trans s7)) .nil)), sh1, sh2, sh3, ?_⟩
        refine ⟨_, rfl, r2, fun m hm => ⟨m, .list [.str "amount", d], rfl, .lst upd_same (.cons (.str _) (.cons (th.sv.same (sBt.trans (s7.trans (Same.upd hm)))) .nil)), sh1, sh2, sh3, rfl, _, rfl, if_false_of ?_ (s6.trans (s7.trans (Same.upd hm)))⟩⟩
        rw [decide_eq_true rfl]
        rfl
      · intro H2 s6
        refine ⟨by decide, fun e he => ?_⟩
        have sBt := sD.trans (s6.trans (Same.upd (o := .lst []) he))
        have sB := sA.trans sBt
        have hD2 : upd H2 e (.lst []) D = some (.lst []) := Same.upd he _ _ (s6 _ _ upd_same)
        refine ⟨.list [], .list [], .lst (SqL.of hD2) .nil, .lst (SqL.of upd_same) .nil, rfl, rfl, _, rfl, if_false_of (by rfl) ?_⟩
        refine ⟨_, rfl, y, _, false, false, rfl, ty.same sBt, T.kT Ty hT, wh.same sBt, _, _, rfl, rfl, _, rfl, if_false_of (by rfl) ?_⟩
        refine ⟨_, rfl, _, rfl, p, dx, _, rfl, sB _ _ hp, .inr ⟨Ty, ty.same sBt, tyE Ty hT⟩, .ref p, y, t, u, n, rfl, ix.same sB, .inr ⟨Ty, ty.same sBt, T.kT Ty hT, ?_⟩⟩
        exact ⟨false, rfl, iteF ⟨s5.trans sBt, some y, rfl⟩⟩
    rintro σ H1 ⟨s5, v1, rfl⟩
    have sA := s4.trans s5
    clear s5 s1 s2 s3 s4
    -- a zero of one's own
    refine ⟨_, rfl, ?_⟩
    refine fun x dx1 hx hdx hne => spInit_imp (make_fact T (n := 1) (a := 0) (b := 1) (by decide) (by decide) (by decide) (by decide) hx hdx hne) fun v0 H2 ⟨hv0, t0, u0, sm, iy, ee⟩ => ⟨hv0, ?_⟩
    have t00 : t0 = 0 := by omega
    subst t00
    have sB := sA.trans sm
    refine ⟨1, .ref p, .ref x, t, u, n, rfl, ix.same sB, hn, by decide, by decide, .inr ⟨rfl, u0, 1, .inl iy, by decide⟩, fun l H3 s6 hl => ?_⟩
    refine fun x2 dx2 hx2 hdx2 hne2 => spInit_imp (make_fact T (n := 1) (a := 0) (b := 1) (by decide) (by decide) (by decide) (by decide) hx2 hdx2 hne2) fun v2 H4 ⟨hv2, t2, u2, sm2, iy2, ee2⟩ => ⟨hv2, ?_⟩
    have t20 : t2 = 0 := by omega
    subst t20
    refine ⟨r2, fun m hm => ?_⟩
    have s7 := s6.trans (sm2.trans (Same.upd (o := .lst [.str "amount", .ref x2]) hm))
    have iA := iy.same s7
    have iB := iy2.same (Same.upd (o := .lst [.str "amount", .ref x2]) hm)
    obtain ⟨_, d1, q1, g1, w1, _⟩ := id iA
    obtain ⟨_, d2, q2, g2, w2, _⟩ := id iB
    cases q1
    cases q2
    have eu : u0 = u2 := (red0 w1).trans (red0 w2).symm
    subst eu
    refine ⟨⟨l, m, _, _, rfl, rfl, (sm2.trans (Same.upd (o := .lst [.str "amount", .ref x2]) hm)) _ _ hl, upd_same, .cons (.inl ⟨rfl, rfl, by rfl⟩) (.cons (.inr ⟨x, x2, d1, d2, _, _, rfl, rfl, g1, g2, 0, u0, 1, 1, iA, iB⟩) .nil)⟩, fun H5 e5 => ?_⟩
    have sC : Same H H5 := sB.trans (s7.trans e5)
    refine ⟨false, rfl, iteF ?_⟩
    -- a zero
    refine ⟨_, rfl, 1, .ref p, .int 0, t, u, n, rfl, ix.same sC, hn, by decide, by decide, .inr ⟨rfl, 1, 1, .inr ⟨rfl, rfl, by decide, by decide⟩, by decide⟩, fun l6 H6 s8 hl6 => ⟨r2, fun m6 hm6 => ?_⟩⟩
    have sD := sC.trans (s8.trans (Same.upd (o := .lst [.str "amount", .int 0]) hm6))
    refine ⟨.list [.str "amount", .int 0], .list [.str "amount", .int 0], .lst (SqL.of (Same.upd hm6 _ _ hl6)) (.cons (.str _) (.cons (.int _) .nil)), .lst (SqL.of upd_same) (.cons (.str _) (.cons (.int _) .nil)), by decide +kernel, by decide +kernel, _, rfl, if_false_of (by decide +kernel) ?_⟩
    refine ⟨_, rfl, .ref p, _, true, false, rfl, T.ty (sD _ _ hp), T.kS, T.wh (sD _ _ hp), _, _, rfl, rfl, _, rfl, if_false_of (by rfl) ?_⟩
    refine ⟨.int 0, _, false, true, rfl, .base (.int 0), T.kT "int" (by simp [tys]), wh_int 0, _, _, rfl, rfl, _, rfl, if_false_of (by rfl) ?_⟩
    -- the second loop
    refine ⟨by decide, fun a1 h1 => ⟨by decide, fun a2 h2 => ⟨_, rfl, by show 6 ≤ sizeLine; decide, fun a4 h4 => ?_⟩⟩⟩
    have s1 := Same.upd (o := .lst [.int 3]) h1
    have s2 := s1.trans (Same.upd (o := .tup [.int 1]) h2)
    have s4 := s2.trans (Same.upd (o := .lst [.non, .bl false, .str "3", .ref a1, .ref a2, .ref p]) h4)
    have sE := sD.trans s4
    refine ⟨a4, rfl, ⟨_, SqL.of upd_same⟩, for_list (K := K) (a := a4) (xs := [.non, .bl false, .str "3", .ref a1, .ref a2, .ref p]) (fun i σ H' => Same _ H' ∧ ∃ v1 v3 : Option V, σ = [some (.ref p), v1, none, v3, none, none, none, none, none])
      ⟨Same.refl _, v1, none, rfl⟩ (fun i σ H' _ ⟨s5, _⟩ => SqL.of (s5 _ _ upd_same)) ?_ ?_⟩
    · rintro i y σ H7 hi ⟨s5, w1, w3, rfl⟩
      have sF := sE.trans s5
      have e4 := Same.upd (o := .lst [.non, .bl false, .str "3", .ref a1, .ref a2, .ref p]) h4
      have e2 := (Same.upd (o := .tup [.int 1]) h2).trans e4
      have th := things6 T (s5 _ _ (e2 _ _ upd_same)) (s5 _ _ (e4 _ _ upd_same)) (ix.same sF) i y hi
      refine ⟨_, rfl, _, rfl, y, y, y, rfl, .inl ⟨th.wh, ⟨false, th.wh⟩, rfl⟩, fun l1 H8 s6 hl1 => ?_⟩
      refine ⟨_, rfl, .int 3, y, y, rfl, .inr (.inl ⟨wh_int 3, th.wh.same s6, rfl⟩), fun l2 H9 s7 hl2 => ⟨r2, fun f9 hf9 => ?_⟩⟩
      have g1 := (s7.trans (Same.upd (o := .lst [.ref l1, .ref l2]) hf9)) _ _ hl1
      have g2 := (Same.upd (o := .lst [.ref l1, .ref l2]) hf9) _ _ hl2
      have sG := s6.trans (s7.trans (Same.upd (o := .lst [.ref l1, .ref l2]) hf9))
      refine ⟨_, rfl, f9, rfl, ⟨_, SqL.of upd_same⟩, fun D hD => ?_⟩
      refine lc_list (K := K) (a := f9) (xs := [.ref l1, .ref l2]) (fun j H' => Same (upd H9 f9 (.lst [.ref l1, .ref l2])) H' ∧ H' D = some (.lst (List.replicate j (V.str "integer")))) ⟨Same.upd hD, upd_same⟩ (fun j H' _ ⟨s8, _⟩ => SqL.of (s8 _ _ upd_same)) ?_ ?_
      · rintro j x H' hj ⟨s8, hd⟩
        match j, hj with
        | 0, hj =>
          cases hj
          exact ⟨rfl, _, rfl, l1, _, _, _, rfl, rfl, SqL.of (s8 _ _ g1), (rfl : atI [V.str "integer", y] 0 = some (.str "integer")), _, hd, by decide, same_put s8 hD, upd_same⟩
        | 1, hj =>
          cases hj
          exact ⟨rfl, _, rfl, l2, _, _, _, rfl, rfl, SqL.of (s8 _ _ g2), (rfl : atI [V.str "integer", y] 0 = some (.str "integer")), _, hd, by decide, same_put s8 hD, upd_same⟩
        | j + 2, hj => cases hj
      rintro H' ⟨s8, hd⟩
      refine ⟨r2, fun e he => ?_⟩
      have s9 := s8.trans (Same.upd (o := .lst [.str "integer", .str "integer"]) he)
      refine ⟨.list [.str "integer", .str "integer"], .list [.str "integer", .str "integer"], .lst (SqL.of (Same.upd he _ _ hd)) (.cons (.str _) (.cons (.str _) .nil)), .lst (SqL.of upd_same) (.cons (.str _) (.cons (.str _) .nil)), by decide +kernel, by decide +kernel, _, rfl, if_false_of (by decide +kernel) ?_⟩
      clear hd hD D s8
      refine ⟨_, rfl, f9, rfl, ⟨_, SqL.of (s9 _ _ upd_same)⟩, fun D hD => ?_⟩
      have sH := sG.trans s9
      refine lc_list (K := K) (a := f9) (xs := [.ref l1, .ref l2]) (fun j H2 => Same (upd H' e (.lst [.str "integer", .str "integer"])) H2 ∧ H2 D = some (.lst (List.replicate j (V.bl true)))) ⟨Same.upd hD, upd_same⟩ (fun j H2 _ ⟨sI, _⟩ => SqL.of (sI _ _ (s9 _ _ upd_same))) ?_ ?_
      · rintro j x H2 hj ⟨sI, hd⟩
        match j, hj with
        | 0, hj =>
          cases hj
          exact ⟨rfl, _, rfl, l1, _, _, _, rfl, rfl, SqL.of (sI _ _ (s9 _ _ g1)), (rfl : atI [V.str "integer", y] 1 = some y), _, rfl, th.eq H2 (sH.trans sI) _ fun H3 s3 => ⟨_, s3 _ _ hd, by decide, same_put (sI.trans s3) hD, upd_same⟩⟩
        | 1, hj =>
          cases hj
          exact ⟨rfl, _, rfl, l2, _, _, _, rfl, rfl, SqL.of (sI _ _ (s9 _ _ g2)), (rfl : atI [V.str "integer", y] 1 = some y), _, rfl, th.eq H2 (sH.trans sI) _ fun H3 s3 => ⟨_, s3 _ _ hd, by decide, same_put (sI.trans s3) hD, upd_same⟩⟩
        | j + 2, hj => cases hj
      rintro H2 ⟨sI, hd⟩
      refine ⟨r2, fun e2 he2 => ?_⟩
      refine ⟨.list [.bool true, .bool true], .list [.bool true, .bool true], .lst (SqL.of (Same.upd he2 _ _ hd)) (.cons (.bl _) (.cons (.bl _) .nil)), .lst (SqL.of upd_same) (.cons (.bl _) (.cons (.bl _) .nil)), by decide +kernel, by decide +kernel, _, rfl, if_false_of (by decide +kernel) ?_⟩
      exact ⟨s5.trans (sH.trans (sI.trans (Same.upd he2))), some y, some (.ref f9), rfl⟩
    rintro σ H7 ⟨s5, w1, w3, rfl⟩
    have sF := sE.trans s5
    clear s5 s1 s2 s4 sE
    -- the pairs
    refine ⟨r2, fun b1 k1 => ⟨r2, fun b2 k2 => ⟨r2, fun b3 k3 => ⟨r2, fun b4 k4 => ⟨by show 4 ≤ sizeLine; decide, fun b5 k5 => ?_⟩⟩⟩⟩⟩
    have e5 := Same.upd (o := .lst [.ref b1, .ref b2, .ref b3, .ref b4]) k5
    have e4 := (Same.upd (o := .tup [.bl true, .int 0]) k4).trans e5
    have e3 := (Same.upd (o := .tup [.int 0, .non]) k3).trans e4
    have e2 := (Same.upd (o := .tup [.str "3", .bl true]) k2).trans e3
    have e1 := (Same.upd (o := .tup [.non, .int 0]) k1).trans e2
    have m1 := e2 b1 _ upd_same
    have m2 := e3 b2 _ upd_same
    have m3 := e4 b3 _ upd_same
    have m4 := e5 b4 _ upd_same
    have m5 := upd_same (H := upd (upd (upd (upd H7 b1 (.tup [.non, .int 0])) b2 (.tup [.str "3", .bl true])) b3 (.tup [.int 0, .non])) b4 (.tup [.bl true, .int 0])) (a := b5) (o := .lst [.ref b1, .ref b2, .ref b3, .ref b4])
    refine ⟨r2, fun c1 n1 => ⟨r2, fun c2 n2 => ⟨r2, fun c3 n3 => ⟨r2, fun c4 n4 => ⟨by show 4 ≤ sizeLine; decide, fun c5 n5 => ?_⟩⟩⟩⟩⟩
    have f5 := Same.upd (o := .lst [.ref c1, .ref c2, .ref c3, .ref c4]) n5
    have f4 := (Same.upd (o := .lst [.str "integer", .bl true]) n4).trans f5
    have f3 := (Same.upd (o := .lst [.str "integer", .non]) n3).trans f4
    have f2 := (Same.upd (o := .lst [.str "integer", .str "3"]) n2).trans f3
    have f1 := (Same.upd (o := .lst [.str "integer", .non]) n1).trans f2
    have w1 := f2 c1 _ upd_same
    have w2 := f3 c2 _ upd_same
    have w3 := f4 c3 _ upd_same
    have w4 := f5 c4 _ upd_same
    have sG := sF.trans (e1.trans f1)
    refine ⟨_, rfl, b5, rfl, ⟨_, SqL.of (f1 _ _ m5)⟩, fun D hD => ?_⟩
    have m1 := f1 _ _ m1
    have m2 := f1 _ _ m2
    have m3 := f1 _ _ m3
    have m4 := f1 _ _ m4
    have m5 := f1 _ _ m5
    generalize hZ : upd (upd (upd (upd (upd (upd (upd (upd (upd (upd H7 b1 (.tup [.non, .int 0])) b2 (.tup [.str "3", .bl true])) b3 (.tup [.int 0, .non])) b4 (.tup [.bl true, .int 0])) b5 (.lst [.ref b1, .ref b2, .ref b3, .ref b4])) c1 (.lst [.str "integer", .non])) c2 (.lst [.str "integer", .str "3"])) c3 (.lst [.str "integer", .non])) c4 (.lst [.str "integer", .bl true])) c5 (.lst [.ref c1, .ref c2, .ref c3, .ref c4]) = Z at *
    have w5 : Z c5 = some (.lst [.ref c1, .ref c2, .ref c3, .ref c4]) := by
      rw [← hZ]
      exact upd_same
    clear hZ f1 f2 f3 f4 f5 e1 e2 e3 e4 e5 n1 n2 n3 n4 n5 k1 k2 k3 k4 k5 sF
    refine lc_list (K := K) (a := b5) (xs := [.ref b1, .ref b2, .ref b3, .ref b4]) (fun j H' => Same Z H' ∧ Ls D j H') ⟨Same.upd hD, [], upd_same, rfl, fun i l h => by cases h⟩ (fun j H' _ ⟨s8, _⟩ => SqL.of (s8 _ _ m5)) ?_ ?_
    · rintro j x H' hj ⟨s8, ls⟩
      match j, hj with
      | 0, hj =>
        cases hj
        refine ⟨b1, _, rfl, SqT.of (s8 _ _ m1), rfl, _, _, rfl, _, _, rfl, rfl, rfl, ?_⟩
        refine ⟨_, rfl, _, rfl, .non, .int 0, .non, rfl, .inl ⟨⟨_, false, false, .base .non, kit_ty (by decide +kernel), kit_ty (by decide +kernel), rfl⟩, ⟨true, wh_int _⟩, rfl⟩, fun l H2 s2 hl => ?_⟩
        exact ls.more s2 (s8.trans s2) hD rfl hl
      | 1, hj =>
        cases hj
        refine ⟨b2, _, rfl, SqT.of (s8 _ _ m2), rfl, _, _, rfl, _, _, rfl, rfl, rfl, ?_⟩
        refine ⟨_, rfl, _, rfl, .str "3", .bl true, .str "3", rfl, .inl ⟨⟨_, false, false, .base (.str _), kit_ty (by decide +kernel), kit_ty (by decide +kernel), rfl⟩, ⟨false, ⟨_, true, true, .base (.bl _), kit_ty (by decide +kernel), kit_ty (by decide +kernel), rfl⟩⟩, rfl⟩, fun l H2 s2 hl => ?_⟩
        exact ls.more s2 (s8.trans s2) hD rfl hl
      | 2, hj =>
        cases hj
        refine ⟨b3, _, rfl, SqT.of (s8 _ _ m3), rfl, _, _, rfl, _, _, rfl, rfl, rfl, ?_⟩
        refine ⟨_, rfl, _, rfl, .int 0, .non, .non, rfl, .inr (.inl ⟨wh_int _, ⟨_, false, false, .base .non, kit_ty (by decide +kernel), kit_ty (by decide +kernel), rfl⟩, rfl⟩), fun l H2 s2 hl => ?_⟩
        exact ls.more s2 (s8.trans s2) hD rfl hl
      | 3, hj =>
        cases hj
        refine ⟨b4, _, rfl, SqT.of (s8 _ _ m4), rfl, _, _, rfl, _, _, rfl, rfl, rfl, ?_⟩
        refine ⟨_, rfl, _, rfl, .bl true, .int 0, .bl true, rfl, .inl ⟨⟨_, true, true, .base (.bl _), kit_ty (by decide +kernel), kit_ty (by decide +kernel), rfl⟩, ⟨true, wh_int _⟩, rfl⟩, fun l H2 s2 hl => ?_⟩
        exact ls.more s2 (s8.trans s2) hD rfl hl
      | j + 4, hj => cases hj
    rintro H' ⟨s8, ls⟩
    obtain ⟨D1, D2⟩ := ls.all
    obtain ⟨g1, g2, g3⟩ := ds_ok
    refine ⟨D, .list DS, rfl, D1, g1, g2, g3, ?_⟩
    refine ⟨_, rfl, c5, .list DS, rfl, .lst (s8 _ _ w5) (.cons (.lst (s8 _ _ w1) (.cons (.str _) (.cons .non .nil))) (.cons (.lst (s8 _ _ w2) (.cons (.str _) (.cons (.str _) .nil))) (.cons (.lst (s8 _ _ w3) (.cons (.str _) (.cons .non .nil))) (.cons (.lst (s8 _ _ w4) (.cons (.str _) (.cons (.bl _) .nil))) .nil)))), g1, g2, g3, rfl, _, rfl, if_false_of ?_ ?_⟩
    · rw [decide_eq_true rfl]
      rfl
    -- the end
    refine ⟨.int 3, .int 0, .int 0, rfl, .inr (.inr ⟨3, rfl, rfl, rfl⟩), fun l H2 s9 hl => ?_⟩
    have z1 : (PyData.list [.str "integer", .int 0]).showable = true := by decide +kernel
    have z2 : (PyData.list [.str "integer", .int 0]).depth ≤ 20 := by decide +kernel
    have z3 : (PyData.list [.str "integer", .int 0]).shown.length ≤ sizeLine := by decide +kernel
    refine ⟨l, .list [.str "integer", .int 0], rfl, .lst hl (.cons (.str _) (.cons (.int _) .nil)), z1, z2, z3, r2, fun m hm => ⟨m, .list [.str "integer", .int 0], rfl, .lst upd_same (.cons (.str _) (.cons (.int _) .nil)), z1, z2, z3, rfl, ?_⟩⟩
    have fin := q _ (sG.trans (s8.trans (s9.trans (Same.upd (o := .lst [.str "integer", .int 0]) hm))))
    rw [← decide_eq_true (rfl : V.str (PyData.list [.str "integer", .int 0]).shown = _)] at fin
    exact fin
end
end K02

set_option Elab.async false
set_option linter.all false
set_option maxRecDepth 100000
set_option maxHeartbeats 4000000
set_option exponentiation.threshold 100000
namespace K02
open PySem PySem.Spec PyProof.Rows L2 Fa Fb
abbrev sNone : Stmt := top 30
theorem scNone : FnScope ["_law_found", "_law_at", "e"] [] (defScope sNone) := ⟨rfl, rfl, rfl, by decide +kernel, rfl, by decide +kernel, by decide +kernel⟩
def spNone : Sp := fun vs H Q _ => vs = [] ∧ ∀ H', Same H H' → Q (.bl true) H'
abbrev tApp (K : PySem.W.Frag) (e : TE) : TS := tDrop (tBM K "list" rAppend (tVar 0) (tCons e tNil))
def tbNone (K : PySem.W.Frag) : WX → TS := fun W => tApp K (tIf (tTest (tOp rEq (tVar 1) (tC (.int 0)))) (tCallR (spFL K (-1)) (WE W) tNil) (tCallR (spFL K 1) (WE W) tNil))
def tsNone (K : PySem.W.Frag) : Addr → Value → Option Addr → TS := fun a cls d => tApp K (Xb.tByX (CP K) "value" a cls d (tVar 2))
/-- a list at f of i empty tuples -/
def Fd (f : Addr) (i : Nat) (H : Hp) : Prop := ∃ qs : List Addr, H f = some (.lst (qs.map V.ref)) ∧ qs.length = i ∧ ∀ q ∈ qs, q ≠ f ∧ H q = some (.tup [])
section
variable {P : Program} {w : World} {K : PySem.W.Frag} {mg : Str → Option Value} {base : Heap} {f f3 fs1 fs2 fs3 fP : Addr} {fd fd3 : FuncData} {qp tp : Str}
theorem none_err {file : Str} (XP : Xb.Txt file K qp "value" tp (CP K) fP) {Wo : WX} {D : Ends} {fo : Addr} {a1 : Option V} {H H1 : Hp} {q : Addr} {i : Nat} (s : Same H H1) (hf : Fd fo i H) (hq : H1 q = none) (hi : i < 2)
    (k : ∀ H', Same H1 H' ∨ True → (∀ c o, c ≠ fo → H1 c = some o → H' c = some o) → Fd fo (i + 1) H' → D.nx [some (.ref fo), a1, none] H') :
    Err (CP K) (.ref q) (upd H1 q (.tup [])) (WE (wAs K (.ref (CP K)) 2 (tsNone K) Wo D) [some (.ref fo), a1, none]) := by
  intro d hd
  obtain ⟨qs, h1, h2, h3⟩ := hf
  have sq := Same.upd (o := .tup []) hq
  have sd := sq.trans (Same.upd (o := .xd [("value", .ref q)]) hd)
  have hfo := sd _ _ (s _ _ h1)
  have qf : q ≠ fo := fun e => by
    rw [e, s _ _ h1] at hq
    cases hq
  refine ⟨true, XP.te, fun _ a _ => ⟨_, rfl, .inl ⟨rfl, _, SqL.of hfo⟩, _, rfl, rfl, rfl, d, .ref q, rfl, upd_same, fo, _, .ref q, rfl, rfl, hfo, ?_, ?_⟩, fun z => by cases z⟩
  · rw [List.length_map, h2]
    exact Nat.lt_trans hi (by decide)
  · refine k _ (.inr trivial) (fun c o hc z => by rw [upd_ne hc]; exact sd _ _ z) ⟨qs ++ [q], ?_, ?_, fun q' hq' => ?_⟩
    · rw [upd_same, List.map_append]
      rfl
    · rw [List.length_append, h2]
      rfl
    · rcases List.mem_append.mp hq' with m | m
      · obtain ⟨n1, n2⟩ := h3 q' m
        exact ⟨n1, by rw [upd_ne n1]; exact sd _ _ (s _ _ n2)⟩
      · rw [List.mem_singleton] at m
        subst m
        exact ⟨qf, by rw [upd_ne qf]; exact Same.upd hd _ _ upd_same⟩
theorem ok_none (F : FnP K "_law_none_right" sNone f fd) (T : AF K mg) (hS : Fg.SysD K) (mR : mg "repr" = none) (mG : mg "range" = none) (gP : mg "InvalidPart" = some (.ref (CP K))) (XP : Xb.Txt P.main.file K qp "value" tp (CP K) fP)
    (L3 : Fn P w K mg base "_law_is_pair" 3 ["_law_amount", "_law_pair_here"] (spLIs K) f3 fd3) (S1 : FnS P w K mg base "total" 8 (spTot K) fs1) (S2 : FnS P w K mg base "least" 9 (spFL K (-1)) fs2) (S3 : FnS P w K mg base "greatest" 9 (spFL K 1) fs3) :
    Fg.FnG P w K mg base (L2.CX P w) 10 f fd [] spNone := by
  refine Fg.okG F scNone (fun vs H Q E h => ?_) (fun cdv A outer s H vs Q E G hr h => ?_)
  · obtain ⟨rfl, _⟩ := h
    rfl
  · obtain ⟨rfl, q⟩ := h
    have hr8 := hr.mono (show 8 ≤ 9 by decide)
    have hr3 := hr.mono (show 3 ≤ 9 by decide)
    have hu : (A.deeper (envOfC "_law_none_right" (defScope sNone) s.heap.objs.size f cdv)).units + 64 < cLine := by
      have := hr.un
      omega
    refine ⟨_, pss_cons (ps_set (i := 0) scNone.nd rfl (Or.inl rfl) (pe_lst pa_nil))
      (pss_cons (ps_for (passes_of rfl) rfl (pi_range1 rfl mG (pa_cons pe_int pa_nil)) (pg_name (i := 1) scNone.nd rfl (Or.inl rfl))
        (pss_one (ps_try_as (i := 2) (tb := tbNone K) (ts := tsNone K) (Wout := fun cls d _ H => E cls d H) rfl rfl scNone.nd rfl rfl ⟨rfl, by decide, Or.inl gP⟩ (takes_of rfl rfl rfl rfl)
          (fun W pn xe tk _ => pss_one (ps_expr (pe_bm PySem.F.plainAttrs_list PySem.F.slot_list_append PySem.F.type_list_append mt_append (pv 0) (pa_cons (pe_ifExp (pt_cmpR op_eq (pv 1) pe_int (nomark _)) (pe_callR0 S2.ok hr rfl S2.g S2.k (fun σ => passAt tk σ)) (pe_callR0 S3.ok hr rfl S3.g S3.k (fun σ => passAt tk σ))) pa_nil))))
          (fun a oe cls d pn hz hf => pss_one (ps_expr (pe_bm PySem.F.plainAttrs_list PySem.F.slot_list_append PySem.F.type_list_append mt_append (pv 0) (pa_cons (Xb.pe_byX XP hz hf (pv 2)) pa_nil)))))))
      (pss_one (ps_ret (pe_and (pe_cmpR op_eq (pe_callB (Fg.call_reprD hS G hu) rfl mR boot_repr (pa_cons (pv 0) pa_nil)) (pe_callB (Fg.call_reprD hS G hu) rfl mR boot_repr (pa_cons (pe_lst (pa_cons (pe_tup pa_nil) (pa_cons (pe_tup pa_nil) pa_nil))) pa_nil)) (nomark _))
        (pe_one (pe_call L3.ok hr3 rfl L3.g L3.k L3.b .nil passL (pa_cons (pe_callR0 S1.ok hr8 rfl S1.g S1.k passS) (pa_cons (pe_tup (pa_cons pe_int (pa_cons pe_int pa_nil))) pa_nil)))))))), ?_⟩
    refine ⟨by decide, fun f0 hf0 => ?_⟩
    have s0 := Same.upd (o := .lst []) hf0
    refine ⟨2, rfl, by decide, by decide, ?_⟩
    refine for_range (lo := 0) (n := 2) (tb := fun D σ H => tbNone K (wAs K (.ref (CP K)) 2 (tsNone K) (fun cls d _ H => E cls d H) D) D σ H) (fun i σ H' => ∃ v1 : Option V, σ = [some (.ref f0), v1, none] ∧ Same H H' ∧ Fd f0 i H') ⟨none, rfl, s0, [], upd_same, rfl, by simp⟩ ?_ ?_
    · rintro i σ H1 hi ⟨v1, rfl, s1, fdd⟩
      have hfo : ∃ xs, H1 f0 = some (.lst xs) := ⟨_, fdd.choose_spec.1⟩
      obtain ⟨xs, hfo⟩ := hfo
      have go : ∀ (D : Ends) (a1 : Option V) (H2 : Hp) (q : Addr), (∀ H', Same H H' → Fd f0 (i + 1) H' → D.nx [some (.ref f0), a1, none] H') → Same H1 H2 → H2 q = none →
          Err (CP K) (.ref q) (upd H2 q (.tup [])) (WE (wAs K (.ref (CP K)) 2 (tsNone K) (fun cls d _ H => E cls d H) D) [some (.ref f0), a1, none]) := fun D a1 H2 q k s2 hq =>
        none_err XP s2 fdd hq hi fun H' _ keep fd2 => k H' (fun c o z => keep c o (ne_of_none z hf0) (s2 _ _ (s1 _ _ z))) fd2
      refine ⟨_, rfl, .inl ⟨rfl, _, SqL.of hfo⟩, _, rfl, rfl, _, rfl, ?_⟩
      have hi2 : i = 0 ∨ i = 1 := by omega
      rcases hi2 with rfl | rfl
      · exact if_true_of (decide_eq_true rfl) ⟨by decide, .inl ⟨rfl, fun H2 q s2 hq => go _ _ H2 q (fun H' a b => ⟨_, rfl, a, b⟩) s2 hq⟩⟩
      · exact if_false_of (decide_eq_false (by decide)) ⟨by decide, .inl ⟨rfl, fun H2 q s2 hq => go _ _ H2 q (fun H' a b => ⟨_, rfl, a, b⟩) s2 hq⟩⟩
    rintro σ H1 ⟨v1, rfl, s1, fdd⟩
    obtain ⟨qs, g1, g2, g3⟩ := fdd
    match qs, g2, g1, g3 with
    | [q1, q2], _, g1, g3 =>
      have t1 := (g3 q1 (by simp)).2
      have t2 := (g3 q2 (by simp)).2
      have z1 : (PyData.list [.tuple [], .tuple []]).showable = true := by decide +kernel
      have z2 : (PyData.list [.tuple [], .tuple []]).depth ≤ 20 := by decide +kernel
      have z3 : (PyData.list [.tuple [], .tuple []]).shown.length ≤ sizeLine := by decide +kernel
      refine ⟨_, rfl, f0, .list [.tuple [], .tuple []], rfl, .lst g1 (.cons (.tup t1 .nil) (.cons (.tup t2 .nil) .nil)), z1, z2, z3, by decide, fun a1 k1 => ⟨by decide, fun a2 k2 => ⟨by show 2 ≤ sizeLine; decide, fun a3 k3 => ?_⟩⟩⟩
      have e3 := Same.upd (o := .lst [.ref a1, .ref a2]) k3
      have e2 := (Same.upd (o := .tup []) k2).trans e3
      have e1 := (Same.upd (o := .tup []) k1).trans e2
      have m1 := e2 a1 _ upd_same
      have m2 := e3 a2 _ upd_same
      refine ⟨a3, .list [.tuple [], .tuple []], rfl, .lst upd_same (.cons (.tup m1 .nil) (.cons (.tup m2 .nil) .nil)), z1, z2, z3, rfl, _, rfl, if_true_of (decide_eq_true rfl) ?_⟩
      refine ⟨[], [], rfl, by decide, by simp, by decide, .inl ⟨rfl, fun z H3 t u s3 iz ez => ⟨by decide, fun b1 n1 => ?_⟩⟩⟩
      have sb := Same.upd (o := .tup [.int 0, .int 1]) n1
      exact ⟨z, _, t, u, 1, 0, 1, rfl, iz.same sb, by decide, ⟨b1, rfl, upd_same⟩, by decide, by decide, ez, q _ (s1.trans (e1.trans (s3.trans sb)))⟩
end
end K02

set_option Elab.async false
set_option linter.all false
set_option maxRecDepth 100000
set_option maxHeartbeats 4000000
set_option exponentiation.threshold 100000
namespace K02
open PySem PySem.Spec PyProof.Rows L2 Fa Fb
abbrev sLaw : Stmt := top 31
theorem scLaw : FnScope ["_law_script", "_law_k", "_law_box_here", "_law_pairs", "_law_amounts", "_law_one", "_law_left", "_law_other", "_law_right", "_law_whole", "_law_lap", "_law_pair_here"] ["_law_script"] (defScope sLaw) := ⟨rfl, rfl, rfl, by decide +kernel, rfl, by decide +kernel, by decide +kernel⟩
theorem boot_abs : bootBuiltins "abs" = some (.builtin "abs") := by decide +kernel
structure Fn0 (P : Program) (w : World) (K : PySem.W.Frag) (mg : Str → Option Value) (base : Heap) (x : Str) (lev : Nat) (ps : List Str) (sp : Sp) (f : Addr) (fd : FuncData) : Prop where
  ok : FnOk P w K mg base CX0 lev f fd ps sp
  g : mg x = some (.ref f)
  k : PySem.W.keepIn K (.ref f) = true
  b : Binds K fd ps []
structure FnS2 (P : Program) (w : World) (K : PySem.W.Frag) (mg : Str → Option Value) (base : Heap) (x : Str) (lev : Nat) (ps : List Str) (sp : Sp) (f : Addr) (fd : FuncData) : Prop where
  ok : Fg.FnG P w K mg base (L2.CX P w) lev f fd ps sp
  g : mg x = some (.ref f)
  k : PySem.W.keepIn K (.ref f) = true
  b : Binds K fd ps []
structure UnK (P : Program) (w : World) (K : PySem.W.Frag) (mg : Str → Option Value) (base : Heap) (m : Str) (lev : Nat) (sp : Sp) (f : Addr) (fd : FuncData) : Prop where
  at_ : PySem.W.findIn K (.ref (CA K)) m = some (some (.ref f))
  fn : PySem.W.isFn K (.ref f) = true
  ok : FnOk P w K mg base (L2.CX P w) lev f fd ["self"] sp
  b : Binds K fd ["self"] []
/-- all but the lists stand still -/
def KT (H H' : Hp) : Prop := ∀ q o, H q = some o → (∀ l, o ≠ .lst l) → H' q = some o
theorem KT.of {H H' : Hp} (s : Same H H') : KT H H' := fun q o h _ => s q o h
theorem KT.kp {H H' : Hp} {p : Addr} {n : Nat} (b : Box H p n) (k : Kp p H H') : KT H H' := fun q o h nl => by
  refine k q o (fun e => ?_) h
  obtain ⟨_, _, _, z, _⟩ := b
  rw [e, z] at h
  exact nl _ (Option.some.inj h).symm
theorem KT.put {H : Hp} {D : Addr} {xs : List V} {o : HO} (h : H D = some (.lst xs)) : KT H (upd H D o) := fun q o' z nl => by
  rw [upd_ne fun e => by
    rw [e, h] at z
    exact nl _ (Option.some.inj z).symm]
  exact z
theorem KT.trans {H H1 H2 : Hp} (a : KT H H1) (b : KT H1 H2) : KT H H2 := fun q o h nl => b q o (a q o h nl) nl
theorem Pr.kt {H H' : Hp} {v : V} {n d : Int} (h : Pr H v n d) (k : KT H H') : Pr H' v n d := by
  obtain ⟨a, e, h⟩ := h
  exact ⟨a, e, k _ _ h fun l z => by cases z⟩
theorem IsA.kt {K : PySem.W.Frag} {H H' : Hp} {x : V} {t u : Int} {n : Nat} (h : IsA K H x t u n) (k : KT H H') : IsA K H' x t u n := by
  obtain ⟨p, dx, e, h1, h2⟩ := h
  exact ⟨p, dx, e, k _ _ h1 (fun l z => by cases z), h2⟩
theorem PairOk.kt {K : PySem.W.Frag} {H H' : Hp} {x : Gp} (h : PairOk K H x) (k : KT H H') : PairOk K H' x := ⟨h.is.kt k, h.n, h.pr.kt k, h.b0, h.ab, h.bb, h.e⟩
theorem _root_.Fa.Box.put {H : Hp} {p D : Addr} {n : Nat} {o : HO} (b : Box H p n) (ne : D ≠ p) : Box (upd H D o) p n := by
  obtain ⟨x, y, z, h, r⟩ := b
  exact ⟨x, y, z, by rw [upd_ne ne.symm]; exact h, r⟩
theorem same_kp {H H1 H2 : Hp} {p : Addr} (s : Same H H1) (h : H p = none) (k : Kp p H1 H2) : Same H H2 := fun c o z => k c o (ne_of_none z h) (s c o z)
theorem none_of {H H1 : Hp} {p : Addr} (s : Same H H1) (h : H1 p = none) : H p = none := by
  cases e : H p with
  | none => rfl
  | some o =>
    rw [s _ _ e] at h
    cases h
structure Pp where
  v : V
  a : Int
  b : Int
structure PpOk (H : Hp) (x : Pp) : Prop where
  pr : Pr H x.v x.a x.b
  b0 : x.b ≠ 0
  ab : x.a.natAbs < 2 ^ 110
  bb : x.b.natAbs < 2 ^ 50
theorem PpOk.kt {H H' : Hp} {x : Pp} (h : PpOk H x) (k : KT H H') : PpOk H' x := ⟨h.pr.kt k, h.b0, h.ab, h.bb⟩
def Gp.pp (y : Gp) : Pp := ⟨y.pv, y.a, y.b⟩
/-- what a turn of the law holds: the box at p, the pairs at D, the amounts at D2 -/
structure LI (K : PySem.W.Frag) (H : Hp) (p D D2 : Addr) (gs : List Gp) (m : Nat) (H' : Hp) : Prop where
  s : Same H H'
  b : Box H' p m
  l1 : H' D = some (.lst (gs.map Gp.pv))
  l2 : H' D2 = some (.lst (gs.map fun y => y.g.v))
  ok : ∀ y ∈ gs, PairOk K H' y
  n1 : D ≠ p
  n2 : D2 ≠ p
  hp : H p = none
theorem LI.same {K : PySem.W.Frag} {H H' H2 : Hp} {p D D2 : Addr} {gs : List Gp} {m : Nat} (h : LI K H p D D2 gs m H') (s : Same H' H2) : LI K H p D D2 gs m H2 :=
  ⟨h.s.trans s, h.b.same s, s _ _ h.l1, s _ _ h.l2, fun y hy => (h.ok y hy).same s, h.n1, h.n2, h.hp⟩
theorem LI.kp {K : PySem.W.Frag} {H H' H2 : Hp} {p D D2 : Addr} {gs : List Gp} {m m' : Nat} (h : LI K H p D D2 gs m H') (b : Box H2 p m') (k : Kp p H' H2) : LI K H p D D2 gs m' H2 :=
  ⟨same_kp h.s h.hp k, b, k _ _ h.n1 h.l1, k _ _ h.n2 h.l2, fun y hy => (h.ok y hy).kt (KT.kp h.b k), h.n1, h.n2, h.hp⟩
theorem LI.mono {K : PySem.W.Frag} {H H' : Hp} {p D D2 : Addr} {gs : List Gp} {m m' : Nat} (h : LI K H p D D2 gs m H') (e : m ≤ m') : LI K H p D D2 gs m' H' :=
  ⟨h.s, h.b.mono e, h.l1, h.l2, h.ok, h.n1, h.n2, h.hp⟩
theorem alg_neg {t u a b t' u' : Int} (hu : u ≠ 0) (e1 : t * b = a * u) (e : t' * u = -t * u') : t' * b = (0 - a) * u' := by
  have z : (t' * b) * u = ((0 - a) * u') * u := by grind
  exact Int.eq_of_mul_eq_mul_right hu z
theorem absI (x : Int) : (if x < 0 then -x else x) = (x.natAbs : Int) := by split <;> omega
theorem alg_abs {t u a b t' u' : Int} (hu : 0 < u) (e1 : t * b = a * u) (e : t' * u = (if t < 0 then -t else t) * u') : t' * (if b < 0 then -b else b) = (if a < 0 then -a else a) * u' := by
  rw [absI] at e
  rw [absI, absI]
  have e2 : ((t.natAbs : Int)) * (b.natAbs : Int) = (a.natAbs : Int) * u := by
    have h : t.natAbs * b.natAbs = a.natAbs * u.natAbs := by rw [← Int.natAbs_mul, ← Int.natAbs_mul, e1]
    have h2 : ((t.natAbs * b.natAbs : Nat) : Int) = ((a.natAbs * u.natAbs : Nat) : Int) := by rw [h]
    rw [Int.natCast_mul, Int.natCast_mul] at h2
    rw [h2]
    congr 1
    omega
  have z : (t' * (b.natAbs : Int)) * u = ((a.natAbs : Int) * u') * u := by grind
  exact Int.eq_of_mul_eq_mul_right (by omega) z
theorem eq_scmp {K : PySem.W.Frag} {H : Hp} {x y : Gp} (h1 : PairOk K H x) (h2 : PairOk K H y) : (!decide (V.bl (decide (x.g.t = y.g.t) && decide (x.g.u = y.g.u)) = V.bl (decide (V.int (scmp x.g y.g) = V.int 0)))) = false := by
  obtain ⟨_, _, _, _, r1, _⟩ := h1.is
  obtain ⟨_, _, _, _, r2, _⟩ := h2.is
  have e : (decide (x.g.t = y.g.t) && decide (x.g.u = y.g.u)) = decide (V.int (scmp x.g y.g) = V.int 0) := by
    by_cases c : scmp x.g y.g = 0
    · obtain ⟨a, b⟩ := Am.uniq r1 r2 (scmp_zero c)
      rw [decide_eq_true a, decide_eq_true b, decide_eq_true (congrArg V.int c)]
      rfl
    · rw [decide_eq_false fun z => c (V.int.inj z)]
      by_cases a : x.g.t = y.g.t
      · by_cases b : x.g.u = y.g.u
        · exfalso
          apply c
          unfold scmp
          rw [a, b, if_pos (by omega)]
        · rw [decide_eq_false b, Bool.and_false]
      · rw [decide_eq_false a, Bool.false_and]
  rw [e, decide_eq_true rfl]
  rfl
def spLaw (K : PySem.W.Frag) : Sp := fun vs H Q _ => ∃ (a : Addr) (ns : List Int), vs = [.ref a] ∧ SqL K H a (ns.map V.int) ∧ ns.length ≤ 63 ∧ ∀ H', Q (.bl true) H'
section
variable {P : Program} {w : World} {K : PySem.W.Frag} {mg : Str → Option Value} {base : Heap} {f fc fb ft fi fp f3 f4 f10 fn1 fn2 fe fr fy fn : Addr} {fd fdc fdb fdt fdi fdp fd3 fd4 fd10 fdn1 fdn2 fde fdr fdy fdn fdI : FuncData}
theorem ok_law (F : FnP K "law" sLaw f fd) (T : AF K mg) (mL : mg "len" = none) (mG : mg "range" = none) (mMax : mg "max" = none) (mMin : mg "min" = none) (mZ : mg "zip" = none) (mA : mg "abs" = none)
    (BC : Fn0 P w K mg base "_law_cell" 1 ["_law_script", "_law_k"] (spCel K) fc fdc) (BB : Fn0 P w K mg base "_law_box" 1 ["_law_cell_here"] spBox fb fdb) (BT : Fn0 P w K mg base "_law_take" 1 ["_law_box_here", "_law_many"] spTake ft fdt)
    (BI : Fn0 P w K mg base "_law_integer" 2 ["_law_box_here"] spLInt fi fdi) (BP : Fn0 P w K mg base "_law_pair" 3 ["_law_box_here"] spLPair fp fdp)
    (L3 : Fn P w K mg base "_law_is_pair" 3 ["_law_amount", "_law_pair_here"] (spLIs K) f3 fd3) (L4 : Fn P w K mg base "_law_sign" 1 ["_law_one", "_law_other"] spLSign f4 fd4)
    (L10 : Fn P w K mg base "_law_two_right" 10 ["_law_one", "_law_other", "_law_left", "_law_right"] (spTwo K) f10 fd10) (LY : Fn P w K mg base "_law_many_right" 11 ["_law_amounts", "_law_pairs"] (spMany K) fy fdy)
    (LR : FnS2 P w K mg base "_law_refused" 11 ["_law_one"] (spRef K) fr fdr) (LN : FnS2 P w K mg base "_law_none_right" 10 [] spNone fn fdn)
    (N1 : UnK P w K mg base "__neg__" 6 (spUn K fun t => -t) fn1 fdn1) (N2 : UnK P w K mg base "__abs__" 6 (spUn K fun t => if t < 0 then -t else t) fn2 fdn2) (Q1 : EqK P w K mg base fe fde) (tyE : ∀ T ∈ tys, PySem.W.subIn K (.type T) (.ref (CA K)) = some false)
    (GI : FnOk P w K mg base (L2.CX P w) 4 (aI K) fdI ["self", "top", "bottom"] (spInit K)) {ds : List Value} (hds : Vals [.int 1] ds) (bI : Binds K fdI ["self", "top", "bottom"] ds) (bI2 : Binds K fdI ["self", "top", "bottom"] []) :
    Fg.FnG P w K mg base (L2.CX P w) 12 f fd ["_law_script"] (spLaw K) := by
  refine Fg.okG F scLaw (fun vs H Q E h => ?_) (fun cdv A outer s H vs Q E G hr h => ?_)
  · obtain ⟨a, ns, rfl, _⟩ := h
    rfl
  · obtain ⟨a, ns, rfl, ha, hn, q⟩ := h
    have hr10 := hr.mono (show 10 ≤ 11 by decide)
    have hr8 := hr.mono (show 8 ≤ 11 by decide)
    have hr6 := hr.mono (show 6 ≤ 11 by decide)
    have hr5 := hr.mono (show 5 ≤ 11 by decide)
    have hr3 := hr.mono (show 3 ≤ 11 by decide)
    have hr2 := hr.mono (show 2 ≤ 11 by decide)
    have hr1 := hr.mono (show 1 ≤ 11 by decide)
    have hu : (A.deeper (envOfC "law" (defScope sLaw) s.heap.objs.size f cdv)).units + 64 < cLine := by
      have := hr.un
      omega
    refine ⟨_, (pss_cons (ps_for (passes_of rfl) rfl (pi_range1 rfl mG (pa_cons (pe_callB (call_max2 rfl) rfl mMax (by decide +kernel) (pa_cons pe_int (pa_cons (pe_callB (call_min2 rfl) rfl mMin (by decide +kernel) (pa_cons pe_int (pa_cons (pe_callB call_len rfl mL boot_len (pa_cons (pv 0) pa_nil)) pa_nil))) pa_nil))) pa_nil)) (pg_name (i := 1) scLaw.nd rfl (Or.inl rfl)) (pss_cons (ps_set (i := 2) scLaw.nd rfl (Or.inr rfl) (pe_call BB.ok hr1 rfl BB.g BB.k BB.b .nil pass0 (pa_cons (pe_call BC.ok hr1 rfl BC.g BC.k BC.b .nil pass0 (pa_cons (pv 0) (pa_cons (pv 1) pa_nil))) pa_nil)))
          (pss_cons (ps_setLc (i := 3) (own := [("_law_lap", 10)]) (g := gName 10)  (by rfl) scLaw.nd rfl rfl (sw_true rfl rfl rfl (by decide +kernel)) (pi_range1 rfl mG (pa_cons (pe_op op_add pe_int (pe_call BT.ok hr1 rfl BT.g BT.k BT.b .nil pass0 (pa_cons (pv 2) (pa_cons pe_int pa_nil)))) pa_nil)) (blkOk_by (own := [("_law_lap", 10)]) (N := ["_law_script", "_law_k", "_law_box_here", "_law_pairs", "_law_amounts", "_law_one", "_law_left", "_law_other", "_law_right", "_law_whole", "_law_lap", "_law_pair_here"]) (sc := defScope sLaw) (by decide +kernel)) (fun _ _ _ _ _ => (pg_name (i := 10) scLaw.nd rfl (Or.inl rfl))) (fun _ _ _ _ _ => pts_nil) (fun _ _ _ _ _ => (pe_call BP.ok hr3 rfl BP.g BP.k BP.b .nil pass0 (pa_cons (pv 2) pa_nil))))
          (pss_cons (ps_setLc (i := 4) (own := [("_law_pair_here", 11)]) (g := gName 11) (te := tMake (CA K) (spInit K) [] E0 (tCons (tOp (rIxT K) (tVar 11) (tC (.int 0))) (tCons (tOp (rIxT K) (tVar 11) (tC (.int 1))) tNil))) (by rfl) scLaw.nd rfl rfl (sw_true rfl rfl rfl (by decide +kernel)) (pi_list (pv 3)) (blkOk_by (own := [("_law_pair_here", 11)]) (N := ["_law_script", "_law_k", "_law_box_here", "_law_pairs", "_law_amounts", "_law_one", "_law_left", "_law_other", "_law_right", "_law_whole", "_law_lap", "_law_pair_here"]) (sc := defScope sLaw) (by decide +kernel)) (fun _ _ _ _ _ => (pg_name (i := 11) scLaw.nd rfl (Or.inl rfl))) (fun _ _ _ _ _ => pts_nil) (fun _ _ _ _ _ => (pe_make T.mkA GI hr5 rfl T.g bI2 .nil passL (pa_cons (pe_ix ix_tup (pv 11) pe_int (fun _ _ => rfl)) (pa_cons (pe_ix ix_tup (pv 11) pe_int (fun _ _ => rfl)) pa_nil)))))
          (pss_cons (ps_if (pt_cmpR (op_neD hu) (pe_lc (own := [("_law_one", 5), ("_law_pair_here", 11)]) (g := gTup K 2 (gCons (gName 5) (gCons (gName 11) gNil))) (by rfl) scLaw.nd (pi_zip (by rfl) mZ (pa_cons (pv 4) (pa_cons (pv 3) pa_nil))) (blkOk_by (own := [("_law_one", 5), ("_law_pair_here", 11)]) (N := ["_law_script", "_law_k", "_law_box_here", "_law_pairs", "_law_amounts", "_law_one", "_law_left", "_law_other", "_law_right", "_law_whole", "_law_lap", "_law_pair_here"]) (sc := defScope sLaw) (by decide +kernel)) (fun _ _ _ _ _ => pg_tup (by rfl) (pgs_cons (pg_name (i := 5) scLaw.nd rfl (Or.inl rfl)) (pgs_cons (pg_name (i := 11) scLaw.nd rfl (Or.inl rfl)) pgs_nil))) (fun _ _ _ _ _ => pts_one (pt_not (pt_val (pe_call L3.ok hr3 rfl L3.g L3.k L3.b .nil passL (pa_cons (pv 5) (pa_cons (pv 11) pa_nil)))))) (fun _ _ _ _ _ => pe_int)) (pe_lst pa_nil) (nomark _)) (pss_one (ps_ret pe_bl)) pss_nil)
          (pss_cons (ps_for (passes_of rfl) rfl (pi_zip (by rfl) mZ (pa_cons (pv 4) (pa_cons (pv 3) pa_nil))) (pg_tup (by rfl) (pgs_cons (pg_name (i := 5) scLaw.nd rfl (Or.inl rfl)) (pgs_cons (pg_name (i := 6) scLaw.nd rfl (Or.inl rfl)) pgs_nil))) (pss_cons (ps_if (pt_not (pt_val (pe_call L3.ok hr3 rfl L3.g L3.k L3.b .nil passL (pa_cons (pe_negX N1.at_ N1.fn N1.ok hr6 N1.b passS (pv 5)) (pa_cons (pe_tup (pa_cons (pe_op op_sub pe_int (pe_ix ix_tup (pv 6) pe_int (fun _ _ => rfl))) (pa_cons (pe_ix ix_tup (pv 6) pe_int (fun _ _ => rfl)) pa_nil))) pa_nil))))) (pss_one (ps_ret pe_bl)) pss_nil)
          (pss_cons (ps_if (pt_not (pt_val (pe_call L3.ok hr3 rfl L3.g L3.k L3.b .nil passL (pa_cons (pe_absX N2.at_ N2.fn N2.ok hr8 N2.b passS rfl mA (pv 5)) (pa_cons (pe_tup (pa_cons (pe_callB (id := "abs") call_abs rfl mA boot_abs (pa_cons (pe_ix ix_tup (pv 6) pe_int (fun _ _ => rfl)) pa_nil)) (pa_cons (pe_callB (id := "abs") call_abs rfl mA boot_abs (pa_cons (pe_ix ix_tup (pv 6) pe_int (fun _ _ => rfl)) pa_nil)) pa_nil))) pa_nil))))) (pss_one (ps_ret pe_bl)) pss_nil)
          (pss_cons (ps_for (passes_of rfl) rfl (pi_zip (by rfl) mZ (pa_cons (pv 4) (pa_cons (pv 3) pa_nil))) (pg_tup (by rfl) (pgs_cons (pg_name (i := 7) scLaw.nd rfl (Or.inl rfl)) (pgs_cons (pg_name (i := 8) scLaw.nd rfl (Or.inl rfl)) pgs_nil))) (pss_one (ps_if (PW.pt (pw_or (pt_not (pt_val (pe_call L10.ok hr10 rfl L10.g L10.k L10.b .nil passL (pa_cons (pv 5) (pa_cons (pv 7) (pa_cons (pv 6) (pa_cons (pv 8) pa_nil))))))) (pw_or1 (pt_cmpR op_ne (pe_cmp (pe_eqX Q1.at_ Q1.fn Q1.ok hr1 Q1.b passS (pv 5) (pv 7))) (by exact (pe_cmpR op_eq (pe_call L4.ok hr1 rfl L4.g L4.k L4.b .nil passL (pa_cons (pv 6) (pa_cons (pv 8) pa_nil))) pe_int (nomark _))) (nomark _))))) (pss_one (ps_ret pe_bl)) pss_nil)))
          (pss_cons (ps_set (i := 9) scLaw.nd rfl (Or.inl rfl) (pe_call BI.ok hr2 rfl BI.g BI.k BI.b .nil pass0 (pa_cons (pv 2) pa_nil)))
          (pss_cons (ps_if (PW.pt (pw_or (pt_not (pt_val (pe_call L10.ok hr10 rfl L10.g L10.k L10.b .nil passL (pa_cons (pv 5) (pa_cons (pv 9) (pa_cons (pv 6) (pa_cons (pe_tup (pa_cons (pv 9) (pa_cons pe_int pa_nil))) pa_nil))))))) (pw_or1 (pt_not (pt_val (pe_call L3.ok hr3 rfl L3.g L3.k L3.b .nil passL (pa_cons (pe_make T.mkA GI hr5 rfl T.g bI hds passL (pa_cons (pv 9) pa_nil)) (pa_cons (pe_tup (pa_cons (pv 9) (pa_cons pe_int pa_nil))) pa_nil)))))))) (pss_one (ps_ret pe_bl)) pss_nil)
          (pss_one (ps_if (PW.pt (pw_or (pt_cmp (pe_eqX Q1.at_ Q1.fn Q1.ok hr1 Q1.b passS (pv 5) (pe_ix ix_tup (pv 6) pe_int (fun _ _ => rfl)))) (pw_or (pt_not (pt_val (Fg.pe_callG G LR.ok hr rfl LR.g LR.k LR.b passS (pa_cons (pv 5) pa_nil)))) (pw_or1 (pt_not (pt_val (pe_call L3.ok hr3 rfl L3.g L3.k L3.b .nil passL (pa_cons (pv 5) (pa_cons (pv 6) pa_nil))))))))) (pss_one (ps_ret pe_bl)) pss_nil))))))))
          (pss_one (ps_if (pt_not (pt_val (pe_call LY.ok hr rfl LY.g LY.k LY.b .nil passL (pa_cons (pv 4) (pa_cons (pv 3) pa_nil))))) (pss_one (ps_ret pe_bl)) pss_nil))))))))
      (pss_one (ps_ret (Fg.pe_callG0 G LN.ok hr10 rfl LN.g LN.k LN.b passS)))), ?_⟩
    have i0 : ∀ x y : Int, atI [V.int x, V.int y] 0 = some (.int x) := fun _ _ => rfl
    have i1 : ∀ x y : Int, atI [V.int x, V.int y] 1 = some (.int y) := fun _ _ => rfl
    have r2 : (2 : Nat) ≤ sizeLine := by decide
    refine ⟨_, rfl, _, (ns.map V.int).length, rfl, .inl ⟨_, ha, rfl⟩, _, _, rfl, _, _, rfl, _, rfl, ?_, ?_, ?_⟩
    · split <;> (try split) <;> omega
    · split <;> (try split) <;> omega
    have hN : Int.toNat (if (if ((ns.map V.int).length : Int) < 6 then ((ns.map V.int).length : Int) else 6) > 2 then (if ((ns.map V.int).length : Int) < 6 then ((ns.map V.int).length : Int) else 6) else 2) ≤ 6 := by
      split <;> (try split) <;> omega
    revert hN
    generalize Int.toNat (if (if ((ns.map V.int).length : Int) < 6 then ((ns.map V.int).length : Int) else 6) > 2 then (if ((ns.map V.int).length : Int) < 6 then ((ns.map V.int).length : Int) else 6) else 2) = N
    intro hN
    refine for_range (lo := 0) (n := N) (fun i σ H' => Same H H' ∧ ∃ vk vb vp vm v5 v6 v7 v8 v9 : Option V, σ = [some (.ref a), vk, vb, vp, vm, v5, v6, v7, v8, v9, none, none]) ⟨Same.refl _, _, _, _, _, _, _, _, _, _, rfl⟩ ?_ ?_
    · rintro j σ H1 hj ⟨s1, vk, vb, vp, vm, v5, v6, v7, v8, v9, rfl⟩
      rw [Int.zero_add]
      refine ⟨_, rfl, _, rfl, a, ns, j, rfl, ha.ext s1, by omega, fun c => ⟨c, rfl, fun p H2 hp1 hk2 hb2 => ?_⟩⟩
      have hp : H p = none := none_of s1 hp1
      have s2 : Same H1 H2 := fun c o z => by rw [hk2 c (ne_of_none z hp1)]; exact z
      -- the pairs
      refine ⟨_, rfl, p, 4, 0, rfl, hb2, by decide, by decide, by decide, fun z H3 z0 z4 b3 k3 => ⟨_, _, rfl, rfl, _, rfl, by omega, by omega, fun D hD => ?_⟩⟩
      have s3 := same_kp s2 hp1 (Kp.but k3)
      have nD : D ≠ p := (b3.ne hD).symm
      have hD1 := none_of s3 hD
      refine lc_range (lo := 0) (n := (1 + z).toNat) (fun i H' => Box H' p (1 + 11 * i) ∧ Same H1 H' ∧ ∃ ps : List Pp, ps.length = i ∧ H' D = some (.lst (ps.map Pp.v)) ∧ ∀ x ∈ ps, PpOk H' x) ⟨b3.put nD, same_put s3 hD1, [], rfl, upd_same, by simp⟩ ?_ ?_
      · rintro i H4 hi ⟨b4, s4, ps, hl, hD4, hps⟩
        refine ⟨rfl, _, rfl, p, 1 + 11 * i, rfl, b4, by omega, fun aa x d H5 h0 ne h5 x0 xb d0 db b5 k5 => ?_⟩
        have hD5 := k5 _ _ nD hD4
        refine ⟨_, hD5, ?_, b5.put nD, same_put (same_kp s4 hp1 k5) hD1, ps ++ [⟨.ref aa, x, d⟩], ?_, ?_, fun y hy => ?_⟩
        · rw [List.length_map, hl]
          exact Nat.lt_trans (show i < 100 by omega) (by decide)
        · rw [List.length_append, hl]
          rfl
        · rw [upd_same, List.map_append]
          rfl
        · rcases List.mem_append.mp hy with m | m
          · exact (hps y m).kt ((KT.kp b4 k5).trans (KT.put hD5))
          · rw [List.mem_singleton] at m
            subst m
            exact ⟨⟨aa, rfl, KT.put hD5 _ _ h5 fun l z => by cases z⟩, d0, pow_step xb (by omega), db⟩
      rintro H4 ⟨b4, s4, ps, hl, hD4, hps⟩
      -- the amounts
      refine ⟨_, rfl, D, rfl, ⟨_, SqL.of hD4⟩, fun D2 hD2 => ?_⟩
      have nD2 : D2 ≠ p := (b4.ne hD2).symm
      refine lc_list (K := K) (a := D) (xs := ps.map Pp.v) (fun i H' => Same H4 H' ∧ ∃ gs : List Gp, gs.map Gp.pp = ps.take i ∧ H' D2 = some (.lst (gs.map fun y => y.g.v)) ∧ ∀ y ∈ gs, PairOk K H' y) ⟨Same.upd hD2, [], rfl, upd_same, by simp⟩ (fun i H' _ ⟨s5, _⟩ => SqL.of (s5 _ _ hD4)) ?_ ?_
      · rintro i x H5 hx ⟨s5, gs, gm, hD5, hgs⟩
        obtain ⟨y, hy, rfl⟩ := map_at hx
        obtain ⟨⟨qa, ev, hq⟩, d0, ab, bb⟩ := (hps y (List.mem_of_getElem? hy)).kt (KT.of s5)
        rw [ev]
        refine ⟨rfl, _, rfl, qa, _, _, _, rfl, rfl, SqT.of hq, i0 _ _, _, rfl, qa, _, _, _, rfl, rfl, SqT.of hq, i1 _ _, fun w dw hw hdw hne => spInit_imp (make_fact T (n := 110) d0 (by decide) ab (pow_step bb (by omega)) hw hdw hne) fun v0 H6 ⟨hv, t, u, sm, iy, e⟩ => ⟨hv, ?_⟩⟩
        have hD6 := sm _ _ hD5
        refine ⟨_, hD6, ?_, same_put (s5.trans sm) hD2, gs ++ [⟨⟨.ref w, t, u, 110⟩, y.v, y.a, y.b⟩], ?_, ?_, fun y' hy' => ?_⟩
        · have l1 : gs.length = (ps.take i).length := by rw [← gm, List.length_map]
          rw [List.length_map, l1, List.length_take]
          exact Nat.lt_of_le_of_lt (Nat.min_le_right _ _) (Nat.lt_trans (show ps.length < 100 by omega) (by decide))
        · rw [List.map_append, gm, take_at hy]
          rfl
        · rw [upd_same, List.map_append]
          rfl
        · rcases List.mem_append.mp hy' with m | m
          · exact (hgs y' m).kt ((KT.of sm).trans (KT.put hD6))
          · rw [List.mem_singleton] at m
            subst m
            exact ⟨iy.kt (KT.put hD6), rfl, ⟨qa, ev, (KT.put hD6) _ _ (sm _ _ hq) fun l z => by cases z⟩, d0, ab, bb, e⟩
      rintro H5 ⟨s5, gs, gm, hD5, hgs⟩
      rw [List.length_map, List.take_length] at gm
      have gl : gs.length = (1 + z).toNat := by
        rw [← hl, ← gm, List.length_map]
      have gv : ps.map Pp.v = gs.map Gp.pv := by
        rw [← gm, List.map_map]
        rfl
      have li0 : LI K H p D D2 gs 45 H5 := ⟨s1.trans (s4.trans s5), (b4.same s5).mono (by omega), by rw [← gv]; exact s5 _ _ hD4, hD5, hgs, nD, nD2, hp⟩
      clear hD4 hD5 hgs b4 s4 s5 gv gm hps hD2 hD hD1 s3 k3 b3 s2 hk2 hb2 hp1
      -- each amount is its pair
      refine ⟨_, rfl, _, rfl, D2, D, _, _, rfl, SqL.of li0.l2, SqL.of li0.l1, fun D3 hD3 => ?_⟩
      refine lc_zip2 (K := K) (a := D2) (b := D) (xs := gs.map fun y => y.g.v) (ys := gs.map Gp.pv) (by simp) (fun i H' => Same _ H') (Same.refl _) (fun i H' sH => ⟨SqL.of (sH _ _ (Same.upd hD3 _ _ li0.l2)), SqL.of (sH _ _ (Same.upd hD3 _ _ li0.l1))⟩) ?_ ?_
      · intro i xx yy T1 H6 ex ey sH hT
        obtain ⟨g, hg, rfl⟩ := map_at ex
        obtain ⟨g', hg', rfl⟩ := map_at ey
        cases hg.symm.trans hg'
        have lA := (li0.same (Same.upd hD3)).same (sH.trans (Same.upd (o := .tup [g.g.v, g.pv]) hT))
        have o := lA.ok g (List.mem_of_getElem? hg)
        exact ⟨T1, _, rfl, SqT.of upd_same, rfl, _, _, rfl, _, _, rfl, rfl, rfl, _, rfl, _, rfl, g.g.v, g.pv, _, _, 110, _, _, rfl, o.is, by decide, o.pr, pow_step o.ab (by omega), pow_step o.bb (by omega), o.e, true, rfl, iteF (sH.trans (Same.upd hT))⟩
      intro H6 sH
      refine ⟨by decide, fun e he => ?_⟩
      have hD6 : upd H6 e (.lst []) D3 = some (.lst []) := Same.upd he _ _ (sH _ _ upd_same)
      refine ⟨.list [], .list [], .lst (SqL.of hD6) .nil, .lst (SqL.of upd_same) .nil, rfl, rfl, _, rfl, if_false_of (by rfl) ?_⟩
      have li1 := ((li0.same (Same.upd hD3)).same (sH.trans (Same.upd (o := .lst []) he))).mono (show 45 ≤ 50 by decide)
      clear hD6 sH hD3 li0
      refine ⟨_, rfl, _, rfl, D2, D, _, _, rfl, SqL.of li1.l2, SqL.of li1.l1, ?_⟩
      refine RZ.for_zipL (K := K) (a := D2) (b := D) (xs := gs.map fun y => y.g.v) (ys := gs.map Gp.pv) (by simp) (fun i σ H' => LI K H p D D2 gs (50 + 5 * i) H' ∧ ∃ v5 v6 v7 v8 v9 : Option V, σ = [some (.ref a), some (.int j), some (.ref p), some (.ref D), some (.ref D2), v5, v6, v7, v8, v9, none, none])
        ⟨li1, _, _, _, _, _, rfl⟩ (fun i σ H' ⟨l, _⟩ => ⟨SqL.of l.l2, SqL.of l.l1⟩) ?_ ?_
      · clear li1 he e H6 H5
        rintro i xx yy T1 σ H5 ex ey ⟨l5, w5, w6, w7, w8, w9, rfl⟩ hT
        obtain ⟨g, hg, rfl⟩ := map_at ex
        obtain ⟨g', hg', rfl⟩ := map_at ey
        cases hg.symm.trans hg'
        have i4 : i < 4 := by
          have := (List.getElem?_eq_some_iff.mp hg).1
          omega
        have hm := List.mem_of_getElem? hg
        have lA := l5.same (Same.upd (o := .tup [g.g.v, g.pv]) hT)
        refine ⟨T1, _, rfl, SqT.of upd_same, rfl, _, _, rfl, _, _, rfl, rfl, ?_⟩
        generalize upd H5 T1 (.tup [g.g.v, g.pv]) = H6 at lA
        -- the opposite
        have o := lA.ok g hm
        obtain ⟨qi, dx, ev, hq, rr, _⟩ := id o.is
        obtain ⟨qp, pv0, hqp⟩ := id o.pr
        have u0 := o.u
        refine ⟨_, rfl, qi, dx, _, ev, hq, g.g.v, _, _, 110, rfl, o.is, by decide, fun z1 H7 t1 u1 s7 iz1 ez1 => ?_⟩
        refine ⟨_, rfl, qp, _, _, _, pv0, rfl, SqT.of (s7 _ _ hqp), i0 _ _, _, _, rfl, rfl, _, rfl, qp, _, _, _, pv0, rfl, SqT.of (s7 _ _ hqp), i1 _ _, r2, fun m1 k1 => ?_⟩
        have e1 := Same.upd (o := .tup [.int (0 - g.a), .int g.b]) k1
        refine ⟨z1, _, t1, u1, 110, 0 - g.a, g.b, rfl, iz1.same e1, by decide, ⟨m1, rfl, upd_same⟩, by have := o.ab; exact pow_step (n := 110) (by omega) (by omega), pow_step o.bb (by omega), alg_neg (by omega) o.e ez1, true, rfl, iteF ?_⟩
        have lB := lA.same (s7.trans e1)
        clear hT
        -- the absolute value
        have o := lB.ok g hm
        obtain ⟨qi, dx, ev, hq, rr, _⟩ := id o.is
        obtain ⟨qp, pv0, hqp⟩ := id o.pr
        refine ⟨_, rfl, qi, dx, _, ev, hq, g.g.v, _, _, 110, rfl, o.is, by decide, fun z2 H8 t2 u2 s8 iz2 ez2 => ?_⟩
        refine ⟨_, rfl, qp, _, _, _, pv0, rfl, SqT.of (s8 _ _ hqp), i0 _ _, _, rfl, _, rfl, qp, _, _, _, pv0, rfl, SqT.of (s8 _ _ hqp), i1 _ _, _, rfl, r2, fun m2 k2 => ?_⟩
        have e2 := Same.upd (o := .tup [.int (if g.a < 0 then -g.a else g.a), .int (if g.b < 0 then -g.b else g.b)]) k2
        refine ⟨z2, _, t2, u2, 110, (if g.a < 0 then -g.a else g.a), (if g.b < 0 then -g.b else g.b), rfl, iz2.same e2, by decide, ⟨m2, rfl, upd_same⟩, ?_, ?_, alg_abs u0 o.e ez2, true, rfl, iteF ?_⟩
        · rw [absI]
          exact pow_step o.ab (by omega)
        · rw [absI]
          exact pow_step o.bb (by omega)
        have lC := lB.same (s8.trans e2)
        -- each two
        refine ⟨_, rfl, _, rfl, D2, D, _, _, rfl, SqL.of lC.l2, SqL.of lC.l1, ?_⟩
        refine RZ.for_zipL (K := K) (a := D2) (b := D) (xs := gs.map fun y => y.g.v) (ys := gs.map Gp.pv) (by simp) (fun _ σ H' => LI K H p D D2 gs (50 + 5 * i) H' ∧ ∃ v7 v8 : Option V, σ = [some (.ref a), some (.int j), some (.ref p), some (.ref D), some (.ref D2), some g.g.v, some g.pv, v7, v8, w9, none, none])
          ⟨lC, _, _, rfl⟩ (fun i σ H' ⟨l, _⟩ => ⟨SqL.of l.l2, SqL.of l.l1⟩) ?_ ?_
        · clear lA lB lC o e1 e2 ez1 ez2 iz1 iz2 s7 s8 k1 k2 hq hqp ev pv0
          rintro i2 xx yy T2 σ H9 ex ey ⟨l9, w7, w8, rfl⟩ hT
          obtain ⟨h, hh, rfl⟩ := map_at ex
          obtain ⟨h', hh', rfl⟩ := map_at ey
          cases hh.symm.trans hh'
          have hmh := List.mem_of_getElem? hh
          have lA := l9.same (Same.upd (o := .tup [h.g.v, h.pv]) hT)
          refine ⟨T2, _, rfl, SqT.of upd_same, rfl, _, _, rfl, _, _, rfl, rfl, ?_⟩
          have o := lA.ok g hm
          have o2 := lA.ok h hmh
          refine ⟨_, rfl, _, rfl, _, rfl, _, rfl, g.g.v, h.g.v, g.pv, h.pv, g.g.t, g.g.u, h.g.t, h.g.u, g.a, g.b, h.a, h.b, rfl, o.is, .inl o2.is, o.pr, o2.pr, o.b0, o2.b0, o.ab, o2.ab, pow_step o.bb (by omega), pow_step o2.bb (by omega), o.e, o2.e, fun H8 s8 => ⟨true, rfl, iteF ?_⟩⟩
          have lB := lA.same s8
          have o := lB.ok g hm
          have o2 := lB.ok h hmh
          obtain ⟨qi, dx, ev, hq, _⟩ := id o.is
          obtain ⟨qi2, dx2, ev2, hq2, _⟩ := id o2.is
          refine ⟨_, rfl, _, rfl, qi, dx, _, ev, hq, .inl ⟨qi2, dx2, _, ev2, hq2⟩, g.g.v, h.g.v, _, _, 110, rfl, o.is, .inl ⟨_, _, 110, o2.is, ?_⟩⟩
          refine ⟨_, rfl, _, rfl, g.pv, h.pv, _, _, _, _, rfl, o.pr, o2.pr, pow_step o.ab (by omega), pow_step o2.ab (by omega), pow_step o.bb (by omega), pow_step o2.bb (by omega), rfl, rfl, _, rfl, if_false_of ?_ ?_⟩
          · rw [sgn_scmp o o2]
            exact eq_scmp o o2
          · exact ⟨lB, _, _, rfl⟩
        clear lA lB lC
        rintro σ H6 ⟨lD, w7, w8, rfl⟩
        -- a whole number
        refine ⟨_, rfl, p, _, rfl, lD.b, by omega, fun zz H7 zb b7 k7 => ?_⟩
        have lE := lD.kp b7 k7
        have o := lE.ok g hm
        refine ⟨_, rfl, _, rfl, _, rfl, _, rfl, r2, fun m1 n1 => ?_⟩
        have e1 := Same.upd (o := .tup [.int zz, .int 1]) n1
        have oA := o.same e1
        refine ⟨g.g.v, .int zz, g.pv, .ref m1, g.g.t, g.g.u, zz, 1, g.a, g.b, zz, 1, rfl, oA.is, .inr ⟨rfl, rfl, pow_step zb (by omega), by decide⟩, oA.pr, ⟨m1, rfl, upd_same⟩, oA.b0, by decide, oA.ab, pow_step zb (by omega), pow_step oA.bb (by omega), by decide, oA.e, rfl, fun H8 s8 => ⟨true, rfl, iteF ?_⟩⟩
        have lF := (lE.same e1).same s8
        refine ⟨_, rfl, fun x1 dx1 hx hdx hne => spInit_imp (make_fact T (n := 110) (a := zz) (b := 1) (by decide) (by decide) (pow_step zb (by omega)) (by decide) hx hdx hne) fun v0 H9 ⟨hv, t1, u1, sm, iy, ee⟩ => ⟨hv, ?_⟩⟩
        refine ⟨_, rfl, r2, fun m2 n2 => ?_⟩
        have e2 := Same.upd (o := .tup [.int zz, .int 1]) n2
        refine ⟨.ref x1, _, t1, u1, 110, zz, 1, rfl, iy.same e2, by decide, ⟨m2, rfl, upd_same⟩, pow_step zb (by omega), by decide, ee, true, rfl, iteF ?_⟩
        have lG := lF.same (sm.trans e2)
        have o := lG.ok g hm
        obtain ⟨qi, dx, ev, hq, _⟩ := id o.is
        obtain ⟨qp, pv0, hqp⟩ := id o.pr
        -- no integer, refused, itself
        refine ⟨_, rfl, _, rfl, qp, _, _, _, pv0, rfl, SqT.of hqp, i0 _ _, qi, dx, _, ev, hq, .inr ⟨"int", .base (.int _), tyE "int" (by simp [tys])⟩, g.g.v, .int g.a, _, _, 110, rfl, o.is, .inr ⟨"int", .base (.int _), T.kT "int" (by simp [tys]), ?_⟩⟩
        refine ⟨false, rfl, iteF ⟨_, rfl, g.g.v, _, _, 110, rfl, o.is, by decide, fun HA sA => ⟨true, rfl, iteF ?_⟩⟩⟩
        have lH := lG.same sA
        have o := lH.ok g hm
        refine ⟨_, rfl, _, rfl, g.g.v, g.pv, _, _, 110, _, _, rfl, o.is, by decide, o.pr, pow_step o.ab (by omega), pow_step o.bb (by omega), o.e, true, rfl, iteF ⟨lH.mono (by omega), _, _, _, _, _, rfl⟩⟩
      rintro σ H7 ⟨l7, w5, w6, w7, w8, w9, rfl⟩
      match gs, gl, l7 with
      | [], gl, l7 =>
        simp at gl
        omega
      | x :: tl, gl, l7 =>
        rw [List.length_cons] at gl
        exact ⟨_, rfl, _, rfl, D2, D, x, tl, rfl, l7.l2, l7.l1, by omega, l7.ok, fun H8 s8 => ⟨true, rfl, iteF ⟨l7.s.trans s8, _, _, _, _, _, _, _, _, _, rfl⟩⟩⟩
    rintro σ H1 ⟨s1, vk, vb, vp, vm, v5, v6, v7, v8, v9, rfl⟩
    exact ⟨rfl, fun H' _ => q H'⟩
end
end K02

set_option Elab.async false
set_option linter.all false
set_option maxRecDepth 100000
set_option maxHeartbeats 0
set_option exponentiation.threshold 100000
namespace K02
open PySem PySem.Spec PyProof.Rows L2 Fa Fb
/-! ### where the defs stand, and what is asked of the written part -/
/-- the getter of a property of Amount -/
def pa (K : PySem.W.Frag) (f : Str) : Addr := He.ma K (CA K) f
def ga2 (K : PySem.W.Frag) (f : Str) : Addr := match PySem.W.recIn K (pa K f) "property" with
  | some (.ref g :: _) => g
  | _ => 0
open Hd in
def dG (x : Str) (i : Nat) : Def := { ad := fun K => He.ga K x, name := x, qual := x, st := top i }
open Hd in
def dM (m q : Str) (j : Nat) (dfl : List He.Dv := []) : Def := { ad := fun K => He.ma K (CA K) m, name := m, qual := q, st := inClass (top 9) j, dfl := dfl }
open Hd in
def dP (m q : Str) (j : Nat) : Def := { ad := fun K => ga2 K m, name := m, qual := q, st := inClass (top 9) j }
open Hd in
def ds02 : List Def := [dG "is_whole" 7, dM "__init__" "Amount.__init__" 0 [.int 1], dP "top" "Amount.top" 1, dP "bottom" "Amount.bottom" 2, dM "__eq__" "Amount.__eq__" 3, dM "__add__" "Amount.__add__" 4, dM "__sub__" "Amount.__sub__" 5, dM "__mul__" "Amount.__mul__" 6,
  dM "__neg__" "Amount.__neg__" 7, dM "__abs__" "Amount.__abs__" 8, dM "divided" "Amount.divided" 9, dM "compare" "Amount.compare" 10, dG "is_amount" 10, dG "as_amount" 11, dG "total" 12, dG "least" 13, dG "greatest" 14, dG "_furthest" 15,
  dG "_law_cell" 17, dG "_law_box" 18, dG "_law_take" 19, dG "_law_integer" 20, dG "_law_pair" 21, dG "_law_is_pair" 22, dG "_law_sign" 23, dG "_law_two_right" 24, dG "_law_told" 25, dG "_law_made" 26, dG "_law_refused" 27, dG "_law_all" 28, dG "_law_many_right" 29, dG "_law_none_right" 30, dG "law" 31,
  excD "InvalidInteger" "InvalidInteger.__init__" (inClass (top 3) 0), excD "InvalidAmount" "InvalidAmount.__init__" (inClass (top 4) 0), excD "InvalidPart" "InvalidPart.__init__" (inClass (top 5) 0)]
def gloB (K : PySem.W.Frag) (x : Str) : Bool := He.eqO (PySem.W.nsIn K mainGlobals x) (some (some (.ref (He.ga K x))))
def freeB (K : PySem.W.Frag) (x : Str) : Bool := He.eqO (PySem.W.nsIn K mainGlobals x) (some none)
def glos : List Str := ["law", "Amount", "InvalidInteger", "InvalidAmount", "InvalidPart", "is_whole", "is_amount", "as_amount", "total", "least", "greatest", "_furthest", "_law_cell", "_law_box", "_law_take", "_law_integer", "_law_pair", "_law_is_pair", "_law_sign", "_law_two_right", "_law_told", "_law_made", "_law_refused", "_law_all", "_law_many_right", "_law_none_right"]
def frees : List Str := ["isinstance", "int", "bool", "len", "max", "min", "range", "zip", "abs", "repr"]
def clsB (K : PySem.W.Frag) (C : Addr) : Bool := Hd.allB [PySem.W.plainGet K C Str.empty, PySem.W.hasDictIn K C, PySem.W.plainOver K C, He.eqO (PySem.W.findIn K (.ref C) "__setattr__") (some (some (.builtin "object.__setattr__"))), He.eqO (PySem.W.findIn K (.ref C) "_top") (some none), He.eqO (PySem.W.findIn K (.ref C) "_bottom") (some none),
  PySem.W.makesIn K C, He.eqO (PySem.W.findIn K (.ref C) "__init__") (some (some (.ref (He.ma K C "__init__")))), PySem.W.isFn K (.ref (He.ma K C "__init__")), PySem.W.keepIn K (.ref C), He.eqO (PySem.W.nsIn K mainGlobals "gcd") (some (some (.builtin "math.gcd"))),
  decide (PySem.W.kitOne K (.ref C) (.type "int") = some false), decide (PySem.W.kitOne K (.ref C) (.type "bool") = some false), decide (PySem.W.kitOne K (.ref C) (.ref C) = some true), tys.all fun T => decide (PySem.W.kitOne K (.type T) (.ref C) = some false),
  He.eqO (PySem.W.findIn K (.ref C) "__class__") (some (some (.builtin "object.__class__"))), He.eqO (PySem.W.specialIn K (.builtin "object.__class__") "__get__") (some (some (.builtin "getset_descriptor.__get__"))), decide (PySem.W.takesIn K (.builtin "object.__class__") = some true),
  decide (PySem.W.mroIn K C (.type "object") = some true), tys.all fun T => decide (PySem.W.subIn K (.type T) (.ref C) = some false), PySem.W.selfFirst K C]
def tyopB (K : PySem.W.Frag) (nm T : String) : Bool := (PySem.W.findIn K (.type T) (PySem.dunder nm)).isSome && (PySem.W.findIn K (.type T) (dunderR nm)).isSome
def opB (K : PySem.W.Frag) (nm : String) (m : Str) : Bool := He.eqO (PySem.W.findIn K (.ref (CA K)) (PySem.dunder nm)) (some (some (.ref (He.ma K (CA K) m)))) && (PySem.W.isFn K (.ref (He.ma K (CA K) m)) && (He.eqO (PySem.W.findIn K (.ref (CA K)) (dunderR nm)) (some none) && tys.all fun T => tyopB K nm T))
def meB (K : PySem.W.Frag) (m : Str) : Bool := He.eqO (PySem.W.findIn K (.ref (CA K)) m) (some (some (.ref (He.ma K (CA K) m)))) && (PySem.W.isFn K (.ref (He.ma K (CA K) m)) && PySem.W.keepIn K (.ref (He.ma K (CA K) m)))
def prB (K : PySem.W.Frag) (f : Str) : Bool := He.eqO (PySem.W.findIn K (.ref (CA K)) f) (some (some (.ref (pa K f)))) && (He.eqO (PySem.W.specialIn K (.ref (pa K f)) "__get__") (some (some (.builtin "property.__get__"))) && (decide (PySem.W.takesIn K (.ref (pa K f)) = some true) &&
  match PySem.W.recIn K (pa K f) "property" with
  | some (.ref g :: _) => decide (g = ga2 K f)
  | _ => false))
def sysB (K : PySem.W.Frag) : Bool := match K.lookup sysModules with
  | some ⟨_, _, .dict _ _, _⟩ => true
  | _ => false
def file : Str := PySem.Challenge.pw_anytempo_k02_amounts_reckoned.main.file
def chk02 (K : PySem.W.Frag) : Bool := Hd.allB [glos.all (gloB K), frees.all (freeB K), clsB K (CA K), opB K "add" "__add__", opB K "sub" "__sub__", opB K "mul" "__mul__", meB K "divided", meB K "compare", meB K "__eq__", meB K "__neg__", meB K "__abs__", prB K "top", prB K "bottom", sysB K,
  Hd.excB file K "InvalidInteger" "value", Hd.excB file K "InvalidAmount" "value", Hd.excB file K "InvalidPart" "value"]
end K02
set_option Elab.async false
set_option linter.all false
set_option maxRecDepth 100000
set_option maxHeartbeats 4000000
set_option exponentiation.threshold 100000
namespace K02
open PySem PySem.Spec PyProof.Rows L2 Fa Fb
theorem opF_of {K : PySem.W.Frag} {nm : String} {m : Str} (h : opB K nm m = true) (sf : PySem.W.selfFirst K (CA K) = true) (sub : ∀ T ∈ tys, PySem.W.subIn K (.type T) (.ref (CA K)) = some false) : OpF K nm (He.ma K (CA K) m) := by
  obtain ⟨h1, h⟩ := He.ba h
  obtain ⟨h2, h⟩ := He.ba h
  obtain ⟨h3, h4⟩ := He.ba h
  refine ⟨⟨sf, He.eqO_ok h1, h2, He.eqO_ok h3⟩, fun T hT => ?_⟩
  obtain ⟨a, b⟩ := He.ba (List.all_eq_true.mp h4 T hT)
  obtain ⟨fo, hfo⟩ := Option.isSome_iff_exists.mp a
  obtain ⟨ro, hro⟩ := Option.isSome_iff_exists.mp b
  exact ⟨fo, ro, hfo, hro, sub T hT⟩
theorem meB_of {K : PySem.W.Frag} {m : Str} (h : meB K m = true) : Meth K (CA K) m (He.ma K (CA K) m) := by
  obtain ⟨h1, h⟩ := He.ba h
  obtain ⟨h2, h3⟩ := He.ba h
  exact ⟨He.eqO_ok h1, h2, h3⟩
theorem prB_of {K : PySem.W.Frag} {f : Str} (h : prB K f = true) : PropOf K (CA K) f (pa K f) (ga2 K f) := by
  obtain ⟨h1, h⟩ := He.ba h
  obtain ⟨h2, h⟩ := He.ba h
  obtain ⟨h3, h4⟩ := He.ba h
  refine ⟨He.eqO_ok h1, He.eqO_ok h2, of_decide_eq_true h3, ?_⟩
  have h5 : (match PySem.W.recIn K (pa K f) "property" with
  | some (.ref g :: _) => decide (g = ga2 K f)
  | _ => false) = true := h4
  split at h5
  · rename_i g r e
    exact ⟨r, by rw [e, of_decide_eq_true h5]⟩
  · cases h5
theorem sysB_of {K : PySem.W.Frag} (h : sysB K = true) : Fg.SysD K := by
  unfold sysB at h
  split at h
  · rename_i c dd es ep sl e
    exact ⟨c, dd, es, ep, sl, e⟩
  · cases h
abbrev PP : Program := PySem.Challenge.pw_anytempo_k02_amounts_reckoned
theorem facts {w : World} {K : PySem.W.Frag} {h : Heap} {mg : Str → Option Value} {f : Addr} (X : K.In h) (G : h.Ns mainGlobals mg) (hfa : mg ("law" : Str) = some (.ref f)) (c : Hd.obsK ds02 chk02 K = Hd.valK ds02) :
    ∃ fd : FuncData, (∀ (s : Shared) (v : Value), BindsTo s fd ⟨[v], []⟩ [("_law_script", v)]) ∧ ∀ base : Heap, K.In base → base.Ns mainGlobals mg → Fg.FnG PP w K mg base (L2.CX PP w) 12 f fd ["_law_script"] (spLaw K) := by
  have ck : Hd.allB _ = true := Hd.says_chk c
  have cg := Hd.allB_at ck 0
  have cf := Hd.allB_at ck 1
  have cc : Hd.allB _ = true := Hd.allB_at ck 2
  have glo : ∀ x ∈ glos, mg x = some (.ref (He.ga K x)) := fun x hx => PySem.W.mg_of X G (He.eqO_ok (List.all_eq_true.mp cg x hx))
  have fre : ∀ x ∈ frees, mg x = none := fun x hx => PySem.W.mg_none_of X G (He.eqO_ok (List.all_eq_true.mp cf x hx))

  have GAmount := glo "Amount" (by simp [glos])
  have GInvalidInteger := glo "InvalidInteger" (by simp [glos])
  have GInvalidAmount := glo "InvalidAmount" (by simp [glos])
  have GInvalidPart := glo "InvalidPart" (by simp [glos])
  have Giswhole := glo "is_whole" (by simp [glos])
  have Gisamount := glo "is_amount" (by simp [glos])
  have Gasamount := glo "as_amount" (by simp [glos])
  have Gtotal := glo "total" (by simp [glos])
  have Gleast := glo "least" (by simp [glos])
  have Ggreatest := glo "greatest" (by simp [glos])
  have Gfurthest := glo "_furthest" (by simp [glos])
  have GLcell := glo "_law_cell" (by simp [glos])
  have GLbox := glo "_law_box" (by simp [glos])
  have GLtake := glo "_law_take" (by simp [glos])
  have GLinteger := glo "_law_integer" (by simp [glos])
  have GLpair := glo "_law_pair" (by simp [glos])
  have GLispair := glo "_law_is_pair" (by simp [glos])
  have GLsign := glo "_law_sign" (by simp [glos])
  have GLtworight := glo "_law_two_right" (by simp [glos])
  have GLtold := glo "_law_told" (by simp [glos])
  have GLmade := glo "_law_made" (by simp [glos])
  have GLrefused := glo "_law_refused" (by simp [glos])
  have GLall := glo "_law_all" (by simp [glos])
  have GLmanyright := glo "_law_many_right" (by simp [glos])
  have GLnoneright := glo "_law_none_right" (by simp [glos])
  have Risinstance := fre "isinstance" (by simp [frees])
  have Rint := fre "int" (by simp [frees])
  have Rbool := fre "bool" (by simp [frees])
  have Rlen := fre "len" (by simp [frees])
  have Rmax := fre "max" (by simp [frees])
  have Rmin := fre "min" (by simp [frees])
  have Rrange := fre "range" (by simp [frees])
  have Rzip := fre "zip" (by simp [frees])
  have Rabs := fre "abs" (by simp [frees])
  have Rrepr := fre "repr" (by simp [frees])
  obtain ⟨fdW, gW⟩ := Hd.says_def c 0
  obtain ⟨fdI, gI⟩ := Hd.says_def c 1
  obtain ⟨fdT, gT⟩ := Hd.says_def c 2
  obtain ⟨fdB, gB⟩ := Hd.says_def c 3
  obtain ⟨fdE, gE⟩ := Hd.says_def c 4
  obtain ⟨fdA, gA⟩ := Hd.says_def c 5
  obtain ⟨fdS, gS⟩ := Hd.says_def c 6
  obtain ⟨fdM, gM⟩ := Hd.says_def c 7
  obtain ⟨fdN, gN⟩ := Hd.says_def c 8
  obtain ⟨fdQ, gQ⟩ := Hd.says_def c 9
  obtain ⟨fdD, gD⟩ := Hd.says_def c 10
  obtain ⟨fdC, gC⟩ := Hd.says_def c 11
  obtain ⟨fdisA, gisA⟩ := Hd.says_def c 12
  obtain ⟨fdas, gas⟩ := Hd.says_def c 13
  obtain ⟨fdtot, gtot⟩ := Hd.says_def c 14
  obtain ⟨fdlea, glea⟩ := Hd.says_def c 15
  obtain ⟨fdgre, ggre⟩ := Hd.says_def c 16
  obtain ⟨fdfur, gfur⟩ := Hd.says_def c 17
  obtain ⟨fdcel, gcel⟩ := Hd.says_def c 18
  obtain ⟨fdbox, gbox⟩ := Hd.says_def c 19
  obtain ⟨fdtak, gtak⟩ := Hd.says_def c 20
  obtain ⟨fdint, gint⟩ := Hd.says_def c 21
  obtain ⟨fdpai, gpai⟩ := Hd.says_def c 22
  obtain ⟨fdlis, glis⟩ := Hd.says_def c 23
  obtain ⟨fdsig, gsig⟩ := Hd.says_def c 24
  obtain ⟨fdtwo, gtwo⟩ := Hd.says_def c 25
  obtain ⟨fdtol, gtol⟩ := Hd.says_def c 26
  obtain ⟨fdmad, gmad⟩ := Hd.says_def c 27
  obtain ⟨fdref, gref⟩ := Hd.says_def c 28
  obtain ⟨fdall, gall⟩ := Hd.says_def c 29
  obtain ⟨fdman, gman⟩ := Hd.says_def c 30
  obtain ⟨fdnon, gnon⟩ := Hd.says_def c 31
  obtain ⟨fdlaw, glaw⟩ := Hd.says_def c 32
  obtain ⟨fdxI, gxI⟩ := Hd.says_def c 33
  obtain ⟨fdxV, gxV⟩ := Hd.says_def c 34
  obtain ⟨fdxP, gxP⟩ := Hd.says_def c 35
  have FW := gW.funD
  have FI := gI.funD
  have FT := gT.funD
  have FB := gB.funD
  have FE := gE.funD
  have FA := gA.funD
  have FS := gS.funD
  have FM := gM.funD
  have FN := gN.funD
  have FQ := gQ.funD
  have FD := gD.funD
  have FC := gC.funD
  have FisA := gisA.funD
  have Fas := gas.funD
  have Ftot := gtot.funD
  have Flea := glea.funD
  have Fgre := ggre.funD
  have Ffur := gfur.funD
  have Fcel := gcel.funD
  have Fbox := gbox.funD
  have Ftak := gtak.funD
  have Fint := gint.funD
  have Fpai := gpai.funD
  have Flis := glis.funD
  have Fsig := gsig.funD
  have Ftwo := gtwo.funD
  have Ftol := gtol.funD
  have Fmad := gmad.funD
  have Fref := gref.funD
  have Fall := gall.funD
  have Fman := gman.funD
  have Fnon := gnon.funD
  have Flaw := glaw.funD
  have bW : Binds K fdW ["value"] [] := FW.bindsN fun _ _ _ _ _ _ us hl => match us, hl with | [_], _ => rfl
  have bT : Binds K fdT ["self"] [] := FT.bindsN fun _ _ _ _ _ _ us hl => match us, hl with | [_], _ => rfl
  have bB : Binds K fdB ["self"] [] := FB.bindsN fun _ _ _ _ _ _ us hl => match us, hl with | [_], _ => rfl
  have bE : Binds K fdE ["self", "other"] [] := FE.bindsN fun _ _ _ _ _ _ us hl => match us, hl with | [_, _], _ => rfl
  have bA : Binds K fdA ["self", "other"] [] := FA.bindsN fun _ _ _ _ _ _ us hl => match us, hl with | [_, _], _ => rfl
  have bS : Binds K fdS ["self", "other"] [] := FS.bindsN fun _ _ _ _ _ _ us hl => match us, hl with | [_, _], _ => rfl
  have bM : Binds K fdM ["self", "other"] [] := FM.bindsN fun _ _ _ _ _ _ us hl => match us, hl with | [_, _], _ => rfl
  have bN : Binds K fdN ["self"] [] := FN.bindsN fun _ _ _ _ _ _ us hl => match us, hl with | [_], _ => rfl
  have bQ : Binds K fdQ ["self"] [] := FQ.bindsN fun _ _ _ _ _ _ us hl => match us, hl with | [_], _ => rfl
  have bD : Binds K fdD ["self", "other"] [] := FD.bindsN fun _ _ _ _ _ _ us hl => match us, hl with | [_, _], _ => rfl
  have bC : Binds K fdC ["self", "other"] [] := FC.bindsN fun _ _ _ _ _ _ us hl => match us, hl with | [_, _], _ => rfl
  have bisA : Binds K fdisA ["value"] [] := FisA.bindsN fun _ _ _ _ _ _ us hl => match us, hl with | [_], _ => rfl
  have bas : Binds K fdas ["value"] [] := Fas.bindsN fun _ _ _ _ _ _ us hl => match us, hl with | [_], _ => rfl
  have bfur : Binds K fdfur ["amounts", "side"] [] := Ffur.bindsN fun _ _ _ _ _ _ us hl => match us, hl with | [_, _], _ => rfl
  have bcel : Binds K fdcel ["_law_script", "_law_k"] [] := Fcel.bindsN fun _ _ _ _ _ _ us hl => match us, hl with | [_, _], _ => rfl
  have bbox : Binds K fdbox ["_law_cell_here"] [] := Fbox.bindsN fun _ _ _ _ _ _ us hl => match us, hl with | [_], _ => rfl
  have btak : Binds K fdtak ["_law_box_here", "_law_many"] [] := Ftak.bindsN fun _ _ _ _ _ _ us hl => match us, hl with | [_, _], _ => rfl
  have bint : Binds K fdint ["_law_box_here"] [] := Fint.bindsN fun _ _ _ _ _ _ us hl => match us, hl with | [_], _ => rfl
  have bpai : Binds K fdpai ["_law_box_here"] [] := Fpai.bindsN fun _ _ _ _ _ _ us hl => match us, hl with | [_], _ => rfl
  have blis : Binds K fdlis ["_law_amount", "_law_pair_here"] [] := Flis.bindsN fun _ _ _ _ _ _ us hl => match us, hl with | [_, _], _ => rfl
  have bsig : Binds K fdsig ["_law_one", "_law_other"] [] := Fsig.bindsN fun _ _ _ _ _ _ us hl => match us, hl with | [_, _], _ => rfl
  have btwo : Binds K fdtwo ["_law_one", "_law_other", "_law_left", "_law_right"] [] := Ftwo.bindsN fun _ _ _ _ _ _ us hl => match us, hl with | [_, _, _, _], _ => rfl
  have btol : Binds K fdtol ["_law_at", "_law_one", "_law_thing"] [] := Ftol.bindsN fun _ _ _ _ _ _ us hl => match us, hl with | [_, _, _], _ => rfl
  have bmad : Binds K fdmad ["_law_top", "_law_bottom"] [] := Fmad.bindsN fun _ _ _ _ _ _ us hl => match us, hl with | [_, _], _ => rfl
  have bref : Binds K fdref ["_law_one"] [] := Fref.bindsN fun _ _ _ _ _ _ us hl => match us, hl with | [_], _ => rfl
  have ball : Binds K fdall ["_law_some"] [] := Fall.bindsN fun _ _ _ _ _ _ us hl => match us, hl with | [_], _ => rfl
  have bman : Binds K fdman ["_law_amounts", "_law_pairs"] [] := Fman.bindsN fun _ _ _ _ _ _ us hl => match us, hl with | [_, _], _ => rfl
  have bnon : Binds K fdnon ([] : List Str) [] := Fnon.bindsN fun _ _ _ _ _ _ us hl => match us, hl with | [], _ => rfl

  have sub : ∀ T ∈ tys, PySem.W.subIn K (.type T) (.ref (CA K)) = some false := fun T hT => of_decide_eq_true (List.all_eq_true.mp (Hd.allB_at cc 19) T hT)
  have sf : PySem.W.selfFirst K (CA K) = true := Hd.allB_at cc 20
  have A : AF K mg :=
    { cl := ⟨Hd.allB_at cc 0, Hd.allB_at cc 1, Hd.allB_at cc 2, He.eqO_ok (Hd.allB_at cc 3)⟩
      noT := He.eqO_ok (Hd.allB_at cc 4)
      noB := He.eqO_ok (Hd.allB_at cc 5)
      mkA := ⟨Hd.allB_at cc 6, He.eqO_ok (Hd.allB_at cc 7), Hd.allB_at cc 8, Hd.allB_at cc 9⟩
      g := GAmount
      isi := Risinstance
      int := Rint
      bool := Rbool
      gcd := PySem.W.mg_of X G (He.eqO_ok (Hd.allB_at cc 10))
      gI := GInvalidInteger
      gV := GInvalidAmount
      kI := of_decide_eq_true (Hd.allB_at cc 11)
      kB := of_decide_eq_true (Hd.allB_at cc 12)
      kS := of_decide_eq_true (Hd.allB_at cc 13)
      kT := fun T hT => of_decide_eq_true (List.all_eq_true.mp (Hd.allB_at cc 14) T hT)
      ca := He.eqO_ok (Hd.allB_at cc 15)
      cn := He.eqO_ok (Hd.allB_at cc 16)
      ct := of_decide_eq_true (Hd.allB_at cc 17)
      cm := of_decide_eq_true (Hd.allB_at cc 18) }
  have oA := opF_of (Hd.allB_at ck 3) sf sub
  have oS := opF_of (Hd.allB_at ck 4) sf sub
  have oM := opF_of (Hd.allB_at ck 5) sf sub
  have mD := meB_of (Hd.allB_at ck 6)
  have mC := meB_of (Hd.allB_at ck 7)
  have mE := meB_of (Hd.allB_at ck 8)
  have mN := meB_of (Hd.allB_at ck 9)
  have mQ := meB_of (Hd.allB_at ck 10)
  have pT := prB_of (Hd.allB_at ck 11)
  have pB := prB_of (Hd.allB_at ck 12)
  have hS := sysB_of (Hd.allB_at ck 13)
  have xI := Hd.exc_txt Xb.nm_value gxI (Hd.allB_at ck 14) ⟨_, _, _, _, _, _, _, _, _, _, _, _, _, rfl, rfl, rfl, rfl⟩
  have xV := Hd.exc_txt Xb.nm_value gxV (Hd.allB_at ck 15) ⟨_, _, _, _, _, _, _, _, _, _, _, _, _, rfl, rfl, rfl, rfl⟩
  have xP := Hd.exc_txt Xb.nm_value gxP (Hd.allB_at ck 16) ⟨_, _, _, _, _, _, _, _, _, _, _, _, _, rfl, rfl, rfl, rfl⟩
  have hlaw := glo "law" (by simp [glos])
  cases hfa.symm.trans hlaw
  have htop : (PP.main.scope.names.lookup ("super" : Str)).isSome = false := by decide +kernel
  have blaw := Flaw.bindsA (ps := ["_law_script"]) fun _ _ _ _ _ _ us hl => match us, hl with | [_], _ => rfl
  refine ⟨fdlaw, fun s v => blaw s [v] rfl, fun base _ _ => ?_⟩
  obtain ⟨ds, hds, bI⟩ := FI.binds1 (ps := ["self", "top", "bottom"]) 2 0 (by simp [dM]) rfl (fun _ _ _ _ _ _ _ us its hu hi => match us, its, hu, hi with | [_, _], [_], _, _ => ⟨_, rfl, rfl⟩)
  obtain ⟨ds2, hds2, bI2⟩ := FI.binds1 (ps := ["self", "top", "bottom"]) 3 1 (by simp [dM]) rfl (fun _ _ _ _ _ _ _ us its hu hi => match us, its, hu, hi with | [_, _, _], [_], _, _ => ⟨_, rfl, rfl⟩)
  cases hds2
  have OI : FnOk PP w K mg base (L2.CX PP w) 4 (aI K) fdI ["self", "top", "bottom"] (spInit K) := ok_init FI A FW Giswhole xI htop
  have OS : FnOk PP w K mg base (L2.CX PP w) 6 _ fdas ["value"] (spAs K) := ok_as Fas A FW Giswhole FisA Gisamount FI xI xV htop
  have kS := Fas.kp
  have Oadd : OpK PP w K mg base "add" 7 (spAdd K) _ fdA := ⟨oA, ok_add FA A OS Gasamount kS bas OI bI2, bA⟩
  have Osub : OpK PP w K mg base "sub" 7 (spSub K) _ fdS := ⟨oS, ok_sub FS A OS Gasamount kS bas OI bI2, bS⟩
  have Omul : OpK PP w K mg base "mul" 7 (spMul K) _ fdM := ⟨oM, ok_mul FM A OS Gasamount kS bas OI bI2, bM⟩
  have Mdiv : MeK PP w K mg base "divided" 7 (spDiv K) _ fdD := ⟨mD, ok_div FD A OS Gasamount kS bas OI bI2 xV htop, bD⟩
  have Mcmp : MeK PP w K mg base "compare" 7 (spCmp K) _ fdC := ⟨mC, ok_cmp FC A OS Gasamount kS bas, bC⟩
  have Eq : EqK PP w K mg base _ fdE := ⟨mE.at_, mE.fn, ok_eq FE A, bE⟩
  have Neg : UnK PP w K mg base "__neg__" 6 (spUn K fun t => -t) _ fdN := ⟨mN.at_, mN.fn, ok_neg FN A OI bI2, bN⟩
  have Abs : UnK PP w K mg base "__abs__" 6 (spUn K fun t => if t < 0 then -t else t) _ fdQ := ⟨mQ.at_, mQ.fn, ok_abs FQ A Rabs OI bI2, bQ⟩
  have IsAm : Fn PP w K mg base "is_amount" 2 ["value"] (spIsA K) _ fdisA := ⟨ok_isA FisA A FW Giswhole, Gisamount, FisA.kp, bisA⟩
  have Tot : FnS PP w K mg base "total" 8 (spTot K) _ := ⟨ok_total Ftot A OI hds bI Oadd.ok oA bA, Gtotal, Ftot.kp⟩
  have Fur : FnOk PP w K mg base (L2.CX PP w) 8 _ fdfur ["amounts", "side"] (spFur K) := ok_fur Ffur A OS Gasamount kS bas Mcmp.ok mC bC GInvalidPart Rlen xP htop
  have Lea : FnS PP w K mg base "least" 9 (spFL K (-1)) _ := ⟨ok_least Flea Fur Gfurthest Ffur.kp bfur, Gleast, Flea.kp⟩
  have Gre : FnS PP w K mg base "greatest" 9 (spFL K 1) _ := ⟨ok_great Fgre Fur Gfurthest Ffur.kp bfur, Ggreatest, Fgre.kp⟩
  have Cel : Fn0 PP w K mg base "_law_cell" 1 ["_law_script", "_law_k"] (spCel K) _ fdcel := ⟨ok_cell Fcel Rlen, GLcell, Fcel.kp, bcel⟩
  have Bx : Fn0 PP w K mg base "_law_box" 1 ["_law_cell_here"] spBox _ fdbox := ⟨ok_box Fbox Rmax, GLbox, Fbox.kp, bbox⟩
  have Tk : Fn0 PP w K mg base "_law_take" 1 ["_law_box_here", "_law_many"] spTake _ fdtak := ⟨ok_take Ftak, GLtake, Ftak.kp, btak⟩
  have Int_ : Fn0 PP w K mg base "_law_integer" 2 ["_law_box_here"] spLInt _ fdint := ⟨ok_lint Fint Tk.ok GLtake Ftak.kp btak, GLinteger, Fint.kp, bint⟩
  have Pai : Fn0 PP w K mg base "_law_pair" 3 ["_law_box_here"] spLPair _ fdpai := ⟨ok_lpair Fpai Tk.ok GLtake Ftak.kp btak Int_.ok GLinteger Fint.kp bint, GLpair, Fpai.kp, bpai⟩
  have Lis : Fn PP w K mg base "_law_is_pair" 3 ["_law_amount", "_law_pair_here"] (spLIs K) _ fdlis := ⟨ok_lis Flis A Rabs ⟨pT, ok_top FT A, bT⟩ ⟨pB, ok_bot FB A, bB⟩, GLispair, Flis.kp, blis⟩
  have Sig : Fn PP w K mg base "_law_sign" 1 ["_law_one", "_law_other"] spLSign _ fdsig := ⟨ok_lsign Fsig Rint, GLsign, Fsig.kp, bsig⟩
  have Two : Fn PP w K mg base "_law_two_right" 10 ["_law_one", "_law_other", "_law_left", "_law_right"] (spTwo K) _ fdtwo := ⟨ok_two Ftwo A Rrepr Lis Sig Oadd Osub Omul Mdiv Mcmp Tot Lea Gre, GLtworight, Ftwo.kp, btwo⟩
  have Tol : Fn PP w K mg base "_law_told" 10 ["_law_at", "_law_one", "_law_thing"] (spTold K) _ fdtol := ⟨ok_told Ftol A xV Oadd Osub Omul Mdiv Mcmp Tot Lea Gre, GLtold, Ftol.kp, btol⟩
  have Mad : Fn PP w K mg base "_law_made" 6 ["_law_top", "_law_bottom"] (spMade K) _ fdmad := ⟨ok_made Fmad A xI OI bI2, GLmade, Fmad.kp, bmad⟩
  have Ref : FnS2 PP w K mg base "_law_refused" 11 ["_law_one"] (spRef K) _ fdref := ⟨ok_ref Fref A hS Rrepr Rrange Tol Mad IsAm Eq sub OI hds bI, GLrefused, Fref.kp, bref⟩
  have All : Fn PP w K mg base "_law_all" 10 ["_law_some"] (spLAll K) _ fdall := ⟨ok_lall Fall Rlen Tot Lea Gre, GLall, Fall.kp, ball⟩
  have Man : Fn PP w K mg base "_law_many_right" 11 ["_law_amounts", "_law_pairs"] (spMany K) _ fdman := ⟨ok_many Fman Rzip Lis Sig All, GLmanyright, Fman.kp, bman⟩
  have Non : FnS2 PP w K mg base "_law_none_right" 10 [] spNone _ fdnon := ⟨ok_none Fnon A hS Rrepr Rrange GInvalidPart xP Lis Tot Lea Gre, GLnoneright, Fnon.kp, bnon⟩
  exact ok_law Flaw A Rlen Rrange Rmax Rmin Rzip Rabs Cel Bx Tk Int_ Pai Lis Sig Two Man Ref Non Neg Abs Eq sub OI hds bI bI2
end K02

set_option Elab.async false
set_option linter.all false
set_option maxRecDepth 100000
set_option maxHeartbeats 0
namespace K02
open PySem PySem.Spec PyProof.Rows L2
def nm0 : List PySem.Str := ["CueError", "InvalidInteger", "InvalidAmount", "InvalidPart", "is_whole", "Amount", "is_amount", "as_amount", "total", "least", "greatest", "_furthest", "_law_cell", "_law_box", "_law_take", "_law_integer", "_law_pair", "_law_is_pair", "_law_sign", "_law_two_right", "_law_told", "_law_made", "_law_refused", "_law_all", "_law_many_right", "_law_none_right"]
def nms : List PySem.Str := nm0
abbrev lawAt : Nat := 31
abbrev RR : PySem.W.OpenRow := PySem.W.OpenLaw.row PySem.Challenge.rw_anytempo_k02_amounts_reckoned
abbrev hk : PySem.W.Hook := Hd.hookS 5 ds02 chk02
theorem run (w : World) : HandSHeadRun.RunEqI RR (PySem.W.view RR.prog [0, lawAt]) hk (Hd.obS 5 ds02 chk02) 20000 nms w := by
  unfold HandSHeadRun.RunEqI
  kernel_rfl
theorem noX (P : Program) (w : World) (H : Hp) (s : Shared) (e : Value) (s' : Shared) : L2.CX P w [] H s (fun _ _ _ => False) e s' → False := fun ⟨_, _, _, _, _, _, _, _, _, _, _, _, z⟩ => z
end K02
open PySem PySem.W PySem.Calls PyProof.Rows
theorem PySem.Challenge.cw_anytempo_k02_amounts_reckoned_holds : PySem.Challenge.rw_anytempo_k02_amounts_reckoned.Holds := by
  w_on; o_law
  refine HandSHeadRun.head_imp (r := OpenLaw.row PySem.Challenge.rw_anytempo_k02_amounts_reckoned) (q := view (OpenLaw.row PySem.Challenge.rw_anytempo_k02_amounts_reckoned).prog [0, 31]) (H := K02.hk) (ob := Hd.obS 5 K02.ds02 K02.chk02) (M := 20000) (loose := K02.nms) (d := HandSHeadRun.topDef (OpenLaw.row PySem.Challenge.rw_anytempo_k02_amounts_reckoned).prog 31) (kwd := [])
    (Hd.obS_eq 5 K02.ds02 K02.chk02) K02.run (by kernel_rfl) (by kernel_rfl) (by kernel_rfl) (by rfl) (by first | assumption | decide +kernel) (by decide +kernel) ⟨rfl, rfl, rfl, rfl, rfl, by decide +kernel⟩ ?hw ?hc
  case hw => w_witness2
  case hc =>
    refine Fg.walk_ofG (l := PySem.Challenge.rw_anytempo_k02_amounts_reckoned) (n := 63) (k := 12) (x := "_law_script") (CX := fun w => L2.CX K02.PP w) rfl (by decide) (by kernel_rfl) ⟨rfl, by decide, by decide⟩ ?F (fun w => K02.noX K02.PP w)
    intro w mg fa h Y G hmg0
    obtain ⟨K, KX, c⟩ := Y
    have hmg : mg ("law" : PySem.Str) = some (.ref fa) := by
      have e : (HandSHeadRun.topDef (OpenLaw.row PySem.Challenge.rw_anytempo_k02_amounts_reckoned).prog 31).name = ("law" : PySem.Str) := by kernel_rfl
      rw [← e]
      exact hmg0
    obtain ⟨fd, hb, hF⟩ := K02.facts (w := w) KX G hmg c
    exact ⟨K, fd, K02.spLaw K, KX, hb, fun H a ns hl _ hS => ⟨a, ns, rfl, hS, hl, fun _ => rfl⟩, hF⟩

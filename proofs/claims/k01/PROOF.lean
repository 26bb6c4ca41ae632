import PyProof.Rows.All
import Wide.All
import OpenK.AllK
import Wide.FinOn
import HandS.Base
import HandS.Call
import HandS.Conv
import HandS.Exc
import HandS.ExcField
import HandS.ExcInit
import HandS.ExcIs
import HandS.ExcValue
import HandS.ForMost
import HandS.Gcd
import HandS.IsInst
import HandS.RaiseMore
import HandS.Style
import HandS.TryMany
import HandS.TupAny
import HandS.TupMul
import HandS.Walk
import HandS.Wide
import HandS.WideBits
import HandS.WordsExc
import HandS.Zip
import KE.GoesMore
import KE.KExcIs
import KE.KExcSuper
import KE.KRevSl
import PyProof.AutoIntG7
import PyProof.FactsAll.bool
import PyProof.FactsAll.int
import PyProof.ReprLen
import PyProof.ReprRoads
import PyProof.Rows.FloatCmp
import PyProof.Rows.RegStrFacts
import PyProof.Rows.SeqMore
import PyProof.TwoTypes
import PyProof.TwoTypesSub
import PySem.Challenge.RW_persuasion_k01_errors_each_of_its_own
/-! part EM -/
set_option Elab.async false
set_option linter.all false
set_option maxRecDepth 100000
set_option maxHeartbeats 2000000
set_option autoImplicit false
/-! own errors: a class over ValueError (through classes of one's own) whose __init__ is: super().__init__('..'); self.f = f -/
namespace EM
open PySem PySem.W PySem.Calls PyProof.Rows PySem.Spec
/-! ### type.__call__ with keywords, too -/
section
variable {M : Model} {A : Around} {E : Value → Shared → Prop} {h : Heap} {g : Array GenState} {d : Drawn} {t : Nat} {os : OsState}
variable {nm q : Str} {C N : Addr} {bs bm bmB : List Value} {hdct : Bool} {sn : List Str} {sub : List Value} {ab : Bool} {col : Option Bool} {dd : Option Addr} {k0 k1 k2 k3 k5 : Option Value} {B newId initId : String}
theorem chk_new (F : ExcBaseFacts B newId initId bmB) (hT : ∀ Y : String, bm.contains (.type Y) = bmB.contains (.type Y)) {us : List Value} {kw : List (Str × Value)} {Q : Unit → Shared → Prop}
    (hC : h.get? C = some (excClassObj nm q C N bs bm hdct sn sub ab col dd k0 k1 k2 k3 k5 newId)) (hq : Q () ⟨h, g, d, t, os⟩) : wpAny M A (checkBuiltinCall newId ⟨.ref C :: us, kw⟩) Q E ⟨h, g, d, t, os⟩ := by
  have c1 : (Value.ref C :: bm).contains (.type B) = true := by rw [List.contains_cons, hT, F.hasB]; exact Bool.or_true _
  have c2 := F.noStar
  simp only [checkBuiltinCall, F.newKind, F.newSplit, F.newRow]
  repeat (first
    | refine wpAny_loadPart_at hC ?_
    | (refine wpAny_isSubtype_exc hC ?_; rw [c1])
    | refine wpAny_staticBase_exc hC ?_
    | refine wpAny_madeBy_exc hC ?_
    | simp only [bne_self_eq_false, Bool.false_eq_true, if_false]
    | wp_step)
  all_goals exact hq
theorem chk_call {us : List Value} {kw : List (Str × Value)} {Q : Unit → Shared → Prop} (hC : h.get? C = some (excClassObj nm q C N bs bm hdct sn sub ab col dd k0 k1 k2 k3 k5 newId))
    (hq : Q () ⟨h, g, d, t, os⟩) : wpAny M A (checkBuiltinCall "type.__call__" ⟨.ref C :: us, kw⟩) Q E ⟨h, g, d, t, os⟩ := by
  have c1 := tc_sub
  have c2 : (⟨h, g, d, t, os⟩ : Shared).TypeIs (.ref C) "type" := ⟨_, hC, rfl⟩
  simp only [checkBuiltinCall, tc_kind, tc_split]
  repeat (any_goals (first
    | assumption
    | with_reducible refine wpAny_loadPart_at hC ?_
    | with_reducible refine wpAny_onRaise ?_
    | with_reducible refine wpAny_map ?_
    | wp_step))
end
section
variable {prog : Program} {w : World} {A : Around} {E : Value → Shared → Prop} {R : Result → Shared → Prop} {h : Heap} {g : Array GenState} {d : Drawn} {t : Nat} {os : OsState}
variable {nm q : Str} {C N : Addr} {bs bm bmB : List Value} {hdct : Bool} {sn : List Str} {sub : List Value} {ab : Bool} {col : Option Bool} {dd : Option Addr} {k0 k1 k2 k3 k5 : Option Value} {B newId initId : String}
abbrev two (h : Heap) (us : List Value) (C : Addr) : Heap := (h.push (kdv_tup us)).push (HandSPX.excO C h.objs.size)
theorem new_kw (F : ExcBaseFacts B newId initId bmB) (hT : ∀ Y : String, bm.contains (.type Y) = bmB.contains (.type Y)) {us : List Value} {kw : List (Str × Value)}
    (hC : h.get? C = some (excClassObj nm q C N bs bm hdct sn sub ab col dd k0 k1 k2 k3 k5 newId)) (hus : us.length ≤ sizeLine)
    (hq : R (.ok (.ret (.ref (h.objs.size + 1)))) ⟨two h us C, g, d, t, os⟩) : codeAny (model prog w) A (.builtin newId ⟨.ref C :: us, kw⟩) R ⟨h, g, d, t, os⟩ := by
  have c0 := F.ends
  have c1 : (Value.ref C :: bm).contains (.type B) = true := by rw [List.contains_cons, hT, F.hasB]; exact Bool.or_true _
  have c2 : (Value.ref C :: bm).contains (.type "AttributeError") = false := by rw [List.contains_cons, hT, F.noAttr]; exact Bool.or_false _
  have c3 : (Value.ref C :: bm).contains (.type "NameError") = false := by rw [List.contains_cons, hT, F.noName]; exact Bool.or_false _
  refine codeAny_builtinAt F.entry ?_
  unfold Builtin.«BaseException.__new__»
  refine _root_.PySem.wpAt_bind ?_
  show _root_.PySem.wpAt _ _ _ (stack >>= _) _ _ _
  refine _root_.PySem.wpAt_bind (_root_.PySem.wpAt_stack fun p below => _root_.PySem.wpAt_of_wpAny ?_)
  wp_walk
  refine _root_.PySem.wpAt_of_wpAny ?_
  rw [F.owner]
  repeat (first
    | with_reducible refine wpAny_madeHere_exc F.canon hC ?_
    | with_reducible refine wpAny_loadPart_at hC ?_
    | (with_reducible refine wpAny_isSubtype_exc hC ?_; first | rw [c1] | rw [c2] | rw [c3])
    | wp_step)
  show R _ _
  rw [Heap.size_push]
  exact hq
theorem typ_kw (F : ExcBaseFacts B newId initId bmB) (hT : ∀ Y : String, bm.contains (.type Y) = bmB.contains (.type Y)) {us : List Value} {kw : List (Str × Value)} {fI : Addr} {Q : PySem.Fin → Shared → Prop}
    (hC : h.get? C = some (excClassObj nm q C N bs bm hdct sn sub ab col dd k0 k1 k2 k3 k5 newId)) (hi : Looks (model prog w) h (typeLookup (.ref C) "__init__") (some (.ref fI)))
    (hb : ∀ self, Looks (model prog w) h (bindSpecial (.ref fI) self) (.ref fI, [self])) (hus : us.length ≤ sizeLine)
    (hq : codeAny (model prog w) A (.call (.ref fI) ⟨.ref (h.objs.size + 1) :: us, kw⟩)
      (fun r s' => match r with | .ok (.ret v) => v = .none ∧ Q (.done (.ret (.ref (h.objs.size + 1)))) s' | .ok _ => False | .error e => E e s') ⟨two h us C, g, d, t, os⟩) :
    wpAny (model prog w) A (Builtin.«type.__call__» ⟨.ref C :: us, kw⟩) Q E ⟨h, g, d, t, os⟩ := by
  repeat (first
    | with_reducible refine wpAny_loadPart_at hC ?_
    | with_reducible refine wpAny_madeBy_exc hC ?_
    | wp_step)
  refine codeAny_call_builtin_code (Code.quiet_builtin _ F.quiet) (chk_new F hT hC ?_)
  refine new_kw F hT hC hus ?_
  show wpAny _ _ _ _ _ _
  have up : ∀ b o, h.get? b = some o → (two h us C).get? b = some o := fun b o e => Heap.get?_push_of_some _ (Heap.get?_push_of_some _ e)
  have e1 := up _ _ hC
  have e2 : (two h us C).get? (h.objs.size + 1) = some (HandSPX.excO C h.objs.size) := by unfold two; heap_get
  have e3 : (Value.ref C :: bm).contains (.ref C) = true := by simp
  have e4 := hi.keeps up
  have e5 := (hb (.ref (h.objs.size + 1))).keeps up
  unfold isInstance
  repeat (first
    | with_reducible refine wpAny_loadPart_at e2 ?_
    | (with_reducible refine wpAny_isSubtype_exc e1 ?_; rw [e3])
    | wp_step)
  show wpAny _ _ (typeLookup (.ref C) _) _ _ _
  refine e4.at ?_
  refine wpAny_holding (wpAny_bind (e5.at ?_))
  refine wpAny_bind (wpAny_call (codeAny_mono hq fun r s' z => ?_))
  rcases r with e | (v | _ | _ | _) <;> first | exact z | exact z.elim | skip
  obtain ⟨rfl, z⟩ := z
  first
    | exact wpAny_pure (wpAny_pure z)
    | (wp_walk; exact z)
theorem call_kw (F : ExcBaseFacts B newId initId bmB) (hT : ∀ Y : String, bm.contains (.type Y) = bmB.contains (.type Y)) {us : List Value} {kw : List (Str × Value)} {fI : Addr}
    (hC : h.get? C = some (excClassObj nm q C N bs bm hdct sn sub ab col dd k0 k1 k2 k3 k5 newId)) (hi : Looks (model prog w) h (typeLookup (.ref C) "__init__") (some (.ref fI)))
    (hb : ∀ self, Looks (model prog w) h (bindSpecial (.ref fI) self) (.ref fI, [self])) (hus : us.length ≤ sizeLine)
    (hq : codeAny (model prog w) (A.under (.builtin "type.__call__" ⟨.ref C :: us, kw⟩)) (.call (.ref fI) ⟨.ref (h.objs.size + 1) :: us, kw⟩) (InitBack (h.objs.size + 1) R) ⟨two h us C, g, d, t, os⟩) :
    codeAny (model prog w) A (.call (.ref C) ⟨us, kw⟩) R ⟨h, g, d, t, os⟩ := by
  have c1 := tc_lookup
  have c2 := tc_bind (.ref C)
  have c3 : (⟨h, g, d, t, os⟩ : Shared).TypeIs (.ref C) "type" := ⟨_, hC, rfl⟩
  refine codeAny_of_tree ?_
  show wpAny _ _ (callAny (.ref C) _) _ _ _
  repeat (any_goals (first | assumption | with_reducible refine wpAny_loadPart_at hC ?_ | wp_step))
  refine ⟨rfl, ?_⟩
  refine codeAny_call_builtin_at (Code.quiet_builtin _ (by decide +kernel)) entry_typeCall ?_
  refine chk_call hC (typ_kw F hT hC hi hb hus ?_)
  refine codeAny_mono hq fun r s' z => ?_
  rcases r with e | (v | _ | _ | _) <;> exact z
end
end EM

/-! part EM2 -/
set_option Elab.async false
set_option linter.all false
set_option maxRecDepth 100000
set_option maxHeartbeats 2000000
set_option autoImplicit false
namespace EM
open PySem PySem.W PySem.Calls PyProof.Rows PySem.Spec
abbrev iBody (f m : Str) (j : Nat) (p0 p1 p2 p3 p4 p5 q0 q1 q2 q3 : Pos) : List Stmt :=
  [.Expr (.Call (.Attribute (.Call (.Name "super" p0) [] [] p1) "__init__" p2) [.Constant (.str m) j p3] [] p4) p5, .Assign [.Attribute (.Name "self" q0) f q1] (.Name f q2) q3]
abbrev iScope (f : Str) : Scope := { kind := .function, names := [("self", .local), (f, .local), ("__class__", .free), ("super", .globalImplicit)], isGenerator := false, isCoroutine := false, more := [] }
abbrev iPar (f : Str) (a0 a1 : Pos) : Arguments := { posonlyargs := [], args := [{ arg := "self", annotation := none, pos := a0 }, { arg := f, annotation := none, pos := a1 }], vararg := none, kwonlyargs := [], kw_defaults := [], kwarg := none, defaults := [] }
/-- the names of the attributes -/
def AttrN (f : Str) : Prop := f = "given" ∨ f = "index" ∨ f = "line"
theorem sc_no {f : Str} (hf : AttrN f) : ∀ x ∈ (iScope f).names, x.2 ≠ .cell := by rcases hf with rfl | rfl | rfl <;> decide
theorem sc_self {f : Str} (hf : AttrN f) : (iScope f).names.lookup ("self" : Str) = some NameKind.local := by rcases hf with rfl | rfl | rfl <;> decide
theorem sc_f {f : Str} (hf : AttrN f) : (iScope f).names.lookup f = some .local := by rcases hf with rfl | rfl | rfl <;> decide
theorem sc_cl {f : Str} (hf : AttrN f) : (iScope f).names.lookup ("__class__" : Str) = some .free := by rcases hf with rfl | rfl | rfl <;> decide
theorem sc_su {f : Str} (hf : AttrN f) : (iScope f).names.lookup ("super" : Str) = some .globalImplicit := by rcases hf with rfl | rfl | rfl <;> decide
theorem f_dbg {f : Str} (hf : AttrN f) : (f == ("__debug__" : Str)) = false := by rcases hf with rfl | rfl | rfl <;> decide
theorem f_self {f : Str} (hf : AttrN f) : (("self" : Str) == f) = false ∧ (f == ("self" : Str)) = false := by rcases hf with rfl | rfl | rfl <;> decide
theorem he_ok {env : Env} {m : Str} {j : Nat} {p0 p1 p2 p3 p4 : Pos} (hl : (p2.endLine == p4.line) = true) : eval (.Call (.Attribute (.Call (.Name "super" p0) [] [] p1) "__init__" p2) [.Constant (.str m) j p3] [] p4) env = (do
      let ov ← attributeBase (.Call (.Name "super" p0) [] [] p1) "__init__" env (eval (.Call (.Name "super" p0) [] [] p1) env)
      standAt p2.atName
      let (f, first) ← holding [ov] (getMethod ov "__init__" (do return (← importBound (.Call (.Name "super" p0) [] [] p1) env).getD true))
      callWith p4 f first (backTo p4 (starEach [.Constant (.str m) j p3] env)) []) := by
  have e : methodCallForm 1 (backTo p4 (starEach [.Constant (.str m) j p3] env)) [] = true := rfl
  have e2 : methodCallPos true (.Call (.Name "super" p0) [] [] p1) env p2 p4 = pure p4 := by
    unfold methodCallPos
    rw [hl]
    rfl
  show (do
    let ov ← attributeBase (.Call (.Name "super" p0) [] [] p1) "__init__" env (eval (.Call (.Name "super" p0) [] [] p1) env)
    standAt p2.atName
    methodCall (.Call (.Name "super" p0) [] [] p1) "__init__" p2 p4 env ov 1 (backTo p4 (starEach [.Constant (.str m) j p3] env)) []) = _
  unfold methodCall
  rw [e, e2]
  simp only [pure_bind]
  rfl
section
variable {prog : Program} {w : World} {A : Around} {E : Value → Shared → Prop} {h : Heap} {g : Array GenState} {d : Drawn} {t : Nat} {os : OsState}
theorem bound_init {C e t0 ua : Addr} {nm q : Str} {N : Addr} {bs bm : List Value} {sn : List Str} {sub : List Value} {ab : Bool} {col : Option Bool} {dd : Option Addr} {k0 k1 k2 k3 k5 : Option Value} {us : List Value} {Q : Value → Shared → Prop}
    (hC : h.get? C = some (excClassObj nm q C N bs bm true sn sub ab col dd k0 k1 k2 k3 k5 "ValueError.__new__")) (he : h.get? e = some (HandSPX.excO C t0)) (hu : h.get? ua = some (kxs_mw "ValueError.__init__" e)) (hz : us.length ≤ sizeLine)
    (hq : ∀ h', (∀ b o, b ≠ e → h.get? b = some o → h'.get? b = some o) → h'.get? e = some (HandSPX.excO C h.objs.size) → Q .none ⟨h', g, d, t, os⟩) : wpAny (model prog w) A (call (.ref ua) us) Q E ⟨h, g, d, t, os⟩ := by
  refine wpAny_call (codeAny_of_tree ?_)
  show wpAny _ A.in1 (callAny (.ref ua) ⟨us, []⟩) _ _ _
  simp only [callAny]
  refine wpAny_bind (wpAny_load hu ?_)
  have e1 : (Value.type "method-wrapper" == Value.type "method" || Value.type "method-wrapper" == Value.type "builtin_function_or_method" || Value.type "method-wrapper" == Value.type "method-wrapper") = true := by decide
  simp only [kxs_mw, e1, if_true]
  refine KFB.if_so (by decide) ?_
  refine wpAny_bind (check_bound_init F.excBase_ValueError.toExcCallFacts hC he rfl ?_)
  refine wpAny_bind (wpAny_pure (wpAny_pure ?_))
  refine ⟨plainId_quiet F.excBase_ValueError.init.plain _, codeAny_builtin F.excBase_ValueError.initEntry ?_⟩
  exact exc_init_tree (cls := .ref C) (t0 := t0) (dv := none) (c2 := .none) (c3 := .none) (b4 := .bool false) he hz fun h' k a _ => hq h' k a
end
section
variable {prog : Program} {w : World} {A : Around} {R : Result → Shared → Prop} {K : Frag} {mg mb : Str → Option Value}
theorem ns_keep {a : Addr} {m : Str → Option Value} {h h' : Heap} (n : h.Ns a m) (k : ∀ b o, h.get? b = some o → h'.get? b = some o) : h'.Ns a m := by
  obtain ⟨o, es, ep, e, r⟩ := n
  exact ⟨o, es, ep, k _ _ e, r⟩
theorem init_run {C fI cc cda e t0 : Addr} {f m qual : Str} {j : Nat} {p0 p1 p2 p3 p4 p5 q0 q1 q2 q3 a0 a1 : Pos} {kV doc pm ct u oc ccl cl : Value} {an od cdd cld : Option Addr} {osl ccs csl : Array (Option Value)} {vs : Array Value} {file : Str} {tf : Tok} {args : Args} {s : Shared}
    (hf : AttrN f) (hl : (p2.endLine == p4.line) = true) (X : K.In s.heap) (glob : s.heap.Ns mainGlobals mg) (bns : s.heap.Ns builtinsNs mb) (boot : ∀ y : Str, y ≠ "__name__" → mb y = bootBuiltins y) (lim : s.heap.NoLimit) (room : A.depth < recursionLimit)
    (lf : K.lookup fI = some ⟨oc, od, .func (ksFn "__init__" qual (iPar f a0 a1) (iBody f m j p0 p1 p2 p3 p4 p5 q0 q1 q2 q3) (iScope f) .none kV doc pm an (.ref cda) ct cc), osl⟩) (lc : codeIn K (.ref cda) qual = true)
    (lcd : K.lookup cda = some ⟨ccl, cdd, .fields vs, ccs⟩) (lvs : vs[2]? = some (.str file tf)) (lfile : ((prog.main.file : Str) == file) = true) (lcc : K.lookup cc = some ⟨cl, cld, .cell (some (.ref C)), csl⟩)
    (hsub : mroIn K C (.ref C) = some true) (hB : subIn K (.ref C) (.type "ValueError") = some true) (hsup : ks_superIn K C C "__init__" = some (some (.builtin "ValueError.__init__")))
    (hop : nsIn K cStatics "thirdparty.any" = some none) (hsn : nsIn K mainGlobals "super" = some none) (htop : (prog.main.scope.names.lookup ("super" : Str)).isSome = false)
    (hsa : findIn K (.ref C) "__setattr__" = some (some (.builtin "object.__setattr__"))) (hfa : findIn K (.ref C) f = some none) (hcls : ∃ nm q N bs bm sn sub ab col dd k0 k1 k2 k3 k5, K.lookup C = some (excClassObj nm q C N bs bm true sn sub ab col dd k0 k1 k2 k3 k5 "ValueError.__new__") ∧ HandSPX.refsVE bm = true)
    (he : s.heap.get? e = some (HandSPX.excO C t0)) (hKe : K.lookup e = none) (bind : BindsTo s (ksFn "__init__" qual (iPar f a0 a1) (iBody f m j p0 p1 p2 p3 p4 p5 q0 q1 q2 q3) (iScope f) .none kV doc pm an (.ref cda) ct cc) args [("self", .ref e), (f, u)])
    (hq : ∀ h' dx t1 tk', (∀ b o, b ≠ e → s.heap.get? b = some o → h'.get? b = some o) → dx ≠ e → s.heap.objs.size ≤ dx → h'.get? e = some ({ cls := .ref C, dict := some dx, data := .fields #[.ref t1, .none, .none, .none, .bool false, .none] } : Obj) →
      h'.Ns1 dx (fun y => if y = f then some u else none) → R (.ok (.ret .none)) { s with heap := h', toks := tk' }) : codeAny (model prog w) A (.call (.ref fI) args) R s := by
  obtain ⟨hp, g, d, t, os⟩ := s
  refine ks_codeAny_call_defAt (fd := ksFn "__init__" qual (iPar f a0 a1) (iBody f m j p0 p1 p2 p3 p4 p5 q0 q1 q2 q3) (iScope f) .none kV doc pm an (.ref cda) ct cc) (body := iBody f m j p0 p1 p2 p3 p4 p5 q0 q1 q2 q3) (binds := [("self", .ref e), (f, u)])
    room (X _ _ lf) rfl lim (codeRec_of X lc) rfl bind (sc_no hf) (fun x hx => ?_) (fun h0 hns hk => ?_)
  · rcases List.mem_cons.mp hx with rfl | hx
    · exact sc_self hf
    · obtain rfl := List.mem_singleton.mp hx
      exact sc_f hf
  · have he0 := hk _ _ he
    have X0 : K.In h0 := fun b o q => hk _ _ (X b o q)
    have mself : ([("self", Value.ref e), (f, u)] : List (Str × Value)).reverse.lookup ("self" : Str) = some (.ref e) := by
      simp [List.lookup, (f_self hf).1]
    have mf : ([("self", Value.ref e), (f, u)] : List (Str × Value)).reverse.lookup f = some u := by
      simp [List.lookup]
    obtain ⟨nm, q, N, bs, bm, sn, sub, ab, col, dd, k0, k1, k2, k3, k5, hC, hbm⟩ := hcls
    have hcd : clsIn K C = some { name := nm, bases := bs, mro := .ref C :: bm, ns := N, qualname := q, hasDict := true, slotNames := sn, subclasses := sub, abstract := ab, collection := col, hasDel := false } := by unfold clsIn; rw [hC] <;> rfl
    have hC1 := X0 _ _ hC
    refine ks_wpAt_execs_cons (ks_wpAt_Expr_any (ks_wpAt_MethodCall (he := he_ok hl) (ks_wpAt_super_base (sc_su hf) (sc_cl hf) (by decide) rfl (X0 _ _ lf) rfl rfl rfl (X0 _ _ lcd) rfl lvs lfile htop ?_)))
    refine ks_loadName_global rfl (sc_su hf) (loadGlobal_builtin (ns_keep glob hk) (mg_none_of X glob hsn) (ns_keep bns hk) ((boot _ (by decide)).trans (by decide +kernel : bootBuiltins "super" = some (.type "super"))) ⟨rfl, ?_⟩)
    refine wpAny_loadName_free rfl (sc_cl hf) rfl ⟨_, X0 _ _ lcc, rfl⟩ ?_
    refine wpAny_loadName_local rfl (sc_self hf) hns mself ?_
    refine ks_wpAny_isType_cls hC1 rfl ⟨rfl, ?_⟩
    refine ks_wpAny_call_super hC1 rfl he0 rfl (fun c z => by cases z) (looks_mroIn X0 hsub) (fun h1 hso k1' => ?_)
    have X1 : K.In h1 := fun b o q => k1' _ _ (X0 b o q)
    have he1 := k1' _ _ he0
    have hC2 := X1 _ _ hC
    have hxC : e ≠ C := fun z => by
      rw [z, hC2] at he1
      cases he1
    have LT : Looks (model prog w) h1 (typeOf (.ref e)) (.ref C) := fun A' Q' E' s' k q => wpAny_typeOf_ref (k _ _ he1) q
    have LI : Looks (model prog w) h1 (isInstance (.ref e) (.type "ValueError")) true := LT.andThen (looks_subIn X1 hB)
    have LM : Looks (model prog w) h1 (mroOf (.ref C)) (.ref C :: bm) := fun A' Q' E' s' k q => wpAny_bind ((looks_clsIn X1 hcd) A' _ E' s' k (wpAny_pure q))
    unfold ks_superIn at hsup
    rw [hcd] at hsup
    refine kxs_getMethod kxs_ValueError hso (looks_opaque X1 hop) LM rfl X1 hsup LI hxC (by decide) ?_
    have k2' : ∀ b o, h1.get? b = some o → (h1.push (kxs_mw "ValueError.__init__" e)).get? b = some o := fun b o z => Heap.get?_push_of_some _ z
    refine kxs_callWith (i := "ValueError.__init__") (x := e) rfl (evalArgs_plain (spliced_cons (wpAny_Constant_str (k := j) (pos := p3) (spliced_nil ⟨Heap.get?_push_size _ rfl, ?_⟩))))
    refine bound_init (k2' _ _ hC2) (k2' _ _ he1) (Heap.get?_push_size _ rfl) (by show 1 ≤ sizeLine; rw [sizeLine_eq]; omega) (fun h2 k3' he2 => ?_)
    have X2 : K.In h2 := fun b o q => k3' _ _ (fun z => by rw [z, hKe] at q; cases q) (k2' _ _ (X1 b o q))
    have up : ∀ b o, b ≠ e → hp.get? b = some o → h2.get? b = some o := fun b o z q => k3' _ _ z (k2' _ _ (k1' _ _ (hk _ _ q)))
    have ltE : e < hp.objs.size := Heap.lt_size he
    have hns2 : h2.Ns hp.objs.size (fun y => ([("self", Value.ref e), (f, u)] : List (Str × Value)).reverse.lookup y) := by
      obtain ⟨o, es, ep, z, r⟩ := hns
      exact ⟨o, es, ep, k3' _ _ (fun z => absurd ltE (by rw [← z]; exact Nat.lt_irrefl _)) (k2' _ _ (k1' _ _ z)), r⟩
    refine ks_wpAt_execs_cons (ks_wpAt_Assign_Attr (_root_.PySem.wpAt_of_wpAny (wpAny_Name (wpAny_loadName_local rfl (sc_f hf) hns2 mf ?_) (f_dbg hf))))
    refine wpAny_Name (wpAny_loadName_local rfl (sc_self hf) hns2 mself ?_) (by decide)
    refine set_plain X2 (ox := HandSPX.excO C (h1.push (kxs_mw "ValueError.__init__" e)).objs.size) (od := none) ⟨he2, rfl, rfl, trivial⟩ hsa ?_
    refine HandSPX.exc_osa X2 he2 hcd (show HandSPX.refsVE (.ref C :: bm) = true from hbm) rfl hfa (fun h3 tk' dx k4' hdx hne he3 hn3 => ?_)
    refine _root_.PySem.wpAt_of_wpAny (wpAny_execs_nil ?_)
    have hsz : hp.objs.size ≤ dx := by
      obtain ⟨o, es, ep, z, r⟩ := hns2
      exact Nat.le_of_lt (Nat.lt_of_lt_of_le (Heap.lt_size z) hdx)
    exact hq h3 dx _ tk' (fun b o z q => k4' _ _ z (up _ _ z q)) hne hsz he3 hn3
end
end EM

/-! part EM3 -/
set_option Elab.async false
set_option linter.all false
set_option maxRecDepth 100000
set_option maxHeartbeats 2000000
set_option autoImplicit false
namespace EM
open PySem PySem.W PySem.Calls PyProof.Rows PySem.Spec
/-- an own class of errors with the attribute f, told by the written part -/
structure MkC (P : Program) (K : Frag) (C : Addr) (f : Str) : Prop where
  nm : AttrN f
  ini : ∃ (fI cc cda : Addr) (m qual : Str) (j : Nat) (p0 p1 p2 p3 p4 p5 q0 q1 q2 q3 a0 a1 : Pos) (kV doc pm ct oc ccl cl : Value) (an od cdd cld : Option Addr) (osl ccs csl : Array (Option Value)) (vs : Array Value) (file : Str) (tf : Tok),
    (p2.endLine == p4.line) = true ∧ findIn K (.ref C) "__init__" = some (some (.ref fI)) ∧ typeIn K (.ref fI) = some (.type "function") ∧
    K.lookup fI = some ⟨oc, od, .func (ksFn "__init__" qual (iPar f a0 a1) (iBody f m j p0 p1 p2 p3 p4 p5 q0 q1 q2 q3) (iScope f) .none kV doc pm an (.ref cda) ct cc), osl⟩ ∧ codeIn K (.ref cda) qual = true ∧
    K.lookup cda = some ⟨ccl, cdd, .fields vs, ccs⟩ ∧ vs[2]? = some (.str file tf) ∧ ((P.main.file : Str) == file) = true ∧ K.lookup cc = some ⟨cl, cld, .cell (some (.ref C)), csl⟩
  cls : ∃ nm q N bs bm sn sub ab col dd k0 k1 k2 k3 k5, K.lookup C = some (excClassObj nm q C N bs bm true sn sub ab col dd k0 k1 k2 k3 k5 "ValueError.__new__") ∧ HandSPX.refsVE bm = true
  sub : mroIn K C (.ref C) = some true
  isV : subIn K (.ref C) (.type "ValueError") = some true
  sup : ks_superIn K C C "__init__" = some (some (.builtin "ValueError.__init__"))
  opq : nsIn K cStatics "thirdparty.any" = some none
  sgl : nsIn K mainGlobals "super" = some none
  top : (P.main.scope.names.lookup ("super" : Str)).isSome = false
  sa : findIn K (.ref C) "__setattr__" = some (some (.builtin "object.__setattr__"))
  fa : findIn K (.ref C) f = some none
  kp : keepIn K (.ref C) = true
  exB : subIn K (.ref C) (.type "BaseException") = some true
  tyC : typeIn K (.ref C) = some (.type "type")
section
variable {prog : Program} {w : World} {A : Around} {K : Frag} {mg mb : Str → Option Value} {C : Addr} {f : Str} {s : Shared}
theorem mk_raw {us : List Value} {kw : List (Str × Value)} {u : Value} {Q : Value → Shared → Prop} {E : Value → Shared → Prop} (T : MkC prog K C f) (X : K.In s.heap) (glob : s.heap.Ns mainGlobals mg) (bns : s.heap.Ns builtinsNs mb)
    (boot : ∀ y : Str, y ≠ "__name__" → mb y = bootBuiltins y) (lim : s.heap.NoLimit) (room : A.depth + 3 < recursionLimit) (hw : (us = [u] ∧ kw = []) ∨ (us = [] ∧ kw = [(f, u)]))
    (hq : ∀ h' e dx t1 tk', (∀ b o, s.heap.get? b = some o → h'.get? b = some o) → s.heap.objs.size ≤ e → s.heap.objs.size ≤ dx → dx ≠ e → h'.get? e = some ({ cls := .ref C, dict := some dx, data := .fields #[.ref t1, .none, .none, .none, .bool false, .none] } : Obj) →
      h'.Ns1 dx (fun y => if y = f then some u else none) → Q (.ref e) { s with heap := h', toks := tk' }) : wpAny (model prog w) A (call (.ref C) us kw) Q E s := by
  obtain ⟨fI, cc, cda, m, qual, j, p0, p1, p2, p3, p4, p5, q0, q1, q2, q3, a0, a1, kV, doc, pm, ct, oc, ccl, cl, an, od, cdd, cld, osl, ccs, csl, vs, file, tf, hl, hi, ht, lf, lc, lcd, lvs, lfile, lcc⟩ := T.ini
  obtain ⟨nm, q, N, bs, bm, sn, sub, ab, col, dd, k0, k1, k2, k3, k5, hC, hbm⟩ := T.cls
  obtain ⟨hp, g, d, t, os⟩ := s
  have hz : us.length ≤ sizeLine := by
    rcases hw with ⟨rfl, _⟩ | ⟨rfl, _⟩
    · show 1 ≤ sizeLine; rw [sizeLine_eq]; omega
    · exact Nat.zero_le _
  have up : ∀ b o, hp.get? b = some o → (two hp us C).get? b = some o := fun b o e => Heap.get?_push_of_some _ (Heap.get?_push_of_some _ e)
  have he : (two hp us C).get? (hp.objs.size + 1) = some (HandSPX.excO C hp.objs.size) := by unfold two; heap_get
  have Ke : K.lookup (hp.objs.size + 1) = none := by
    cases z : K.lookup (hp.objs.size + 1) with
    | none => rfl
    | some o => exact absurd (Heap.lt_size (X _ _ z)) (by show ¬ (hp.objs.size + 1 < hp.objs.size); omega)
  refine wpAny_call (call_kw F.excBase_ValueError (fun Y => HandSPX.refsVE_contains Y bm hbm) (X _ _ hC) (looks_findIn X hi) (fun self => bind_fn X self ht) hz ?_)
  refine init_run (e := hp.objs.size + 1) (t0 := hp.objs.size) (u := u) T.nm hl (fun b o z => up _ _ (X _ _ z)) (ns_keep glob up) (ns_keep bns up) boot (lim.keeps up) ?_ lf lc lcd lvs lfile lcc T.sub T.isV T.sup T.opq T.sgl T.top T.sa T.fa
    ⟨nm, q, N, bs, bm, sn, sub, ab, col, dd, k0, k1, k2, k3, k5, hC, hbm⟩ he Ke ?_ (fun h' dx t1 tk' k hne hdx he' hn => ?_)
  · rw [L2.make_depth]; omega
  · rcases hw with ⟨rfl, rfl⟩ | ⟨rfl, rfl⟩
    · refine .of_eq ?_
      rcases T.nm with rfl | rfl | rfl <;> rfl
    · refine .of_eq ?_
      rcases T.nm with rfl | rfl | rfl <;> rfl
  · have hs2 : hp.objs.size ≤ dx := Nat.le_trans (by unfold two; rw [Heap.size_push, Heap.size_push]; omega) hdx
    exact ⟨rfl, hq h' _ dx t1 tk' (fun b o z => k b o (fun w => absurd (Heap.lt_size z) (by rw [w]; show ¬ (hp.objs.size + 1 < hp.objs.size); omega)) (up _ _ z)) (Nat.le_succ _) hs2 hne he' hn⟩
end
section
open L2
variable {X : Cx} {pins : List (Addr × Obj)} {σ : L2.St} {H : Hp} {s : Shared} {C : Addr} {f : Str} {u : Value} {y : V} {us : List Value} {kw : List (Str × Value)}
theorem xd_ok {P : Program} {w : World} {H : Hp} {h : Heap} {dx : Addr} {fs : List (Str × V)} {mA : Str → Option Value} (hn : h.Ns1 dx mA) (r : ∀ g, RelO (fs.lookup g) (mA g)) : ObjOk P w H h dx (.xd fs) := ⟨mA, hn, r⟩
theorem rel1 {f : Str} {y : V} {u : Value} (ry : RelV y u) (g : Str) : RelO ([(f, y)].lookup g) (if g = f then some u else none) := relO_put (fs := []) (mA := fun _ => none) ry (fun _ => True.intro) g
theorem mk_two {h' : Heap} {e dx : Addr} {t1 : Addr} {tk' : Nat} {o1 o2 : HO} (I : Inv X pins σ H s) (k : ∀ b o, s.heap.get? b = some o → h'.get? b = some o) (he : s.heap.objs.size ≤ e) (hd : s.heap.objs.size ≤ dx) (hne : dx ≠ e)
    (hge : h'.get? e = some ({ cls := .ref C, dict := some dx, data := .fields #[.ref t1, .none, .none, .none, .bool false, .none] } : Obj)) (hn : h'.Ns1 dx (fun y => if y = f then some u else none)) (ry : RelV y u) :
    H e = none ∧ H dx = none ∧ Inv X pins σ (upd (upd H dx (exd dx [(f, y)])) e (exo e C (some dx))) { s with heap := h', toks := tk' } ∧
      ∃ G : Heap, Inv X pins σ (upd H dx (.xd [(f, y)])) { s with heap := G, toks := tk' } ∧ (∀ b o, G.get? b = some o → h'.get? b = some o) ∧ G.get? e = none ∧ upd H dx (.xd [(f, y)]) e = none := by
  have h1 : H e = none := I.hok.fresh he
  have h2 : H dx = none := I.hok.fresh hd
  obtain ⟨G, g1, g2⟩ := restrict h' fun b => decide (b ≠ e)
  have gk : ∀ b, b ≠ e → G.get? b = h'.get? b := fun b hb => g1 b (decide_eq_true hb)
  have ge : G.get? e = none := g2 e (by simp)
  have gs : ∀ b o, G.get? b = some o → h'.get? b = some o := fun b o z => by
    by_cases hb : b = e
    · rw [hb, ge] at z; cases z
    · rw [← gk b hb]; exact z
  have kG : ∀ b o, s.heap.get? b = some o → G.get? b = some o := fun b o z => by
    rw [gk b (fun w => absurd (Heap.lt_size z) (by rw [w]; exact Nat.not_lt.mpr he))]
    exact k b o z
  have hd0 : s.heap.get? dx = none := Heap.get?_none_of_le hd
  have nG : G.Ns1 dx (fun y => if y = f then some u else none) := hn.at fun o z => (gk dx hne).trans z
  have I1 : Inv X pins σ (upd H dx (exd dx [(f, y)])) { s with heap := G, toks := tk' } := I.laidN kG hd0 h2 (exd_ok nG (rel1 ry))
  have I1' : Inv X pins σ (upd H dx (.xd [(f, y)])) { s with heap := G, toks := tk' } := I.laidN kG hd0 h2 (xd_ok nG (rel1 ry))
  have n1 : upd H dx (exd dx [(f, y)]) e = none := by rw [upd_ne (Ne.symm hne)]; exact h1
  have n2 : upd H dx (.xd [(f, y)]) e = none := by rw [upd_ne (Ne.symm hne)]; exact h1
  exact ⟨h1, h2, I1.laidN (t' := tk') gs ge n1 (exo_ok hge), G, I1', gs, ge, n2⟩
/-- C(x), C(f=x): a new error -/
theorem mk_inv {Q : VK} (T : MkC X.prog X.K C f) (I : Inv X pins σ H s) (hr : Room 1 X.A) (ry : RelV y u) (hw : (us = [u] ∧ kw = []) ∨ (us = [] ∧ kw = [(f, u)]))
    (q : ∀ e dx, H e = none → H dx = none → dx ≠ e → Q (.ref e) (upd (upd H dx (exd dx [(f, y)])) e (exo e C (some dx)))) : wpAny (model X.prog X.w) X.A (call (.ref C) us kw) (EP X pins σ Q) X.xe s := by
  obtain ⟨mb, nb, boot⟩ := I.ok.mod.blt
  refine mk_raw T I.kIn (ns_keep I.ok.mod.glob I.bk) (ns_keep nb I.bk) boot I.nolimit (by have := hr.dp; omega) hw fun h' e dx t1 tk' k he hd hne hge hn => ?_
  obtain ⟨h1, h2, J, _⟩ := mk_two (o1 := .lst []) (o2 := .lst []) (tk' := tk') I k he hd hne hge hn ry
  exact ⟨.ref e, _, J, rfl, q e dx h1 h2 hne⟩
theorem mk_mkp {Q : XK} (T : MkC X.prog X.K C f) (I : Inv X pins σ H s) (hr : Room 1 X.A) (ry : RelV y u) (hw : (us = [u] ∧ kw = []) ∨ (us = [] ∧ kw = [(f, u)]))
    (q : ∀ dx, H dx = none → Q (.ref C) (some dx) (upd H dx (.xd [(f, y)]))) : wpAny (model X.prog X.w) X.A (call (.ref C) us kw) (MkP X pins σ Q) X.xe s := by
  obtain ⟨mb, nb, boot⟩ := I.ok.mod.blt
  refine mk_raw T I.kIn (ns_keep I.ok.mod.glob I.bk) (ns_keep nb I.bk) boot I.nolimit (by have := hr.dp; omega) hw fun h' e dx t1 tk' k he hd hne hge hn => ?_
  obtain ⟨h1, h2, _, G, J, gs, ge, n2⟩ := mk_two (o1 := .lst []) (o2 := .lst []) (tk' := tk') I k he hd hne hge hn ry
  exact ⟨e, _, _, { s with heap := G, toks := tk' }, _, .ref C, some dx, rfl, J, gs, ge, hge, ⟨rfl, rfl⟩, rfl, rfl, n2, rfl, I.bare, raises_own T.exB T.tyC, q dx h2⟩
end
end EM

/-! part DV -/
set_option Elab.async false
set_option linter.all false
set_option maxRecDepth 100000
set_option autoImplicit false
/-! Values as pure data over the hand layer: what an expression, a test, a statement comes to, without the heap. -/
namespace DV
open PySem PySem.Spec L2

/-- pure data -/
inductive D where
  | non | bl (b : Bool) | int (i : Int) | str (x : Str) | tup (ds : List D) | lst (ds : List D)
  /-- a dict with text or int keys; an own error of the class at C whose attribute f holds x; one without attributes -/
  | dct (ks : List Key) (ds : List D) | err (C : Addr) (f : Str) (x : D) | erb (C : Addr)
/-- what a slot holds: data, or the j-th of the lists that change -/
inductive S where
  | d (x : D) | m (j : Nat)
  /-- the caught error x, an object at a of the class cls with the dict d -/
  | ex (a : Addr) (cls : Value) (d : Option Addr) (x : D)

abbrev Mu := List (List D)
abbrev Rho := List (Option S)

def hide (ad : List Addr) (H : Hp) : Hp := fun a => if a ∈ ad then none else H a
theorem hide_in {ad : List Addr} {H : Hp} {a : Addr} (h : a ∈ ad) : hide ad H a = none := if_pos h
theorem hide_out {ad : List Addr} {H : Hp} {a : Addr} (h : a ∉ ad) : hide ad H a = H a := if_neg h
theorem hide_some {ad : List Addr} {H : Hp} {a : Addr} {o : HO} (h : hide ad H a = some o) : a ∉ ad ∧ H a = some o := by
  unfold hide at h
  by_cases q : a ∈ ad
  · rw [if_pos q] at h; cases h
  · rw [if_neg q] at h; exact ⟨q, h⟩

mutual
inductive Rp (K : PySem.W.Frag) (F : Hp) : V → D → Prop
  | non : Rp K F .non .non
  | bl (b : Bool) : Rp K F (.bl b) (.bl b)
  | int (i : Int) : Rp K F (.int i) (.int i)
  | str (x : Str) : Rp K F (.str x) (.str x)
  | tup {a : Addr} {xs : List V} {ds : List D} : SqT K F a xs → RpA K F xs ds → Rp K F (.ref a) (.tup ds)
  | lst {a : Addr} {xs : List V} {ds : List D} : SqL K F a xs → RpA K F xs ds → Rp K F (.ref a) (.lst ds)
  | dct {a : Addr} {kvs : List (Key × V)} {ds : List D} : F a = some (.dK kvs) → RpA K F (kvs.map (·.2)) ds → Rp K F (.ref a) (.dct (kvs.map (·.1)) ds)
  | err {a dx C : Addr} {f : Str} {v : V} {x : D} : F a = some (exo a C (some dx)) → F dx = some (exd dx [(f, v)]) → Rp K F v x → Rp K F (.ref a) (.err C f x)
  | erb {a C : Addr} : F a = some (ExO (.ref C) a) → Rp K F (.ref a) (.erb C)
inductive RpA (K : PySem.W.Frag) (F : Hp) : List V → List D → Prop
  | nil : RpA K F [] []
  | cons {v : V} {vs : List V} {d : D} {ds : List D} : Rp K F v d → RpA K F vs ds → RpA K F (v :: vs) (d :: ds)
end

theorem sqL_same {K : PySem.W.Frag} {H H' : Hp} {a : Addr} {xs : List V} (e : Same H H') (h : SqL K H a xs) : SqL K H' a xs := e.seq h
theorem sqT_same {K : PySem.W.Frag} {H H' : Hp} {a : Addr} {xs : List V} (e : Same H H') (h : SqT K H a xs) : SqT K H' a xs := by
  rcases h with (h | ⟨o, h⟩) | h
  · exact .inl (.inl (e _ _ h))
  · exact .inl (.inr ⟨o, e _ _ h⟩)
  · exact .inr h
mutual
theorem Rp.mono {K : PySem.W.Frag} {F F' : Hp} (e : Same F F') : ∀ {v : V} {d : D}, Rp K F v d → Rp K F' v d
  | _, _, .non => .non
  | _, _, .bl b => .bl b
  | _, _, .int i => .int i
  | _, _, .str x => .str x
  | _, _, .tup h r => .tup (sqT_same e h) (RpA.mono e r)
  | _, _, .lst h r => .lst (sqL_same e h) (RpA.mono e r)
  | _, _, .dct h r => .dct (e _ _ h) (RpA.mono e r)
  | _, _, .err h g r => .err (e _ _ h) (e _ _ g) (Rp.mono e r)
  | _, _, .erb h => .erb (e _ _ h)
theorem RpA.mono {K : PySem.W.Frag} {F F' : Hp} (e : Same F F') : ∀ {vs : List V} {ds : List D}, RpA K F vs ds → RpA K F' vs ds
  | _, _, .nil => .nil
  | _, _, .cons h r => .cons (Rp.mono e h) (RpA.mono e r)
end
theorem RpA.length {K : PySem.W.Frag} {F : Hp} : ∀ {vs : List V} {ds : List D}, RpA K F vs ds → vs.length = ds.length
  | _, _, .nil => rfl
  | _, _, .cons _ r => congrArg (· + 1) r.length
theorem RpA.get {K : PySem.W.Frag} {F : Hp} : ∀ {vs : List V} {ds : List D} {i : Nat} {d : D}, RpA K F vs ds → ds[i]? = some d → ∃ v, vs[i]? = some v ∧ Rp K F v d
  | _, _, _, _, .nil, e => by simp at e
  | _, _, 0, _, .cons h _, e => by simp at e; subst e; exact ⟨_, rfl, h⟩
  | _, _, i + 1, _, .cons _ r, e => by
    obtain ⟨v, h1, h2⟩ := RpA.get (i := i) r (by simpa using e)
    exact ⟨v, by simpa using h1, h2⟩
theorem RpA.append {K : PySem.W.Frag} {F : Hp} : ∀ {vs us : List V} {ds es : List D}, RpA K F vs ds → RpA K F us es → RpA K F (vs ++ us) (ds ++ es)
  | _, _, _, _, .nil, s => s
  | _, _, _, _, .cons h r, s => .cons h (RpA.append r s)
theorem RpA.take {K : PySem.W.Frag} {F : Hp} : ∀ {vs : List V} {ds : List D} (n : Nat), RpA K F vs ds → RpA K F (vs.take n) (ds.take n)
  | _, _, 0, _ => .nil
  | _, _, _ + 1, .nil => .nil
  | _, _, n + 1, .cons h r => .cons h (RpA.take n r)
theorem RpA.drop {K : PySem.W.Frag} {F : Hp} : ∀ {vs : List V} {ds : List D} (n : Nat), RpA K F vs ds → RpA K F (vs.drop n) (ds.drop n)
  | _, _, 0, r => r
  | _, _, _ + 1, .nil => .nil
  | _, _, n + 1, .cons _ r => RpA.drop n r
theorem RpA.set {K : PySem.W.Frag} {F : Hp} {v : V} {d : D} (h : Rp K F v d) : ∀ {vs : List V} {ds : List D} (n : Nat), RpA K F vs ds → RpA K F (vs.set n v) (ds.set n d)
  | _, _, _, .nil => .nil
  | _, _, 0, .cons _ r => .cons h r
  | _, _, n + 1, .cons q r => .cons q (RpA.set h n r)
theorem RpA.at {K : PySem.W.Frag} {F : Hp} : ∀ {vs : List V} {ds : List D} {i : Nat} {v : V}, RpA K F vs ds → vs[i]? = some v → ∃ d, ds[i]? = some d ∧ Rp K F v d
  | _, _, _, _, .nil, e => by simp at e
  | _, _, 0, _, .cons h _, e => by simp at e; subst e; exact ⟨_, rfl, h⟩
  | _, _, i + 1, _, .cons _ r, e => by
    obtain ⟨v, h1, h2⟩ := RpA.at (i := i) r (by simpa using e)
    exact ⟨v, by simpa using h1, h2⟩
theorem RpA.rep {K : PySem.W.Frag} {F : Hp} {vs : List V} {ds : List D} (r : RpA K F vs ds) : ∀ n : Nat, RpA K F (List.replicate n vs).flatten (List.replicate n ds).flatten
  | 0 => .nil
  | n + 1 => by
    rw [List.replicate_succ, List.replicate_succ, List.flatten_cons, List.flatten_cons]
    exact r.append (RpA.rep r n)
theorem RpA.ints {K : PySem.W.Frag} {F : Hp} : ∀ (ns : List Int), RpA K F (ns.map V.int) (ns.map D.int)
  | [] => .nil
  | n :: r => .cons (.int n) (RpA.ints r)

/-- an error that is raised: its class, its own dict -/
def RpX (K : PySem.W.Frag) (F : Hp) (cls : Value) (d : Option Addr) : D → Prop
  | .err C f x => cls = .ref C ∧ ∃ dd v, d = some dd ∧ F dd = some (.xd [(f, v)]) ∧ Rp K F v x
  | .erb C => cls = .ref C ∧ d = none
  | _ => False
theorem RpX.mono {K : PySem.W.Frag} {F F' : Hp} (e : Same F F') {cls : Value} {d : Option Addr} : ∀ {x : D}, RpX K F cls d x → RpX K F' cls d x
  | .err C f x, h => by
    obtain ⟨h1, dd, v, h2, h3, h4⟩ := h
    exact ⟨h1, dd, v, h2, e _ _ h3, Rp.mono e h4⟩
  | .erb C, h => h
  | .non, h => h.elim
  | .bl _, h => h.elim
  | .int _, h => h.elim
  | .str _, h => h.elim
  | .tup _, h => h.elim
  | .lst _, h => h.elim
  | .dct _ _, h => h.elim
def RpS (K : PySem.W.Frag) (F : Hp) (ad : List Addr) (v : V) : S → Prop
  | .d x => Rp K F v x
  | .m j => ∃ a, ad[j]? = some a ∧ v = .ref a
  | .ex a cls d x => v = .ref a ∧ RpX K F cls d x
inductive RpSA (K : PySem.W.Frag) (F : Hp) (ad : List Addr) : List V → List S → Prop
  | nil : RpSA K F ad [] []
  | cons {v : V} {vs : List V} {s : S} {ss : List S} : RpS K F ad v s → RpSA K F ad vs ss → RpSA K F ad (v :: vs) (s :: ss)

/-- from one heap to a later one: what does not change stands -/
structure Step (ad : List Addr) (H : Hp) (ad' : List Addr) (H' : Hp) : Prop where
  pre : ad <+: ad'
  keep : ∀ b o, b ∉ ad → H b = some o → b ∉ ad' ∧ H' b = some o
theorem Step.refl (ad : List Addr) (H : Hp) : Step ad H ad H := ⟨List.prefix_refl _, fun _ _ h e => ⟨h, e⟩⟩
theorem Step.trans {a1 a2 a3 : List Addr} {H1 H2 H3 : Hp} (s : Step a1 H1 a2 H2) (t : Step a2 H2 a3 H3) : Step a1 H1 a3 H3 :=
  ⟨s.pre.trans t.pre, fun b o h e => let ⟨h2, e2⟩ := s.keep b o h e; t.keep b o h2 e2⟩
theorem Step.same {a1 a2 : List Addr} {H1 H2 : Hp} (s : Step a1 H1 a2 H2) : Same (hide a1 H1) (hide a2 H2) := fun b o e => by
  obtain ⟨h, e1⟩ := hide_some e
  obtain ⟨h2, e2⟩ := s.keep b o h e1
  rw [hide_out h2]
  exact e2
theorem Step.new {ad : List Addr} {H : Hp} {p : Addr} {o : HO} (h : H p = none) : Step ad H ad (upd H p o) :=
  ⟨List.prefix_refl _, fun b u hb e => ⟨hb, by rw [upd_ne (ne_of_none e h)]; exact e⟩⟩
theorem Step.newM {ad : List Addr} {H : Hp} {p : Addr} {o : HO} (h : H p = none) : Step ad H (ad ++ [p]) (upd H p o) :=
  ⟨List.prefix_append _ _, fun b u hb e => ⟨by
    intro q
    rcases List.mem_append.mp q with q | q
    · exact hb q
    · rw [List.mem_singleton] at q
      exact ne_of_none e h q, by rw [upd_ne (ne_of_none e h)]; exact e⟩⟩
theorem Step.mut {ad : List Addr} {H : Hp} {p : Addr} {o : HO} (h : p ∈ ad) : Step ad H ad (upd H p o) :=
  ⟨List.prefix_refl _, fun b u hb e => ⟨hb, by rw [upd_ne (fun q : b = p => hb (by rw [q]; exact h))]; exact e⟩⟩
theorem Step.get {a1 a2 : List Addr} {H1 H2 : Hp} (s : Step a1 H1 a2 H2) {j : Nat} {a : Addr} (h : a1[j]? = some a) : a2[j]? = some a := by
  obtain ⟨t, rfl⟩ := s.pre
  rw [List.getElem?_append_left (List.getElem?_eq_some_iff.mp h).1]
  exact h
theorem RpS.step {K : PySem.W.Frag} {a1 a2 : List Addr} {H1 H2 : Hp} (s : Step a1 H1 a2 H2) {v : V} {x : S} (r : RpS K (hide a1 H1) a1 v x) : RpS K (hide a2 H2) a2 v x := by
  cases x with
  | d x => exact Rp.mono s.same r
  | m j => obtain ⟨a, h, e⟩ := r; exact ⟨a, s.get h, e⟩
  | ex a cls d x => exact ⟨r.1, r.2.mono s.same⟩
theorem RpSA.step {K : PySem.W.Frag} {a1 a2 : List Addr} {H1 H2 : Hp} (s : Step a1 H1 a2 H2) : ∀ {vs : List V} {ss : List S}, RpSA K (hide a1 H1) a1 vs ss → RpSA K (hide a2 H2) a2 vs ss
  | _, _, .nil => .nil
  | _, _, .cons r t => .cons (r.step s) (RpSA.step s t)

/-- the lists that change, as they stand -/
structure RpM (K : PySem.W.Frag) (H : Hp) (ad : List Addr) (μ : Mu) : Prop where
  len : ad.length = μ.length
  nd : ad.Nodup
  at_ : ∀ (j : Nat) (ds : List D), μ[j]? = some ds → ∃ (a : Addr) (xs : List V), ad[j]? = some a ∧ H a = some (.lst xs) ∧ RpA K (hide ad H) xs ds
theorem RpM.there {K : PySem.W.Frag} {H : Hp} {ad : List Addr} {μ : Mu} (m : RpM K H ad μ) {a : Addr} (h : a ∈ ad) : ∃ xs, H a = some (.lst xs) := by
  obtain ⟨j, hj, e⟩ := List.getElem_of_mem h
  have h1 : j < μ.length := by rw [← m.len]; exact hj
  obtain ⟨b, xs, q1, q2, _⟩ := m.at_ j μ[j] (List.getElem?_eq_getElem h1)
  rw [List.getElem?_eq_getElem hj, e] at q1
  cases q1
  exact ⟨xs, q2⟩
theorem RpM.fresh {K : PySem.W.Frag} {H : Hp} {ad : List Addr} {μ : Mu} (m : RpM K H ad μ) {p : Addr} (h : H p = none) : p ∉ ad := fun q => by
  obtain ⟨xs, e⟩ := m.there q
  rw [h] at e
  cases e
/-- a step that leaves the changing lists alone -/
theorem RpM.step {K : PySem.W.Frag} {H H' : Hp} {ad : List Addr} {μ : Mu} (m : RpM K H ad μ) (s : Step ad H ad H') (k : ∀ a ∈ ad, H' a = H a) : RpM K H' ad μ :=
  ⟨m.len, m.nd, fun j ds h => by
    obtain ⟨a, xs, q1, q2, q3⟩ := m.at_ j ds h
    exact ⟨a, xs, q1, by rw [k a (List.mem_of_getElem? q1)]; exact q2, q3.mono s.same⟩⟩
theorem RpM.new {K : PySem.W.Frag} {H : Hp} {ad : List Addr} {μ : Mu} (m : RpM K H ad μ) {p : Addr} {o : HO} (h : H p = none) : RpM K (upd H p o) ad μ :=
  m.step (Step.new h) fun a ha => upd_ne fun e => m.fresh h (e ▸ ha)
theorem RpM.newM {K : PySem.W.Frag} {H : Hp} {ad : List Addr} {μ : Mu} (m : RpM K H ad μ) {p : Addr} {xs : List V} {ds : List D} (h : H p = none) (r : RpA K (hide ad H) xs ds) : RpM K (upd H p (.lst xs)) (ad ++ [p]) (μ ++ [ds]) := by
  have hp := m.fresh h
  have st : Step ad H (ad ++ [p]) (upd H p (.lst xs)) := Step.newM h
  refine ⟨by rw [List.length_append, List.length_append, m.len]; rfl, ?_, fun j es q => ?_⟩
  · rw [List.nodup_append]
    exact ⟨m.nd, by simp, fun a ha b hb e => by rw [List.mem_singleton] at hb; subst hb; subst e; exact hp ha⟩
  · by_cases hj : j < μ.length
    · rw [List.getElem?_append_left hj] at q
      obtain ⟨a, ys, q1, q2, q3⟩ := m.at_ j es q
      exact ⟨a, ys, st.get q1, by rw [upd_ne (fun e : a = p => hp (by rw [← e]; exact List.mem_of_getElem? q1))]; exact q2, q3.mono st.same⟩
    · have hj2 : j = μ.length := by
        have := (List.getElem?_eq_some_iff.mp q).1
        rw [List.length_append] at this
        simp at this
        omega
      subst hj2
      rw [List.getElem?_append_right (Nat.le_refl _), Nat.sub_self] at q
      cases q
      refine ⟨p, xs, ?_, upd_same, r.mono st.same⟩
      rw [← m.len, List.getElem?_append_right (Nat.le_refl _), Nat.sub_self]
      rfl
/-- the j-th changed -/
theorem RpM.put {K : PySem.W.Frag} {H : Hp} {ad : List Addr} {μ : Mu} (m : RpM K H ad μ) {j : Nat} {a : Addr} {xs : List V} {ds : List D} (h : ad[j]? = some a) (r : RpA K (hide ad H) xs ds) : RpM K (upd H a (.lst xs)) ad (μ.set j ds) := by
  have ha := List.mem_of_getElem? h
  have st : Step ad H ad (upd H a (.lst xs)) := Step.mut ha
  refine ⟨by rw [List.length_set]; exact m.len, m.nd, fun i es q => ?_⟩
  by_cases e : j = i
  · subst e
    by_cases hl : j < μ.length
    · rw [List.getElem?_set_self hl] at q
      cases q
      exact ⟨a, xs, h, upd_same, r.mono st.same⟩
    · rw [List.getElem?_eq_none (by rw [List.length_set]; omega)] at q
      cases q
  · rw [List.getElem?_set_ne e] at q
    obtain ⟨b, ys, q1, q2, q3⟩ := m.at_ i es q
    refine ⟨b, ys, q1, ?_, q3.mono st.same⟩
    rw [upd_ne fun z => ?_]
    · exact q2
    · subst z
      obtain ⟨l1, e1⟩ := List.getElem?_eq_some_iff.mp h
      obtain ⟨l2, e2⟩ := List.getElem?_eq_some_iff.mp q1
      exact e ((List.getElem_inj m.nd).mp (e1.trans e2.symm))
/-- the last one does not change any more -/
theorem hide_less {ad : List Addr} {p : Addr} {H : Hp} : Same (hide (ad ++ [p]) H) (hide ad H) := fun b o e => by
  obtain ⟨h, e1⟩ := hide_some e
  rw [hide_out fun q => h (List.mem_append_left _ q)]
  exact e1
theorem RpM.last {K : PySem.W.Frag} {H : Hp} {ad : List Addr} {p : Addr} {μ : Mu} {ds : List D} (m : RpM K H (ad ++ [p]) (μ ++ [ds])) : RpM K H ad μ ∧ Rp K (hide ad H) (.ref p) (.lst ds) ∧ p ∉ ad := by
  have hl : ad.length = μ.length := by
    have := m.len
    rw [List.length_append, List.length_append] at this
    simpa using this
  have hp : p ∉ ad := fun q => by
    have := m.nd
    rw [List.nodup_append] at this
    exact this.2.2 p q p (by simp) rfl
  refine ⟨⟨hl, (List.nodup_append.mp m.nd).1, fun j es q => ?_⟩, ?_, hp⟩
  · have hj := (List.getElem?_eq_some_iff.mp q).1
    obtain ⟨a, xs, q1, q2, q3⟩ := m.at_ j es (by rw [List.getElem?_append_left hj]; exact q)
    rw [List.getElem?_append_left (by omega)] at q1
    exact ⟨a, xs, q1, q2, q3.mono hide_less⟩
  · obtain ⟨a, xs, q1, q2, q3⟩ := m.at_ μ.length ds (by rw [List.getElem?_append_right (Nat.le_refl _), Nat.sub_self]; rfl)
    rw [← hl, List.getElem?_append_right (Nat.le_refl _), Nat.sub_self] at q1
    cases q1
    refine .lst (xs := xs) (.inl (.inl ?_)) (q3.mono hide_less)
    rw [hide_out hp]
    exact q2

structure Sim (K : PySem.W.Frag) (H : Hp) (ad : List Addr) (ρ : Rho) (μ : Mu) (σ : St) : Prop where
  m : RpM K H ad μ
  len : ρ.length = σ.length
  e : ∀ (i : Nat) (x : S), ρ[i]? = some (some x) → ∃ v, σ[i]? = some (some v) ∧ RpS K (hide ad H) ad v x
theorem Sim.step {K : PySem.W.Frag} {H H' : Hp} {ad ad' : List Addr} {ρ : Rho} {μ μ' : Mu} {σ : St} (s : Sim K H ad ρ μ σ) (t : Step ad H ad' H') (m : RpM K H' ad' μ') : Sim K H' ad' ρ μ' σ :=
  ⟨m, s.len, fun i x h => let ⟨v, q, r⟩ := s.e i x h; ⟨v, q, r.step t⟩⟩
theorem Sim.set {K : PySem.W.Frag} {H : Hp} {ad : List Addr} {ρ : Rho} {μ : Mu} {σ : St} (s : Sim K H ad ρ μ σ) {i : Nat} {v : V} {x : S} (r : RpS K (hide ad H) ad v x) : Sim K H ad (ρ.set i (some x)) μ (σ.set i (some v)) := by
  refine ⟨s.m, by rw [List.length_set, List.length_set]; exact s.len, fun k y h => ?_⟩
  by_cases e : i = k
  · subst e
    by_cases hl : i < ρ.length
    · rw [List.getElem?_set_self hl] at h
      cases h
      exact ⟨v, by rw [List.getElem?_set_self (by rw [← s.len]; exact hl)], r⟩
    · rw [List.getElem?_eq_none (by rw [List.length_set]; omega)] at h
      cases h
  · rw [List.getElem?_set_ne e] at h
    obtain ⟨w, q, t⟩ := s.e k y h
    exact ⟨w, by rw [List.getElem?_set_ne e]; exact q, t⟩
def wipeR (ρ : Rho) : List Nat → Rho
  | [] => ρ
  | v :: vs => (wipeR ρ vs).set v none
theorem Sim.unset {K : PySem.W.Frag} {H : Hp} {ad : List Addr} {ρ : Rho} {μ : Mu} {σ : St} (s : Sim K H ad ρ μ σ) (i : Nat) : Sim K H ad (ρ.set i none) μ (σ.set i none) := by
  refine ⟨s.m, by rw [List.length_set, List.length_set]; exact s.len, fun k y h => ?_⟩
  by_cases e : i = k
  · subst e
    by_cases hl : i < ρ.length
    · rw [List.getElem?_set_self hl] at h
      cases h
    · rw [List.getElem?_eq_none (by rw [List.length_set]; omega)] at h
      cases h
  · rw [List.getElem?_set_ne e] at h
    obtain ⟨w, q, t⟩ := s.e k y h
    exact ⟨w, by rw [List.getElem?_set_ne e]; exact q, t⟩
theorem Sim.wipe {K : PySem.W.Frag} {H : Hp} {ad : List Addr} {ρ : Rho} {μ : Mu} {σ : St} (s : Sim K H ad ρ μ σ) : ∀ vs : List Nat, Sim K H ad (wipeR ρ vs) μ (L2.wipe σ vs)
  | [] => s
  | v :: vs => (Sim.wipe s vs).unset v

/-! ### judgements -/
abbrev SE := Rho → Mu → (S → Mu → Prop) → Prop
abbrev STe := Rho → Mu → (Bool → Mu → Prop) → Prop
abbrev SA := Rho → Mu → (List S → Mu → Prop) → Prop
structure K4 where
  nx : Rho → Mu → Prop
  rt : S → Mu → Prop
  bk : Rho → Mu → Prop
  ct : Rho → Mu → Prop
  er : D → Rho → Mu → Prop
structure K4.le (k k' : K4) : Prop where
  nx : ∀ ρ μ, k.nx ρ μ → k'.nx ρ μ
  rt : ∀ d μ, k.rt d μ → k'.rt d μ
  bk : ∀ ρ μ, k.bk ρ μ → k'.bk ρ μ
  ct : ∀ ρ μ, k.ct ρ μ → k'.ct ρ μ
  er : ∀ d ρ μ, k.er d ρ μ → k'.er d ρ μ
abbrev SS := Rho → Mu → K4 → Prop
def MonE {α : Type} (f : Rho → Mu → (α → Mu → Prop) → Prop) : Prop := ∀ ρ μ (P P' : α → Mu → Prop), (∀ d μ', P d μ' → P' d μ') → f ρ μ P → f ρ μ P'
def MonS (f : SS) : Prop := ∀ ρ μ k k', K4.le k k' → f ρ μ k → f ρ μ k'

def teOf (K : PySem.W.Frag) (f : SE) : TE := fun σ H Q => ∃ ad ρ μ, Sim K H ad ρ μ σ ∧ f ρ μ fun x μ' => ∀ v H', Step ad H ad H' → RpM K H' ad μ' → RpS K (hide ad H') ad v x → Q v H'
def ttOf (K : PySem.W.Frag) (f : STe) : TT := fun σ H Q => ∃ ad ρ μ, Sim K H ad ρ μ σ ∧ f ρ μ fun b μ' => ∀ H', Step ad H ad H' → RpM K H' ad μ' → Q b H'
def taOf (K : PySem.W.Frag) (f : SA) : TA := fun σ H Q => ∃ ad ρ μ, Sim K H ad ρ μ σ ∧ f ρ μ fun xs μ' => ∀ vs H', Step ad H ad H' → RpM K H' ad μ' → RpSA K (hide ad H') ad vs xs → Q vs H'
def kOf (K : PySem.W.Frag) (W : WX) (ad : List Addr) (H : Hp) (Dn : Ends) : K4 where
  nx := fun ρ' μ' => ∀ σ' H' ad', Step ad H ad' H' → Sim K H' ad' ρ' μ' σ' → Dn.nx σ' H'
  rt := fun x μ' => ∀ v H' ad', Step ad H ad' H' → RpM K H' ad' μ' → RpS K (hide ad' H') ad' v x → Dn.rt v H'
  bk := fun ρ' μ' => ∀ σ' H' ad', Step ad H ad' H' → Sim K H' ad' ρ' μ' σ' → Dn.bk σ' H'
  ct := fun ρ' μ' => ∀ σ' H' ad', Step ad H ad' H' → Sim K H' ad' ρ' μ' σ' → Dn.ct σ' H'
  er := fun x ρ' μ' => ∀ cls d σ' H' ad', Step ad H ad' H' → Sim K H' ad' ρ' μ' σ' → RpX K (hide ad' H') cls d x → W cls d σ' H'
def tsOf (K : PySem.W.Frag) (W : WX) (f : SS) : TS := fun Dn σ H => ∃ ad ρ μ, Sim K H ad ρ μ σ ∧ f ρ μ (kOf K W ad H Dn)

structure PD (X : Cx) (e : Expr) (f : SE) : Prop where
  mo : MonE f
  run : PE X e (teOf X.K f)
structure PDT (X : Cx) (e : Expr) (f : STe) : Prop where
  mo : MonE f
  run : PT X e (ttOf X.K f)
structure PDA (X : Cx) (es : List Expr) (f : SA) : Prop where
  mo : MonE f
  run : PA X es (taOf X.K f)
structure PDS (X : Cx) (W : WX) (st : Stmt) (f : SS) : Prop where
  mo : MonS f
  run : PS X st (tsOf X.K W f)
structure PDSs (X : Cx) (W : WX) (sts : List Stmt) (f : SS) : Prop where
  mo : MonS f
  run : PSs X sts (tsOf X.K W f)
theorem _root_.L2.PE.of {X : Cx} {e : Expr} {t t' : TE} (h : PE X e t) (i : ∀ σ H Q, t' σ H Q → t σ H Q) : PE X e t' := ⟨fun pins s σ H Q I q => h.run pins s σ H Q I (i σ H Q q)⟩
theorem _root_.L2.PT.of {X : Cx} {e : Expr} {t t' : TT} (h : PT X e t) (i : ∀ σ H Q, t' σ H Q → t σ H Q) : PT X e t' := ⟨fun pins s σ H Q I q => h.run pins s σ H Q I (i σ H Q q)⟩
theorem _root_.L2.PA.of {X : Cx} {es : List Expr} {t t' : TA} (h : PA X es t) (i : ∀ σ H Q, t' σ H Q → t σ H Q) : PA X es t' := ⟨fun pos pins s σ H Q I q => h.run pos pins s σ H Q I (i σ H Q q)⟩
theorem _root_.L2.PS.of {X : Cx} {st : Stmt} {t t' : TS} (h : PS X st t) (i : ∀ D σ H, t' D σ H → t D σ H) : PS X st t' := ⟨fun pins s σ H D I q => h.run pins s σ H D I (i D σ H q)⟩
theorem _root_.L2.PSs.of {X : Cx} {st : List Stmt} {t t' : TS} (h : PSs X st t) (i : ∀ D σ H, t' D σ H → t D σ H) : PSs X st t' := ⟨fun pins s σ H D I q => h.run pins s σ H D I (i D σ H q)⟩

/-! ### names, constants -/
section
variable {X : Cx}
def fVar (i : Nat) : SE := fun ρ μ P => match ρ[i]? with | some (some x) => P x μ | _ => False
theorem pd_var {i : Nat} {x : Str} {pos : Pos} (h : PE X (.Name x pos) (tVar i)) : PD X (.Name x pos) (fVar i) := by
  refine ⟨fun ρ μ P P' k h => ?_, h.of fun σ H Q q => ?_⟩
  · unfold fVar at h ⊢
    split at h
    · exact k _ _ h
    · exact h
  · obtain ⟨ad, ρ, μ, s, q⟩ := q
    unfold fVar at q
    split at q
    · rename_i x e
      obtain ⟨v, e1, r⟩ := s.e i x e
      exact ⟨v, e1, q v H (Step.refl _ _) s.m r⟩
    · exact q.elim
def fC (d : D) : SE := fun ρ μ P => P (.d d) μ
theorem pd_c {e : Expr} {v : V} {d : D} (h : PE X e (tC v)) (r : ∀ F, Rp X.K F v d) : PD X e (fC d) :=
  ⟨fun ρ μ P P' k h => k _ _ h, h.of fun σ H Q q => by
    obtain ⟨ad, ρ, μ, s, q⟩ := q
    exact q v H (Step.refl _ _) s.m (r _)⟩
theorem pd_int {i : Int} {j pos} : PD X (.Constant (.int i) j pos) (fC (.int i)) := pd_c pe_int fun _ => .int i
theorem pd_bl {b : Bool} {j pos} : PD X (.Constant (.bool b) j pos) (fC (.bl b)) := pd_c pe_bl fun _ => .bl b
theorem pd_non {j pos} : PD X (.Constant .none j pos) (fC .non) := pd_c pe_non fun _ => .non
theorem pd_str {x : Str} {j pos} : PD X (.Constant (.str x) j pos) (fC (.str x)) := pd_c pe_str fun _ => .str x

/-! ### two in a row -/
/-- an operation on values, as pure data; new tuples and lists may be made -/
abbrev G2 := S → S → Mu → (D → Prop) → Prop
def MonG (g : G2) : Prop := ∀ x y μ P P', (∀ d, P d → P' d) → g x y μ P → g x y μ P'
def Sound2 (K : PySem.W.Frag) (r : R2) (g : G2) : Prop := ∀ (v u : V) (x y : S) (H : Hp) (ad : List Addr) (μ : Mu) (Q : VK), RpM K H ad μ → RpS K (hide ad H) ad v x → RpS K (hide ad H) ad u y →
  g x y μ (fun d => ∀ w H', Step ad H ad H' → RpM K H' ad μ → Rp K (hide ad H') w d → Q w H') → r v u H Q
def fOp (g : G2) (fa fb : SE) : SE := fun ρ μ P => fa ρ μ fun x μ1 => fb ρ μ1 fun y μ2 => g x y μ2 fun d => P (.d d) μ2
theorem mon_op {g : G2} {fa fb : SE} (mg : MonG g) (ma : MonE fa) (mb : MonE fb) : MonE (fOp g fa fb) := fun ρ μ P P' k h =>
  ma ρ μ _ _ (fun x μ1 h1 => mb ρ μ1 _ _ (fun y μ2 h2 => mg x y μ2 _ _ (fun d hd => k _ _ hd) h2) h1) h
theorem op_imp {r : R2} {g : G2} {fa fb : SE} (mg : MonG g) (ma : MonE fa) (mb : MonE fb) (sd : Sound2 X.K r g) (σ : St) (H : Hp) (Q : VK) (q : teOf X.K (fOp g fa fb) σ H Q) : tOp r (teOf X.K fa) (teOf X.K fb) σ H Q := by
  obtain ⟨ad, ρ, μ, s, q⟩ := q
  refine ⟨ad, ρ, μ, s, ma ρ μ _ _ (fun x μ1 h1 v H1 t1 m1 r1 => ?_) q⟩
  refine ⟨ad, ρ, μ1, s.step t1 m1, mb ρ μ1 _ _ (fun y μ2 h2 u H2 t2 m2 r2 => ?_) h1⟩
  refine sd v u x y H2 ad μ2 Q m2 (r1.step t2) r2 (mg x y μ2 _ _ (fun d hd w H3 t3 m3 r3 => ?_) h2)
  exact hd w H3 ((t1.trans t2).trans t3) m3 r3
theorem pd_op {a b : Expr} {op : Operator} {pos : Pos} {r : R2} {g : G2} {fa fb : SE} (ho : OpR X (binaryOp op) r) (mg : MonG g) (sd : Sound2 X.K r g) (ha : PD X a fa) (hb : PD X b fb) : PD X (.BinOp a op b pos) (fOp g fa fb) :=
  ⟨mon_op mg ha.mo hb.mo, (pe_op ho ha.run hb.run).of (op_imp mg ha.mo hb.mo sd)⟩
theorem pd_cmp {a b : Expr} {op : CmpOp} {pos : Pos} {r : R2} {g : G2} {fa fb : SE} (ho : OpR X (compareOp op) r) (mg : MonG g) (sd : Sound2 X.K r g) (hm : behindInMarks op b = false) (ha : PD X a fa) (hb : PD X b fb) : PD X (.Compare a [op] [b] pos) (fOp g fa fb) :=
  ⟨mon_op mg ha.mo hb.mo, (pe_cmpR ho ha.run hb.run hm).of (op_imp mg ha.mo hb.mo sd)⟩
theorem pd_ix {a b : Expr} {pos : Pos} {r : R2} {g : G2} {fa fb : SE} (ho : IxR X r) (mg : MonG g) (sd : Sound2 X.K r g) (hs : PlainIx b) (ha : PD X a fa) (hb : PD X b fb) : PD X (.Subscript a b pos) (fOp g fa fb) :=
  ⟨mon_op mg ha.mo hb.mo, (pe_ix ho ha.run hb.run hs).of (op_imp mg ha.mo hb.mo sd)⟩
def fTest (f : SE) : STe := fun ρ μ P => f ρ μ fun x μ' => match x with | .d (.bl b) => P b μ' | _ => False
theorem mon_test {f : SE} (m : MonE f) : MonE (fTest f) := fun ρ μ P P' k h => m ρ μ _ _ (fun x μ' h => by
  revert h
  cases x with
  | d x => cases x <;> intro h <;> first | exact h | exact k _ _ h
  | m j => exact fun h => h
  | ex _ _ _ _ => exact fun h => h) h
theorem test_imp {f : SE} (m : MonE f) (σ : St) (H : Hp) (Q : Bool → Hp → Prop) (q : ttOf X.K (fTest f) σ H Q) : tTest (teOf X.K f) σ H Q := by
  obtain ⟨ad, ρ, μ, s, q⟩ := q
  refine ⟨ad, ρ, μ, s, m ρ μ _ _ (fun x μ1 h v H1 t1 m1 r1 => ?_) q⟩
  cases x with
  | m j => exact h.elim
  | ex _ _ _ _ => exact h.elim
  | d x =>
    cases x with
    | bl b => cases r1; exact ⟨b, rfl, h H1 t1 m1⟩
    | non => exact h.elim
    | int i => exact h.elim
    | str i => exact h.elim
    | tup i => exact h.elim
    | lst i => exact h.elim
    | dct i j => exact h.elim
    | err i j x => exact h.elim
    | erb i => exact h.elim
theorem test_imp' {f : SE} (m : MonE f) (σ : St) (H : Hp) (Q : Bool → Hp → Prop) (q : ttOf X.K (fTest f) σ H Q) : tB (teOf X.K f) σ H Q := test_imp m σ H Q q
theorem ptd_cmp {a b : Expr} {op : CmpOp} {pos : Pos} {r : R2} {g : G2} {fa fb : SE} (ho : OpR X (compareOp op) r) (mg : MonG g) (sd : Sound2 X.K r g) (hm : behindInMarks op b = false) (ha : PD X a fa) (hb : PD X b fb) : PDT X (.Compare a [op] [b] pos) (fTest (fOp g fa fb)) :=
  ⟨mon_test (mon_op mg ha.mo hb.mo), (pt_cmpR ho ha.run hb.run hm).of fun σ H Q q => by
    have q' := test_imp (mon_op mg ha.mo hb.mo) σ H Q q
    exact op_imp mg ha.mo hb.mo sd σ H _ q'⟩
end
end DV

/-! part DV2 -/
set_option Elab.async false
set_option linter.all false
set_option maxRecDepth 100000
set_option autoImplicit false
namespace DV
open PySem PySem.Spec L2

theorem hide_same {ad : List Addr} {H : Hp} : Same (hide ad H) H := fun b o e => (hide_some e).2
def seqOf (μ : Mu) : S → Option (List D)
  | .d (.lst ds) => some ds
  | .m j => μ[j]?
  | _ => none
def tupOf : S → Option (List D)
  | .d (.tup ds) => some ds
  | _ => none
section
variable {K : PySem.W.Frag} {H : Hp} {ad : List Addr} {μ : Mu} {v : V} {x : S} {ds : List D}
theorem seq_sq (m : RpM K H ad μ) (r : RpS K (hide ad H) ad v x) (h : seqOf μ x = some ds) : ∃ a xs, v = .ref a ∧ SqL K H a xs ∧ RpA K (hide ad H) xs ds := by
  cases x with
  | d x =>
    cases x with
    | lst es =>
      cases h
      cases r with
      | lst h1 h2 => exact ⟨_, _, rfl, sqL_same hide_same h1, h2⟩
    | non => cases h
    | bl => cases h
    | int => cases h
    | str => cases h
    | tup => cases h
    | dct => cases h
    | err => cases h
    | erb => cases h
  | ex _ _ _ _ => cases h
  | m j =>
    obtain ⟨a, h1, rfl⟩ := r
    obtain ⟨b, xs, q1, q2, q3⟩ := m.at_ j ds h
    rw [h1] at q1
    cases q1
    exact ⟨a, xs, rfl, .inl (.inl q2), q3⟩
theorem tup_sq (r : RpS K (hide ad H) ad v x) (h : tupOf x = some ds) : ∃ a xs, v = .ref a ∧ SqT K H a xs ∧ RpA K (hide ad H) xs ds := by
  cases x with
  | d x =>
    cases x with
    | tup es =>
      cases h
      cases r with
      | tup h1 h2 => exact ⟨_, _, rfl, sqT_same hide_same h1, h2⟩
    | non => cases h
    | bl => cases h
    | int => cases h
    | str => cases h
    | lst => cases h
    | dct => cases h
    | err => cases h
    | erb => cases h
  | ex _ _ _ _ => cases h
  | m j => cases h
/-- a new tuple, a new list that will not change -/
theorem new_tup {xs : List V} {Q : VK} (m : RpM K H ad μ) (r : RpA K (hide ad H) xs ds) (h : ∀ w H', Step ad H ad H' → RpM K H' ad μ → Rp K (hide ad H') w (.tup ds) → Q w H') : ∀ p, H p = none → Q (.ref p) (upd H p (.tup xs)) := fun p hp => by
  have st : Step ad H ad (upd H p (.tup xs)) := Step.new hp
  exact h _ _ st (m.new hp) (.tup (.inl (.inl (by rw [hide_out (m.fresh hp)]; exact upd_same))) (r.mono st.same))
theorem new_lst {xs : List V} {Q : VK} (m : RpM K H ad μ) (r : RpA K (hide ad H) xs ds) (h : ∀ w H', Step ad H ad H' → RpM K H' ad μ → Rp K (hide ad H') w (.lst ds) → Q w H') : ∀ p, H p = none → Q (.ref p) (upd H p (.lst xs)) := fun p hp => by
  have st : Step ad H ad (upd H p (.lst xs)) := Step.new hp
  exact h _ _ st (m.new hp) (.lst (.inl (.inl (by rw [hide_out (m.fresh hp)]; exact upd_same))) (r.mono st.same))
end

/-! ### operations on two values -/
def gF (c : S → S → Mu → Prop) (f : S → S → Mu → Option D) : G2 := fun x y μ P => c x y μ ∧ ∃ d, f x y μ = some d ∧ P d
theorem mon_gF {c : S → S → Mu → Prop} {f : S → S → Mu → Option D} : MonG (gF c f) := fun _ _ _ _ _ k ⟨h1, d, h2, h3⟩ => ⟨h1, d, h2, k d h3⟩
def cI (C : Int → Int → Prop) : S → S → Mu → Prop := fun x y _ => match x, y with
  | .d (.int i), .d (.int j) => C i j
  | _, _ => True
def fI (g : Int → Int → D) : S → S → Mu → Option D := fun x y _ => match x, y with
  | .d (.int i), .d (.int j) => some (g i j)
  | _, _ => none
def c0 : S → S → Mu → Prop := fun _ _ _ => True
theorem fI_some {g : Int → Int → D} {x y : S} {μ : Mu} {d : D} (h : fI g x y μ = some d) : ∃ i j, x = .d (.int i) ∧ y = .d (.int j) ∧ d = g i j := by
  unfold fI at h
  split at h
  · cases h; exact ⟨_, _, rfl, rfl, rfl⟩
  · cases h
section
variable {K : PySem.W.Frag}
theorem rp_int {F : Hp} {ad : List Addr} {v : V} {i : Int} (r : RpS K F ad v (.d (.int i))) : v = .int i := by cases r; rfl
theorem rp_bl {F : Hp} {ad : List Addr} {v : V} {i : Bool} (r : RpS K F ad v (.d (.bl i))) : v = .bl i := by cases r; rfl
theorem rp_str {F : Hp} {ad : List Addr} {v : V} {i : Str} (r : RpS K F ad v (.d (.str i))) : v = .str i := by cases r; rfl
theorem snd_I {C : Int → Int → Prop} {g : Int → Int → Int} : Sound2 K (rI C fun i j => .int (g i j)) (gF (cI C) (fI fun i j => .int (g i j))) := by
  intro v u x y H ad μ Q m rx ry h
  obtain ⟨h1, d, h2, h3⟩ := h
  obtain ⟨i, j, rfl, rfl, rfl⟩ := fI_some h2
  exact ⟨i, j, rp_int rx, rp_int ry, h1, h3 _ H (Step.refl _ _) m (.int _)⟩
theorem snd_I0 {g : Int → Int → Int} : Sound2 K (rI0 fun i j => .int (g i j)) (gF c0 (fI fun i j => .int (g i j))) := by
  intro v u x y H ad μ Q m rx ry h
  obtain ⟨h1, d, h2, h3⟩ := h
  obtain ⟨i, j, rfl, rfl, rfl⟩ := fI_some h2
  exact ⟨i, j, rp_int rx, rp_int ry, h3 _ H (Step.refl _ _) m (.int _)⟩
theorem snd_B0 {g : Int → Int → Bool} : Sound2 K (rI0 fun i j => .bl (g i j)) (gF c0 (fI fun i j => .bl (g i j))) := by
  intro v u x y H ad μ Q m rx ry h
  obtain ⟨h1, d, h2, h3⟩ := h
  obtain ⟨i, j, rfl, rfl, rfl⟩ := fI_some h2
  exact ⟨i, j, rp_int rx, rp_int ry, h3 _ H (Step.refl _ _) m (.bl _)⟩
theorem Sound2.or {r r' : R2} {g : G2} {g' : G2} (h : Sound2 K r g) (h' : Sound2 K r' g') : Sound2 K (fun x y H Q => r x y H Q ∨ r' x y H Q) (fun x y μ P => g x y μ P ∨ g' x y μ P) := by
  intro v u x y H ad μ Q m rx ry hh
  rcases hh with hh | hh
  · exact .inl (h v u x y H ad μ Q m rx ry hh)
  · exact .inr (h' v u x y H ad μ Q m rx ry hh)

/-- + : ints; tuples -/
def cAdd : S → S → Mu → Prop := fun x y _ => match x, y with
  | .d (.tup a), .d (.tup b) => a.length + b.length ≤ 100000
  | _, _ => True
def fAdd : S → S → Mu → Option D := fun x y _ => match x, y with
  | .d (.int i), .d (.int j) => some (.int (i + j))
  | .d (.tup a), .d (.tup b) => some (.tup (a ++ b))
  | _, _ => none
theorem sz {n : Nat} (h : n ≤ 100000) : n ≤ sizeLine := Nat.le_trans h (by decide)
theorem snd_add : Sound2 K (fun x y H Q => rI0 (fun i j => .int (i + j)) x y H Q ∨ rCatA K x y H Q) (gF cAdd fAdd) := by
  intro v u x y H ad μ Q m rx ry h
  obtain ⟨h1, d, h2, h3⟩ := h
  unfold fAdd at h2
  split at h2
  · cases h2
    exact .inl ⟨_, _, rp_int rx, rp_int ry, h3 _ H (Step.refl _ _) m (.int _)⟩
  · rename_i a b
    cases h2
    obtain ⟨p, xs, rfl, s1, r1⟩ := tup_sq rx rfl
    obtain ⟨q, ys, rfl, s2, r2⟩ := tup_sq ry rfl
    have l1 := r1.length
    have l2 := r2.length
    have hz : a.length + b.length ≤ 100000 := h1
    refine .inr ⟨p, q, xs, ys, rfl, rfl, s1, s2, sz (by omega), fun e => ?_, fun e e2 => ?_, fun _ _ => new_tup m (r1.append r2) h3⟩
    · subst e
      have e0 : a = [] := List.eq_nil_of_length_eq_zero l1.symm
      subst e0
      exact h3 _ H (Step.refl _ _) m ry
    · subst e2
      have e0 : b = [] := List.eq_nil_of_length_eq_zero l2.symm
      subst e0
      rw [List.append_nil] at h3
      exact h3 _ H (Step.refl _ _) m rx
  · cases h2
/-- an item -/
def fIx : S → S → Mu → Option D := fun x y μ => match y with
  | .d (.int i) => if i < 0 then none else match x with
    | .d (.tup ds) => ds[i.toNat]?
    | .d (.lst ds) => ds[i.toNat]?
    | .m j => match μ[j]? with
      | some ds => ds[i.toNat]?
      | none => none
    | _ => none
  | _ => none
theorem IxR.or {X : Cx} {r r' : R2} (h : IxR X r) (h' : IxR X r') : IxR X (fun x y H Q => r x y H Q ∨ r' x y H Q) := by
  intro value slice pins s σ H x y v u Q I rx ry q hs
  rcases q with q | q
  · exact h value slice pins s σ H x y v u Q I rx ry q hs
  · exact h' value slice pins s σ H x y v u Q I rx ry q hs
theorem snd_ix : Sound2 K (fun x y H Q => rIxL K x y H Q ∨ rIxT K x y H Q) (gF c0 fIx) := by
  intro v u x y H ad μ Q m rx ry h
  obtain ⟨h1, d, h2, h3⟩ := h
  unfold fIx at h2
  split at h2
  · rename_i i
    split at h2
    · cases h2
    · rename_i hi
      have e0 : i = (i.toNat : Int) := by omega
      obtain rfl := rp_int ry
      have L : ∀ es : List D, seqOf μ x = some es → es[i.toNat]? = some d → rIxL K v (.int i) H Q := fun es hs e => by
        obtain ⟨a, xs, rfl, s1, r1⟩ := seq_sq m rx hs
        obtain ⟨w, e1, rw'⟩ := r1.get e
        exact ⟨a, xs, i, w, rfl, rfl, s1, at_of e0 e1, h3 w H (Step.refl _ _) m rw'⟩
      split at h2
      · obtain ⟨a, xs, rfl, s1, r1⟩ := tup_sq rx rfl
        obtain ⟨w, e1, rw'⟩ := r1.get h2
        exact .inr ⟨a, xs, i, w, rfl, rfl, s1, at_of e0 e1, h3 w H (Step.refl _ _) m rw'⟩
      · exact .inl (L _ rfl h2)
      · split at h2
        · rename_i e
          exact .inl (L _ e h2)
        · cases h2
      · cases h2
  · cases h2
/-- tuple * int -/
def cRepT : S → S → Mu → Prop := fun x y _ => match x, y with
  | .d (.tup a), .d (.int k) => a ≠ [] ∧ 2 ≤ k ∧ k ≤ 1000 ∧ a.length ≤ 1000
  | _, _ => True
def fRepT : S → S → Mu → Option D := fun x y _ => match x, y with
  | .d (.tup a), .d (.int k) => some (.tup (List.replicate k.toNat a).flatten)
  | _, _ => none
theorem snd_repT : Sound2 K (rRepT K) (gF cRepT fRepT) := by
  intro v u x y H ad μ Q m rx ry h
  obtain ⟨h1, d, h2, h3⟩ := h
  unfold fRepT at h2
  split at h2
  · rename_i a k
    cases h2
    obtain ⟨p, xs, rfl, s1, r1⟩ := tup_sq rx rfl
    have l1 := r1.length
    have hz : a ≠ [] ∧ 2 ≤ k ∧ k ≤ 1000 ∧ a.length ≤ 1000 := h1
    refine ⟨p, k, xs, rfl, rp_int ry, s1, fun e => ?_, hz.2.1, hz.2.2.1, by omega, new_tup m (r1.rep _) h3⟩
    subst e
    exact hz.1 (List.eq_nil_of_length_eq_zero l1.symm)
  · cases h2

/-! ### data as the library tells it -/
def keyPy : Key → PyData
  | .inl i => .int i
  | .inr x => .str x
mutual
def D.py : D → PyData
  | .non => .none
  | .bl b => .bool b
  | .int i => .int i
  | .str x => .str x
  | .tup ds => .tuple (pyA ds)
  | .lst ds => .list (pyA ds)
  | .dct ks ds => .dict ((ks.map keyPy).zip (pyA ds))
  | .err _ _ _ => .dict []
  | .erb _ => .dict []
def pyA : List D → List PyData
  | [] => []
  | d :: r => d.py :: pyA r
end
mutual
/-- no dict, no error within -/
def D.plain : D → Bool
  | .tup ds => plainA ds
  | .lst ds => plainA ds
  | .dct _ _ => false
  | .err _ _ _ => false
  | .erb _ => false
  | _ => true
def plainA : List D → Bool
  | [] => true
  | d :: r => d.plain && plainA r
end
mutual
theorem plain_of : ∀ {d : D}, d.py.hasDict = false → d.plain = true
  | .non, _ => rfl
  | .bl _, _ => rfl
  | .int _, _ => rfl
  | .str _, _ => rfl
  | .tup ds, h => plainA_of (ds := ds) (by simpa only [D.py, PyData.hasDict] using h)
  | .lst ds, h => plainA_of (ds := ds) (by simpa only [D.py, PyData.hasDict] using h)
  | .dct _ _, h => by simp [D.py, PyData.hasDict] at h
  | .err _ _ _, h => by simp [D.py, PyData.hasDict] at h
  | .erb _, h => by simp [D.py, PyData.hasDict] at h
theorem plainA_of : ∀ {ds : List D}, PyData.hasDictAll (pyA ds) = false → plainA ds = true
  | [], _ => rfl
  | d :: r, h => by
    simp only [pyA, PyData.hasDictAll, Bool.or_eq_false_iff] at h
    simp only [plainA, Bool.and_eq_true]
    exact ⟨plain_of h.1, plainA_of h.2⟩
end
mutual
theorem Rp.dp {H : Hp} : ∀ {v : V} {d : D}, Rp K H v d → d.plain = true → Dp K H v d.py
  | _, _, .non, _ => .non
  | _, _, .bl b, _ => .bl b
  | _, _, .int i, _ => .int i
  | _, _, .str x, _ => .str x
  | _, _, .tup h r, p => .tup h (RpA.dp r p)
  | _, _, .lst h r, p => .lst h (RpA.dp r p)
  | _, _, .dct _ _, p => nomatch p
  | _, _, .err _ _ _, p => nomatch p
  | _, _, .erb _, p => nomatch p
theorem RpA.dp {H : Hp} : ∀ {vs : List V} {ds : List D}, RpA K H vs ds → plainA ds = true → DpAll K H vs (pyA ds)
  | _, _, .nil, _ => .nil
  | _, _, .cons h r, p => .cons (Rp.dp h (Bool.and_eq_true_iff.mp p).1) (RpA.dp r (Bool.and_eq_true_iff.mp p).2)
end
/-- == of ints, texts; of pairs of ints -/
def fEq : S → S → Mu → Option D := fun x y _ => match x, y with
  | .d (.int i), .d (.int j) => some (.bl (decide (i = j)))
  | .d (.str i), .d (.str j) => some (.bl (decide (i = j)))
  | .d (.bl i), .d (.bl j) => some (.bl (decide (i = j)))
  | .d (.tup [.int i, .int k]), .d (.tup [.int j, .int l]) => some (.bl (decide (i = j ∧ k = l)))
  | _, _ => none
def fNe : S → S → Mu → Option D := fun x y _ => match x, y with
  | .d (.int i), .d (.int j) => some (.bl (!decide (i = j)))
  | .d (.str i), .d (.str j) => some (.bl (!decide (i = j)))
  | .d (.bl i), .d (.bl j) => some (.bl (!decide (i = j)))
  | _, _ => none
theorem eqv_pair (i k j l : Int) : PyData.eqv (.tuple [.int i, .int k]) (.tuple [.int j, .int l]) = decide (i = j ∧ k = l) := by
  by_cases h1 : i = j <;> by_cases h2 : k = l <;> simp [PyData.eqv, PyData.eqvAll, h1, h2]
theorem snd_eq : Sound2 K (fun x y H Q => rEq x y H Q ∨ rEqD K x y H Q) (gF c0 fEq) := by
  intro v u x y H ad μ Q m rx ry h
  obtain ⟨h1, d, h2, h3⟩ := h
  unfold fEq at h2
  split at h2
  · cases h2
    obtain rfl := rp_int rx
    obtain rfl := rp_int ry
    refine .inl ⟨rfl, h3 _ H (Step.refl _ _) m ?_⟩
    simp only [V.int.injEq]
    exact .bl _
  · cases h2
    obtain rfl := rp_str rx
    obtain rfl := rp_str ry
    refine .inl ⟨rfl, h3 _ H (Step.refl _ _) m ?_⟩
    simp only [V.str.injEq]
    exact .bl _
  · cases h2
    obtain rfl := rp_bl rx
    obtain rfl := rp_bl ry
    refine .inl ⟨rfl, h3 _ H (Step.refl _ _) m ?_⟩
    simp only [V.bl.injEq]
    exact .bl _
  · rename_i i k j l
    cases h2
    refine .inr ⟨_, _, Rp.dp (Rp.mono hide_same rx) rfl, Rp.dp (Rp.mono hide_same ry) rfl, by rfl, by rfl, h3 _ H (Step.refl _ _) m ?_⟩
    simp only [D.py, pyA, eqv_pair]
    exact .bl _
  · cases h2
theorem snd_ne : Sound2 K rNe (gF c0 fNe) := by
  intro v u x y H ad μ Q m rx ry h
  obtain ⟨h1, d, h2, h3⟩ := h
  unfold fNe at h2
  split at h2
  · cases h2
    obtain rfl := rp_int rx
    obtain rfl := rp_int ry
    refine ⟨rfl, h3 _ H (Step.refl _ _) m ?_⟩
    simp only [V.int.injEq]
    exact .bl _
  · cases h2
    obtain rfl := rp_str rx
    obtain rfl := rp_str ry
    refine ⟨rfl, h3 _ H (Step.refl _ _) m ?_⟩
    simp only [V.str.injEq]
    exact .bl _
  · cases h2
    obtain rfl := rp_bl rx
    obtain rfl := rp_bl ry
    refine ⟨rfl, h3 _ H (Step.refl _ _) m ?_⟩
    simp only [V.bl.injEq]
    exact .bl _
  · cases h2
/-- not in a tuple of ints -/
def intsOf : List D → Option (List Int)
  | [] => some []
  | .int i :: r => (intsOf r).map (i :: ·)
  | _ => none
theorem intsOf_some : ∀ {ds : List D} {ns : List Int}, intsOf ds = some ns → ds = ns.map D.int
  | [], _, h => by cases h; rfl
  | .int i :: r, ns, h => by
    unfold intsOf at h
    cases e : intsOf r with
    | none => rw [e] at h; cases h
    | some ms => rw [e] at h; cases h; rw [intsOf_some e]; rfl
  | .non :: r, ns, h => by cases h
  | .bl _ :: r, ns, h => by cases h
  | .str _ :: r, ns, h => by cases h
  | .tup _ :: r, ns, h => by cases h
  | .lst _ :: r, ns, h => by cases h
  | .dct _ _ :: r, ns, h => by cases h
  | .err _ _ _ :: r, ns, h => by cases h
  | .erb _ :: r, ns, h => by cases h
theorem rpA_ints {F : Hp} : ∀ {vs : List V} {ns : List Int}, RpA K F vs (ns.map D.int) → vs = ns.map V.int
  | _, [], h => by cases h; rfl
  | _, n :: r, h => by
    cases h with
    | cons h1 h2 =>
      cases h1
      rw [rpA_ints h2]
      rfl
def fNotIn : S → S → Mu → Option D := fun x y μ => match x, y with
  | .d (.int i), .d (.tup ds) => match intsOf ds with
    | some ns => some (.bl (!ns.contains i))
    | none => none
  | _, _ => none
theorem inV_ints (i : Int) (ns : List Int) : inV (.int i) (ns.map V.int) = ns.contains i := by
  unfold inV
  induction ns with
  | nil => rfl
  | cons n r ih =>
    rw [List.map_cons, List.any_cons, ih, List.contains_cons]
    congr 1
    show (decide _) = _
    by_cases h : n = i
    · subst h; simp
    · have h' : ¬ i = n := fun e => h e.symm
      simp [h, h']
theorem snd_notIn : Sound2 K (rIn K true) (gF c0 fNotIn) := by
  intro v u x y H ad μ Q m rx ry h
  obtain ⟨h1, d, h2, h3⟩ := h
  unfold fNotIn at h2
  split at h2
  · split at h2
    · rename_i i ds ns e
      cases h2
      have e1 := intsOf_some e
      obtain ⟨p, xs, rfl, s1, r1⟩ := tup_sq ry rfl
      rw [e1] at r1
      have e2 := rpA_ints r1
      obtain rfl := rp_int rx
      refine ⟨p, xs, rfl, .inr s1, rfl, ?_, ?_⟩
      · rw [e2]; simp [List.all_eq_true, flatV]
      · rw [e2, inV_ints]
        exact h3 _ H (Step.refl _ _) m (.bl _)
    · cases h2
  · cases h2
end

/-! ### arguments, displays -/
section
variable {X : Cx}
def fANil : SA := fun ρ μ P => P [] μ
def fACons (f : SE) (g : SA) : SA := fun ρ μ P => f ρ μ fun x μ1 => g ρ μ1 fun xs μ2 => P (x :: xs) μ2
theorem pda_nil : PDA X [] fANil := ⟨fun ρ μ P P' k h => k _ _ h, pa_nil.of fun σ H Q ⟨ad, ρ, μ, s, q⟩ => q [] H (Step.refl _ _) s.m .nil⟩
theorem pda_cons {e : Expr} {es : List Expr} {f : SE} {g : SA} (h : PD X e f) (r : PDA X es g) (hs : starEach (e :: es) X.env = (false, eval e X.env) :: starEach es X.env := by rfl) : PDA X (e :: es) (fACons f g) := by
  refine ⟨fun ρ μ P P' k q => h.mo ρ μ _ _ (fun x μ1 q1 => r.mo ρ μ1 _ _ (fun xs μ2 q2 => k _ _ q2) q1) q, (pa_cons h.run r.run hs).of fun σ H Q q => ?_⟩
  obtain ⟨ad, ρ, μ, s, q⟩ := q
  refine ⟨ad, ρ, μ, s, h.mo ρ μ _ _ (fun x μ1 h1 v H1 t1 m1 r1 => ?_) q⟩
  refine ⟨ad, ρ, μ1, s.step t1 m1, r.mo ρ μ1 _ _ (fun xs μ2 h2 vs H2 t2 m2 r2 => ?_) h1⟩
  exact h2 (v :: vs) H2 (t1.trans t2) m2 (.cons (r1.step t2) r2)
def allD : List S → Option (List D)
  | [] => some []
  | .d x :: r => (allD r).map (x :: ·)
  | .m _ :: _ => none
  | .ex _ _ _ _ :: _ => none
theorem allD_rp {K : PySem.W.Frag} {F : Hp} {ad : List Addr} : ∀ {ss : List S} {vs : List V} {ds : List D}, RpSA K F ad vs ss → allD ss = some ds → RpA K F vs ds
  | [], _, _, r, h => by cases h; cases r; exact .nil
  | .d x :: ss, _, ds, r, h => by
    unfold allD at h
    cases e : allD ss with
    | none => rw [e] at h; cases h
    | some es =>
      rw [e] at h
      cases h
      cases r with
      | cons h1 h2 => exact .cons h1 (allD_rp h2 e)
  | .m j :: ss, _, _, _, h => by cases h
  | .ex _ _ _ _ :: ss, _, _, _, h => by cases h
theorem allD_len : ∀ {ss : List S} {ds : List D}, allD ss = some ds → ds.length = ss.length
  | [], _, h => by cases h; rfl
  | .d x :: ss, ds, h => by
    unfold allD at h
    cases e : allD ss with
    | none => rw [e] at h; cases h
    | some es => rw [e] at h; cases h; simp [allD_len e]
  | .m j :: ss, _, h => by cases h
  | .ex _ _ _ _ :: ss, _, h => by cases h
def fTup (f : SA) : SE := fun ρ μ P => f ρ μ fun ss μ' => ∃ ds, allD ss = some ds ∧ ds.length ≤ 100000 ∧ P (.d (.tup ds)) μ'
def fLst (f : SA) : SE := fun ρ μ P => f ρ μ fun ss μ' => ∃ ds, allD ss = some ds ∧ ds.length ≤ 100000 ∧ P (.d (.lst ds)) μ'
theorem pd_tup {es : List Expr} {k : Nat} {pos : Pos} {f : SA} (h : PDA X es f) : PD X (.Tuple es k pos) (fTup f) := by
  refine ⟨fun ρ μ P P' k q => h.mo ρ μ _ _ (fun x μ1 ⟨ds, h1, h2, h3⟩ => ⟨ds, h1, h2, k _ _ h3⟩) q, (pe_tup h.run).of fun σ H Q q => ?_⟩
  obtain ⟨ad, ρ, μ, s, q⟩ := q
  refine ⟨ad, ρ, μ, s, h.mo ρ μ _ _ (fun ss μ1 h1 vs H1 t1 m1 r1 => ?_) q⟩
  obtain ⟨ds, a1, a2, a3⟩ := h1
  have r2 := allD_rp r1 a1
  exact ⟨sz (by rw [r2.length]; exact a2), new_tup m1 r2 fun w H2 t2 m2 r3 => a3 w H2 (t1.trans t2) m2 r3⟩
theorem pd_lst {es : List Expr} {pos : Pos} {f : SA} (h : PDA X es f) : PD X (.List es pos) (fLst f) := by
  refine ⟨fun ρ μ P P' k q => h.mo ρ μ _ _ (fun x μ1 ⟨ds, h1, h2, h3⟩ => ⟨ds, h1, h2, k _ _ h3⟩) q, (pe_lst h.run).of fun σ H Q q => ?_⟩
  obtain ⟨ad, ρ, μ, s, q⟩ := q
  refine ⟨ad, ρ, μ, s, h.mo ρ μ _ _ (fun ss μ1 h1 vs H1 t1 m1 r1 => ?_) q⟩
  obtain ⟨ds, a1, a2, a3⟩ := h1
  have r2 := allD_rp r1 a1
  exact ⟨sz (by rw [r2.length]; exact a2), new_lst m1 r2 fun w H2 t2 m2 r3 => a3 w H2 (t1.trans t2) m2 r3⟩

/-! ### calls of built-ins, by values -/
abbrev GA := List S → Mu → (D → Prop) → Prop
def SoundA (K : PySem.W.Frag) (r : List V → Hp → VK → Prop) (g : GA) : Prop := ∀ (vs : List V) (ss : List S) (H : Hp) (ad : List Addr) (μ : Mu) (Q : VK), RpM K H ad μ → RpSA K (hide ad H) ad vs ss →
  g ss μ (fun d => ∀ w H', Step ad H ad H' → RpM K H' ad μ → Rp K (hide ad H') w d → Q w H') → r vs H Q
def gA (c : List S → Mu → Prop) (f : List S → Mu → Option D) : GA := fun ss μ P => c ss μ ∧ ∃ d, f ss μ = some d ∧ P d
def MonA (g : GA) : Prop := ∀ ss μ P P', (∀ d, P d → P' d) → g ss μ P → g ss μ P'
theorem mon_gA {c : List S → Mu → Prop} {f : List S → Mu → Option D} : MonA (gA c f) := fun _ _ _ _ k ⟨h1, d, h2, h3⟩ => ⟨h1, d, h2, k d h3⟩
def fCB (g : GA) (f : SA) : SE := fun ρ μ P => f ρ μ fun ss μ' => g ss μ' fun d => P (.d d) μ'
theorem mon_CB {g : GA} {f : SA} (mg : MonA g) (m : MonE f) : MonE (fCB g f) := fun ρ μ P P' k h => m ρ μ _ _ (fun ss μ1 h1 => mg ss μ1 _ _ (fun d hd => k _ _ hd) h1) h
theorem CB_imp {r : List V → Hp → VK → Prop} {g : GA} {f : SA} (mg : MonA g) (m : MonE f) (sd : SoundA X.K r g) (σ : L2.St) (H : Hp) (Q : VK) (q : teOf X.K (fCB g f) σ H Q) : tCB r (taOf X.K f) σ H Q := by
  obtain ⟨ad, ρ, μ, s, q⟩ := q
  refine ⟨ad, ρ, μ, s, m ρ μ _ _ (fun ss μ1 h1 vs H1 t1 m1 r1 => ?_) q⟩
  exact sd vs ss H1 ad μ1 Q m1 r1 (mg ss μ1 _ _ (fun d hd w H2 t2 m2 r2 => hd w H2 (t1.trans t2) m2 r2) h1)
theorem pd_of_CB {e : Expr} {r : List V → Hp → VK → Prop} {g : GA} {f : SA} (mg : MonA g) (m : MonE f) (sd : SoundA X.K r g) (h : PE X e (tCB r (taOf X.K f))) : PD X e (fCB g f) := ⟨mon_CB mg m, h.of (CB_imp mg m sd)⟩
end
section
variable {K : PySem.W.Frag}
theorem rsa1 {F : Hp} {ad : List Addr} {vs : List V} {x : S} (r : RpSA K F ad vs [x]) : ∃ v, vs = [v] ∧ RpS K F ad v x := by
  cases r with
  | cons h r => cases r; exact ⟨_, rfl, h⟩
theorem rsa2 {F : Hp} {ad : List Addr} {vs : List V} {x y : S} (r : RpSA K F ad vs [x, y]) : ∃ v u, vs = [v, u] ∧ RpS K F ad v x ∧ RpS K F ad u y := by
  cases r with
  | cons h r =>
    obtain ⟨u, rfl, h2⟩ := rsa1 r
    exact ⟨_, u, rfl, h, h2⟩
/-- len -/
def fLen : List S → Mu → Option D := fun ss μ => match ss with
  | [.d (.tup ds)] => some (.int ds.length)
  | [.d (.lst ds)] => some (.int ds.length)
  | [.m j] => (μ[j]?).map fun ds => .int ds.length
  | _ => none
def cA0 : List S → Mu → Prop := fun _ _ => True
theorem snd_len : SoundA K (fun xs H Q => ∃ p ys, xs = [.ref p] ∧ (SqL K H p ys ∨ SqT K H p ys) ∧ Q (.int ys.length) H) (gA cA0 fLen) := by
  intro vs ss H ad μ Q m r h
  obtain ⟨h1, d, h2, h3⟩ := h
  unfold fLen at h2
  have L : ∀ (x : S) (es : List D), ss = [x] → seqOf μ x = some es → d = .int es.length → ∃ p ys, vs = [.ref p] ∧ (SqL K H p ys ∨ SqT K H p ys) ∧ Q (.int ys.length) H := fun x es e1 e2 e3 => by
    subst e1
    obtain ⟨v, rfl, r1⟩ := rsa1 r
    obtain ⟨a, xs, rfl, s1, r2⟩ := seq_sq m r1 e2
    refine ⟨a, xs, rfl, .inl s1, ?_⟩
    rw [r2.length]
    exact h3 _ H (Step.refl _ _) m (by rw [e3]; exact .int _)
  split at h2
  · cases h2
    obtain ⟨v, rfl, r1⟩ := rsa1 r
    obtain ⟨a, xs, rfl, s1, r2⟩ := tup_sq r1 rfl
    refine ⟨a, xs, rfl, .inr s1, ?_⟩
    rw [r2.length]
    exact h3 _ H (Step.refl _ _) m (.int _)
  · cases h2
    exact L _ _ rfl rfl rfl
  · rename_i j
    cases e : μ[j]? with
    | none => rw [e] at h2; cases h2
    | some es => rw [e] at h2; cases h2; exact L _ es rfl e rfl
  · cases h2
/-- sum, all, any of a list -/
def blsOf : List D → Option (List Bool)
  | [] => some []
  | .bl i :: r => (blsOf r).map (i :: ·)
  | _ => none
theorem blsOf_some : ∀ {ds : List D} {ns : List Bool}, blsOf ds = some ns → ds = ns.map D.bl
  | [], _, h => by cases h; rfl
  | .bl i :: r, ns, h => by
    unfold blsOf at h
    cases e : blsOf r with
    | none => rw [e] at h; cases h
    | some ms => rw [e] at h; cases h; rw [blsOf_some e]; rfl
  | .non :: r, ns, h => by cases h
  | .int _ :: r, ns, h => by cases h
  | .str _ :: r, ns, h => by cases h
  | .tup _ :: r, ns, h => by cases h
  | .lst _ :: r, ns, h => by cases h
  | .dct _ _ :: r, ns, h => by cases h
  | .err _ _ _ :: r, ns, h => by cases h
  | .erb _ :: r, ns, h => by cases h
theorem rpA_bls {F : Hp} : ∀ {vs : List V} {ns : List Bool}, RpA K F vs (ns.map D.bl) → vs = ns.map V.bl
  | _, [], h => by cases h; rfl
  | _, n :: r, h => by
    cases h with
    | cons h1 h2 =>
      cases h1
      rw [rpA_bls h2]
      rfl
def f1L (g : List D → Option D) : List S → Mu → Option D := fun ss μ => match ss with
  | [x] => match seqOf μ x with
    | some ds => g ds
    | none => none
  | _ => none
theorem f1L_some {g : List D → Option D} {ss : List S} {μ : Mu} {d : D} (h : f1L g ss μ = some d) : ∃ x ds, ss = [x] ∧ seqOf μ x = some ds ∧ g ds = some d := by
  unfold f1L at h
  split at h
  · split at h
    · rename_i e
      exact ⟨_, _, rfl, e, h⟩
    · cases h
  · cases h
def gSum (ds : List D) : Option D := (intsOf ds).map fun ns => .int ns.sum
def gAll (ds : List D) : Option D := (blsOf ds).map fun bs => .bl (bs.all id)
def gAny (ds : List D) : Option D := (blsOf ds).map fun bs => .bl (bs.any id)
theorem snd_sum : SoundA K (rSum K) (gA cA0 (f1L gSum)) := by
  intro vs ss H ad μ Q m r h
  obtain ⟨h1, d, h2, h3⟩ := h
  obtain ⟨x, ds, rfl, e1, e2⟩ := f1L_some h2
  obtain ⟨v, rfl, r1⟩ := rsa1 r
  obtain ⟨a, xs, rfl, s1, r2⟩ := seq_sq m r1 e1
  unfold gSum at e2
  cases e : intsOf ds with
  | none => rw [e] at e2; cases e2
  | some ns =>
    rw [e] at e2
    cases e2
    rw [intsOf_some e] at r2
    exact ⟨a, ns, rfl, by rw [← rpA_ints r2]; exact s1, h3 _ H (Step.refl _ _) m (.int _)⟩
theorem snd_all : SoundA K (rAll K) (gA cA0 (f1L gAll)) := by
  intro vs ss H ad μ Q m r h
  obtain ⟨h1, d, h2, h3⟩ := h
  obtain ⟨x, ds, rfl, e1, e2⟩ := f1L_some h2
  obtain ⟨v, rfl, r1⟩ := rsa1 r
  obtain ⟨a, xs, rfl, s1, r2⟩ := seq_sq m r1 e1
  unfold gAll at e2
  cases e : blsOf ds with
  | none => rw [e] at e2; cases e2
  | some ns =>
    rw [e] at e2
    cases e2
    rw [blsOf_some e] at r2
    exact ⟨a, ns, rfl, by rw [← rpA_bls r2]; exact s1, h3 _ H (Step.refl _ _) m (.bl _)⟩
theorem snd_any : SoundA K (rAny K) (gA cA0 (f1L gAny)) := by
  intro vs ss H ad μ Q m r h
  obtain ⟨h1, d, h2, h3⟩ := h
  obtain ⟨x, ds, rfl, e1, e2⟩ := f1L_some h2
  obtain ⟨v, rfl, r1⟩ := rsa1 r
  obtain ⟨a, xs, rfl, s1, r2⟩ := seq_sq m r1 e1
  unfold gAny at e2
  cases e : blsOf ds with
  | none => rw [e] at e2; cases e2
  | some ns =>
    rw [e] at e2
    cases e2
    rw [blsOf_some e] at r2
    exact ⟨a, ns, rfl, by rw [← rpA_bls r2]; exact s1, h3 _ H (Step.refl _ _) m (.bl _)⟩
/-- tuple(list), tuple(tuple) -/
def fTupleOf : List S → Mu → Option D := fun ss μ => match ss with
  | [.d (.tup ds)] => some (.tup ds)
  | [x] => (seqOf μ x).map .tup
  | _ => none
theorem snd_tupleOf : SoundA K (fun xs H Q => ∃ p ys, xs = [.ref p] ∧ ((SqL K H p ys ∧ ∀ l, H l = none → Q (.ref l) (upd H l (.tup ys))) ∨ (SqT K H p ys ∧ Q (.ref p) H))) (gA cA0 fTupleOf) := by
  intro vs ss H ad μ Q m r h
  obtain ⟨h1, d, h2, h3⟩ := h
  unfold fTupleOf at h2
  split at h2
  · cases h2
    obtain ⟨v, rfl, r1⟩ := rsa1 r
    obtain ⟨a, xs, rfl, s1, r2⟩ := tup_sq r1 rfl
    exact ⟨a, xs, rfl, .inr ⟨s1, h3 _ H (Step.refl _ _) m r1⟩⟩
  · rename_i x _
    cases e : seqOf μ x with
    | none => rw [e] at h2; cases h2
    | some ds =>
      rw [e] at h2
      cases h2
      obtain ⟨v, rfl, r1⟩ := rsa1 r
      obtain ⟨a, xs, rfl, s1, r2⟩ := seq_sq m r1 e
      exact ⟨a, xs, rfl, .inl ⟨s1, new_tup m r2 h3⟩⟩
  · cases h2
/-- list(..) of a list or a tuple -/
def fListOf : List S → Mu → Option D := fun ss μ => match ss with
  | [.d (.tup ds)] => some (.lst ds)
  | [x] => (seqOf μ x).map .lst
  | _ => none
theorem snd_listOf : SoundA K (fun xs H Q => ∃ p ys, xs = [.ref p] ∧ (SqL K H p ys ∨ SqT K H p ys) ∧ ∀ l, H l = none → Q (.ref l) (upd H l (.lst ys))) (gA cA0 fListOf) := by
  intro vs ss H ad μ Q m r h
  obtain ⟨h1, d, h2, h3⟩ := h
  unfold fListOf at h2
  split at h2
  · cases h2
    obtain ⟨v, rfl, r1⟩ := rsa1 r
    obtain ⟨a, xs, rfl, s1, r2⟩ := tup_sq r1 rfl
    exact ⟨a, xs, rfl, .inr s1, new_lst m r2 h3⟩
  · rename_i x _
    cases e : seqOf μ x with
    | none => rw [e] at h2; cases h2
    | some ds =>
      rw [e] at h2
      cases h2
      obtain ⟨v, rfl, r1⟩ := rsa1 r
      obtain ⟨a, xs, rfl, s1, r2⟩ := seq_sq m r1 e
      exact ⟨a, xs, rfl, .inl s1, new_lst m r2 h3⟩
  · cases h2
/-- ints in -/
def fA1 (g : Int → D) : List S → Mu → Option D := fun ss _ => match ss with
  | [.d (.int i)] => some (g i)
  | _ => none
theorem fA1_some {g : Int → D} {ss : List S} {μ : Mu} {d : D} (h : fA1 g ss μ = some d) : ∃ i, ss = [.d (.int i)] ∧ d = g i := by
  unfold fA1 at h
  split at h
  · cases h; exact ⟨_, rfl, rfl⟩
  · cases h
def fA2 (g : Int → Int → D) : List S → Mu → Option D := fun ss _ => match ss with
  | [.d (.int i), .d (.int j)] => some (g i j)
  | _ => none
theorem fA2_some {g : Int → Int → D} {ss : List S} {μ : Mu} {d : D} (h : fA2 g ss μ = some d) : ∃ i j, ss = [.d (.int i), .d (.int j)] ∧ d = g i j := by
  unfold fA2 at h
  split at h
  · cases h; exact ⟨_, _, rfl, rfl⟩
  · cases h
theorem snd_abs : SoundA K (fun xs H Q => ∃ i, xs = [.int i] ∧ Q (.int (if i < 0 then -i else i)) H) (gA cA0 (fA1 fun i => .int (if i < 0 then -i else i))) := by
  intro vs ss H ad μ Q m r h
  obtain ⟨h1, d, h2, h3⟩ := h
  obtain ⟨i, rfl, rfl⟩ := fA1_some h2
  obtain ⟨v, rfl, r1⟩ := rsa1 r
  exact ⟨i, by rw [rp_int r1], h3 _ H (Step.refl _ _) m (.int _)⟩
theorem snd_int1 : SoundA K (fun xs H Q => (∃ i, xs = [.int i] ∧ Q (.int i) H) ∨ ∃ k, xs = [.bl k] ∧ Q (.int (if k then 1 else 0)) H) (gA cA0 (fA1 fun i => .int i)) := by
  intro vs ss H ad μ Q m r h
  obtain ⟨h1, d, h2, h3⟩ := h
  obtain ⟨i, rfl, rfl⟩ := fA1_some h2
  obtain ⟨v, rfl, r1⟩ := rsa1 r
  exact .inl ⟨i, by rw [rp_int r1], h3 _ H (Step.refl _ _) m (.int _)⟩
theorem snd_max2 : SoundA K (fun xs H Q => ∃ i j, xs = [.int i, .int j] ∧ Q (.int (if j > i then j else i)) H) (gA cA0 (fA2 fun i j => .int (if j > i then j else i))) := by
  intro vs ss H ad μ Q m r h
  obtain ⟨h1, d, h2, h3⟩ := h
  obtain ⟨i, j, rfl, rfl⟩ := fA2_some h2
  obtain ⟨v, u, rfl, r1, r2⟩ := rsa2 r
  exact ⟨i, j, by rw [rp_int r1, rp_int r2], h3 _ H (Step.refl _ _) m (.int _)⟩
theorem snd_min2 : SoundA K (fun xs H Q => ∃ i j, xs = [.int i, .int j] ∧ Q (.int (if j < i then j else i)) H) (gA cA0 (fA2 fun i j => .int (if j < i then j else i))) := by
  intro vs ss H ad μ Q m r h
  obtain ⟨h1, d, h2, h3⟩ := h
  obtain ⟨i, j, rfl, rfl⟩ := fA2_some h2
  obtain ⟨v, u, rfl, r1, r2⟩ := rsa2 r
  exact ⟨i, j, by rw [rp_int r1, rp_int r2], h3 _ H (Step.refl _ _) m (.int _)⟩
theorem snd_gcd : SoundA K rGcd (gA cA0 (fA2 fun i j => .int ((Nat.gcd i.natAbs j.natAbs : Nat) : Int))) := by
  intro vs ss H ad μ Q m r h
  obtain ⟨h1, d, h2, h3⟩ := h
  obtain ⟨i, j, rfl, rfl⟩ := fA2_some h2
  obtain ⟨v, u, rfl, r1, r2⟩ := rsa2 r
  exact ⟨i, j, by rw [rp_int r1, rp_int r2], h3 _ H (Step.refl _ _) m (.int _)⟩
/-- divmod by a positive divisor of few figures -/
def cDm : List S → Mu → Prop := fun ss _ => match ss with
  | [.d (.int i), .d (.int j)] => 0 < j ∧ j < 2 ^ 100
  | _ => True
theorem divp_small {i j : Int} (h : 0 < j) (h2 : j < 2 ^ 100) : CDivP i j := by
  refine ⟨h, ?_⟩
  unfold Builtin.divisionGoesByPylong
  have e : j.natAbs.log2 < 100 := by
    have h3 : j.natAbs < 2 ^ 100 := by omega
    exact (Nat.log2_lt (by omega)).mpr h3
  have e2 : (j == 0) = false := by simpa using (show j ≠ 0 by omega)
  simp only [e2]
  have e3 : decide (j.natAbs.log2 / 30 + 1 > 300) = false := by
    rw [decide_eq_false]
    omega
  simp [e3]
theorem snd_divmod : SoundA K (fun xs H Q => ∃ i j, xs = [.int i, .int j] ∧ CDivP i j ∧ ∀ p, H p = none → Q (.ref p) (upd H p (.tup [.int (i / j), .int (i % j)]))) (gA cDm (fA2 fun i j => .tup [.int (i / j), .int (i % j)])) := by
  intro vs ss H ad μ Q m r h
  obtain ⟨h1, d, h2, h3⟩ := h
  obtain ⟨i, j, rfl, rfl⟩ := fA2_some h2
  obtain ⟨v, u, rfl, r1, r2⟩ := rsa2 r
  have h1' : 0 < j ∧ j < 2 ^ 100 := h1
  exact ⟨i, j, by rw [rp_int r1, rp_int r2], divp_small h1'.1 h1'.2, new_tup m (.cons (.int _) (.cons (.int _) .nil)) h3⟩
end
end DV

/-! part DV3 -/
set_option Elab.async false
set_option linter.all false
set_option maxRecDepth 100000
set_option autoImplicit false
namespace DV
open PySem PySem.Spec L2
section
variable {X : Cx} {W : WX}
/-! ### tests and values of and, or, not, if -/
def fTAnd (f g : STe) : STe := fun ρ μ P => f ρ μ fun b μ1 => if b = true then g ρ μ1 P else P false μ1
def fTOr (f g : STe) : STe := fun ρ μ P => f ρ μ fun b μ1 => if b = true then P true μ1 else g ρ μ1 P
def fTNot (f : STe) : STe := fun ρ μ P => f ρ μ fun b μ1 => P (!b) μ1
theorem mon_TAnd {f g : STe} (mf : MonE f) (mg : MonE g) : MonE (fTAnd f g) := fun ρ μ P P' k h => mf ρ μ _ _ (fun b μ1 q => by
  cases b with
  | true => exact mg ρ μ1 _ _ k q
  | false => exact k _ _ q) h
theorem mon_TOr {f g : STe} (mf : MonE f) (mg : MonE g) : MonE (fTOr f g) := fun ρ μ P P' k h => mf ρ μ _ _ (fun b μ1 q => by
  cases b with
  | true => exact k _ _ q
  | false => exact mg ρ μ1 _ _ k q) h
structure PDW (X : Cx) (e : Expr) (f : STe) : Prop where
  mo : MonE f
  run : PW X e (ttOf X.K f)
theorem PW.of {e : Expr} {t t' : TT} (h : PW X e t) (i : ∀ σ H Q, t' σ H Q → t σ H Q) : PW X e t' := ⟨fun w pins s σ H Q I q => h.run w pins s σ H Q I (i σ H Q q)⟩
theorem tt_and {f g : STe} (mf : MonE f) (mg : MonE g) (σ : L2.St) (H : Hp) (Q : Bool → Hp → Prop) (q : ttOf X.K (fTAnd f g) σ H Q) : tAnd (ttOf X.K f) (ttOf X.K g) σ H Q := by
  obtain ⟨ad, ρ, μ, s, q⟩ := q
  refine ⟨ad, ρ, μ, s, mf ρ μ _ _ (fun b μ1 h H1 t1 m1 => ?_) q⟩
  cases b with
  | true => exact ⟨ad, ρ, μ1, s.step t1 m1, mg ρ μ1 _ _ (fun c μ2 h2 H2 t2 m2 => h2 H2 (t1.trans t2) m2) h⟩
  | false => exact h H1 t1 m1
theorem tt_or {f g : STe} (mf : MonE f) (mg : MonE g) (σ : L2.St) (H : Hp) (Q : Bool → Hp → Prop) (q : ttOf X.K (fTOr f g) σ H Q) : tOr (ttOf X.K f) (ttOf X.K g) σ H Q := by
  obtain ⟨ad, ρ, μ, s, q⟩ := q
  refine ⟨ad, ρ, μ, s, mf ρ μ _ _ (fun b μ1 h H1 t1 m1 => ?_) q⟩
  cases b with
  | false => exact ⟨ad, ρ, μ1, s.step t1 m1, mg ρ μ1 _ _ (fun c μ2 h2 H2 t2 m2 => h2 H2 (t1.trans t2) m2) h⟩
  | true => exact h H1 t1 m1
variable {a b c e : Expr} {rest : List Expr} {pos : Pos}
theorem pdw_and1 {f : STe} (h : PDT X a f) : PDW X (.BoolOp .And [a] pos) f := ⟨h.mo, pw_and1 h.run⟩
theorem pdw_or1 {f : STe} (h : PDT X a f) : PDW X (.BoolOp .Or [a] pos) f := ⟨h.mo, pw_or1 h.run⟩
theorem pdw_and {f g : STe} (h : PDT X a f) (r : PDW X (.BoolOp .And (b :: rest) pos) g) : PDW X (.BoolOp .And (a :: b :: rest) pos) (fTAnd f g) := ⟨mon_TAnd h.mo r.mo, PW.of (pw_and h.run r.run) (tt_and h.mo r.mo)⟩
theorem pdw_or {f g : STe} (h : PDT X a f) (r : PDW X (.BoolOp .Or (b :: rest) pos) g) : PDW X (.BoolOp .Or (a :: b :: rest) pos) (fTOr f g) := ⟨mon_TOr h.mo r.mo, PW.of (pw_or h.run r.run) (tt_or h.mo r.mo)⟩
theorem ptd_w {f : STe} (h : PDW X e f) : PDT X e f := ⟨h.mo, h.run.pt⟩
theorem ptd_not {f : STe} (h : PDT X a f) : PDT X (.UnaryOp .Not a pos) (fTNot f) := by
  refine ⟨fun ρ μ P P' k q => h.mo ρ μ _ _ (fun b μ1 q => k _ _ q) q, (pt_not h.run).of fun σ H Q q => ?_⟩
  obtain ⟨ad, ρ, μ, s, q⟩ := q
  exact ⟨ad, ρ, μ, s, q⟩
theorem ptd_val {f : SE} (h : PD X e f) (he : ∀ whole, isTrue e X.env whole = (do let v ← whole; standAt e.pos; holding [v] (truthy v)) := by intro _; rfl) : PDT X e (fTest f) :=
  ⟨mon_test h.mo, (pt_val h.run he).of (test_imp' h.mo)⟩
/-- values -/
def fVAnd (f g : SE) : SE := fun ρ μ P => fTest f ρ μ fun b μ1 => if b = true then g ρ μ1 P else P (.d (.bl false)) μ1
def fVOr (f g : SE) : SE := fun ρ μ P => fTest f ρ μ fun b μ1 => if b = true then P (.d (.bl true)) μ1 else g ρ μ1 P
def fVNot (f : SE) : SE := fun ρ μ P => fTest f ρ μ fun b μ1 => P (.d (.bl (!b))) μ1
theorem pd_one {op} {f : SE} (h : PD X a f) : PD X (.BoolOp op [a] pos) f := ⟨h.mo, pe_one h.run⟩
theorem of_test {K : PySem.W.Frag} {f : SE} (mf : MonE f) {σ : L2.St} {H : Hp} {ad : List Addr} {ρ : Rho} {μ : Mu} (s : Sim K H ad ρ μ σ) {P : Bool → Mu → Prop} {R : V → Hp → Prop} (q : fTest f ρ μ P)
    (k : ∀ b μ1 H1, P b μ1 → Step ad H ad H1 → RpM K H1 ad μ1 → R (.bl b) H1) : teOf K f σ H R := by
  refine ⟨ad, ρ, μ, s, mf ρ μ _ _ (fun x μ1 h v H1 t1 m1 r1 => ?_) q⟩
  cases x with
  | m j => exact h.elim
  | ex _ _ _ _ => exact h.elim
  | d x =>
    cases x with
    | bl b => cases r1; exact k b μ1 H1 h t1 m1
    | non => exact h.elim
    | int i => exact h.elim
    | str i => exact h.elim
    | tup i => exact h.elim
    | lst i => exact h.elim
    | dct i j => exact h.elim
    | err i j x => exact h.elim
    | erb i => exact h.elim
theorem pd_and {f g : SE} (h : PD X a f) (r : PD X (.BoolOp .And (b :: rest) pos) g) : PD X (.BoolOp .And (a :: b :: rest) pos) (fVAnd f g) := by
  refine ⟨fun ρ μ P P' k q => mon_test h.mo ρ μ _ _ (fun b μ1 q => ?_) q, (pe_and h.run r.run).of fun σ H Q q => ?_⟩
  · cases b with
    | true => exact r.mo ρ μ1 _ _ k q
    | false => exact k _ _ q
  · obtain ⟨ad, ρ, μ, s, q⟩ := q
    refine of_test h.mo s q fun b μ1 H1 h1 t1 m1 => ⟨b, rfl, ?_⟩
    cases b with
    | true => exact ⟨ad, ρ, μ1, s.step t1 m1, r.mo ρ μ1 _ _ (fun c μ2 h2 v H2 t2 m2 r2 => h2 v H2 (t1.trans t2) m2 r2) h1⟩
    | false => exact h1 _ H1 t1 m1 (.bl _)
theorem pd_or {f g : SE} (h : PD X a f) (r : PD X (.BoolOp .Or (b :: rest) pos) g) : PD X (.BoolOp .Or (a :: b :: rest) pos) (fVOr f g) := by
  refine ⟨fun ρ μ P P' k q => mon_test h.mo ρ μ _ _ (fun b μ1 q => ?_) q, (pe_or h.run r.run).of fun σ H Q q => ?_⟩
  · cases b with
    | false => exact r.mo ρ μ1 _ _ k q
    | true => exact k _ _ q
  · obtain ⟨ad, ρ, μ, s, q⟩ := q
    refine of_test h.mo s q fun b μ1 H1 h1 t1 m1 => ⟨b, rfl, ?_⟩
    cases b with
    | false => exact ⟨ad, ρ, μ1, s.step t1 m1, r.mo ρ μ1 _ _ (fun c μ2 h2 v H2 t2 m2 r2 => h2 v H2 (t1.trans t2) m2 r2) h1⟩
    | true => exact h1 _ H1 t1 m1 (.bl _)
theorem pd_not {f : SE} (h : PD X a f) : PD X (.UnaryOp .Not a pos) (fVNot f) := by
  refine ⟨fun ρ μ P P' k q => mon_test h.mo ρ μ _ _ (fun b μ1 q => k _ _ q) q, (pe_not h.run).of fun σ H Q q => ?_⟩
  obtain ⟨ad, ρ, μ, s, q⟩ := q
  exact of_test h.mo s q fun b μ1 H1 h1 t1 m1 => ⟨b, rfl, h1 _ H1 t1 m1 (.bl _)⟩
def fNeg (f : SE) : SE := fun ρ μ P => f ρ μ fun x μ1 => match x with | .d (.int i) => P (.d (.int (-i))) μ1 | _ => False
theorem pd_neg {f : SE} (h : PD X a f) : PD X (.UnaryOp .USub a pos) (fNeg f) := by
  refine ⟨fun ρ μ P P' k q => h.mo ρ μ _ _ (fun x μ1 q => ?_) q, (pe_un un_neg h.run).of fun σ H Q q => ?_⟩
  · revert q
    cases x with
    | m j => exact fun h => h
    | ex _ _ _ _ => exact fun h => h
    | d x => cases x <;> intro q <;> first | exact q | exact k _ _ q
  · obtain ⟨ad, ρ, μ, s, q⟩ := q
    refine ⟨ad, ρ, μ, s, h.mo ρ μ _ _ (fun x μ1 h v H1 t1 m1 r1 => ?_) q⟩
    cases x with
    | m j => exact h.elim
    | ex _ _ _ _ => exact h.elim
    | d x =>
      cases x with
      | int i => cases r1; exact ⟨i, rfl, h _ H1 t1 m1 (.int _)⟩
      | non => exact h.elim
      | bl i => exact h.elim
      | str i => exact h.elim
      | tup i => exact h.elim
      | lst i => exact h.elim
      | dct i j => exact h.elim
      | err i j x => exact h.elim
      | erb i => exact h.elim
def fIf (t : STe) (f g : SE) : SE := fun ρ μ P => t ρ μ fun b μ1 => if b = true then f ρ μ1 P else g ρ μ1 P
theorem pd_if {t : STe} {f g : SE} (hc : PDT X c t) (ha : PD X a f) (hb : PD X b g) : PD X (.IfExp c a b pos) (fIf t f g) := by
  refine ⟨fun ρ μ P P' k q => hc.mo ρ μ _ _ (fun b μ1 q => ?_) q, (pe_ifExp hc.run ha.run hb.run).of fun σ H Q q => ?_⟩
  · cases b with
    | true => exact ha.mo ρ μ1 _ _ k q
    | false => exact hb.mo ρ μ1 _ _ k q
  · obtain ⟨ad, ρ, μ, s, q⟩ := q
    refine ⟨ad, ρ, μ, s, hc.mo ρ μ _ _ (fun b μ1 h H1 t1 m1 => ?_) q⟩
    cases b with
    | true => exact ⟨ad, ρ, μ1, s.step t1 m1, ha.mo ρ μ1 _ _ (fun c μ2 h2 v H2 t2 m2 r2 => h2 v H2 (t1.trans t2) m2 r2) h⟩
    | false => exact ⟨ad, ρ, μ1, s.step t1 m1, hb.mo ρ μ1 _ _ (fun c μ2 h2 v H2 t2 m2 r2 => h2 v H2 (t1.trans t2) m2 r2) h⟩
/-- a op b op' c of ints -/
def fChain (g g' : G2) (fa fb fc : SE) : SE := fun ρ μ P => fa ρ μ fun x μ1 => fb ρ μ1 fun y μ2 => g x y μ2 fun d => match d with
  | .bl k => if k = true then fc ρ μ2 fun z μ3 => g' y z μ3 fun d => P (.d d) μ3 else P (.d (.bl false)) μ2
  | _ => False
theorem mon_chain {g g' : G2} {fa fb fc : SE} (mg : MonG g) (mg' : MonG g') (ma : MonE fa) (mb : MonE fb) (mc : MonE fc) : MonE (fChain g g' fa fb fc) := fun ρ μ P P' k h =>
  ma ρ μ _ _ (fun x μ1 h1 => mb ρ μ1 _ _ (fun y μ2 h2 => mg x y μ2 _ _ (fun d hd => by
    cases d with
    | bl k' =>
      cases k' with
      | true => exact mc ρ μ2 _ _ (fun z μ3 h3 => mg' y z μ3 _ _ (fun d hd => k _ _ hd) h3) hd
      | false => exact k _ _ hd
    | non => exact hd
    | int _ => exact hd
    | str _ => exact hd
    | tup _ => exact hd
    | lst _ => exact hd
    | dct _ _ => exact hd
    | err _ _ _ => exact hd
    | erb _ => exact hd) h2) h1) h
theorem chain_imp {r r' : R2} {g g' : G2} {fa fb fc : SE} (mg : MonG g) (mg' : MonG g') (ma : MonE fa) (mb : MonE fb) (mc : MonE fc) (sd : Sound2 X.K r g) (sd' : Sound2 X.K r' g') (σ : L2.St) (H : Hp) (Q : VK) (q : teOf X.K (fChain g g' fa fb fc) σ H Q) :
    tChain r r' (teOf X.K fa) (teOf X.K fb) (teOf X.K fc) σ H Q := by
  obtain ⟨ad, ρ, μ, s, q⟩ := q
  refine ⟨ad, ρ, μ, s, ma ρ μ _ _ (fun x μ1 h1 v H1 t1 m1 r1 => ?_) q⟩
  refine ⟨ad, ρ, μ1, s.step t1 m1, mb ρ μ1 _ _ (fun y μ2 h2 u H2 t2 m2 r2 => ?_) h1⟩
  refine sd v u x y H2 ad μ2 _ m2 (r1.step t2) r2 (mg x y μ2 _ _ (fun d hd w H3 t3 m3 r3 => ?_) h2)
  cases d with
  | bl k =>
    cases r3
    refine ⟨k, rfl, ?_⟩
    cases k with
    | true =>
      refine ⟨ad, ρ, μ2, s.step ((t1.trans t2).trans t3) m3, mc ρ μ2 _ _ (fun z μ3 h3 w' H4 t4 m4 r4 => ?_) hd⟩
      exact sd' u w' y z H4 ad μ3 Q m4 (r2.step (t3.trans t4)) r4 (mg' y z μ3 _ _ (fun d hd w H5 t5 m5 r5 => hd w H5 ((((t1.trans t2).trans t3).trans t4).trans t5) m5 r5) h3)
    | false => exact hd _ H3 ((t1.trans t2).trans t3) m3 (.bl _)
  | non => exact hd.elim
  | int _ => exact hd.elim
  | str _ => exact hd.elim
  | tup _ => exact hd.elim
  | lst _ => exact hd.elim
  | dct _ _ => exact hd.elim
  | err _ _ _ => exact hd.elim
  | erb _ => exact hd.elim
theorem pd_chain {op op' : CmpOp} {r r' : R2} {g g' : G2} {fa fb fc : SE} (ho : OpR X (compareOp op) r) (ho' : OpR X (compareOp op') r') (mg : MonG g) (mg' : MonG g') (sd : Sound2 X.K r g) (sd' : Sound2 X.K r' g')
    (hm : lastMarks [op, op'] [b, c] = false) (ha : PD X a fa) (hb : PD X b fb) (hc : PD X c fc) : PD X (.Compare a [op, op'] [b, c] pos) (fChain g g' fa fb fc) :=
  ⟨mon_chain mg mg' ha.mo hb.mo hc.mo, (pe_chain ho ho' ha.run hb.run hc.run hm).of (chain_imp mg mg' ha.mo hb.mo hc.mo sd sd')⟩
theorem ptd_chain {op op' : CmpOp} {r r' : R2} {g g' : G2} {fa fb fc : SE} (ho : OpR X (compareOp op) r) (ho' : OpR X (compareOp op') r') (mg : MonG g) (mg' : MonG g') (sd : Sound2 X.K r g) (sd' : Sound2 X.K r' g')
    (hm : lastMarks [op, op'] [b, c] = false) (ha : PD X a fa) (hb : PD X b fb) (hc : PD X c fc) : PDT X (.Compare a [op, op'] [b, c] pos) (fTest (fChain g g' fa fb fc)) :=
  ⟨mon_test (mon_chain mg mg' ha.mo hb.mo hc.mo), (pt_chain ho ho' ha.run hb.run hc.run hm).of fun σ H Q q =>
    chain_imp mg mg' ha.mo hb.mo hc.mo sd sd' σ H _ (test_imp (mon_chain mg mg' ha.mo hb.mo hc.mo) σ H Q q)⟩

/-! ### slices -/
abbrev SO := Rho → Mu → (Option Int → Mu → Prop) → Prop
def toOf (K : PySem.W.Frag) (f : SO) : TO := fun σ H Q => ∃ ad ρ μ, Sim K H ad ρ μ σ ∧ f ρ μ fun o μ' => ∀ H', Step ad H ad H' → RpM K H' ad μ' → Q o H'
structure PDO (X : Cx) (e : Option Expr) (f : SO) : Prop where
  mo : MonE f
  run : PO X e (toOf X.K f)
def fONone : SO := fun _ μ P => P none μ
def fOSome (f : SE) : SO := fun ρ μ P => f ρ μ fun x μ1 => match x with | .d (.int i) => P (some i) μ1 | _ => False
theorem pdo_none : PDO X none fONone := ⟨fun ρ μ P P' k h => k _ _ h, ⟨fun pins s σ H Q I q => po_none.run pins s σ H Q I (by
  obtain ⟨ad, ρ, μ, s, q⟩ := q
  exact q H (Step.refl _ _) s.m)⟩⟩
theorem pdo_some {f : SE} (h : PD X e f) : PDO X (some e) (fOSome f) := by
  refine ⟨fun ρ μ P P' k q => h.mo ρ μ _ _ (fun x μ1 q => ?_) q, ⟨fun pins s σ H Q I q => (po_some h.run).run pins s σ H Q I ?_⟩⟩
  · revert q
    cases x with
    | m j => exact fun h => h
    | ex _ _ _ _ => exact fun h => h
    | d x => cases x <;> intro q <;> first | exact q | exact k _ _ q
  · obtain ⟨ad, ρ, μ, s, q⟩ := q
    refine ⟨ad, ρ, μ, s, h.mo ρ μ _ _ (fun x μ1 h v H1 t1 m1 r1 => ?_) q⟩
    cases x with
    | m j => exact h.elim
    | ex _ _ _ _ => exact h.elim
    | d x =>
      cases x with
      | int i => cases r1; exact ⟨i, rfl, h H1 t1 m1⟩
      | non => exact h.elim
      | bl i => exact h.elim
      | str i => exact h.elim
      | tup i => exact h.elim
      | lst i => exact h.elim
      | dct i j => exact h.elim
      | err i j x => exact h.elim
      | erb i => exact h.elim
def cutD (xs : List D) (lo hi : Option Int) : List D := (xs.drop (HT.sIx xs.length 0 lo)).take (HT.sIx xs.length xs.length hi - HT.sIx xs.length 0 lo)
theorem cut_rp {K : PySem.W.Frag} {F : Hp} {vs : List V} {ds : List D} (r : RpA K F vs ds) (lo hi : Option Int) : RpA K F (cutV vs lo hi) (cutD ds lo hi) := by
  unfold cutV cutD
  rw [r.length]
  exact (r.drop _).take _
def sliceF : S → Option Int → Option Int → Mu → Option D := fun x lo hi μ => match x with
  | .d (.tup ds) => some (.tup (cutD ds lo hi))
  | .d (.lst ds) => some (.lst (cutD ds lo hi))
  | .m j => (μ[j]?).map fun ds => .lst (cutD ds lo hi)
  | _ => none
def fSl (f : SE) (fl fh : SO) : SE := fun ρ μ P => f ρ μ fun x μ1 => fl ρ μ1 fun lo μ2 => fh ρ μ2 fun hi μ3 => ∃ d, sliceF x lo hi μ3 = some d ∧ P (.d d) μ3
theorem pd_slice {lo hi : Option Expr} {p2 : Pos} {f : SE} {fl fh : SO} (h : PD X a f) (hl : PDO X lo fl) (hh : PDO X hi fh) : PD X (.Subscript a (.Slice lo hi none p2) pos) (fSl f fl fh) := by
  refine ⟨fun ρ μ P P' k q => h.mo ρ μ _ _ (fun x μ1 q => hl.mo ρ μ1 _ _ (fun l μ2 q => hh.mo ρ μ2 _ _ (fun u μ3 ⟨d, q1, q2⟩ => ⟨d, q1, k _ _ q2⟩) q) q) q,
    (pe_slice (sl_list.or sl_tupA) h.run hl.run hh.run).of fun σ H Q q => ?_⟩
  obtain ⟨ad, ρ, μ, s, q⟩ := q
  refine ⟨ad, ρ, μ, s, h.mo ρ μ _ _ (fun x μ1 h1 v H1 t1 m1 r1 => ?_) q⟩
  refine ⟨ad, ρ, μ1, s.step t1 m1, hl.mo ρ μ1 _ _ (fun l μ2 h2 H2 t2 m2 => ?_) h1⟩
  refine ⟨ad, ρ, μ2, s.step (t1.trans t2) m2, hh.mo ρ μ2 _ _ (fun u μ3 h3 H3 t3 m3 => ?_) h2⟩
  obtain ⟨d, e1, q⟩ := h3
  have t13 := (t1.trans t2).trans t3
  have r3 := r1.step (t2.trans t3)
  unfold sliceF at e1
  split at e1
  · rename_i ds
    cases e1
    obtain ⟨p, xs, rfl, s1, r2⟩ := tup_sq r3 rfl
    refine .inr ⟨p, xs, rfl, s1, fun w => ?_, fun _ => new_tup m3 (cut_rp r2 l u) fun w H4 t4 m4 r4 => q w H4 (t13.trans t4) m4 r4⟩
    have e : cutD ds l u = ds := by
      unfold cutD
      rw [r2.length] at w
      rw [w.1, w.2, List.drop_zero, Nat.sub_zero, List.take_length]
    rw [e] at q
    exact q _ H3 t13 m3 r3
  · cases e1
    obtain ⟨p, xs, rfl, s1, r2⟩ := seq_sq m3 r3 rfl
    exact .inl ⟨p, xs, rfl, s1, new_lst m3 (cut_rp r2 l u) fun w H4 t4 m4 r4 => q w H4 (t13.trans t4) m4 r4⟩
  · rename_i j
    cases e2 : μ3[j]? with
    | none => rw [e2] at e1; cases e1
    | some ds =>
      rw [e2] at e1
      cases e1
      obtain ⟨p, xs, rfl, s1, r2⟩ := seq_sq (x := .m j) m3 r3 e2
      exact .inl ⟨p, xs, rfl, s1, new_lst m3 (cut_rp r2 l u) fun w H4 t4 m4 r4 => q w H4 (t13.trans t4) m4 r4⟩
  · cases e1

/-! ### targets -/
abbrev SG := S → Rho → Mu → (Rho → Mu → Prop) → Prop
abbrev SGs := List S → Rho → Mu → (Rho → Mu → Prop) → Prop
/-- is: the slots that it may set -/
def tgOf (K : PySem.W.Frag) (is : List Nat) (g : SG) : TG := fun v σ H Q => ∃ ad ρ μ x, Sim K H ad ρ μ σ ∧ RpS K (hide ad H) ad v x ∧ g x ρ μ fun ρ' μ' => ∀ σ' H', (∀ vs, (∀ i ∈ is, i ∈ vs) → L2.wipe σ' vs = L2.wipe σ vs) → Step ad H ad H' → Sim K H' ad ρ' μ' σ' → Q σ' H'
def tgsOf (K : PySem.W.Frag) (is : List Nat) (g : SGs) : TGs := fun vs σ H Q => ∃ ad ρ μ xs, Sim K H ad ρ μ σ ∧ RpSA K (hide ad H) ad vs xs ∧ g xs ρ μ fun ρ' μ' => ∀ σ' H', (∀ vs, (∀ i ∈ is, i ∈ vs) → L2.wipe σ' vs = L2.wipe σ vs) → Step ad H ad H' → Sim K H' ad ρ' μ' σ' → Q σ' H'
def MonT {α : Type} (g : α → Rho → Mu → (Rho → Mu → Prop) → Prop) : Prop := ∀ x ρ μ (P P' : Rho → Mu → Prop), (∀ ρ' μ', P ρ' μ' → P' ρ' μ') → g x ρ μ P → g x ρ μ P'
structure PDG (X : Cx) (e : Expr) (is : List Nat) (g : SG) : Prop where
  mo : MonT g
  run : PG X e (tgOf X.K is g)
structure PDGs (X : Cx) (es : List Expr) (is : List Nat) (g : SGs) : Prop where
  mo : MonT g
  run : PGs X es (tgsOf X.K is g)
def gN (i : Nat) : SG := fun x ρ μ P => P (ρ.set i (some x)) μ
theorem wipe_set {σ : L2.St} {i : Nat} {v : Option V} : ∀ {vs : List Nat}, i ∈ vs → L2.wipe (σ.set i v) vs = L2.wipe σ vs
  | [], h => by cases h
  | w :: vs, h => by
    unfold L2.wipe
    by_cases e : i ∈ vs
    · rw [wipe_set e]
    · have e2 : i = w := by simpa [e] using h
      subst e2
      have : ∀ {us : List Nat}, L2.wipe (σ.set i v) us = (L2.wipe σ us).set i v ∨ i ∈ us := fun {us} => by
        induction us with
        | nil => exact .inl rfl
        | cons u us ih =>
          rcases ih with ih | ih
          · by_cases q : i = u
            · exact .inr (q ▸ List.mem_cons_self)
            · refine .inl ?_
              unfold L2.wipe
              rw [ih, List.set_comm _ _ q]
          · exact .inr (List.mem_cons_of_mem _ ih)
      rcases @this vs with q | q
      · rw [q, List.set_set]
      · exact absurd q e
theorem pdg_name {i : Nat} {x : Str} {p : Pos} (h : PG X (.Name x p) (gName i)) : PDG X (.Name x p) [i] (gN i) := by
  refine ⟨fun x ρ μ P P' k q => k _ _ q, ⟨fun pins s σ H v u Q I r q => h.run pins s σ H v u Q I r ?_⟩⟩
  obtain ⟨ad, ρ, μ, x, s, rx, q⟩ := q
  exact q _ H (fun vs hv => wipe_set (hv i (by simp))) (Step.refl _ _) (s.set rx)
def gsNil : SGs := fun xs ρ μ P => xs = [] ∧ P ρ μ
def gsCons (g : SG) (gs : SGs) : SGs := fun xs ρ μ P => ∃ x r, xs = x :: r ∧ g x ρ μ fun ρ' μ' => gs r ρ' μ' P
theorem pdgs_nil : PDGs X [] [] gsNil := by
  refine ⟨fun x ρ μ P P' k q => ⟨q.1, k _ _ q.2⟩, ⟨fun pins s σ H vs us Q I r q => pgs_nil.run pins s σ H vs us Q I r ?_⟩⟩
  obtain ⟨ad, ρ, μ, xs, s, rx, e, q⟩ := q
  subst e
  cases rx
  exact ⟨rfl, q σ H (fun _ _ => rfl) (Step.refl _ _) s⟩
theorem pdgs_cons {es : List Expr} {is js : List Nat} {g : SG} {gs : SGs} (h : PDG X e is g) (r : PDGs X es js gs) (hs : (assignEach (e :: es) X.env).map (·.2) = assign e X.env :: (assignEach es X.env).map (·.2) := by rfl) : PDGs X (e :: es) (is ++ js) (gsCons g gs) := by
  refine ⟨fun xs ρ μ P P' k ⟨x, rr, e, q⟩ => ⟨x, rr, e, h.mo x ρ μ _ _ (fun ρ' μ' q => r.mo rr ρ' μ' _ _ k q) q⟩, ⟨fun pins s σ H vs us Q I rv q => (pgs_cons h.run r.run hs).run pins s σ H vs us Q I rv ?_⟩⟩
  obtain ⟨ad, ρ, μ, xs, s, rx, x, rr, e, q⟩ := q
  subst e
  cases rx with
  | cons r1 r2 =>
    refine ⟨_, _, rfl, ad, ρ, μ, x, s, r1, h.mo x ρ μ _ _ (fun ρ' μ' q σ' H' w1 t1 s1 => ?_) q⟩
    refine ⟨ad, ρ', μ', rr, s1, r2.step t1, r.mo rr ρ' μ' _ _ (fun ρ2 μ2 q σ2 H2 w2 t2 s2 => ?_) q⟩
    exact q σ2 H2 (fun vs hv => (w2 vs fun i hi => hv i (List.mem_append_right _ hi)).trans (w1 vs fun i hi => hv i (List.mem_append_left _ hi))) (t1.trans t2) s2
def gT (n : Nat) (gs : SGs) : SG := fun x ρ μ P => ∃ ds, tupOf x = some ds ∧ ds.length = n ∧ gs (ds.map S.d) ρ μ P
theorem rpA_sa {K : PySem.W.Frag} {F : Hp} {ad : List Addr} : ∀ {vs : List V} {ds : List D}, RpA K F vs ds → RpSA K F ad vs (ds.map S.d)
  | _, _, .nil => .nil
  | _, _, .cons h r => .cons h (rpA_sa r)
theorem pdg_tup {es : List Expr} {k : Nat} {is : List Nat} {gs : SGs} {n : Nat} (hc : X.calm = true) (h : PDGs X es is gs) (hn : (assignEach es X.env).length = n := by rfl) (hst : (assignEach es X.env).findIdx? (·.1) = none := by rfl) : PDG X (.Tuple es k pos) is (gT n gs) := by
  refine ⟨fun x ρ μ P P' k ⟨ds, e, l, q⟩ => ⟨ds, e, l, h.mo _ ρ μ _ _ k q⟩, ⟨fun pins s σ H v u Q I rv q => (pg_tup hc h.run hn hst).run pins s σ H v u Q I rv ?_⟩⟩
  obtain ⟨ad, ρ, μ, x, s, rx, ds, e, l, q⟩ := q
  obtain ⟨a, xs, rfl, s1, r1⟩ := tup_sq rx e
  exact ⟨a, xs, rfl, s1, by rw [r1.length]; exact l, ad, ρ, μ, _, s, rpA_sa r1, q⟩
/-- m[i] = v, m a list that changes -/
def gSb (fo fi : SE) : SG := fun v ρ μ P => fo ρ μ fun o μ1 => fi ρ μ1 fun i μ2 => ∃ j k ds d, o = .m j ∧ i = .d (.int k) ∧ v = .d d ∧ μ2[j]? = some ds ∧ 0 ≤ k ∧ k < ds.length ∧ P ρ (μ2.set j (ds.set k.toNat d))
theorem pdg_sub {o i : Expr} {fo fi : SE} (ho : PD X o fo) (hi : PD X i fi) (ha : ∀ v, assign (.Subscript o i pos) X.env v = (do
      let ov ← holding [v] (eval o X.env)
      let iv ← holding [v, ov] (eval i X.env)
      standAt pos
      holding [v, ov, iv] (setItem ov iv v)
      release [v, ov, iv] []) := by intro _; rfl) : PDG X (.Subscript o i pos) [] (gSb fo fi) := by
  refine ⟨fun x ρ μ P P' k q => ho.mo ρ μ _ _ (fun o μ1 q => hi.mo ρ μ1 _ _ (fun i μ2 ⟨j, kk, ds, d, e1, e2, e3, e4, e5, e6, q⟩ => ⟨j, kk, ds, d, e1, e2, e3, e4, e5, e6, k _ _ q⟩) q) q,
    ⟨fun pins s σ H v u Q I rv q => (pg_sub ho.run hi.run set_list ha).run pins s σ H v u Q I rv ?_⟩⟩
  obtain ⟨ad, ρ, μ, x, s, rx, q⟩ := q
  refine ⟨ad, ρ, μ, s, ho.mo ρ μ _ _ (fun o μ1 q ov H1 t1 m1 r1 => ?_) q⟩
  refine ⟨ad, ρ, μ1, s.step t1 m1, hi.mo ρ μ1 _ _ (fun i μ2 q iv H2 t2 m2 r2 => ?_) q⟩
  obtain ⟨j, k, ds, d, rfl, rfl, rfl, e4, e5, e6, q⟩ := q
  obtain ⟨aa, h1, rfl⟩ := r1
  obtain ⟨b, xs, q1, q2, q3⟩ := m2.at_ j ds e4
  rw [h1] at q1
  cases q1
  obtain rfl := rp_int r2
  have hl := q3.length
  have rx2 : Rp X.K (hide ad H2) v d := RpS.step (x := .d d) (t1.trans t2) rx
  have m3 := m2.put h1 (q3.set rx2 k.toNat)
  have st : Step ad H ad (upd H2 aa (.lst (xs.set k.toNat v))) := (t1.trans t2).trans (Step.mut (List.mem_of_getElem? h1))
  have ix : ixN xs.length k = some k.toNat := by
    unfold ixN
    rw [if_pos e5, if_pos (by omega)]
  exact ⟨aa, xs, k, k.toNat, rfl, rfl, q2, ix, q σ _ (fun _ _ => rfl) st (s.step st m3)⟩

/-! ### statements -/
def fNext : SS := fun ρ μ k => k.nx ρ μ
def fSeq (f g : SS) : SS := fun ρ μ k => f ρ μ { k with nx := fun ρ' μ' => g ρ' μ' k }
theorem K4.le_refl (k : K4) : K4.le k k := ⟨fun _ _ h => h, fun _ _ h => h, fun _ _ h => h, fun _ _ h => h, fun _ _ _ h => h⟩
theorem mon_next : MonS fNext := fun ρ μ k k' l h => l.nx _ _ h
theorem mon_seq {f g : SS} (mf : MonS f) (mg : MonS g) : MonS (fSeq f g) := fun ρ μ k k' l h => mf ρ μ { k with nx := fun ρ' μ' => g ρ' μ' k } { k' with nx := fun ρ' μ' => g ρ' μ' k' } ⟨fun ρ' μ' q => mg ρ' μ' k k' l q, l.rt, l.bk, l.ct, l.er⟩ h
theorem kOf_step {K : PySem.W.Frag} {ad ad' : List Addr} {H H' : Hp} {Dn : Ends} (t : Step ad H ad' H') : K4.le (kOf K W ad H Dn) (kOf K W ad' H' Dn) :=
  ⟨fun _ _ h σ' H2 a2 t2 s2 => h σ' H2 a2 (t.trans t2) s2, fun _ _ h v H2 a2 t2 s2 => h v H2 a2 (t.trans t2) s2, fun _ _ h σ' H2 a2 t2 s2 => h σ' H2 a2 (t.trans t2) s2, fun _ _ h σ' H2 a2 t2 s2 => h σ' H2 a2 (t.trans t2) s2, fun _ _ _ h cls d σ' H2 a2 t2 m2 x2 => h cls d σ' H2 a2 (t.trans t2) m2 x2⟩
theorem seq_imp {f g : SS} (mf : MonS f) (mg : MonS g) (Dn : Ends) (σ : L2.St) (H : Hp) (q : tsOf X.K W (fSeq f g) Dn σ H) : tSeq (tsOf X.K W f) (tsOf X.K W g) Dn σ H := by
  obtain ⟨ad, ρ, μ, s, q⟩ := q
  refine ⟨ad, ρ, μ, s, mf ρ μ { kOf X.K W ad H Dn with nx := fun ρ' μ' => g ρ' μ' (kOf X.K W ad H Dn) } _ ⟨fun ρ' μ' q σ' H' ad' t1 s1 => ?_, fun _ _ h => h, fun _ _ h => h, fun _ _ h => h, fun _ _ _ h => h⟩ q⟩
  exact ⟨ad', ρ', μ', s1, mg ρ' μ' _ _ (kOf_step t1) q⟩
variable {st : Stmt} {sts : List Stmt}
theorem pds_nil : PDSs X W [] fNext := ⟨mon_next, pss_nil.of fun D σ H ⟨ad, ρ, μ, s, q⟩ => q σ H ad (Step.refl _ _) s⟩
theorem pds_cons {f g : SS} (h : PDS X W st f) (r : PDSs X W sts g) : PDSs X W (st :: sts) (fSeq f g) := ⟨mon_seq h.mo r.mo, (pss_cons h.run r.run).of (seq_imp h.mo r.mo)⟩
theorem pds_one {f : SS} (h : PDS X W st f) : PDSs X W [st] f := ⟨h.mo, pss_one h.run⟩
def fRet (f : SE) : SS := fun ρ μ k => f ρ μ k.rt
theorem pd_ret {f : SE} (h : PD X e f) : PDS X W (.Return (some e) pos) (fRet f) := by
  refine ⟨fun ρ μ k k' l q => h.mo ρ μ _ _ l.rt q, (ps_ret h.run).of fun Dn σ H q => ?_⟩
  obtain ⟨ad, ρ, μ, s, q⟩ := q
  exact ⟨ad, ρ, μ, s, h.mo ρ μ _ _ (fun x μ1 q v H1 t1 m1 r1 => q v H1 ad t1 m1 r1) q⟩
def fIfS (t : STe) (f g : SS) : SS := fun ρ μ k => t ρ μ fun b μ1 => if b = true then f ρ μ1 k else g ρ μ1 k
theorem pds_if {as bs : List Stmt} {t : STe} {f g : SS} (hc : PDT X c t) (ha : PDSs X W as f) (hb : PDSs X W bs g) : PDS X W (.If c as bs pos) (fIfS t f g) := by
  refine ⟨fun ρ μ k k' l q => hc.mo ρ μ _ _ (fun b μ1 q => ?_) q, (ps_if hc.run ha.run hb.run).of fun Dn σ H q => ?_⟩
  · cases b with
    | true => exact ha.mo ρ μ1 _ _ l q
    | false => exact hb.mo ρ μ1 _ _ l q
  · obtain ⟨ad, ρ, μ, s, q⟩ := q
    refine ⟨ad, ρ, μ, s, hc.mo ρ μ _ _ (fun b μ1 q H1 t1 m1 => ?_) q⟩
    cases b with
    | true => exact ⟨ad, ρ, μ1, s.step t1 m1, ha.mo ρ μ1 _ _ (kOf_step t1) q⟩
    | false => exact ⟨ad, ρ, μ1, s.step t1 m1, hb.mo ρ μ1 _ _ (kOf_step t1) q⟩
def fNever : SS := fun _ _ _ => False
theorem pds_never : PDS X W st fNever := ⟨fun _ _ _ _ _ h => h, ps_never.of fun D σ H ⟨_, _, _, _, q⟩ => q⟩
def fAsg (f : SE) (g : SG) : SS := fun ρ μ k => f ρ μ fun x μ1 => g x ρ μ1 k.nx
theorem mon_asg {f : SE} {g : SG} (mf : MonE f) (mg : MonT g) : MonS (fAsg f g) := fun ρ μ k k' l q => mf ρ μ _ _ (fun x μ1 q => mg x ρ μ1 _ _ l.nx q) q
theorem asg_imp {f : SE} {is : List Nat} {g : SG} (mf : MonE f) (mg : MonT g) (Dn : Ends) (σ : L2.St) (H : Hp) (q : tsOf X.K W (fAsg f g) Dn σ H) : tAsg (teOf X.K f) (tgOf X.K is g) Dn σ H := by
  obtain ⟨ad, ρ, μ, s, q⟩ := q
  refine ⟨ad, ρ, μ, s, mf ρ μ _ _ (fun x μ1 q v H1 t1 m1 r1 => ?_) q⟩
  exact ⟨ad, ρ, μ1, x, s.step t1 m1, r1, mg x ρ μ1 _ _ (fun ρ' μ' q σ' H' _ t2 s2 => q σ' H' ad (t1.trans t2) s2) q⟩
theorem pds_asg {tg : Expr} {is : List Nat} {f : SE} {g : SG} (h : PD X e f) (hg : PDG X tg is g) (hs : swapsWithSole [tg] e pos.line X.env = pure false := by rfl) (hw : swappedStores [tg] e X.env = pure none := by rfl)
    (h1 : (assignEach [tg] X.env).map (·.2) = [assign tg X.env] := by rfl) : PDS X W (.Assign [tg] e pos) (fAsg f g) := ⟨mon_asg h.mo hg.mo, (ps_asg h.run hg.run hs hw h1).of (asg_imp h.mo hg.mo)⟩
theorem pds_set {i : Nat} {x : Str} {p : Pos} {f : SE} (h : PD X e f) (hp : ∀ te, PE X e te → PS X (.Assign [.Name x p] e pos) (tAsg te (gName i))) : PDS X W (.Assign [.Name x p] e pos) (fAsg f (gN i)) := by
  refine ⟨mon_asg h.mo fun x ρ μ P P' k q => k _ _ q, (hp _ h.run).of fun Dn σ H q => ?_⟩
  obtain ⟨ad, ρ, μ, s, q⟩ := q
  exact ⟨ad, ρ, μ, s, h.mo ρ μ _ _ (fun x μ1 q v H1 t1 m1 r1 => q _ H1 ad t1 ((s.step t1 m1).set r1)) q⟩
/-- a, b = x, y -/
def fPar (i j : Nat) (f : SA) : SS := fun ρ μ k => f ρ μ fun xs μ1 => ∃ x y, xs = [x, y] ∧ k.nx ((ρ.set i (some x)).set j (some y)) μ1
theorem pds_par {i j : Nat} {es : List Expr} {f : SA} (h : PDA X es f) (hp : ∀ ta, PA X es ta → PS X st (tPar i j ta)) : PDS X W st (fPar i j f) := by
  refine ⟨fun ρ μ k k' l q => h.mo ρ μ _ _ (fun xs μ1 ⟨x, y, e, q⟩ => ⟨x, y, e, l.nx _ _ q⟩) q, (hp _ h.run).of fun Dn σ H q => ?_⟩
  obtain ⟨ad, ρ, μ, s, q⟩ := q
  refine ⟨ad, ρ, μ, s, h.mo ρ μ _ _ (fun xs μ1 q vs H1 t1 m1 r1 => ?_) q⟩
  obtain ⟨x, y, rfl, q⟩ := q
  obtain ⟨v, u, rfl, r2, r3⟩ := rsa2 r1
  exact ⟨v, u, rfl, q _ H1 ad t1 (((s.step t1 m1).set r2).set r3)⟩
end
end DV

/-! part DV4 -/
set_option Elab.async false
set_option linter.all false
set_option maxRecDepth 100000
set_option autoImplicit false
namespace DV
open PySem PySem.Spec L2
/-! ### what is walked -/
def DWalk (K : PySem.W.Frag) (ad : List Addr) (J : It) (items : List D) (ok : Mu → Prop) (H0 : Hp) : Prop := ∀ H2 ad2 μ2, Step ad H0 ad2 H2 → RpM K H2 ad2 μ2 → ok μ2 →
  (∀ i, i < items.length → J.go i H2) ∧ J.stop items.length H2 ∧ ∀ i d x H3, items[i]? = some d → J.yld i H2 x H3 → Step ad2 H2 ad2 H3 ∧ RpM K H3 ad2 μ2 ∧ Rp K (hide ad2 H3) x d
abbrev SI := Rho → Mu → (List D → (Mu → Prop) → Mu → Prop) → Prop
def MonI (f : SI) : Prop := ∀ ρ μ (P P' : List D → (Mu → Prop) → Mu → Prop), (∀ ds ok μ', P ds ok μ' → P' ds ok μ') → f ρ μ P → f ρ μ P'
def tiOf (K : PySem.W.Frag) (f : SI) : TI := fun σ H R => ∃ ad ρ μ, Sim K H ad ρ μ σ ∧ f ρ μ fun items ok μ' => ∀ J H', Step ad H ad H' → RpM K H' ad μ' → DWalk K ad J items ok H' → R J H'
structure PDI (X : Cx) (tg e : Expr) (f : SI) : Prop where
  mo : MonI f
  run : PI X tg e (tiOf X.K f)
theorem _root_.L2.PI.of {X : Cx} {tg e : Expr} {t t' : TI} (h : PI X tg e t) (i : ∀ σ H R, t' σ H R → t σ H R) : PI X tg e t' := ⟨fun pins s σ H R I q => h.run pins s σ H R I (i σ H R q)⟩
section
variable {X : Cx} {W : WX}
/-- a list or a tuple -/
def iSeq (K : PySem.W.Frag) (tl : TE) : TI := fun σ H R => tl σ H fun x H1 => ∃ a, x = .ref a ∧ (((∃ xs, SqL K H1 a xs) ∧ R (Itl K a) H1) ∨ ((∃ xs, SqT K H1 a xs) ∧ R (Itt K a) H1))
theorem pi_seq {tg l : Expr} {tl : TE} (hl : PE X l tl) : PI X tg l (iSeq X.K tl) := by
  refine ⟨fun pins s σ H R I h => ?_⟩
  refine thn (hl.run pins s σ H _ I h) fun v s1 ⟨x, H1, I1, r1, q1⟩ => ?_
  obtain ⟨a, e, q1⟩ := q1
  subst e
  cases r1
  have fr : ∀ b, b ∈ [s1.heap.objs.size] → FpOk X pins H1 b := fun b hb => by
    have e : b = s1.heap.objs.size := by simpa using hb
    subst e
    exact I1.fpOk (Nat.le_refl _) (I1.hok.fresh (Nat.le_refl _))
  rcases q1 with ⟨⟨xs, hq⟩, q⟩ | ⟨⟨xs, hq⟩, q⟩
  · obtain ⟨its, rv, p, hz⟩ := I1.list hq
    refine wpAny_pyIter_list p.isList ?_
    exact ⟨s1.heap.objs.size, [s1.heap.objs.size], _, _, H1, rfl, I1.kept (t' := s1.toks) fun b o e => Heap.get?_push_of_some _ e, turn_list a _, ⟨_, Heap.get?_push_size _ rfl, rfl, rfl⟩, fr, q⟩
  · obtain ⟨its, rv, p, hz⟩ := I1.tuple hq
    refine wpAny_pyIter_tuple (show s1.heap.IsTuple a its.toArray from p) ?_
    exact ⟨s1.heap.objs.size, [s1.heap.objs.size], _, _, H1, rfl, I1.kept (t' := s1.toks) fun b o e => Heap.get?_push_of_some _ e, turn_tuple a _, ⟨_, Heap.get?_push_size _ rfl, rfl, rfl⟩, fr, q⟩
def itemsOf (μ : Mu) (x : S) : Option (List D × (Mu → Prop)) := match x with
  | .d (.tup ds) => some (ds, fun _ => True)
  | .d (.lst ds) => some (ds, fun _ => True)
  | .m j => (μ[j]?).map fun ds => (ds, fun μ' => μ'[j]? = some ds)
  | _ => none
def fISeq (f : SE) : SI := fun ρ μ P => f ρ μ fun x μ1 => ∃ w, itemsOf μ1 x = some w ∧ P w.1 w.2 μ1
theorem rpA_inj {K : PySem.W.Frag} {H : Hp} : True := True.intro
theorem sqL_det {K : PySem.W.Frag} {H : Hp} {a : Addr} {xs : List V} {i : Nat} {x : V} (h : SqL K H a xs) (f : ∀ ys, SqL K H a ys → ys[i]? = some x) : xs[i]? = some x := f xs h
theorem walk_frz_list {K : PySem.W.Frag} {ad : List Addr} {H0 : Hp} {a : Addr} {xs : List V} {ds : List D} (h : SqL K (hide ad H0) a xs) (r : RpA K (hide ad H0) xs ds) : DWalk K ad (Itl K a) ds (fun _ => True) H0 := by
  intro H2 ad2 μ2 st m _
  have h2 : SqL K H2 a xs := sqL_same hide_same (sqL_same st.same h)
  have hl := r.length
  refine ⟨fun i hi => ⟨xs, xs[i]'(by omega), h2, by simp [show i < xs.length by omega]⟩, ⟨xs, h2, by omega⟩, fun i d x H3 e y => ?_⟩
  obtain ⟨rfl, f⟩ := y
  obtain ⟨v, q1, q2⟩ := r.get e
  have := f xs h2
  rw [q1] at this
  cases this
  exact ⟨Step.refl _ _, m, q2.mono st.same⟩
theorem walk_frz_tup {K : PySem.W.Frag} {ad : List Addr} {H0 : Hp} {a : Addr} {xs : List V} {ds : List D} (h : SqT K (hide ad H0) a xs) (r : RpA K (hide ad H0) xs ds) : DWalk K ad (Itt K a) ds (fun _ => True) H0 := by
  intro H2 ad2 μ2 st m _
  have h2 : SqT K H2 a xs := sqT_same hide_same (sqT_same st.same h)
  have hl := r.length
  refine ⟨fun i hi => ⟨xs, xs[i]'(by omega), h2, by simp [show i < xs.length by omega]⟩, ⟨xs, h2, by omega⟩, fun i d x H3 e y => ?_⟩
  obtain ⟨rfl, f⟩ := y
  obtain ⟨v, q1, q2⟩ := r.get e
  have := f xs h2
  rw [q1] at this
  cases this
  exact ⟨Step.refl _ _, m, q2.mono st.same⟩
theorem walk_mut_list {K : PySem.W.Frag} {ad : List Addr} {H0 : Hp} {a : Addr} {j : Nat} {ds : List D} (h : ad[j]? = some a) : DWalk K ad (Itl K a) ds (fun μ' => μ'[j]? = some ds) H0 := by
  intro H2 ad2 μ2 st m ok
  obtain ⟨b, xs, q1, q2, q3⟩ := m.at_ j ds ok
  rw [st.get h] at q1
  cases q1
  have h2 : SqL K H2 a xs := .inl (.inl q2)
  have hl := q3.length
  refine ⟨fun i hi => ⟨xs, xs[i]'(by omega), h2, by simp [show i < xs.length by omega]⟩, ⟨xs, h2, by omega⟩, fun i d x H3 e y => ?_⟩
  obtain ⟨rfl, f⟩ := y
  obtain ⟨v, q4, q5⟩ := q3.get e
  have := f xs h2
  rw [q4] at this
  cases this
  exact ⟨Step.refl _ _, m, q5⟩
theorem pdi_seq {tg l : Expr} {f : SE} (h : PD X l f) : PDI X tg l (fISeq f) := by
  refine ⟨fun ρ μ P P' k q => h.mo ρ μ _ _ (fun x μ1 ⟨w, e, q⟩ => ⟨w, e, k _ _ _ q⟩) q, (pi_seq h.run).of fun σ H R q => ?_⟩
  obtain ⟨ad, ρ, μ, s, q⟩ := q
  refine ⟨ad, ρ, μ, s, h.mo ρ μ _ _ (fun x μ1 ⟨w, e, q⟩ v H1 t1 m1 r1 => ?_) q⟩
  unfold itemsOf at e
  split at e
  · cases e
    cases r1 with
    | tup h1 h2 => exact ⟨_, rfl, .inr ⟨⟨_, sqT_same hide_same h1⟩, q _ H1 t1 m1 (walk_frz_tup h1 h2)⟩⟩
  · cases e
    cases r1 with
    | lst h1 h2 => exact ⟨_, rfl, .inl ⟨⟨_, sqL_same hide_same h1⟩, q _ H1 t1 m1 (walk_frz_list h1 h2)⟩⟩
  · rename_i jj _
    cases e2 : μ1[jj]? with
    | none => rw [e2] at e; cases e
    | some ds =>
      rw [e2] at e
      cases e
      obtain ⟨a, h1, rfl⟩ := r1
      obtain ⟨b, xs, q1, q2, q3⟩ := m1.at_ jj ds e2
      rw [h1] at q1
      cases q1
      exact ⟨a, rfl, .inl ⟨⟨xs, .inl (.inl q2)⟩, q _ H1 t1 m1 (walk_mut_list h1)⟩⟩
  · cases e
def rngD (n : Int) : List D := (List.range n.toNat).map fun (i : Nat) => D.int (i : Int)
def fIRng (f : SA) : SI := fun ρ μ P => f ρ μ fun xs μ1 => ∃ n : Int, xs = [.d (.int n)] ∧ -1000000 ≤ n ∧ n ≤ 1000000 ∧ P (rngD n) (fun _ => True) μ1
theorem pdi_range {tg : Expr} {a : Expr} {f : SA} {p pos : Pos} (hg : Gl X "range") (hm : X.mg "range" = none) (h : PDA X [a] f) (hs : starEach [a] X.env = [(false, eval a X.env)] := by rfl) : PDI X tg (.Call (.Name "range" p) [a] [] pos) (fIRng f) := by
  refine ⟨fun ρ μ P P' k q => h.mo ρ μ _ _ (fun x μ1 ⟨n, e, l1, l2, q⟩ => ⟨n, e, l1, l2, k _ _ _ q⟩) q, (pi_range1 hg hm h.run hs).of fun σ H R q => ?_⟩
  obtain ⟨ad, ρ, μ, s, q⟩ := q
  refine ⟨ad, ρ, μ, s, h.mo ρ μ _ _ (fun xs μ1 ⟨n, e, l1, l2, q⟩ vs H1 t1 m1 r1 => ?_) q⟩
  subst e
  obtain ⟨v, rfl, r2⟩ := rsa1 r1
  obtain rfl := rp_int r2
  refine ⟨n, rfl, by omega, by omega, q _ H1 t1 m1 fun H2 ad2 μ2 st m _ => ?_⟩
  have hl : (rngD n).length = n.toNat := by unfold rngD; rw [List.length_map, List.length_range]
  refine ⟨fun i hi => by rw [hl] at hi; exact hi, by rw [hl]; exact Nat.le_refl _, fun i d x H3 e y => ?_⟩
  obtain ⟨rfl, rfl⟩ := y
  refine ⟨Step.refl _ _, m, ?_⟩
  unfold rngD at e
  rw [List.getElem?_map] at e
  cases e2 : (List.range n.toNat)[i]? with
  | none => rw [e2] at e; cases e
  | some k =>
    rw [e2] at e
    cases e
    have : k = i := by
      rw [List.getElem?_eq_some_iff] at e2
      obtain ⟨_, e3⟩ := e2
      simpa using e3.symm
    subst this
    rw [Int.zero_add]
    exact .int _
/-- enumerate(list) -/
def enumD (ds : List D) : List D := ds.mapIdx fun i d => .tup [.int (i : Int), d]
def fIEnum (f : SA) : SI := fun ρ μ P => f ρ μ fun xs μ1 => ∃ ds, xs = [.d (.lst ds)] ∧ P (enumD ds) (fun _ => True) μ1
theorem pdi_enum {e : Expr} {elts : List Expr} {kk : Nat} {f : SA} {p pos tpos : Pos} (hg : Gl X "enumerate") (hm : X.mg "enumerate" = none) (h : PDA X [e] f) (hs : starEach [e] X.env = [(false, eval e X.env)] := by rfl) :
    PDI X (.Tuple elts kk tpos) (.Call (.Name "enumerate" p) [e] [] pos) (fIEnum f) := by
  refine ⟨fun ρ μ P P' k q => h.mo ρ μ _ _ (fun x μ1 ⟨n, e, q⟩ => ⟨n, e, k _ _ _ q⟩) q, (pi_enum hg hm h.run hs).of fun σ H R q => ?_⟩
  obtain ⟨ad, ρ, μ, s, q⟩ := q
  refine ⟨ad, ρ, μ, s, h.mo ρ μ _ _ (fun xs μ1 ⟨ds, e, q⟩ vs H1 t1 m1 r1 => ?_) q⟩
  subst e
  obtain ⟨v, rfl, r2⟩ := rsa1 r1
  cases r2 with
  | @lst a ws _ h1 h2 =>
    refine ⟨a, ws, rfl, sqL_same hide_same h1, q _ H1 t1 m1 fun H2 ad2 μ2 st m _ => ?_⟩
    have h3 : SqL X.K H2 a ws := sqL_same hide_same (sqL_same st.same h1)
    have hl := h2.length
    have hz : (enumD ds).length = ds.length := by unfold enumD; rw [List.length_mapIdx]
    refine ⟨fun i hi => ⟨ws, ws[i]'(by omega), h3, by simp [show i < ws.length by omega]⟩, ⟨ws, h3, by omega⟩, fun i d x H3 e y => ?_⟩
    obtain ⟨T, x', rfl, hT, rfl, f⟩ := y
    unfold enumD at e
    rw [List.getElem?_mapIdx] at e
    cases e2 : ds[i]? with
    | none => rw [e2] at e; cases e
    | some d' =>
      rw [e2] at e
      cases e
      obtain ⟨v, q4, q5⟩ := h2.get e2
      have := f ws h3
      rw [q4] at this
      cases this
      have st2 : Step ad2 H2 ad2 (upd H2 T (.tup [.int (i : Int), x'])) := Step.new hT
      exact ⟨st2, m.new hT, .tup (.inl (.inl (by rw [hide_out (m.fresh hT)]; exact upd_same))) (.cons (.int _) (.cons (q5.mono (st.trans st2).same) .nil))⟩
/-- zip of two frozen ones, both lists or both tuples -/
def zipD : List D → List D → List D
  | a :: as, b :: bs => .tup [a, b] :: zipD as bs
  | _, _ => []
theorem zipD_length : ∀ (as bs : List D), (zipD as bs).length = min as.length bs.length
  | [], _ => by simp [zipD]
  | _ :: _, [] => by simp [zipD]
  | a :: as, b :: bs => by simp only [zipD, List.length_cons, zipD_length as bs]; omega
theorem zipD_get : ∀ {as bs : List D} {i : Nat} {d : D}, (zipD as bs)[i]? = some d → ∃ a b, as[i]? = some a ∧ bs[i]? = some b ∧ d = .tup [a, b]
  | [], _, _, _, h => by simp [zipD] at h
  | _ :: _, [], _, _, h => by simp [zipD] at h
  | a :: as, b :: bs, 0, d, h => by simp [zipD] at h; exact ⟨a, b, rfl, rfl, h.symm⟩
  | a :: as, b :: bs, i + 1, d, h => by
    obtain ⟨x, y, q1, q2, q3⟩ := zipD_get (as := as) (bs := bs) (i := i) (d := d) (by simpa [zipD] using h)
    exact ⟨x, y, by simpa using q1, by simpa using q2, q3⟩
def fIZip (f : SA) : SI := fun ρ μ P => f ρ μ fun xs μ1 => ∃ ds es, (xs = [.d (.lst ds), .d (.lst es)] ∨ xs = [.d (.tup ds), .d (.tup es)]) ∧ P (zipD ds es) (fun _ => True) μ1
theorem pdi_zip {e e2 : Expr} {elts : List Expr} {kk : Nat} {f : SA} {p pos tpos : Pos} (hg : Gl X "zip") (hm : X.mg "zip" = none) (h : PDA X [e, e2] f)
    (hs : starEach [e, e2] X.env = (false, eval e X.env) :: starEach [e2] X.env := by rfl) (hpl : (backTo pos (starEach [e2] X.env)).any (·.1) = false := by rfl) :
    PDI X (.Tuple elts kk tpos) (.Call (.Name "zip" p) [e, e2] [] pos) (fIZip f) := by
  refine ⟨fun ρ μ P P' k q => h.mo ρ μ _ _ (fun x μ1 ⟨n, n2, e, q⟩ => ⟨n, n2, e, k _ _ _ q⟩) q, (RZ.pi_zipA hg hm h.run hs hpl).of fun σ H R q => ?_⟩
  obtain ⟨ad, ρ, μ, s, q⟩ := q
  refine ⟨ad, ρ, μ, s, h.mo ρ μ _ _ (fun xs μ1 ⟨ds, es, e, q⟩ vs H1 t1 m1 r1 => ?_) q⟩
  rcases e with e | e
  · subst e
    obtain ⟨v, u, rfl, r2, r3⟩ := rsa2 r1
    cases r2 with
    | @lst a ws _ h1 h2 =>
      cases r3 with
      | @lst b us _ k1 k2 =>
        refine ⟨a, b, ws, us, rfl, .inl ⟨sqL_same hide_same h1, sqL_same hide_same k1, q _ H1 t1 m1 fun H2 ad2 μ2 st m _ => ?_⟩⟩
        have h3 : SqL X.K H2 a ws := sqL_same hide_same (sqL_same st.same h1)
        have k3 : SqL X.K H2 b us := sqL_same hide_same (sqL_same st.same k1)
        have hl := h2.length
        have kl := k2.length
        have hz := zipD_length ds es
        refine ⟨fun i hi => ⟨ws, us, ws[i]'(by omega), us[i]'(by omega), h3, k3, by simp [show i < ws.length by omega], by simp [show i < us.length by omega]⟩, ⟨ws, us, h3, k3, by omega⟩, fun i d x H3 e y => ?_⟩
        obtain ⟨T, x', y', rfl, hT, rfl, f, g⟩ := y
        obtain ⟨d1, d2, g1, g2, rfl⟩ := zipD_get e
        obtain ⟨v, q4, q5⟩ := h2.get g1
        obtain ⟨v', q4', q5'⟩ := k2.get g2
        have z1 := f ws h3
        have z2 := g us k3
        rw [q4] at z1
        rw [q4'] at z2
        cases z1
        cases z2
        have st2 : Step ad2 H2 ad2 (upd H2 T (.tup [x', y'])) := Step.new hT
        exact ⟨st2, m.new hT, .tup (.inl (.inl (by rw [hide_out (m.fresh hT)]; exact upd_same))) (.cons (q5.mono (st.trans st2).same) (.cons (q5'.mono (st.trans st2).same) .nil))⟩
  · subst e
    obtain ⟨v, u, rfl, r2, r3⟩ := rsa2 r1
    cases r2 with
    | @tup a ws _ h1 h2 =>
      cases r3 with
      | @tup b us _ k1 k2 =>
        refine ⟨a, b, ws, us, rfl, .inr ⟨sqT_same hide_same h1, sqT_same hide_same k1, q _ H1 t1 m1 fun H2 ad2 μ2 st m _ => ?_⟩⟩
        have h3 : SqT X.K H2 a ws := sqT_same hide_same (sqT_same st.same h1)
        have k3 : SqT X.K H2 b us := sqT_same hide_same (sqT_same st.same k1)
        have hl := h2.length
        have kl := k2.length
        have hz := zipD_length ds es
        refine ⟨fun i hi => ⟨ws, us, ws[i]'(by omega), us[i]'(by omega), h3, k3, by simp [show i < ws.length by omega], by simp [show i < us.length by omega]⟩, ⟨ws, us, h3, k3, by omega⟩, fun i d x H3 e y => ?_⟩
        obtain ⟨T, x', y', rfl, hT, rfl, f, g⟩ := y
        obtain ⟨d1, d2, g1, g2, rfl⟩ := zipD_get e
        obtain ⟨v, q4, q5⟩ := h2.get g1
        obtain ⟨v', q4', q5'⟩ := k2.get g2
        have z1 := f ws h3
        have z2 := g us k3
        rw [q4] at z1
        rw [q4'] at z2
        cases z1
        cases z2
        have st2 : Step ad2 H2 ad2 (upd H2 T (.tup [x', y'])) := Step.new hT
        exact ⟨st2, m.new hT, .tup (.inl (.inl (by rw [hide_out (m.fresh hT)]; exact upd_same))) (.cons (q5.mono (st.trans st2).same) (.cons (q5'.mono (st.trans st2).same) .nil))⟩

/-! ### for -/
def loopS (g : SG) (body : SS) (ok : Mu → Prop) : List D → SS
  | [], ρ, μ, k => ok μ ∧ k.nx ρ μ
  | d :: r, ρ, μ, k => ok μ ∧ g (.d d) ρ μ fun ρ1 μ1 => body ρ1 μ1 { nx := fun ρ2 μ2 => loopS g body ok r ρ2 μ2 k, rt := k.rt, bk := k.nx, ct := fun ρ2 μ2 => loopS g body ok r ρ2 μ2 k, er := k.er }
theorem mon_loop {g : SG} {body : SS} {ok : Mu → Prop} (mg : MonT g) (mb : MonS body) : ∀ ds, MonS (loopS g body ok ds)
  | [] => fun ρ μ k k' l q => ⟨q.1, l.nx _ _ q.2⟩
  | d :: r => fun ρ μ k k' l q => ⟨q.1, mg _ ρ μ _ _ (fun ρ1 μ1 q => mb ρ1 μ1 { nx := fun ρ2 μ2 => loopS g body ok r ρ2 μ2 k, rt := k.rt, bk := k.nx, ct := fun ρ2 μ2 => loopS g body ok r ρ2 μ2 k, er := k.er } { nx := fun ρ2 μ2 => loopS g body ok r ρ2 μ2 k', rt := k'.rt, bk := k'.nx, ct := fun ρ2 μ2 => loopS g body ok r ρ2 μ2 k', er := k'.er }
      ⟨fun _ _ q => mon_loop mg mb r _ _ _ _ l q, l.rt, l.nx, fun _ _ q => mon_loop mg mb r _ _ _ _ l q, l.er⟩ q) q.2⟩
def fFor (fi : SI) (g : SG) (body : SS) : SS := fun ρ μ k => fi ρ μ fun items ok μ1 => loopS g body ok items ρ μ1 k
theorem for_imp {fi : SI} {is : List Nat} {g : SG} {body : SS} (mi : MonI fi) (mg : MonT g) (mb : MonS body) (Dn : Ends) (σ : L2.St) (H : Hp) (q : tsOf X.K W (fFor fi g body) Dn σ H) : tFor (tiOf X.K fi) (tgOf X.K is g) (tsOf X.K W body) Dn σ H := by
  obtain ⟨ad, ρ, μ, s, q⟩ := q
  refine ⟨ad, ρ, μ, s, mi ρ μ _ _ (fun items ok μ1 q J H1 t1 m1 dw => ?_) q⟩
  refine ⟨fun i m σ' H' => ∃ ad' ρ' μ', m = items.length - i ∧ i ≤ items.length ∧ Step ad H1 ad' H' ∧ Sim X.K H' ad' ρ' μ' σ' ∧ loopS g body ok (items.drop i) ρ' μ' (kOf X.K W ad H Dn), ⟨items.length, ad, ρ, μ1, rfl, Nat.zero_le _, Step.refl _ _, s.step t1 m1, q⟩, ?_⟩
  rintro i m σ' H' ⟨ad', ρ', μ', rfl, hi, st, s', q⟩
  by_cases hlt : i < items.length
  · have ed : items.drop i = items[i] :: items.drop (i + 1) := List.drop_eq_getElem_cons hlt
    rw [ed] at q
    obtain ⟨ok1, q⟩ := q
    obtain ⟨d1, d2, d3⟩ := dw H' ad' μ' st s'.m ok1
    refine .inr ⟨d1 i hlt, fun σ'' H'' => ∃ ad'' ρ'' μ'', Step ad H1 ad'' H'' ∧ Sim X.K H'' ad'' ρ'' μ'' σ'' ∧ loopS g body ok (items.drop (i + 1)) ρ'' μ'' (kOf X.K W ad H Dn),
      fun σ'' H'' ⟨ad'', ρ'', μ'', st2, s2, q2⟩ => ⟨items.length - (i + 1), by omega, ad'', ρ'', μ'', rfl, hlt, st2, s2, q2⟩, fun x H3 y => ?_⟩
    obtain ⟨st3, m3, r3⟩ := d3 i _ x H3 (List.getElem?_eq_getElem hlt) y
    refine ⟨ad', ρ', μ', .d items[i], s'.step st3 m3, r3, mg _ ρ' μ' _ _ (fun ρ1 μ1 q σ2 H4 _ st4 s4 => ?_) q⟩
    have t4 := (st.trans st3).trans st4
    refine ⟨ad', ρ1, μ1, s4, mb ρ1 μ1 { nx := fun ρ2 μ2 => loopS g body ok (items.drop (i + 1)) ρ2 μ2 (kOf X.K W ad H Dn), rt := (kOf X.K W ad H Dn).rt, bk := (kOf X.K W ad H Dn).nx, ct := fun ρ2 μ2 => loopS g body ok (items.drop (i + 1)) ρ2 μ2 (kOf X.K W ad H Dn), er := (kOf X.K W ad H Dn).er } _ ⟨fun ρ2 μ2 q σ5 H5 ad5 st5 s5 => ⟨ad5, ρ2, μ2, t4.trans st5, s5, q⟩, fun x μ2 q v H5 ad5 st5 m5 r5 => q v H5 ad5 ((t1.trans t4).trans st5) m5 r5,
      fun ρ2 μ2 q σ5 H5 ad5 st5 s5 => q σ5 H5 ad5 ((t1.trans t4).trans st5) s5, fun ρ2 μ2 q σ5 H5 ad5 st5 s5 => ⟨ad5, ρ2, μ2, t4.trans st5, s5, q⟩,
      fun x ρ2 μ2 q cls d σ5 H5 ad5 st5 m5 x5 => q cls d σ5 H5 ad5 ((t1.trans t4).trans st5) m5 x5⟩ q⟩
  · have e : i = items.length := by omega
    subst e
    rw [List.drop_length] at q
    obtain ⟨ok1, q⟩ := q
    obtain ⟨d1, d2, d3⟩ := dw H' ad' μ' st s'.m ok1
    exact .inl ⟨d2, q σ' H' ad' (t1.trans st) s'⟩
theorem pds_for {tg iter : Expr} {body : List Stmt} {pos : Pos} {fi : SI} {is : List Nat} {g : SG} {fb : SS} (hp : PassesOwn (model X.prog X.w) X.A X.env X.xe) (hc : X.calm = true) (hi : PDI X tg iter fi) (hg : PDG X tg is g) (hb : PDSs X W body fb)
    (hs : ∀ x, foldedSetIterable iter X.env x = pure x := by intro _; rfl) : PDS X W (.For tg iter body [] pos) (fFor fi g fb) :=
  ⟨fun ρ μ k k' l q => hi.mo ρ μ _ _ (fun items ok μ1 q => mon_loop hg.mo hb.mo items _ _ _ _ l q) q, (ps_for hp hc hi.run hg.run hb.run hs).of (for_imp hi.mo hg.mo hb.mo)⟩
/-! ### while -/
def whileN (t : STe) (body : SS) : Nat → SS
  | 0, _, _, _ => False
  | n + 1, ρ, μ, k => t ρ μ fun b μ1 => if b = true then body ρ μ1 { nx := fun ρ2 μ2 => whileN t body n ρ2 μ2 k, rt := k.rt, bk := k.nx, ct := fun ρ2 μ2 => whileN t body n ρ2 μ2 k, er := k.er } else k.nx ρ μ1
theorem mon_whileN {t : STe} {body : SS} (mt : MonE t) (mb : MonS body) : ∀ n, MonS (whileN t body n)
  | 0 => fun _ _ _ _ _ q => q
  | n + 1 => fun ρ μ k k' l q => mt ρ μ _ _ (fun b μ1 q => by
    cases b with
    | true => exact mb ρ μ1 { nx := fun ρ2 μ2 => whileN t body n ρ2 μ2 k, rt := k.rt, bk := k.nx, ct := fun ρ2 μ2 => whileN t body n ρ2 μ2 k, er := k.er } { nx := fun ρ2 μ2 => whileN t body n ρ2 μ2 k', rt := k'.rt, bk := k'.nx, ct := fun ρ2 μ2 => whileN t body n ρ2 μ2 k', er := k'.er } ⟨fun _ _ q => mon_whileN mt mb n _ _ _ _ l q, l.rt, l.nx, fun _ _ q => mon_whileN mt mb n _ _ _ _ l q, l.er⟩ q
    | false => exact l.nx _ _ q) q
def fWhile (t : STe) (body : SS) : SS := fun ρ μ k => ∃ n, whileN t body n ρ μ k
theorem while_imp {t : STe} {body : SS} (mt : MonE t) (mb : MonS body) (Dn : Ends) (σ : L2.St) (H : Hp) (q : tsOf X.K W (fWhile t body) Dn σ H) : tWhile (ttOf X.K t) (tsOf X.K W body) Dn σ H := by
  obtain ⟨ad, ρ, μ, s, n, q⟩ := q
  refine ⟨fun m σ' H' => ∃ ad' ρ' μ', Step ad H ad' H' ∧ Sim X.K H' ad' ρ' μ' σ' ∧ whileN t body m ρ' μ' (kOf X.K W ad H Dn), ⟨n, ad, ρ, μ, Step.refl _ _, s, q⟩, ?_⟩
  rintro m σ' H' ⟨ad', ρ', μ', st, s', q⟩
  cases m with
  | zero => exact q.elim
  | succ m =>
    refine ⟨ad', ρ', μ', s', mt ρ' μ' _ _ (fun b μ1 q H1 t1 m1 => ?_) q⟩
    cases b with
    | false => exact q σ' H1 ad' (st.trans t1) (s'.step t1 m1)
    | true =>
      refine ⟨fun σ'' H'' => ∃ ad'' ρ'' μ'', Step ad H ad'' H'' ∧ Sim X.K H'' ad'' ρ'' μ'' σ'' ∧ whileN t body m ρ'' μ'' (kOf X.K W ad H Dn), fun σ'' H'' w => ⟨m, Nat.lt_succ_self m, w⟩, ?_⟩
      have t4 := st.trans t1
      exact ⟨ad', ρ', μ1, s'.step t1 m1, mb ρ' μ1 { nx := fun ρ2 μ2 => whileN t body m ρ2 μ2 (kOf X.K W ad H Dn), rt := (kOf X.K W ad H Dn).rt, bk := (kOf X.K W ad H Dn).nx, ct := fun ρ2 μ2 => whileN t body m ρ2 μ2 (kOf X.K W ad H Dn), er := (kOf X.K W ad H Dn).er } _ ⟨fun ρ2 μ2 q σ5 H5 ad5 st5 s5 => ⟨ad5, ρ2, μ2, t4.trans st5, s5, q⟩, fun x μ2 q v H5 ad5 st5 m5 r5 => q v H5 ad5 (t4.trans st5) m5 r5,
        fun ρ2 μ2 q σ5 H5 ad5 st5 s5 => q σ5 H5 ad5 (t4.trans st5) s5, fun ρ2 μ2 q σ5 H5 ad5 st5 s5 => ⟨ad5, ρ2, μ2, t4.trans st5, s5, q⟩,
        fun x ρ2 μ2 q cls d σ5 H5 ad5 st5 m5 x5 => q cls d σ5 H5 ad5 (t4.trans st5) m5 x5⟩ q⟩
theorem pds_while {c : Expr} {body : List Stmt} {pos : Pos} {t : STe} {fb : SS} (hp : PassesOwn (model X.prog X.w) X.A X.env X.xe) (hc : PDT X c t) (hb : PDSs X W body fb) : PDS X W (.While c body [] pos) (fWhile t fb) :=
  ⟨fun ρ μ k k' l ⟨n, q⟩ => ⟨n, mon_whileN hc.mo hb.mo n _ _ _ _ l q⟩, (ps_while hp hc.run hb.run).of (while_imp hc.mo hb.mo)⟩

/-! ### new lists -/
abbrev SN := Rho → Mu → (List D → Mu → Prop) → Prop
def tnOf (K : PySem.W.Frag) (f : SN) : TE := fun σ H Q => ∃ ad ρ μ, Sim K H ad ρ μ σ ∧ f ρ μ fun ds μ' => ∀ p H', H p = none → Step ad H (ad ++ [p]) H' → RpM K H' (ad ++ [p]) (μ' ++ [ds]) → Q (.ref p) H'
structure PDN (X : Cx) (e : Expr) (f : SN) : Prop where
  mo : MonE f
  run : PE X e (tnOf X.K f)
def fOfN (f : SN) : SE := fun ρ μ P => f ρ μ fun ds μ' => P (.d (.lst ds)) μ'
theorem step_less {ad : List Addr} {p : Addr} {H H' : Hp} (t : Step ad H (ad ++ [p]) H') : Step ad H ad H' := ⟨List.prefix_refl _, fun b o h e => ⟨h, (t.keep b o h e).2⟩⟩
theorem pd_of_N {e : Expr} {f : SN} (h : PDN X e f) : PD X e (fOfN f) := by
  refine ⟨fun ρ μ P P' k q => h.mo ρ μ _ _ (fun ds μ1 q => k _ _ q) q, h.run.of fun σ H Q q => ?_⟩
  obtain ⟨ad, ρ, μ, s, q⟩ := q
  refine ⟨ad, ρ, μ, s, h.mo ρ μ _ _ (fun ds μ1 q p H' hp t m => ?_) q⟩
  obtain ⟨m1, r1, _⟩ := m.last
  exact q _ H' (step_less t) m1 r1
theorem new_N {K : PySem.W.Frag} {H H1 : Hp} {ad : List Addr} {μ : Mu} {xs : List V} {ds : List D} {Q : VK} (t : Step ad H ad H1) (m : RpM K H1 ad μ) (r : RpA K (hide ad H1) xs ds) (hf : ∀ p, H1 p = none → H p = none)
    (q : ∀ p H', H p = none → Step ad H (ad ++ [p]) H' → RpM K H' (ad ++ [p]) (μ ++ [ds]) → Q (.ref p) H') : ∀ p, H1 p = none → Q (.ref p) (upd H1 p (.lst xs)) := fun p hp =>
  q p _ (hf p hp) (t.trans (Step.newM hp)) (m.newM hp r)
theorem free_back {ad : List Addr} {H H1 : Hp} {K : PySem.W.Frag} {μ μ1 : Mu} (m0 : RpM K H ad μ) (t : Step ad H ad H1) (m : RpM K H1 ad μ1) : ∀ p, H1 p = none → H p = none := fun p hp => by
  cases e : H p with
  | none => rfl
  | some o =>
    by_cases q : p ∈ ad
    · obtain ⟨xs, e2⟩ := m.there q
      rw [hp] at e2
      cases e2
    · have := (t.keep p o q e).2
      rw [hp] at this
      cases this
def fNLst (f : SA) : SN := fun ρ μ P => f ρ μ fun ss μ' => ∃ ds, allD ss = some ds ∧ ds.length ≤ 100000 ∧ P ds μ'
theorem pdn_lst {es : List Expr} {pos : Pos} {f : SA} (h : PDA X es f) : PDN X (.List es pos) (fNLst f) := by
  refine ⟨fun ρ μ P P' k q => h.mo ρ μ _ _ (fun x μ1 ⟨ds, h1, h2, h3⟩ => ⟨ds, h1, h2, k _ _ h3⟩) q, (pe_lst h.run).of fun σ H Q q => ?_⟩
  obtain ⟨ad, ρ, μ, s, q⟩ := q
  refine ⟨ad, ρ, μ, s, h.mo ρ μ _ _ (fun ss μ1 h1 vs H1 t1 m1 r1 => ?_) q⟩
  obtain ⟨ds, a1, a2, a3⟩ := h1
  have r2 := allD_rp r1 a1
  exact ⟨sz (by rw [r2.length]; exact a2), new_N t1 m1 r2 (free_back s.m t1 m1) a3⟩
/-- x = a new list that will change -/
def fNew (i : Nat) (f : SN) : SS := fun ρ μ k => f ρ μ fun ds μ1 => k.nx (ρ.set i (some (.m μ1.length))) (μ1 ++ [ds])
theorem mon_new {i : Nat} {f : SN} (m : MonE f) : MonS (fNew i f) := fun ρ μ k k' l q => m ρ μ _ _ (fun ds μ1 q => l.nx _ _ q) q
theorem new_imp {i : Nat} {f : SN} (m : MonE f) (Dn : Ends) (σ : L2.St) (H : Hp) (q : tsOf X.K W (fNew i f) Dn σ H) : tAsg (tnOf X.K f) (gName i) Dn σ H := by
  obtain ⟨ad, ρ, μ, s, q⟩ := q
  refine ⟨ad, ρ, μ, s, m ρ μ _ _ (fun ds μ1 q p H' hp t m1 => ?_) q⟩
  refine q _ H' (ad ++ [p]) t ((s.step t m1).set ⟨p, ?_, rfl⟩)
  have hl := m1.len
  rw [List.length_append, List.length_append] at hl
  have hl2 : ad.length = μ1.length := by simpa using hl
  rw [← hl2, List.getElem?_append_right (Nat.le_refl _), Nat.sub_self]
  rfl
theorem pds_new {i : Nat} {x : Str} {p pos : Pos} {e : Expr} {f : SN} (h : PDN X e f) (hp : ∀ te, PE X e te → PS X (.Assign [.Name x p] e pos) (tAsg te (gName i))) : PDS X W (.Assign [.Name x p] e pos) (fNew i f) :=
  ⟨mon_new h.mo, (hp _ h.run).of (new_imp h.mo)⟩
/-- x.append(e) -/
def fApp (fo f : SE) : SS := fun ρ μ k => fo ρ μ fun o μ1 => ∃ j, o = .m j ∧ f ρ μ1 fun y μ2 => ∃ d ds, y = .d d ∧ μ2[j]? = some ds ∧ ds.length < 50000 ∧ k.nx ρ (μ2.set j (ds ++ [d]))
theorem szl {n : Nat} (h : n < 50000) : n < sizeLine := Nat.lt_of_lt_of_le h (by decide)
theorem pds_app {o e : Expr} {apos cpos pos : Pos} {fo f : SE} (ho : PD X o fo) (h : PD X e f) (hp : ∀ to ta, PE X o to → PA X [e] ta → PS X (.Expr (.Call (.Attribute o "append" apos) [e] [] cpos) pos) (tDrop (tBM X.K "list" rAppend to ta)))
    (hs : starEach [e] X.env = (false, eval e X.env) :: starEach [] X.env := by rfl) : PDS X W (.Expr (.Call (.Attribute o "append" apos) [e] [] cpos) pos) (fApp fo f) := by
  refine ⟨fun ρ μ k k' l q => ho.mo ρ μ _ _ (fun o μ1 ⟨j, e1, q⟩ => ⟨j, e1, h.mo ρ μ1 _ _ (fun y μ2 ⟨d, ds, e2, e3, e4, q⟩ => ⟨d, ds, e2, e3, e4, l.nx _ _ q⟩) q⟩) q, (hp _ _ ho.run (pa_cons h.run pa_nil hs)).of fun Dn σ H q => ?_⟩
  obtain ⟨ad, ρ, μ, s, q⟩ := q
  refine ⟨ad, ρ, μ, s, ho.mo ρ μ _ _ (fun x μ1 ⟨j, e1, q⟩ v H1 t1 m1 r1 => ?_) q⟩
  subst e1
  obtain ⟨a, h1, rfl⟩ := r1
  refine ⟨?_, ad, ρ, μ1, s.step t1 m1, h.mo ρ μ1 _ _ (fun y μ2 q u H2 t2 m2 r2 => ?_) q⟩
  · obtain ⟨xs, h2⟩ := m1.there (List.mem_of_getElem? h1)
    exact .inl ⟨rfl, xs, .inl (.inl h2)⟩
  · obtain ⟨d, ds, rfl, e3, e4, q⟩ := q
    obtain ⟨b, xs, q1, q2, q3⟩ := m2.at_ j ds e3
    rw [h1] at q1
    cases q1
    have hl := q3.length
    have m3 := m2.put h1 (q3.append (.cons r2 .nil))
    have st : Step ad H ad (upd H2 a (.lst (xs ++ [u]))) := (t1.trans t2).trans (Step.mut (List.mem_of_getElem? h1))
    exact ⟨a, xs, u, rfl, rfl, q2, szl (by omega), q σ _ ad st (s.step st m3)⟩
end
end DV

/-! part DV5 -/
set_option Elab.async false
set_option linter.all false
set_option maxRecDepth 100000
set_option autoImplicit false
namespace DV
open PySem PySem.Spec L2
open PyProof.Rows (envOfC)
section
variable {X : Cx} {W : WX}
/-! ### list comprehensions -/
def fYes : STe := fun _ μ P => P true μ
structure PDTs (X : Cx) (ifs : List Expr) (f : STe) : Prop where
  mo : MonE f
  run : PTs X ifs (ttOf X.K f)
theorem PTs.of {X : Cx} {ifs : List Expr} {t t' : TT} (h : PTs X ifs t) (i : ∀ σ H Q, t' σ H Q → t σ H Q) : PTs X ifs t' := ⟨fun pins s σ H Q I q => h.run pins s σ H Q I (i σ H Q q)⟩
theorem pdts_nil : PDTs X [] fYes := ⟨fun ρ μ P P' k q => k _ _ q, PTs.of pts_nil fun σ H Q ⟨ad, ρ, μ, s, q⟩ => q H (Step.refl _ _) s.m⟩
theorem pdts_one {c : Expr} {f : STe} (h : PDT X c f) : PDTs X [c] f := ⟨h.mo, pts_one h.run⟩
def lcLoop (g : SG) (tt : STe) (fe : SE) (ok : Mu → Prop) (ρ : Rho) : List D → List D → Mu → (List D → Mu → Prop) → Prop
  | [], acc, μ, P => ok (μ ++ [acc]) ∧ P acc μ
  | d :: r, acc, μ, P => ok (μ ++ [acc]) ∧ acc.length < 50000 ∧ g (.d d) ρ (μ ++ [acc]) fun ρ1 μ1 => tt ρ1 μ1 fun b μ2 =>
    if b = true then fe ρ1 μ2 fun y μ3 => ∃ yd, y = .d yd ∧ μ3.getLast? = some acc ∧ lcLoop g tt fe ok ρ r (acc ++ [yd]) μ3.dropLast P
    else μ2.getLast? = some acc ∧ lcLoop g tt fe ok ρ r acc μ2.dropLast P
theorem mon_lcLoop {g : SG} {tt : STe} {fe : SE} {ok : Mu → Prop} {ρ : Rho} (mg : MonT g) (mt : MonE tt) (me : MonE fe) : ∀ (ds acc : List D) (μ : Mu) (P P' : List D → Mu → Prop), (∀ ds μ', P ds μ' → P' ds μ') → lcLoop g tt fe ok ρ ds acc μ P → lcLoop g tt fe ok ρ ds acc μ P'
  | [], _, _, _, _, k, q => ⟨q.1, k _ _ q.2⟩
  | d :: r, acc, μ, P, P', k, q => ⟨q.1, q.2.1, mg _ _ _ _ _ (fun ρ1 μ1 q => mt _ _ _ _ (fun b μ2 q => by
    cases b with
    | true => exact me _ _ _ _ (fun y μ3 ⟨yd, e1, e2, q⟩ => ⟨yd, e1, e2, mon_lcLoop mg mt me r _ _ P P' k q⟩) q
    | false => exact ⟨q.1, mon_lcLoop mg mt me r _ _ P P' k q.2⟩) q) q.2.2⟩
def fLc (fi : SI) (g : SG) (tt : STe) (fe : SE) (vs : List Nat) : SN := fun ρ μ P => fi ρ μ fun items ok μ1 => lcLoop g tt fe ok (wipeR ρ vs) items [] μ1 P
theorem mon_lc {fi : SI} {g : SG} {tt : STe} {fe : SE} {vs : List Nat} (mi : MonI fi) (mg : MonT g) (mt : MonE tt) (me : MonE fe) : MonE (fLc fi g tt fe vs) := fun ρ μ P P' k q => mi ρ μ _ _ (fun items ok μ1 q => mon_lcLoop mg mt me items [] μ1 P P' k q) q
theorem unsnoc {μ : Mu} {acc : List D} (h : μ.getLast? = some acc) : μ = μ.dropLast ++ [acc] := by
  obtain ⟨ys, rfl⟩ := List.getLast?_eq_some_iff.mp h
  rw [List.dropLast_concat]
theorem lc_imp {fi : SI} {is vs : List Nat} {g : SG} {tt : STe} {fe : SE} (mi : MonI fi) (mg : MonT g) (mt : MonE tt) (me : MonE fe) (hv : ∀ i ∈ is, i ∈ vs) (σ : L2.St) (H : Hp) (Q : VK) (q : tnOf X.K (fLc fi g tt fe vs) σ H Q) :
    tLc (tiOf X.K fi) (tgOf X.K is g) (ttOf X.K tt) (teOf X.K fe) vs σ H Q := by
  obtain ⟨ad, ρ, μ, s, q⟩ := q
  refine ⟨ad, ρ, μ, s, mi ρ μ _ _ (fun items ok μ1 q J H1 t1 m1 dw Da hD => ?_) q⟩
  have hD0 : H Da = none := free_back s.m t1 m1 Da hD
  have st0 : Step ad H1 (ad ++ [Da]) (upd H1 Da (.lst [])) := Step.newM hD
  have m0 : RpM X.K (upd H1 Da (.lst [])) (ad ++ [Da]) (μ1 ++ [[]]) := m1.newM hD .nil
  refine ⟨fun i m H' => ∃ acc μ', m = items.length - i ∧ i ≤ items.length ∧ Step ad H1 (ad ++ [Da]) H' ∧ RpM X.K H' (ad ++ [Da]) (μ' ++ [acc]) ∧ lcLoop g tt fe ok (wipeR ρ vs) (items.drop i) acc μ' (fun ds μ' => ∀ p H', H p = none → Step ad H (ad ++ [p]) H' → RpM X.K H' (ad ++ [p]) (μ' ++ [ds]) → Q (.ref p) H'),
    ⟨items.length, [], μ1, rfl, Nat.zero_le _, st0, m0, q⟩, ?_⟩
  rintro i m H' ⟨acc, μ', rfl, hi, st, m', q⟩
  by_cases hlt : i < items.length
  · have ed : items.drop i = items[i] :: items.drop (i + 1) := List.drop_eq_getElem_cons hlt
    rw [ed] at q
    obtain ⟨ok1, hz, q⟩ := q
    obtain ⟨d1, d2, d3⟩ := dw H' (ad ++ [Da]) _ st m' ok1
    refine .inr ⟨d1 i hlt, fun H'' => ∃ acc μ'', Step ad H1 (ad ++ [Da]) H'' ∧ RpM X.K H'' (ad ++ [Da]) (μ'' ++ [acc]) ∧ lcLoop g tt fe ok (wipeR ρ vs) (items.drop (i + 1)) acc μ'' (fun ds μ' => ∀ p H', H p = none → Step ad H (ad ++ [p]) H' → RpM X.K H' (ad ++ [p]) (μ' ++ [ds]) → Q (.ref p) H'),
      fun H'' ⟨acc, μ'', st2, m2, q2⟩ => ⟨items.length - (i + 1), by omega, acc, μ'', rfl, hlt, st2, m2, q2⟩, fun x H3 y => ?_⟩
    obtain ⟨st3, m3, r3⟩ := d3 i _ x H3 (List.getElem?_eq_getElem hlt) y
    have s3 : Sim X.K H3 (ad ++ [Da]) (wipeR ρ vs) (μ' ++ [acc]) (L2.wipe σ vs) := ((s.step ((t1.trans st).trans st3) m3).wipe vs)
    refine ⟨ad ++ [Da], wipeR ρ vs, μ' ++ [acc], .d items[i], s3, r3, mg _ _ _ _ _ (fun ρ1 μ1 q σ2 H4 w4 st4 s4 => ?_) q⟩
    refine ⟨(w4 vs hv).trans (wipe_wipe σ vs), ad ++ [Da], ρ1, μ1, s4, mt _ _ _ _ (fun b μ2 q H5 st5 m5 => ?_) q⟩
    have t35 := (st3.trans st4).trans st5
    cases b with
    | false =>
      obtain ⟨e1, q⟩ := q
      have e2 := unsnoc e1
      show ∃ acc μ'', _
      exact ⟨acc, _, st.trans t35, by rw [← e2]; exact m5, q⟩
    | true =>
      refine ⟨ad ++ [Da], ρ1, μ2, s4.step st5 m5, me _ _ _ _ (fun y μ3 q u H6 st6 m6 r6 => ?_) q⟩
      obtain ⟨yd, rfl, e1, q⟩ := q
      have e2 := unsnoc e1
      have hl := m6.len
      rw [e2] at m6 hl
      rw [List.length_append, List.length_append] at hl
      have hl2 : ad.length = μ3.dropLast.length := by simpa using hl
      have hget : (ad ++ [Da])[μ3.dropLast.length]? = some Da := by
        rw [← hl2, List.getElem?_append_right (Nat.le_refl _), Nat.sub_self]
        rfl
      obtain ⟨b, xs, q1, q2, q3⟩ := m6.at_ μ3.dropLast.length acc (by rw [List.getElem?_append_right (Nat.le_refl _), Nat.sub_self]; rfl)
      rw [hget] at q1
      cases q1
      have hla := q3.length
      have m7 := m6.put hget (q3.append (.cons r6 .nil))
      have e3 : (μ3.dropLast ++ [acc]).set μ3.dropLast.length (acc ++ [yd]) = μ3.dropLast ++ [acc ++ [yd]] := by
        rw [List.set_append_right _ _ (Nat.le_refl _), Nat.sub_self]
        rfl
      rw [e3] at m7
      refine ⟨xs, q2, szl (by omega), acc ++ [yd], μ3.dropLast, (st.trans (t35.trans st6)).trans (Step.mut (by simp)), m7, q⟩
  · have e : i = items.length := by omega
    subst e
    rw [List.drop_length] at q
    obtain ⟨ok1, q⟩ := q
    obtain ⟨d1, d2, d3⟩ := dw H' (ad ++ [Da]) _ st m' ok1
    exact .inl ⟨d2, q Da H' hD0 (t1.trans st) m'⟩
where
  wipe_wipe (σ : L2.St) (vs : List Nat) : L2.wipe (L2.wipe σ vs) vs = L2.wipe σ vs := by
    have key : ∀ (us ws : List Nat), (∀ i ∈ us, i ∈ ws) → ∀ τ : L2.St, L2.wipe (L2.wipe τ us) ws = L2.wipe τ ws := by
      intro us
      induction us with
      | nil => intro ws _ τ; rfl
      | cons u us ih =>
        intro ws hw τ
        show L2.wipe ((L2.wipe τ us).set u none) ws = _
        rw [wipe_set (hw u (by simp)), ih ws (fun i hi => hw i (List.mem_cons_of_mem _ hi)) τ]
    exact key vs vs (fun _ h => h) σ
theorem pdn_lc {elt tg iter : Expr} {ifs : List Expr} {scope : Scope} {own : List (Str × Nat)} {pos : Pos} {fi : SI} {is : List Nat} {g : SG} {tt : STe} {fe : SE} (hc : X.calm = true) (hN : X.N.Nodup) (hi : PDI X tg iter fi) (ok : BlkOk X.N X.env.scope scope own)
    (hg : ∀ (s : Shared) (H : Hp) (C : Addr) (cl : List (Str × Addr)) (fp : List Addr), PDG (X.blk s H scope (compEnvC scope cl C X.env) fp) tg is g) (ht : ∀ (s : Shared) (H : Hp) (C : Addr) (cl : List (Str × Addr)) (fp : List Addr), PDTs (X.blk s H scope (compEnvC scope cl C X.env) fp) ifs tt)
    (he : ∀ (s : Shared) (H : Hp) (C : Addr) (cl : List (Str × Addr)) (fp : List Addr), PD (X.blk s H scope (compEnvC scope cl C X.env) fp) elt fe) (hv : ∀ i ∈ is, i ∈ own.map (·.2)) (hs : ∀ x, foldedSetIterable iter X.env x = pure x := by intro _; rfl) :
    PDN X (.ListComp elt [⟨tg, iter, ifs, 0⟩] scope pos) (fLc fi g tt fe (own.map (·.2))) := by
  have d : Shared × Hp × Addr := ⟨X.s_0, fun _ => none, 0⟩
  have mg := (hg d.1 d.2.1 d.2.2 [] []).mo
  have mt := (ht d.1 d.2.1 d.2.2 [] []).mo
  have me := (he d.1 d.2.1 d.2.2 [] []).mo
  exact ⟨mon_lc hi.mo mg mt me, (pe_lc hc hN hi.run ok (fun s H C cl fp => (hg s H C cl fp).run) (fun s H C cl fp => (ht s H C cl fp).run) (fun s H C cl fp => (he s H C cl fp).run) hs).of (lc_imp hi.mo mg mt me hv)⟩
/-- name = [..], the name a local of the def -/
theorem pds_setLc {i : Nat} {y : Str} {py : Pos} {elt tg iter : Expr} {ifs : List Expr} {scope : Scope} {own : List (Str × Nat)} {pos spos : Pos} {fi : SI} {is : List Nat} {g : SG} {tt : STe} {fe : SE} (hc : X.calm = true) (hN : X.N.Nodup) (hy : X.N[i]? = some y) (hyl : X.env.scope.names.lookup y = some .local)
    (hsw : swapsWith (.ListComp elt [⟨tg, iter, ifs, 0⟩] scope pos) (some (.Name y py)) spos.line X.env = pure true) (hi : PDI X tg iter fi) (ok : BlkOk X.N X.env.scope scope own)
    (hg : ∀ (s : Shared) (H : Hp) (C : Addr) (cl : List (Str × Addr)) (fp : List Addr), PDG (X.blk s H scope (compEnvC scope cl C X.env) fp) tg is g) (ht : ∀ (s : Shared) (H : Hp) (C : Addr) (cl : List (Str × Addr)) (fp : List Addr), PDTs (X.blk s H scope (compEnvC scope cl C X.env) fp) ifs tt)
    (he : ∀ (s : Shared) (H : Hp) (C : Addr) (cl : List (Str × Addr)) (fp : List Addr), PD (X.blk s H scope (compEnvC scope cl C X.env) fp) elt fe) (hv : ∀ i ∈ is, i ∈ own.map (·.2)) (hs : ∀ x, foldedSetIterable iter X.env x = pure x := by intro _; rfl) :
    PDS X W (.Assign [.Name y py] (.ListComp elt [⟨tg, iter, ifs, 0⟩] scope pos) spos) (fAsg (fOfN (fLc fi g tt fe (own.map (·.2)))) (gN i)) := by
  have d : Shared × Hp × Addr := ⟨X.s_0, fun _ => none, 0⟩
  have mg := (hg d.1 d.2.1 d.2.2 [] []).mo
  have mt := (ht d.1 d.2.1 d.2.2 [] []).mo
  have me := (he d.1 d.2.1 d.2.2 [] []).mo
  have mo := mon_lc (vs := own.map (·.2)) hi.mo mg mt me
  refine ⟨mon_asg (fun ρ μ P P' k q => mo ρ μ _ _ (fun ds μ1 q => k _ _ q) q) fun x ρ μ P P' k q => k _ _ q,
    (ps_setLc hc hN hy hyl hsw hi.run ok (fun s H C cl fp => (hg s H C cl fp).run) (fun s H C cl fp => (ht s H C cl fp).run) (fun s H C cl fp => (he s H C cl fp).run) hs).of fun Dn σ H q => lc_imp hi.mo mg mt me hv σ H _ ?_⟩
  obtain ⟨ad, ρ, μ, s, q⟩ := q
  refine ⟨ad, ρ, μ, s, mo ρ μ _ _ (fun ds μ1 q p H' hp t m => ?_) q⟩
  obtain ⟨m1, r1, _⟩ := m.last
  exact q _ H' ad (step_less t) ((s.step (step_less t) m1).set r1)

/-! ### calls of own defs -/
abbrev TF := List S → Mu → (D → Mu → Prop) → Prop
def MonF (T : TF) : Prop := ∀ ss μ (P P' : D → Mu → Prop), (∀ d μ', P d μ' → P' d μ') → T ss μ P → T ss μ P'
def spT (n : Nat) (K : PySem.W.Frag) (T : TF) : Sp := fun vs H Q _ => ∃ ad ss μ, RpSA K (hide ad H) ad vs ss ∧ RpM K H ad μ ∧ ss.length = n ∧ T ss μ fun d μ' => ∀ v H', Step ad H ad H' → RpM K H' ad μ' → Rp K (hide ad H') v d → Q v H'
theorem rpSA_len {K : PySem.W.Frag} {F : Hp} {ad : List Addr} : ∀ {vs : List V} {ss : List S}, RpSA K F ad vs ss → vs.length = ss.length
  | _, _, .nil => rfl
  | _, _, .cons _ r => congrArg (· + 1) (rpSA_len r)
def fCall (n : Nat) (T : TF) (f : SA) : SE := fun ρ μ P => f ρ μ fun ss μ1 => ss.length = n ∧ T ss μ1 fun d μ2 => P (.d d) μ2
theorem mon_call {n : Nat} {T : TF} {f : SA} (mT : MonF T) (m : MonE f) : MonE (fCall n T f) := fun ρ μ P P' k q => m ρ μ _ _ (fun ss μ1 q => ⟨q.1, mT ss μ1 _ _ (fun d μ2 q => k _ _ q) q.2⟩) q
theorem pd_call {e : Expr} {n : Nat} {T : TF} {f : SA} {E : XK} (mT : MonF T) (m : MonE f) (h : PE X e (tCall (spT n X.K T) [] E (taOf X.K f))) : PD X e (fCall n T f) := by
  refine ⟨mon_call mT m, h.of fun σ H Q q => ?_⟩
  obtain ⟨ad, ρ, μ, s, q⟩ := q
  refine ⟨ad, ρ, μ, s, m ρ μ _ _ (fun ss μ1 q vs H1 t1 m1 r1 => ?_) q⟩
  show spT n X.K T (vs ++ []) H1 Q E
  rw [List.append_nil]
  exact ⟨ad, ss, μ1, r1, m1, q.1, mT ss μ1 _ _ (fun d μ2 q v H2 t2 m2 r2 => q v H2 (t1.trans t2) m2 r2) q.2⟩
/-- a call with keywords alone -/
structure PDK (X : Cx) (kws : List Keyword) (f : SA) : Prop where
  mo : MonE f
  run : PK X kws (taOf X.K f)
theorem _root_.L2.PK.of {kws : List Keyword} {t t' : TA} (h : PK X kws t) (i : ∀ σ H Q, t' σ H Q → t σ H Q) : PK X kws t' := ⟨fun pos pins s σ H Q I q => h.run pos pins s σ H Q I (i σ H Q q)⟩
theorem pdk_nil : PDK X [] fANil := ⟨fun ρ μ P P' k h => k _ _ h, pk_nil.of fun σ H Q ⟨ad, ρ, μ, s, q⟩ => q [] H (Step.refl _ _) s.m .nil⟩
theorem pdk_cons {e : Expr} {nm : Option Str} {kpos : Pos} {kws : List Keyword} {f : SE} {g : SA} (h : PD X e f) (r : PDK X kws g) : PDK X (⟨nm, e, kpos⟩ :: kws) (fACons f g) := by
  refine ⟨fun ρ μ P P' k q => h.mo ρ μ _ _ (fun x μ1 q1 => r.mo ρ μ1 _ _ (fun xs μ2 q2 => k _ _ q2) q1) q, (pk_cons h.run r.run).of fun σ H Q q => ?_⟩
  obtain ⟨ad, ρ, μ, s, q⟩ := q
  refine ⟨ad, ρ, μ, s, h.mo ρ μ _ _ (fun x μ1 h1 v H1 t1 m1 r1 => ?_) q⟩
  refine ⟨ad, ρ, μ1, s.step t1 m1, r.mo ρ μ1 _ _ (fun xs μ2 h2 vs H2 t2 m2 r2 => ?_) h1⟩
  exact h2 (v :: vs) H2 (t1.trans t2) m2 (.cons (r1.step t2) r2)
theorem pe_callK0 {CX : CXT} {k : Nat} {f : Addr} {fd : FuncData} {ps ks : List Str} {sp : Sp} {E : XK} {x : Str} {p pos : Pos} {kws : List Keyword} {tk : TA} {g : List Value → List Value → List Value} {gV : List V → List V → List V}
    (F : FnOk X.prog X.w X.K X.mg X.base CX k f fd ps sp) (hr : Room k X.A) (hg : Gl X x) (hm : X.mg x = some (.ref f)) (hk : PySem.W.keepIn X.K (.ref f) = true) (hb : KBinds X.K fd ps ks g gV) (hx : Passes CX X E)
    (hkw : PK X kws tk) (hall : (backToKw pos (keywordEach kws X.env)).all (·.1.isSome) = true := by rfl) (hks : (backToKw pos (keywordEach kws X.env)).filterMap (·.1) = ks := by rfl)
    (hdb : (x == ("__debug__" : Str)) = false := by decide)
    (hpl : ((backTo pos (starEach [] X.env)).any (·.1) || (backToKw pos (keywordEach kws X.env)).any (·.1.isNone)) = false := by rfl) :
    PE X (.Call (.Name x p) [] kws pos) (tCallK sp gV E tNil tk) := by
  refine ⟨fun pins s σ H Q I h => ?_⟩
  refine wpAny_Call_Name_kw (ld_glob I hg hm ?_ hdb)
  refine PySem.W.callWith_KW0 (h₀ := X.base) I.ok.mod.kin hk hall ?_ hpl
  refine thn (hkw.run pos pins s σ H _ I h) fun ws s2 ⟨zs, H2, I2, rz, q2⟩ => ⟨I2.kIn, ?_⟩
  rw [hks]
  exact run_fnk (us := []) (vs := []) F hr hb hx I2 .nil rz q2
def fCallK (n : Nat) (T : TF) (π : List S → List S) (f : SA) : SE := fun ρ μ P => f ρ μ fun ss μ1 => (π ss).length = n ∧ T (π ss) μ1 fun d μ2 => P (.d d) μ2
theorem pd_callK {e : Expr} {n : Nat} {T : TF} {π : List S → List S} {gV : List V → List V → List V} {f : SA} {E : XK} (mT : MonF T) (m : MonE f) (hπ : ∀ (F : Hp) (ad : List Addr) (vs : List V) (ss : List S), RpSA X.K F ad vs ss → RpSA X.K F ad (gV [] vs) (π ss))
    (h : PE X e (tCallK (spT n X.K T) gV E tNil (taOf X.K f))) : PD X e (fCallK n T π f) := by
  refine ⟨fun ρ μ P P' k q => m ρ μ _ _ (fun ss μ1 q => ⟨q.1, mT _ μ1 _ _ (fun d μ2 q => k _ _ q) q.2⟩) q, h.of fun σ H Q q => ?_⟩
  obtain ⟨ad, ρ, μ, s, q⟩ := q
  refine ⟨ad, ρ, μ, s, m ρ μ _ _ (fun ss μ1 q vs H1 t1 m1 r1 => ?_) q⟩
  exact ⟨ad, _, μ1, hπ _ _ _ _ r1, m1, q.1, mT _ μ1 _ _ (fun d μ2 q v H2 t2 m2 r2 => q v H2 (t1.trans t2) m2 r2) q.2⟩
end

/-! ### a def keeps its promise -/
def startR (N : List Str) (ss : List S) : Rho := ss.map some ++ List.replicate (N.length - ss.length) none
theorem sim_start {K : PySem.W.Frag} {H : Hp} {ad : List Addr} {μ : Mu} {N : List Str} {vs : List V} {ss : List S} (m : RpM K H ad μ) (r : RpSA K (hide ad H) ad vs ss) : Sim K H ad (startR N ss) μ (L2.start N vs) := by
  have hl := rpSA_len r
  refine ⟨m, by unfold startR L2.start; simp [hl], fun i x h => ?_⟩
  have key : ∀ {vs : List V} {ss : List S} (i : Nat), RpSA K (hide ad H) ad vs ss → ss[i]? = some x → ∃ v, vs[i]? = some v ∧ RpS K (hide ad H) ad v x := by
    intro vs ss i r
    induction r generalizing i with
    | nil => intro h; simp at h
    | cons h1 h2 ih =>
      intro h
      cases i with
      | zero => simp at h; subst h; exact ⟨_, rfl, h1⟩
      | succ i => obtain ⟨v, q1, q2⟩ := ih i (by simpa using h); exact ⟨v, by simpa using q1, q2⟩
  unfold startR at h
  by_cases hi : i < ss.length
  · rw [List.getElem?_append_left (by simpa using hi), List.getElem?_map] at h
    cases e : ss[i]? with
    | none => rw [e] at h; cases h
    | some y =>
      rw [e] at h
      cases h
      obtain ⟨v, q1, q2⟩ := key i r e
      refine ⟨v, ?_, q2⟩
      unfold L2.start
      rw [List.getElem?_append_left (by simp; omega), List.getElem?_map, q1]
      rfl
  · rw [List.getElem?_append_right (by simpa using hi), List.getElem?_replicate] at h
    split at h <;> cases h
/-- nothing is raised -/
abbrev WZ : WX := fun _ _ _ _ => False
def fin (n : Nat) (μ : Mu) : S → Option D
  | .d x => some x
  | .m j => if j < n then none else (μ[j]?).map .lst
  | .ex _ _ _ _ => none
def kD (n : Nat) (P : D → Mu → Prop) : K4 where
  nx := fun _ μ' => P .non (μ'.take n)
  rt := fun x μ' => ∃ d, fin n μ' x = some d ∧ P d (μ'.take n)
  bk := fun _ _ => False
  ct := fun _ _ => False
  er := fun _ _ _ => False
theorem RpM.take {K : PySem.W.Frag} {H : Hp} {ad ad' : List Addr} {μ' : Mu} (m : RpM K H ad' μ') (p : ad <+: ad') : RpM K H ad (μ'.take ad.length) ∧ Same (hide ad' H) (hide ad H) := by
  obtain ⟨t, rfl⟩ := p
  have sm : Same (hide (ad ++ t) H) (hide ad H) := fun b o e => by
    obtain ⟨h, e1⟩ := hide_some e
    rw [hide_out fun q => h (List.mem_append_left _ q)]
    exact e1
  have hl := m.len
  rw [List.length_append] at hl
  refine ⟨⟨by rw [List.length_take]; omega, (List.nodup_append.mp m.nd).1, fun j ds h => ?_⟩, sm⟩
  rw [List.getElem?_take] at h
  split at h
  · rename_i hj
    obtain ⟨a, xs, q1, q2, q3⟩ := m.at_ j ds h
    rw [List.getElem?_append_left hj] at q1
    exact ⟨a, xs, q1, q2, q3.mono sm⟩
  · cases h
theorem ok_def {P : Program} {w : World} {K : PySem.W.Frag} {mg : Str → Option Value} {base : Heap} {x qual : Str} {st : Stmt} {f : Addr} {fd : FuncData} {N ps : List Str} {k : Nat} {T : TF} {fb : SS} (F : Fun K x qual st f fd) (S : FnScope N ps (defScope st))
    (hb : ∀ (cdv : Value) (A : Around) (outer : List Env) (s : Shared) (H : Hp) (E : XK), Room k (A.deeper (envOfC qual (defScope st) s.heap.objs.size f cdv)) → PDSs (cxOf CX0 P w K mg base N qual (defScope st) f cdv A outer s H E).nox WZ (defBody st) fb)
    (hT : ∀ ss μ (Q : D → Mu → Prop), ss.length = ps.length → T ss μ Q → fb (startR N ss) μ (kD μ.length Q)) : FnOk P w K mg base CX0 (k + 1) f fd ps (spT ps.length K T) := by
  refine F.ok S (fun vs H Q E h => ?_) (fun cdv A outer s H vs Q E hr h => ?_)
  · obtain ⟨ad, ss, μ, r, m, l, _⟩ := h
    rw [rpSA_len r]
    exact l
  · obtain ⟨ad, ss, μ, r, m, l, q⟩ := h
    have B := hb cdv A outer s H E hr
    refine ⟨_, B.run, ad, startR N ss, μ, sim_start m r, B.mo _ _ _ _ ?_ (hT ss μ _ l q)⟩
    have hl := m.len
    have less : ∀ {ad' : List Addr} {H' : Hp}, Step ad H ad' H' → Step ad H ad H' := fun t => ⟨List.prefix_refl _, fun b o h e => ⟨h, (t.keep b o h e).2⟩⟩
    refine ⟨fun ρ' μ' q σ' H' ad' t s' => ?_, fun y μ' q v H' ad' t m' rv => ?_, fun _ _ q => q.elim, fun _ _ q => q.elim, fun _ _ _ q => q.elim⟩
    · obtain ⟨m2, sm⟩ := s'.m.take t.pre
      rw [hl] at m2
      exact q .non H' (less t) m2 .non
    · obtain ⟨d, e, q⟩ := q
      obtain ⟨m2, sm⟩ := m'.take t.pre
      rw [hl] at m2
      refine q v H' (less t) m2 ?_
      cases y with
      | d y => cases e; exact Rp.mono sm rv
      | ex _ _ _ _ => cases e
      | m j =>
        unfold fin at e
        simp only at e
        split at e
        · cases e
        · cases e2 : μ'[j]? with
          | none => rw [e2] at e; cases e
          | some ds =>
            rw [e2] at e
            cases e
            obtain ⟨a, h1, rfl⟩ := rv
            obtain ⟨b, xs, q1, q2, q3⟩ := m'.at_ j ds e2
            rw [h1] at q1
            cases q1
            refine .lst (xs := xs) (.inl (.inl ?_)) (q3.mono sm)
            rw [hide_out fun z => ?_]
            · exact q2
            · rename_i hj
              obtain ⟨t', e3⟩ := t.pre
              subst e3
              have hnd := m'.nd
              obtain ⟨l1, e4⟩ := List.getElem?_eq_some_iff.mp h1
              obtain ⟨i, hi, e5⟩ := List.getElem_of_mem z
              have : (ad ++ t')[i]'(by rw [List.length_append]; omega) = a := by rw [List.getElem_append_left hi]; exact e5
              have hij := (List.getElem_inj hnd).mp (this.trans e4.symm)
              omega
/-! ### isinstance -/
section
variable {X : Cx} {W : WX}
def isB (x : S) (T : String) : Option Bool := match x with
  | .d (.tup _) => kitB "tuple" T
  | .d (.int _) => kitB "int" T
  | _ => none
def fIsi (T : String) (f : SE) : SE := fun ρ μ P => f ρ μ fun x μ1 => ∃ b, isB x T = some b ∧ P (.d (.bl b)) μ1
theorem pd_isi {e : Expr} {T : String} {n : Str} {p p2 pos : Pos} {f : SE} (h : PD X e f) (hg : Gl X "isinstance") (hm : X.mg "isinstance" = none) (hg2 : Gl X n) (hm2 : X.mg n = none) (hb2 : bootBuiltins n = some (.type T)) (hn2 : n ≠ "__name__") (hd2 : (n == ("__debug__" : Str)) = false)
    (hv : bootBuiltins "isinstance" = some (.builtin "isinstance")) (hs : starEach [e, .Name n p2] X.env = (false, eval e X.env) :: starEach [.Name n p2] X.env := by rfl) (hs2 : starEach [.Name n p2] X.env = (false, eval (.Name n p2) X.env) :: starEach [] X.env := by rfl)
    (hpl : (backTo pos (starEach [.Name n p2] X.env)).any (·.1) = false := by rfl) : PD X (.Call (.Name "isinstance" p) [e, .Name n p2] [] pos) (fIsi T f) := by
  have h0 : PE X (.Call (.Name "isinstance" p) [e, .Name n p2] [] pos) (tCB (rIsi X.K) (tCons (teOf X.K f) (tCons (tC (.ty T)) tNil))) :=
    pe_callB call_isi hg hm hv (pa_cons h.run (pa_cons (pe_bltn hg2 hm2 hb2 rfl hn2 hd2) pa_nil hs2) hs) (by decide) (by decide) hs hpl
  refine ⟨fun ρ μ P P' k q => h.mo ρ μ _ _ (fun x μ1 ⟨b, e, q⟩ => ⟨b, e, k _ _ q⟩) q, h0.of fun σ H Q q => ?_⟩
  obtain ⟨ad, ρ, μ, s, q⟩ := q
  refine ⟨ad, ρ, μ, s, h.mo ρ μ _ _ (fun x μ1 ⟨b, e, q⟩ v H1 t1 m1 r1 => ?_) q⟩
  unfold isB at e
  split at e
  · cases r1 with
    | tup h1 h2 =>
      refine ⟨_, _, .type "tuple", .type T, b, rfl, .ty T, ?_, kit_ty e, q _ H1 t1 m1 (.bl b)⟩
      rcases sqT_same hide_same h1 with (z | ⟨o, z⟩) | ⟨o, its, n, z1, z2, _⟩
      · exact .base (.tup z)
      · exact .fTuple z
      · exact .kTuple z1 z2
  · cases r1
    exact ⟨_, _, .type "int", .type T, b, rfl, .ty T, .base (.int _), kit_ty e, q _ H1 t1 m1 (.bl b)⟩
  · cases e
end
end DV

/-! part DV6 -/
set_option Elab.async false
set_option linter.all false
set_option maxRecDepth 100000
set_option autoImplicit false
namespace DV
open PySem PySem.Spec L2
open PyProof.Rows (envOfC)
/-- a def of the text's top -/
def Top (K : PySem.W.Frag) (mg : Str → Option Value) (x : Str) (st : Stmt) (ps : List Str) : Prop := ∃ f fd, Fun K x x st f fd ∧ Binds K fd ps [] ∧ mg x = some (.ref f)
/-- a def that keeps its promise -/
def DefOk (P : Program) (w : World) (K : PySem.W.Frag) (mg : Str → Option Value) (base : Heap) (x : Str) (k n : Nat) (T : TF) : Prop :=
  MonF T ∧ ∃ f fd ps, mg x = some (.ref f) ∧ PySem.W.keepIn K (.ref f) = true ∧ Binds K fd ps [] ∧ FnOk P w K mg base CX0 k f fd ps (spT n K T)
theorem ok_defD {P : Program} {w : World} {K : PySem.W.Frag} {mg : Str → Option Value} {base : Heap} {x : Str} {st : Stmt} {N ps : List Str} {k : Nat} {T : TF} {fb : SS} (t : Top K mg x st ps) (S : FnScope N ps (defScope st)) (mT : MonF T)
    (hb : ∀ (f : Addr) (cdv : Value) (A : Around) (outer : List Env) (s : Shared) (H : Hp) (E : XK), Room k (A.deeper (envOfC x (defScope st) s.heap.objs.size f cdv)) → PDSs (cxOf CX0 P w K mg base N x (defScope st) f cdv A outer s H E).nox WZ (defBody st) fb)
    (hT : ∀ ss μ (Q : D → Mu → Prop), ss.length = ps.length → T ss μ Q → fb (startR N ss) μ (kD μ.length Q)) : DefOk P w K mg base x (k + 1) ps.length T := by
  obtain ⟨f, fd, F, b, g⟩ := t
  exact ⟨mT, f, fd, ps, g, F.kp, b, ok_def F S (fun cdv A outer s H E hr => hb f cdv A outer s H E hr) hT⟩
section
variable {X : Cx} {W : WX}
theorem pd_callD {x : Str} {k n : Nat} {T : TF} {p pos : Pos} {e : Expr} {es : List Expr} {f : SA} (C : DefOk X.prog X.w X.K X.mg X.base x k n T) (hr : Room k X.A) (hg : Gl X x) (h : PDA X (e :: es) f)
    (hdb : (x == ("__debug__" : Str)) = false := by decide) (he : starEach (e :: es) X.env = (false, eval e X.env) :: starEach es X.env := by rfl) (hpl : (backTo pos (starEach es X.env)).any (·.1) = false := by rfl) :
    PD X (.Call (.Name x p) (e :: es) [] pos) (fCall n T f) := by
  obtain ⟨mT, fa, fd, ps, g, kp, b, F⟩ := C
  exact pd_call mT h.mo (pe_call (E := E0) F hr hg g kp b .nil pass0 h.run hdb he hpl)
/-- a module's constant -/
def ConstOk (K : PySem.W.Frag) (mg : Str → Option Value) (x : Str) (d : D) : Prop := ∃ v u, mg x = some u ∧ RelV v u ∧ ∀ F, Rp K F v d
theorem pd_glob {x : Str} {d : D} {pos : Pos} (C : ConstOk X.K X.mg x d) (hg : Gl X x) (hdb : (x == ("__debug__" : Str)) = false := by decide) : PD X (.Name x pos) (fC d) := by
  obtain ⟨v, u, g, r, rp⟩ := C
  exact pd_c (pe_glob hg g r hdb) rp
theorem pd_B {x : Str} {id : String} {r : List V → Hp → VK → Prop} {g : GA} {p pos : Pos} {e : Expr} {es : List Expr} {f : SA} (hc : CallR X (.builtin id) r) (sd : SoundA X.K r g) (mg : MonA g) (hg : Gl X x) (hm : X.mg x = none) (hv : bootBuiltins x = some (.builtin id)) (h : PDA X (e :: es) f)
    (hn : x ≠ "__name__" := by decide) (hdb : (x == ("__debug__" : Str)) = false := by decide) (he : starEach (e :: es) X.env = (false, eval e X.env) :: starEach es X.env := by rfl) (hpl : (backTo pos (starEach es X.env)).any (·.1) = false := by rfl) :
    PD X (.Call (.Name x p) (e :: es) [] pos) (fCB g f) := pd_of_CB mg h.mo sd (pe_callB hc hg hm hv h.run hn hdb he hpl)
theorem pd_Ty {x : Str} {T : String} {r : List V → Hp → VK → Prop} {g : GA} {p pos : Pos} {e : Expr} {es : List Expr} {f : SA} (hc : CallR X (.type T) r) (sd : SoundA X.K r g) (mg : MonA g) (hg : Gl X x) (hm : X.mg x = none) (hv : bootBuiltins x = some (.type T)) (h : PDA X (e :: es) f)
    (hn : x ≠ "__name__" := by decide) (hdb : (x == ("__debug__" : Str)) = false := by decide) (he : starEach (e :: es) X.env = (false, eval e X.env) :: starEach es X.env := by rfl) (hpl : (backTo pos (starEach es X.env)).any (·.1) = false := by rfl) :
    PD X (.Call (.Name x p) (e :: es) [] pos) (fCB g f) := pd_of_CB mg h.mo sd (pe_callTy hc hg hm hv h.run hn hdb he hpl)
theorem pd_Bf {x : Str} {id : String} {r : List V → Hp → VK → Prop} {g : GA} {p pos : Pos} {e : Expr} {es : List Expr} {f : SA} (hc : CallR X (.builtin id) r) (sd : SoundA X.K r g) (mg : MonA g) (hg : Gl X x) (hm : X.mg x = some (.builtin id)) (h : PDA X (e :: es) f)
    (hdb : (x == ("__debug__" : Str)) = false := by decide) (he : starEach (e :: es) X.env = (false, eval e X.env) :: starEach es X.env := by rfl) (hpl : (backTo pos (starEach es X.env)).any (·.1) = false := by rfl) :
    PD X (.Call (.Name x p) (e :: es) [] pos) (fCB g f) := pd_of_CB mg h.mo sd (pe_callBfun hc hg hm h.run hdb he hpl)
theorem bt_len : bootBuiltins "len" = some (.builtin "len") := by decide +kernel
theorem bt_isi : bootBuiltins "isinstance" = some (.builtin "isinstance") := by decide +kernel
theorem bt_sum : bootBuiltins "sum" = some (.builtin "sum") := by decide +kernel
theorem bt_all : bootBuiltins "all" = some (.builtin "all") := by decide +kernel
theorem bt_any : bootBuiltins "any" = some (.builtin "any") := by decide +kernel
theorem bt_abs : bootBuiltins "abs" = some (.builtin "abs") := by decide +kernel
theorem bt_max : bootBuiltins "max" = some (.builtin "max") := by decide +kernel
theorem bt_min : bootBuiltins "min" = some (.builtin "min") := by decide +kernel
theorem bt_divmod : bootBuiltins "divmod" = some (.builtin "divmod") := by decide +kernel
theorem bt_repr : bootBuiltins "repr" = some (.builtin "repr") := by decide +kernel
theorem bt_int : bootBuiltins "int" = some (.type "int") := by decide +kernel
theorem bt_bool : bootBuiltins "bool" = some (.type "bool") := by decide +kernel
theorem bt_tuple : bootBuiltins "tuple" = some (.type "tuple") := by decide +kernel
theorem bt_list : bootBuiltins "list" = some (.type "list") := by decide +kernel
/-- the same, for what may be used in a def's body -/
theorem add_ok : OpR X (binaryOp .Add) (fun x y H Q => rI0 (fun i j => .int (i + j)) x y H Q ∨ rCatA X.K x y H Q) := op_add.or op_catA
theorem eq_ok (hu : X.A.units + 64 < cLine) : OpR X (compareOp .Eq) (fun x y H Q => rEq x y H Q ∨ rEqD X.K x y H Q) := op_eq.or (op_eqD hu)
theorem ix_ok : IxR X (fun x y H Q => rIxL X.K x y H Q ∨ rIxT X.K x y H Q) := IxR.or ix_list ix_tup
end
theorem gsNil_eq {ρ : Rho} {μ : Mu} {P : Rho → Mu → Prop} : gsNil [] ρ μ P = P ρ μ := propext ⟨fun h => h.2, fun h => ⟨rfl, h⟩⟩
theorem gsCons_eq {g : SG} {gs : SGs} {x : S} {r : List S} {ρ : Rho} {μ : Mu} {P : Rho → Mu → Prop} : gsCons g gs (x :: r) ρ μ P = g x ρ μ fun ρ' μ' => gs r ρ' μ' P :=
  propext ⟨fun ⟨y, s, e, h⟩ => by cases e; exact h, fun h => ⟨x, r, rfl, h⟩⟩
theorem gT_eq {n : Nat} {gs : SGs} {ds : List D} {ρ : Rho} {μ : Mu} {P : Rho → Mu → Prop} : gT n gs (.d (.tup ds)) ρ μ P = (ds.length = n ∧ gs (ds.map S.d) ρ μ P) :=
  propext ⟨fun ⟨es, e, h⟩ => by cases e; exact h, fun h => ⟨ds, rfl, h⟩⟩
theorem gSb_eq {fo fi : SE} {v : D} {ρ : Rho} {μ : Mu} {P : Rho → Mu → Prop} : gSb fo fi (.d v) ρ μ P = fo ρ μ fun o μ1 => fi ρ μ1 fun i μ2 => ∃ j k ds, o = .m j ∧ i = .d (.int k) ∧ μ2[j]? = some ds ∧ 0 ≤ k ∧ k < ds.length ∧ P ρ (μ2.set j (ds.set k.toNat v)) := by
  unfold gSb
  congr 1
  funext o μ1
  congr 1
  funext i μ2
  exact propext ⟨fun ⟨j, k, ds, d, e1, e2, e3, e4, e5, e6, h⟩ => by cases e3; exact ⟨j, k, ds, e1, e2, e4, e5, e6, h⟩, fun ⟨j, k, ds, e1, e2, e4, e5, e6, h⟩ => ⟨j, k, ds, v, e1, e2, rfl, e4, e5, e6, h⟩⟩
end DV

/-! part DV7 -/
set_option Elab.async false
set_option linter.all false
set_option maxRecDepth 100000
set_option autoImplicit false
namespace DV
open PySem PySem.Spec L2
open PyProof.Rows (envOfC)
theorem deeper_guards (A : Around) (env : Env) : (A.deeper env).guards = A.guards := rfl
section
variable {X : Cx} {W : WX}
def fDrop (f : SE) : SS := fun ρ μ k => f ρ μ fun _ μ1 => k.nx ρ μ1
theorem pds_expr {e : Expr} {pos : Pos} {f : SE} (h : PD X e f) (hs : swapsWith e none pos.line X.env = pure false := by rfl) : PDS X W (.Expr e pos) (fDrop f) := by
  refine ⟨fun ρ μ k k' l q => h.mo ρ μ _ _ (fun x μ1 q => l.nx _ _ q) q, (ps_expr h.run hs).of fun Dn σ H q => ?_⟩
  obtain ⟨ad, ρ, μ, s, q⟩ := q
  exact ⟨ad, ρ, μ, s, h.mo ρ μ _ _ (fun x μ1 q v H1 t1 m1 r1 => q σ H1 ad t1 (s.step t1 m1)) q⟩
theorem pdi_enumerate {e : Expr} {elts : List Expr} {kk : Nat} {f : SA} {p pos tpos : Pos} (hg : Gl X "enumerate") (hm : X.mg "enumerate" = none) (h : PDA X [e] f) (hs : starEach [e] X.env = [(false, eval e X.env)] := by rfl) :
    PDI X (.Tuple elts kk tpos) (.Call (.Name "enumerate" p) [e] [] pos) (fIEnum f) := pdi_enum hg hm h hs
/-- [x] * n -/
def fNRep (f : SA) (fb : SE) : SN := fun ρ μ P => f ρ μ fun ss μ1 => ∃ ds, allD ss = some ds ∧ ds.length ≤ 1000 ∧ fb ρ μ1 fun y μ2 => ∃ k : Int, y = .d (.int k) ∧ 0 ≤ k ∧ k ≤ 1000 ∧ P (List.replicate k.toNat ds).flatten μ2
theorem pdn_rep {es : List Expr} {p1 pos : Pos} {b : Expr} {f : SA} {fb : SE} (h : PDA X es f) (hb : PD X b fb) : PDN X (.BinOp (.List es p1) .Mult b pos) (fNRep f fb) := by
  refine ⟨fun ρ μ P P' k q => h.mo ρ μ _ _ (fun ss μ1 ⟨ds, e1, e2, q⟩ => ⟨ds, e1, e2, hb.mo ρ μ1 _ _ (fun y μ2 ⟨n, e3, e4, e5, q⟩ => ⟨n, e3, e4, e5, k _ _ q⟩) q⟩) q, (pe_op op_rep (pe_lst h.run) hb.run).of fun σ H Q q => ?_⟩
  obtain ⟨ad, ρ, μ, s, q⟩ := q
  refine ⟨ad, ρ, μ, s, h.mo ρ μ _ _ (fun ss μ1 ⟨ds, e1, e2, q⟩ vs H1 t1 m1 r1 => ?_) q⟩
  have r2 := allD_rp r1 e1
  have l2 := r2.length
  refine ⟨sz (by omega), fun p hp => ?_⟩
  have hpa := m1.fresh hp
  have st : Step ad H1 ad (upd H1 p (.lst vs)) := Step.new hp
  refine ⟨ad, ρ, μ1, s.step (t1.trans st) (m1.new hp), hb.mo ρ μ1 _ _ (fun y μ2 ⟨n, e3, e4, e5, q⟩ v H2 t2 m2 r3 => ?_) q⟩
  subst e3
  obtain rfl := rp_int r3
  have hp2 := (t2.keep p _ hpa upd_same).2
  have hz : vs.length * n.toNat ≤ 100000000 := by
    have a1 : vs.length ≤ 1000 := by omega
    have a2 : n.toNat ≤ 1000 := by omega
    have := Nat.mul_le_mul a1 a2
    omega
  refine ⟨p, n, vs, rfl, rfl, hp2, by omega, by omega, ?_, ?_⟩
  · have a1 : vs.length ≤ 1000 := by omega
    have a2 : n.toNat ≤ 1000 := by omega
    have := Nat.mul_le_mul a1 a2
    exact Nat.le_trans this (by decide)
  · have t3 := (t1.trans st).trans t2
    exact new_N t3 m2 ((r2.mono (st.trans t2).same).rep _) (free_back s.m t3 m2) q
/-- list(range(n)) -/
def fNRg (f : SE) : SN := fun ρ μ P => f ρ μ fun x μ1 => ∃ n : Int, x = .d (.int n) ∧ 0 ≤ n ∧ n ≤ 100000 ∧ P (rngD n) μ1
theorem pdn_listRg {a : Expr} {p p2 pos pos2 : Pos} {f : SE} (hc : X.calm = true) (hg : Gl X "list") (hm : X.mg "list" = none) (hg2 : Gl X "range") (hm2 : X.mg "range" = none) (h : PD X a f)
    (na : starEach [a] X.env = (false, eval a X.env) :: starEach [] X.env := by rfl) (na2 : starEach [.Call (.Name "range" p2) [a] [] pos2] X.env = (false, eval (.Call (.Name "range" p2) [a] [] pos2) X.env) :: starEach [] X.env := by rfl) :
    PDN X (.Call (.Name "list" p) [.Call (.Name "range" p2) [a] [] pos2] [] pos) (fNRg f) := by
  refine ⟨fun ρ μ P P' k q => h.mo ρ μ _ _ (fun x μ1 ⟨n, e1, e2, e3, q⟩ => ⟨n, e1, e2, e3, k _ _ q⟩) q, (pe_listRg hc hg hm (prg_1 hg2 hm2 h.run na) na2).of fun σ H Q q => ?_⟩
  obtain ⟨ad, ρ, μ, s, q⟩ := q
  refine ⟨ad, ρ, μ, s, h.mo ρ μ _ _ (fun x μ1 ⟨n, e1, e2, e3, q⟩ v H1 t1 m1 r1 => ?_) q⟩
  subst e1
  obtain rfl := rp_int r1
  refine ⟨n, rfl, RgOk.of_le (by omega) (by omega) (by omega) (by omega), ?_⟩
  have e : RpA X.K (hide ad H1) (rgV 0 n) (rngD n) := by
    unfold rgV rngD
    rw [Int.sub_zero]
    induction List.range n.toNat with
    | nil => exact .nil
    | cons i l ih =>
      rw [List.map_cons, List.map_cons, Int.zero_add]
      exact .cons (.int _) ih
  exact new_N t1 m1 e (free_back s.m t1 m1) q
/-- a, b = [], y -/
def fParN0 (i j : Nat) (fa : SN) (fb : SE) : SS := fun ρ μ k => fa ρ μ fun ds μ1 => fb ρ (μ1 ++ [ds]) fun y μ2 => k.nx ((ρ.set i (some (.m μ1.length))).set j (some y)) μ2
theorem last_ad {K : PySem.W.Frag} {H : Hp} {ad : List Addr} {p : Addr} {μ : Mu} {ds : List D} (m : RpM K H (ad ++ [p]) (μ ++ [ds])) : (ad ++ [p])[μ.length]? = some p := by
  have hl := m.len
  rw [List.length_append, List.length_append] at hl
  have hl2 : ad.length = μ.length := by simpa using hl
  rw [← hl2, List.getElem?_append_right (Nat.le_refl _), Nat.sub_self]
  rfl
theorem pds_parN0 {st : Stmt} {i j : Nat} {a b : Expr} {fa : SN} {fb : SE} (ha : PDN X a fa) (hb : PD X b fb) (hp : ∀ ta, PA X [a, b] ta → PS X st (tPar i j ta))
    (hs : starEach [a, b] X.env = (false, eval a X.env) :: starEach [b] X.env := by rfl) (hs2 : starEach [b] X.env = (false, eval b X.env) :: starEach [] X.env := by rfl) : PDS X W st (fParN0 i j fa fb) := by
  refine ⟨fun ρ μ k k' l q => ha.mo ρ μ _ _ (fun ds μ1 q => hb.mo ρ _ _ _ (fun y μ2 q => l.nx _ _ q) q) q, (hp _ (pa_cons ha.run (pa_cons hb.run pa_nil hs2) hs)).of fun Dn σ H q => ?_⟩
  obtain ⟨ad, ρ, μ, s, q⟩ := q
  refine ⟨ad, ρ, μ, s, ha.mo ρ μ _ _ (fun ds μ1 q p H1 hp t1 m1 => ?_) q⟩
  have hg := last_ad m1
  refine ⟨ad ++ [p], ρ, μ1 ++ [ds], s.step t1 m1, hb.mo ρ _ _ _ (fun y μ2 q v H2 t2 m2 r2 => ?_) q⟩
  have rp : RpS X.K (hide (ad ++ [p]) H2) (ad ++ [p]) (.ref p) (.m μ1.length) := ⟨p, hg, rfl⟩
  exact ⟨.ref p, v, rfl, q _ H2 (ad ++ [p]) (t1.trans t2) (((s.step (t1.trans t2) m2).set rp).set r2)⟩
/-- a, b, c = x, y, z -/
def fPar3 (i j l : Nat) (f : SA) : SS := fun ρ μ k => f ρ μ fun xs μ1 => ∃ x y z, xs = [x, y, z] ∧ k.nx (((ρ.set i (some x)).set j (some y)).set l (some z)) μ1
theorem rsa3 {K : PySem.W.Frag} {F : Hp} {ad : List Addr} {vs : List V} {x y z : S} (r : RpSA K F ad vs [x, y, z]) : ∃ v u w, vs = [v, u, w] ∧ RpS K F ad v x ∧ RpS K F ad u y ∧ RpS K F ad w z := by
  cases r with
  | cons h r =>
    obtain ⟨u, w, rfl, h2, h3⟩ := rsa2 r
    exact ⟨_, u, w, rfl, h, h2, h3⟩
theorem pds_par3 {st : Stmt} {i j l : Nat} {es : List Expr} {f : SA} (h : PDA X es f) (hp : ∀ ta, PA X es ta → PS X st (tPar3 i j l ta)) : PDS X W st (fPar3 i j l f) := by
  refine ⟨fun ρ μ k k' l q => h.mo ρ μ _ _ (fun xs μ1 ⟨x, y, z, e, q⟩ => ⟨x, y, z, e, l.nx _ _ q⟩) q, (hp _ h.run).of fun Dn σ H q => ?_⟩
  obtain ⟨ad, ρ, μ, s, q⟩ := q
  refine ⟨ad, ρ, μ, s, h.mo ρ μ _ _ (fun xs μ1 q vs H1 t1 m1 r1 => ?_) q⟩
  obtain ⟨x, y, z, rfl, q⟩ := q
  obtain ⟨v, u, w, rfl, r2, r3, r4⟩ := rsa3 r1
  exact ⟨v, u, w, rfl, q _ H1 ad t1 ((((s.step t1 m1).set r2).set r3).set r4)⟩
def fPar3N (i j l : Nat) (fa fb : SE) (fc : SN) : SS := fun ρ μ k => fa ρ μ fun x μ1 => fb ρ μ1 fun y μ2 => fc ρ μ2 fun ds μ3 => k.nx (((ρ.set i (some x)).set j (some y)).set l (some (.m μ3.length))) (μ3 ++ [ds])
theorem pds_par3N {st : Stmt} {i j l : Nat} {a b c : Expr} {fa fb : SE} {fc : SN} (ha : PD X a fa) (hb : PD X b fb) (hc : PDN X c fc) (hp : ∀ ta, PA X [a, b, c] ta → PS X st (tPar3 i j l ta))
    (hs : starEach [a, b, c] X.env = (false, eval a X.env) :: starEach [b, c] X.env := by rfl) (hs2 : starEach [b, c] X.env = (false, eval b X.env) :: starEach [c] X.env := by rfl) (hs3 : starEach [c] X.env = (false, eval c X.env) :: starEach [] X.env := by rfl) : PDS X W st (fPar3N i j l fa fb fc) := by
  refine ⟨fun ρ μ k k' l q => ha.mo ρ μ _ _ (fun x μ1 q => hb.mo ρ _ _ _ (fun y μ2 q => hc.mo ρ _ _ _ (fun ds μ3 q => l.nx _ _ q) q) q) q, (hp _ (pa_cons ha.run (pa_cons hb.run (pa_cons hc.run pa_nil hs3) hs2) hs)).of fun Dn σ H q => ?_⟩
  obtain ⟨ad, ρ, μ, s, q⟩ := q
  refine ⟨ad, ρ, μ, s, ha.mo ρ μ _ _ (fun x μ1 q v H1 t1 m1 r1 => ?_) q⟩
  refine ⟨ad, ρ, μ1, s.step t1 m1, hb.mo ρ μ1 _ _ (fun y μ2 q u H2 t2 m2 r2 => ?_) q⟩
  refine ⟨ad, ρ, μ2, s.step (t1.trans t2) m2, hc.mo ρ μ2 _ _ (fun ds μ3 q p H3 hp t3 m3 => ?_) q⟩
  have hg := last_ad m3
  have t := (t1.trans t2).trans t3
  have rp : RpS X.K (hide (ad ++ [p]) H3) (ad ++ [p]) (.ref p) (.m μ3.length) := ⟨p, hg, rfl⟩
  exact ⟨v, u, .ref p, rfl, q _ H3 (ad ++ [p]) t ((((s.step t m3).set (r1.step (t2.trans t3))).set (r2.step t3)).set rp)⟩
end
end DV

/-! part DVT -/
set_option Elab.async false
set_option linter.all false
set_option maxRecDepth 100000
set_option autoImplicit false
namespace DV
open PySem PySem.Spec L2
open PyProof.Rows (envOfC)
/-- a def that keeps its promise, with its text -/
def DefOkT (P : Program) (w : World) (K : PySem.W.Frag) (mg : Str → Option Value) (base : Heap) (x : Str) (st : Stmt) (ps : List Str) (k : Nat) (T : TF) : Prop :=
  MonF T ∧ ∃ f fd, Fun K x x st f fd ∧ Binds K fd ps [] ∧ mg x = some (.ref f) ∧ FnOk P w K mg base CX0 k f fd ps (spT ps.length K T)
section
variable {P : Program} {w : World} {K : PySem.W.Frag} {mg : Str → Option Value} {base : Heap} {x : Str} {st : Stmt} {N ps ks : List Str} {k : Nat} {T : TF} {fb : SS} {is : List Nat}
theorem ok_defT (t : Top K mg x st ps) (S : FnScope N ps (defScope st)) (mT : MonF T)
    (hb : ∀ (f : Addr) (cdv : Value) (A : Around) (outer : List Env) (s : Shared) (H : Hp) (E : XK), Room k (A.deeper (envOfC x (defScope st) s.heap.objs.size f cdv)) → PDSs (cxOf CX0 P w K mg base N x (defScope st) f cdv A outer s H E).nox WZ (defBody st) fb)
    (hT : ∀ ss μ (Q : D → Mu → Prop), ss.length = ps.length → T ss μ Q → fb (startR N ss) μ (kD μ.length Q)) : DefOkT P w K mg base x st ps (k + 1) T := by
  obtain ⟨f, fd, F, b, g⟩ := t
  exact ⟨mT, f, fd, F, b, g, ok_def F S (fun cdv A outer s H E hr => hb f cdv A outer s H E hr) hT⟩
theorem DefOkT.ok (h : DefOkT P w K mg base x st ps k T) : DefOk P w K mg base x k ps.length T := by
  obtain ⟨mT, f, fd, F, b, g, ok⟩ := h
  exact ⟨mT, f, fd, ps, g, F.kp, b, ok⟩
/-- the places told, in this order -/
def pick {α : Type} (is : List Nat) (l : List α) : List α := is.filterMap fun i => l[i]?
def kwS {α : Type} (n : Nat) (is : List Nat) (l : List α) : List α := if l.length = n then pick is l else []
theorem pick_rel {α β : Type} {R : α → β → Prop} {F : List α → List β → Prop} (nil : F [] []) (cons : ∀ a b l m, R a b → F l m → F (a :: l) (b :: m)) {l : List α} {m : List β} (h : ∀ i : Nat, (l[i]? = none ∧ m[i]? = none) ∨ ∃ a b, l[i]? = some a ∧ m[i]? = some b ∧ R a b) : ∀ is : List Nat, F (pick is l) (pick is m)
  | [] => nil
  | i :: is => by
    have ih := pick_rel nil cons h is
    unfold pick at ih ⊢
    rcases h i with ⟨h1, h2⟩ | ⟨a, b, h1, h2, r⟩
    · rw [List.filterMap_cons_none h1, List.filterMap_cons_none h2]
      exact ih
    · rw [List.filterMap_cons_some h1, List.filterMap_cons_some h2]
      exact cons a b _ _ r ih
theorem vals_at : ∀ {vs : List V} {us : List Value}, Vals vs us → ∀ i : Nat, (vs[i]? = none ∧ us[i]? = none) ∨ ∃ a b, vs[i]? = some a ∧ us[i]? = some b ∧ RelV a b
  | _, _, .nil, i => .inl ⟨rfl, rfl⟩
  | _, _, .cons r rs, 0 => .inr ⟨_, _, rfl, rfl, r⟩
  | _, _, .cons r rs, i + 1 => vals_at rs i
theorem rpSA_at {F : Hp} {ad : List Addr} : ∀ {vs : List V} {ss : List S}, RpSA K F ad vs ss → ∀ i : Nat, (vs[i]? = none ∧ ss[i]? = none) ∨ ∃ a b, vs[i]? = some a ∧ ss[i]? = some b ∧ RpS K F ad a b
  | _, _, .nil, i => .inl ⟨rfl, rfl⟩
  | _, _, .cons r rs, 0 => .inr ⟨_, _, rfl, rfl, r⟩
  | _, _, .cons r rs, i + 1 => rpSA_at rs i
/-- a def that keeps its promise when it is called with these keywords alone -/
def DefOkK (P : Program) (w : World) (K : PySem.W.Frag) (mg : Str → Option Value) (base : Heap) (x : Str) (k n : Nat) (ks : List Str) (T : TF) (is : List Nat) : Prop :=
  MonF T ∧ ∃ f fd ps, mg x = some (.ref f) ∧ PySem.W.keepIn K (.ref f) = true ∧ KBinds K fd ps ks (fun us ws => if us.length = 0 then kwS ks.length is ws else []) (fun us ws => if us.length = 0 then kwS ks.length is ws else []) ∧ FnOk P w K mg base CX0 k f fd ps (spT n K T)
theorem DefOkT.kw (h : DefOkT P w K mg base x st ps k T) (hp : ps ≠ [])
    (hb : ∀ (kV doc pm : Value) (an : Option Addr) (cdv ct : Value) (ws : List Value), ws.length = ks.length → bindArgs (PySem.W.fnOf x x (defArgs st) (defBody st) (defScope st) .none kV doc pm an cdv ct) ⟨[], ks.zip ws⟩ = pure (ps.zip (pick is ws))) : DefOkK P w K mg base x k ps.length ks T is := by
  obtain ⟨mT, f, fd, F, b, g, ok⟩ := h
  refine ⟨mT, f, fd, ps, g, F.kp, ⟨fun s us ws _ hl => ?_, fun {vs us zs ws} r1 r2 => ?_⟩, ok⟩
  · have hp' : ps.length ≠ 0 := fun e => hp (List.length_eq_zero_iff.mp e)
    by_cases c : us.length = 0
    · rw [if_pos c] at hl ⊢
      unfold kwS at hl ⊢
      by_cases d : ws.length = ks.length
      · rw [if_pos d] at hl ⊢
        obtain ⟨oc, od, kV, doc, pm, an, cdv, ct, osl, rfl, lk, hcd⟩ := F.ex
        rw [List.length_eq_zero_iff.mp c]
        exact .of_eq (hb kV doc pm an cdv ct ws d)
      · rw [if_neg d] at hl
        exact absurd hl.symm hp'
    · rw [if_neg c] at hl
      exact absurd hl.symm hp'
  · have l1 := r1.length
    have l2 := r2.length
    by_cases c : us.length = 0
    · rw [if_pos c, if_pos (l1.trans c)]
      unfold kwS
      by_cases d : ws.length = ks.length
      · rw [if_pos d, if_pos (l2.trans d)]
        exact pick_rel (R := RelV) (F := Vals) .nil (fun a b l m r q => .cons r q) (vals_at r2) is
      · rw [if_neg d, if_neg (fun e => d (l2.symm.trans e))]
        exact .nil
    · rw [if_neg c, if_neg (fun e => c (l1.symm.trans e))]
      exact .nil
end
section
variable {X : Cx} {W : WX}
theorem pd_callKD {x : Str} {k n : Nat} {ks : List Str} {T : TF} {is : List Nat} {p pos : Pos} {kws : List Keyword} {f : SA} (C : DefOkK X.prog X.w X.K X.mg X.base x k n ks T is) (hr : Room k X.A) (hg : Gl X x) (h : PDK X kws f)
    (hall : (backToKw pos (keywordEach kws X.env)).all (·.1.isSome) = true := by rfl) (hks : (backToKw pos (keywordEach kws X.env)).filterMap (·.1) = ks := by rfl)
    (hdb : (x == ("__debug__" : Str)) = false := by decide)
    (hpl : ((backTo pos (starEach [] X.env)).any (·.1) || (backToKw pos (keywordEach kws X.env)).any (·.1.isNone)) = false := by rfl) :
    PD X (.Call (.Name x p) [] kws pos) (fCallK n T (kwS ks.length is) f) := by
  obtain ⟨mT, fa, fd, ps, g, kp, b, F⟩ := C
  refine pd_callK mT h.mo (fun F ad vs ss r => ?_) (pe_callK0 (E := E0) F hr hg g kp b pass0 h.run hall hks hdb hpl)
  have l := rpSA_len r
  rw [if_pos (show ([] : List V).length = 0 from rfl)]
  unfold kwS
  by_cases d : ss.length = ks.length
  · rw [if_pos d, if_pos (l.trans d)]
    exact pick_rel (R := RpS X.K F ad) (F := RpSA X.K F ad) .nil (fun a b l m r q => .cons r q) (rpSA_at r) is
  · rw [if_neg d, if_neg (fun e => d (l.symm.trans e))]
    exact .nil
end
end DV

/-! part DV8 -/
set_option Elab.async false
set_option linter.all false
set_option autoImplicit false
namespace DV
open PySem PySem.Spec L2
theorem look_rel {p : Str → NameKind → Bool} (hp : ∀ n k, p n k = true → k = .free) : ∀ {names : List (Str × NameKind)} {x : Str}, (names.lookup x = some .cell ∨ names.lookup x = some .free) →
    ((names.map fun (n, k) => if p n k = true then (n, NameKind.cell) else (n, k)).lookup x = some .cell ∨ (names.map fun (n, k) => if p n k = true then (n, NameKind.cell) else (n, k)).lookup x = some .free)
  | [], _, h => by simp at h
  | (n, k) :: r, x, h => by
    have ih := @look_rel p hp r x
    rw [List.map_cons]
    cases hx : x == n with
    | true =>
      have e : List.lookup x ((n, k) :: r) = some k := by rw [List.lookup_cons, hx]
      rw [e] at h
      by_cases c : p n k = true
      · refine .inl ?_
        simp only [c, if_true, List.lookup_cons, hx]
      · simp only [c, if_false, Bool.false_eq_true, List.lookup_cons, hx]
        exact h
    | false =>
      have e : List.lookup x ((n, k) :: r) = List.lookup x r := by rw [List.lookup_cons, hx]
      rw [e] at h
      have q := ih h
      by_cases c : p n k = true
      · simp only [c, if_true, List.lookup_cons, hx] at q ⊢
        exact q
      · simp only [c, if_false, Bool.false_eq_true, List.lookup_cons, hx] at q ⊢
        exact q
/-- a block in a block -/
theorem blkOk_in {X : Cx} {N : List Str} {s : Shared} {H : Hp} {sc0 scope : Scope} {C : Addr} {cl : List (Str × Addr)} {E : Env} {fp : List Addr} {own : List (Str × Nat)} (hN : X.N = N) (h : blkC N sc0 scope own = true) :
    BlkOk (X.blk s H sc0 (compEnvC sc0 cl C E) fp).N (X.blk s H sc0 (compEnvC sc0 cl C E) fp).env.scope scope own := by
  subst hN
  have b := blkOk_by h
  exact ⟨b.kind, b.uniq, b.ix, fun y hy e => look_rel (p := fun n k => (k == .free && E.scope.kind == .function && E.kindOf n == some .cell)) (fun n k h => by
    simp only [Bool.and_eq_true, beq_iff_eq] at h
    exact h.1.1) (b.free y hy e), b.own⟩
end DV

/-! part DZ -/
set_option Elab.async false
set_option linter.all false
set_option maxRecDepth 100000
set_option maxHeartbeats 1000000
set_option autoImplicit false
namespace DZ
open PySem PySem.Spec PyProof.Rows L2 RZ
/-- an iterator it over the thing at l, of n values: what one more step of it gives -/
structure Src (prog : Program) (w : World) (it l : Addr) (n : Nat) (p : Nat → Value → Prop) (St : Nat → Heap → Prop) : Prop where
  fr : ∀ i h h', St i h → (∀ o, h.get? it = some o → h'.get? it = some o) → (∀ o, h.get? l = some o → h'.get? l = some o) → St i h'
  one : ∀ (A : Around) i (s : Shared) (Q E : Value → Shared → Prop), i < n → St i s.heap → (∀ x h', p i x → St (i + 1) h' → Heap.SameBut it s.heap h' → Q x { s with heap := h' }) →
    wpAny (model prog w) A (Builtin.SmallTypes.nextOf (.ref it)) Q E s
  no : ∀ (A : Around), A.handled = none → ∀ i (s : Shared) (Q E : Value → Shared → Prop), n ≤ i → St i s.heap → (∀ h' e, Heap.ExtBut it s.heap h' → (∃ o, h'.get? e = some o ∧ o.cls = .type "StopIteration") → E (.ref e) { s with heap := h' }) →
    wpAny (model prog w) A (Builtin.SmallTypes.nextOf (.ref it)) Q E s
theorem Src.tup {prog : Program} {w : World} (it l : Addr) (hne : l ≠ it) (vs : Array Value) : Src prog w it l vs.size (fun i v => vs[i]? = some v) fun i h => h.IsTupleIter it l i ∧ h.IsTuple l vs :=
  ⟨fun i h h' st k1 k2 => ⟨st.1.at k1, st.2.at k2⟩, fun A i s Q E hi st q => nextOf_tuple_item st.1 st.2 (x := vs[i]) (by simp [hi]) fun h' t sb => q _ h' (by simp [hi]) ⟨t, st.2.extBut sb.extBut hne⟩ sb,
    fun A hh i s Q E hi st q => nextOf_tuple_end hh st.1 st.2 (by simp [hi]) q⟩
theorem Src.lst {prog : Program} {w : World} (it l : Addr) (hne : l ≠ it) (vs : Array Value) : Src prog w it l vs.size (fun i v => vs[i]? = some v) fun i h => h.IsListIter it l i ∧ h.IsList l vs :=
  ⟨fun i h h' st k1 k2 => ⟨st.1.at k1, st.2.at k2⟩, fun A i s Q E hi st q => wpAny_nextOf_list_item st.1 st.2 (x := vs[i]) (by simp [hi]) fun h' t sb => q _ h' (by simp [hi]) ⟨t, st.2.extBut sb.extBut hne⟩ sb,
    fun A hh i s Q E hi st q => wpAny_nextOf_list_end hh st.1 st.2 (by simp [hi]) q⟩
section
variable {prog : Program} {w : World} {A : Around} {E : Value → Shared → Prop} {s : Shared} {z TI TO i1 i2 l1 l2 : Addr} {n1 n2 i : Nat} {p1 p2 : Nat → Value → Prop} {St1 St2 : Nat → Heap → Prop} {a b : Value}
/-- an iterator's state stands when another thing is written -/
theorem Src.by {it l c : Addr} {n : Nat} {p : Nat → Value → Prop} {St : Nat → Heap → Prop} (S : Src prog w it l n p St) {j : Nat} {h h' : Heap} (st : St j h) (sb : Heap.SameBut c h h') (d1 : it ≠ c) (d2 : l ≠ c) : St j h' :=
  S.fr j h h' st (fun o q => sb.extBut _ _ d1 q) fun o q => sb.extBut _ _ d2 q
theorem zip_more {Q : Value → Shared → Prop} (D : ZipApart z TI TO i1 i2 l1 l2) (S1 : Src prog w i1 l1 n1 p1 St1) (S2 : Src prog w i2 l2 n2 p2 St2)
    (hz : IsZip s.heap z TI TO .none) (hI : IsPair s.heap TI (.ref i1) (.ref i2)) (hO : IsPair s.heap TO a b) (t1 : St1 i s.heap) (t2 : St2 i s.heap) (k1 : i < n1) (k2 : i < n2)
    (hQ : ∀ x y h', p1 i x → p2 i y → IsZip h' z TI TO (rawInt s.heap.objs.size) → IsPair h' TO x y → St1 (i + 1) h' → St2 (i + 1) h' → IsPair h' s.heap.objs.size x y → h'.objs.size = s.heap.objs.size + 1 →
      (∀ c o, c ≠ z → c ≠ TO → c ≠ i1 → c ≠ i2 → s.heap.get? c = some o → h'.get? c = some o) → Q (.ref s.heap.objs.size) { s with heap := h' }) :
    wpAny (model prog w) A (Builtin.«zip.__next__» ⟨[.ref z], []⟩) (fun fin s' => ∃ v, fin = .done (.ret v) ∧ Q v s') E s := by
  show wpAny _ _ (field (.ref z) 2 >>= _) _ _ _; refine wpAny_bind (wpAny_field hz rfl (x := .bool false) rfl ?_)
  show wpAny _ _ (field (.ref z) 3 >>= _) _ _ _; refine wpAny_bind (wpAny_field hz rfl (x := .ref TI) rfl ?_)
  refine wpAny_bind (wpAny_seqItems hI rfl ?_); show wpAny _ _ (Builtin.SmallTypes.ownedTupleIsFree (.ref z) >>= _) _ _ _
  refine wpAny_bind ?_; unfold Builtin.SmallTypes.ownedTupleIsFree
  refine wpAny_bind (wpAny_field hz rfl (x := .none) rfl (wpAny_pure ?_)); rw [if_pos (by rfl)]
  refine wpAny_bind (wpAny_rule ?_); refine wpAny_bind (wpAny_field hz rfl (x := .ref TO) rfl ?_)
  refine wpAny_bind (wpAny_setField_rec hz (by simp) fun hA zA sA => ?_); replace zA : IsZip hA z TI TO .ellipsis := zA
  refine wpAny_bind ?_; simp only [List.zipIdx_cons, List.zipIdx_nil, List.forIn_cons, List.forIn_nil]
  refine wpAny_bind (wpAny_bind (wpAny_onRaise ?_)); show wpAny _ _ (Builtin.SmallTypes.nextOf (.ref i1) >>= _) _ _ _
  refine wpAny_bind (S1.one _ i _ _ _ k1 (S1.by t1 sA D.i1z D.l1z) fun x hB px uB sB => wpAny_pure ?_)
  have oB : IsPair hB TO a b := sB.extBut _ _ D.TOi1 (sA.extBut _ _ D.TOz hO)
  refine wpAny_bind (wpAny_seqItems oB rfl ?_); refine wpAny_bind (wpAny_updateSeq_pair oB fun hC oC sC => ?_)
  replace oC : IsPair hC TO x b := oC; refine wpAny_bind (wpAny_letGo (wpAny_pure ?_))
  refine wpAny_bind (wpAny_bind (wpAny_onRaise ?_)); show wpAny _ _ (Builtin.SmallTypes.nextOf (.ref i2) >>= _) _ _ _
  refine wpAny_bind (S2.one _ i _ _ _ k2 (S2.by (S2.by (S2.by t2 sA D.i2z D.l2z) sB D.i12.symm D.l2i1) sC D.TOi2.symm D.l2TO) fun y hD py uD sD => wpAny_pure ?_)
  have oD : IsPair hD TO x b := sD.extBut _ _ D.TOi2 oC
  refine wpAny_bind (wpAny_seqItems oD rfl ?_); refine wpAny_bind (wpAny_updateSeq_pair oD fun hE oE sE => ?_)
  replace oE : IsPair hE TO x y := oE; refine wpAny_bind (wpAny_letGo (wpAny_pure (wpAny_pure ?_)))
  refine wpAny_bind (wpAny_seqItems oE rfl ?_); refine wpAny_bind (wpAny_newTuple ?_)
  have size : hE.objs.size = s.heap.objs.size := by rw [sE.1, sD.1, sC.1, sB.1, sA.1]
  have zE : IsZip hE z TI TO .ellipsis := sE.extBut _ _ D.TOz.symm (sD.extBut _ _ D.i2z.symm (sC.extBut _ _ D.TOz.symm (sB.extBut _ _ D.i1z.symm zA)))
  have keep : ∀ c o, c ≠ z → c ≠ TO → c ≠ i1 → c ≠ i2 → s.heap.get? c = some o → hE.get? c = some o := fun c o c1 c2 c3 c4 q => sE.extBut _ _ c2 (sD.extBut _ _ c4 (sC.extBut _ _ c2 (sB.extBut _ _ c3 (sA.extBut _ _ c1 q))))
  have u1 : St1 (i + 1) hE := S1.by (S1.by (S1.by uB sC D.TOi1.symm D.l1TO) sD D.i12 D.l1i2) sE D.TOi1.symm D.l1TO
  have u2 : St2 (i + 1) hE := S2.by uD sE D.TOi2.symm D.l2TO
  have below : z < hE.objs.size := Heap.lt_size zE
  show wpAny _ _ (Builtin.SmallTypes.ownedTupleHandOut (.ref z) (.ref hE.objs.size) >>= _) _ _ _; refine wpAny_bind ?_
  unfold Builtin.SmallTypes.ownedTupleHandOut; have zF : IsZip (hE.push { cls := .type "tuple", data := .seq #[x, y] }) z TI TO .ellipsis := Heap.get?_push_of_some _ zE
  refine wpAny_bind (wpAny_setField_rec zF (by simp) fun hG zG sG => ?_); replace zG : IsZip hG z TI TO (rawInt hE.objs.size) := zG
  refine wpAny_setField_rec zG (by simp) fun hH zH sH => ?_; replace zH : IsZip hH z TI TO (rawInt hE.objs.size) := zH
  have rise : ∀ c o, c ≠ z → hE.get? c = some o → hH.get? c = some o := fun c o c1 q => sH.extBut _ _ c1 (sG.extBut _ _ c1 (Heap.get?_push_of_some _ q))
  have tH : IsPair hH hE.objs.size x y := sH.extBut _ _ (Nat.ne_of_gt below) (sG.extBut _ _ (Nat.ne_of_gt below) (Heap.get?_push_size _ rfl))
  have size2 : hH.objs.size = hE.objs.size + 1 := by rw [sH.1, sG.1, Heap.size_push]
  rw [size] at zH tH size2; refine wpAny_pure ⟨_, rfl, ?_⟩; show Q (.ref hE.objs.size) _; rw [size]
  exact hQ x y hH px py zH (rise _ _ D.TOz oE) (S1.fr _ _ _ u1 (fun o q => rise _ o D.i1z q) fun o q => rise _ o D.l1z q) (S2.fr _ _ _ u2 (fun o q => rise _ o D.i2z q) fun o q => rise _ o D.l2z q) tH size2 fun c o c1 c2 c3 c4 q => rise c o c1 (keep c o c1 c2 c3 c4 q)
theorem zip_over {Q : Fin → Shared → Prop} (hh : A.handled = none) (D : ZipApart z TI TO i1 i2 l1 l2) (S1 : Src prog w i1 l1 n1 p1 St1) (S2 : Src prog w i2 l2 n2 p2 St2)
    (hz : IsZip s.heap z TI TO .none) (hI : IsPair s.heap TI (.ref i1) (.ref i2)) (hO : IsPair s.heap TO a b) (t1 : St1 i s.heap) (t2 : St2 i s.heap) (k : n1 ≤ i ∨ n2 ≤ i)
    (hE : ∀ h' e, (∀ c o, c ≠ z → c ≠ TO → c ≠ i1 → c ≠ i2 → s.heap.get? c = some o → h'.get? c = some o) → (∃ o, h'.get? e = some o ∧ o.cls = .type "StopIteration") → E (.ref e) { s with heap := h' }) :
    wpAny (model prog w) A (Builtin.«zip.__next__» ⟨[.ref z], []⟩) Q E s := by
  show wpAny _ _ (field (.ref z) 2 >>= _) _ _ _; refine wpAny_bind (wpAny_field hz rfl (x := .bool false) rfl ?_)
  show wpAny _ _ (field (.ref z) 3 >>= _) _ _ _; refine wpAny_bind (wpAny_field hz rfl (x := .ref TI) rfl ?_)
  refine wpAny_bind (wpAny_seqItems hI rfl ?_); show wpAny _ _ (Builtin.SmallTypes.ownedTupleIsFree (.ref z) >>= _) _ _ _
  refine wpAny_bind ?_; unfold Builtin.SmallTypes.ownedTupleIsFree
  refine wpAny_bind (wpAny_field hz rfl (x := .none) rfl (wpAny_pure ?_)); rw [if_pos (by rfl)]
  refine wpAny_bind (wpAny_rule ?_); refine wpAny_bind (wpAny_field hz rfl (x := .ref TO) rfl ?_)
  refine wpAny_bind (wpAny_setField_rec hz (by simp) fun hA zA sA => ?_); replace zA : IsZip hA z TI TO .ellipsis := zA
  refine wpAny_bind ?_; simp only [List.zipIdx_cons, List.zipIdx_nil, List.forIn_cons, List.forIn_nil]
  refine wpAny_bind (wpAny_bind (wpAny_onRaise ?_)); show wpAny _ _ (Builtin.SmallTypes.nextOf (.ref i1) >>= _) _ _ _
  by_cases k1 : n1 ≤ i
  · refine wpAny_bind (S1.no _ hh i _ _ _ k1 (S1.by t1 sA D.i1z D.l1z) fun hB e sB st => ?_)
    obtain ⟨oe, ge, ce⟩ := st
    have zB : IsZip hB z TI TO .ellipsis := sB _ _ D.i1z.symm zA
    have ne : e ≠ z := fun q => by subst q; rw [zB] at ge; cases ge; simp at ce
    exact wpAny_setField_rec zB (by simp) fun hC _ sC => hE hC e (fun c o c1 _ c3 _ q => sC.extBut _ _ c1 (sB _ _ c3 (sA.extBut _ _ c1 q))) ⟨oe, sC.extBut _ _ ne ge, ce⟩
  · have k2 : n2 ≤ i := by rcases k with k | k <;> omega
    refine wpAny_bind (S1.one _ i _ _ _ (by omega) (S1.by t1 sA D.i1z D.l1z) fun x hB px uB sB => wpAny_pure ?_)
    have oB : IsPair hB TO a b := sB.extBut _ _ D.TOi1 (sA.extBut _ _ D.TOz hO)
    refine wpAny_bind (wpAny_seqItems oB rfl ?_); refine wpAny_bind (wpAny_updateSeq_pair oB fun hC oC sC => ?_)
    refine wpAny_bind (wpAny_letGo (wpAny_pure ?_)); refine wpAny_bind (wpAny_bind (wpAny_onRaise ?_))
    show wpAny _ _ (Builtin.SmallTypes.nextOf (.ref i2) >>= _) _ _ _
    refine wpAny_bind (S2.no _ hh i _ _ _ k2 (S2.by (S2.by (S2.by t2 sA D.i2z D.l2z) sB D.i12.symm D.l2i1) sC D.TOi2.symm D.l2TO) fun hD e sD st => ?_)
    obtain ⟨oe, ge, ce⟩ := st
    have zD : IsZip hD z TI TO .ellipsis := sD _ _ D.i2z.symm (sC.extBut _ _ D.TOz.symm (sB.extBut _ _ D.i1z.symm zA))
    have ne : e ≠ z := fun q => by subst q; rw [zD] at ge; cases ge; simp at ce
    exact wpAny_setField_rec zD (by simp) fun hF _ sF => hE hF e (fun c o c1 c2 c3 c4 q => sF.extBut _ _ c1 (sD _ _ c4 (sC.extBut _ _ c2 (sB.extBut _ _ c3 (sA.extBut _ _ c1 q))))) ⟨oe, sF.extBut _ _ ne ge, ce⟩
theorem next_more {Q : Option Value → Shared → Prop} (D : ZipApart z TI TO i1 i2 l1 l2) (S1 : Src prog w i1 l1 n1 p1 St1) (S2 : Src prog w i2 l2 n2 p2 St2)
    (hz : IsZip s.heap z TI TO .none) (hI : IsPair s.heap TI (.ref i1) (.ref i2)) (hO : IsPair s.heap TO a b) (t1 : St1 i s.heap) (t2 : St2 i s.heap) (k1 : i < n1) (k2 : i < n2)
    (hQ : ∀ x y h', p1 i x → p2 i y → IsZip h' z TI TO (rawInt s.heap.objs.size) → IsPair h' TO x y → St1 (i + 1) h' → St2 (i + 1) h' → IsPair h' s.heap.objs.size x y → h'.objs.size = s.heap.objs.size + 1 →
      (∀ c o, c ≠ z → c ≠ TO → c ≠ i1 → c ≠ i2 → s.heap.get? c = some o → h'.get? c = some o) → Q (some (.ref s.heap.objs.size)) { s with heap := h' }) : wpAny (model prog w) A (pyNext (.ref z)) Q E s := by
  have ty : s.TypeIs (.ref z) "zip" := ⟨_, hz, rfl⟩
  unfold pyNext
  refine wpAny_bind (wpAny_attempt (wpAny_callSpecial?_slot (name := Str.ofString "__next__") ty F.slot_zip_next (wpAny_call_entry F.slot_zip_next ty F.entry_zip_next ?_ (F.args_zip_next_1 _))))
  exact zip_more D S1 S2 hz hI hO t1 t2 k1 k2 fun x y h' a1 a2 a3 a4 a5 a6 a7 a8 a9 => wpAny_pure (hQ x y h' a1 a2 a3 a4 a5 a6 a7 a8 a9)
theorem next_over {Q : Option Value → Shared → Prop} (hh : A.handled = none) (D : ZipApart z TI TO i1 i2 l1 l2) (S1 : Src prog w i1 l1 n1 p1 St1) (S2 : Src prog w i2 l2 n2 p2 St2)
    (hz : IsZip s.heap z TI TO .none) (hI : IsPair s.heap TI (.ref i1) (.ref i2)) (hO : IsPair s.heap TO a b) (t1 : St1 i s.heap) (t2 : St2 i s.heap) (k : n1 ≤ i ∨ n2 ≤ i)
    (hQ : ∀ h', (∀ c o, c ≠ z → c ≠ TO → c ≠ i1 → c ≠ i2 → s.heap.get? c = some o → h'.get? c = some o) → Q none { s with heap := h' }) : wpAny (model prog w) A (pyNext (.ref z)) Q E s := by
  have ty : s.TypeIs (.ref z) "zip" := ⟨_, hz, rfl⟩
  unfold pyNext
  refine wpAny_bind (wpAny_attempt (wpAny_callSpecial?_slot (name := Str.ofString "__next__") ty F.slot_zip_next (wpAny_call_entry F.slot_zip_next ty F.entry_zip_next ?_ (F.args_zip_next_1 _))))
  refine zip_over hh D S1 S2 hz hI hO t1 t2 k fun h' e keep st => ?_
  obtain ⟨o, ge, ce⟩ := st
  exact wpAny_bind (wpAny_isInstance (T := "StopIteration") (b := true) ⟨o, ge, ce⟩ isSubtype_stop (wpAny_pure (hQ _ keep)))
end
/-- a tuple at a and a list at b, as they stand at each turn -/
def ItTL (K : PySem.W.Frag) (a b : Addr) : It :=
  ⟨fun i H => ∃ xs ys : List V, SqT K H a xs ∧ SqL K H b ys ∧ i < xs.length ∧ i < ys.length,
    fun i H v H' => ∃ T x y, v = .ref T ∧ H T = none ∧ H' = upd H T (.tup [x, y]) ∧ (∀ xs, SqT K H a xs → xs[i]? = some x) ∧ ∀ ys, SqL K H b ys → ys[i]? = some y,
    fun i H => ∃ xs ys : List V, SqT K H a xs ∧ SqL K H b ys ∧ (xs.length ≤ i ∨ ys.length ≤ i)⟩
theorem turn_TL {P : Program} {w : World} {K : PySem.W.Frag} {elts : List Expr} {kk : Nat} {tpos : Pos} {a b z TI TO i1 i2 : Addr} (D : ZipApart z TI TO i1 i2 a b) :
    Turn P w K (.Tuple elts kk tpos) (ItTL K a b) [z, TI, TO, i1, i2] z (fun i h => IsZip h z TI TO .none ∧ IsPair h TI (.ref i1) (.ref i2) ∧ (∃ x y, IsPair h TO x y) ∧ h.IsTupleIter i1 a i ∧ h.IsListIter i2 b i) where
  mem := .head _
  obj := fun i h st c hc => by
    obtain ⟨g0, g1, ⟨_, _, g2⟩, ⟨o3, g3, _, d3⟩, ⟨o4, g4, _, d4⟩⟩ := st
    simp only [List.mem_cons, List.not_mem_nil, or_false] at hc
    rcases hc with rfl | rfl | rfl | rfl | rfl
    · exact ⟨_, g0, fun _ q => nomatch q⟩
    · exact ⟨_, g1, fun _ q => nomatch q⟩
    · exact ⟨_, g2, fun _ q => nomatch q⟩
    · exact ⟨o3, g3, fun _ q => nomatch d3.symm.trans q⟩
    · exact ⟨o4, g4, fun _ q => nomatch d4.symm.trans q⟩
  keep := fun i h h' ⟨g0, g1, ⟨x, y, g2⟩, g3, g4⟩ k => ⟨k z (by simp) _ g0, k TI (by simp) _ g1, ⟨x, y, k TO (by simp) _ g2⟩, g3.at fun o q => k i1 (by simp) o q, g4.at fun o q => k i2 (by simp) o q⟩
  item := by
    intro X hP hw hK hc i pins s σ H E I hf ⟨g0, g1, ⟨x0, y0, g2⟩, g3, g4⟩ ⟨xs, ys, qx, qy, lx, ly⟩
    subst hP hw hK
    obtain ⟨vs, rv, p, _⟩ := I.tuple qx
    obtain ⟨us, ru, p', _⟩ := I.list qy
    have low : z < s.heap.objs.size := Heap.lt_size g0
    have l1 := rv.length
    have l2 := ru.length
    refine next_more D (Src.tup i1 a D.l1i1 vs.toArray) (Src.lst i2 b D.l2i2 us.toArray) g0 g1 g2 ⟨g3, p⟩ ⟨g4, p'.isList⟩ (by simp; omega) (by simp; omega) fun x y h' ex ey z' o' ⟨t1, _⟩ ⟨t2, _⟩ hT _ hk => ?_
    refine ⟨_, rfl, wpAny_letOwnedTupleGo_zip (s := { s with heap := h' }) z' fun h2 z2 sb => ?_⟩
    have hT2 : h2.get? s.heap.objs.size = some { cls := .type "tuple", data := .seq #[x, y] } := (sb.2 _ (Nat.ne_of_gt low)).trans hT
    obtain ⟨v, hv, r1⟩ : ∃ v, xs[i]? = some v ∧ RelV v x := by
      obtain ⟨u, hu, r⟩ := rv.get (List.getElem?_eq_getElem lx)
      have ex : vs[i]? = some x := by simpa using ex
      rw [hu] at ex
      cases ex
      exact ⟨_, List.getElem?_eq_getElem lx, r⟩
    obtain ⟨v', hv', r2⟩ : ∃ v, ys[i]? = some v ∧ RelV v y := by
      obtain ⟨u, hu, r⟩ := ru.get (List.getElem?_eq_getElem ly)
      have ey : us[i]? = some y := by simpa using ey
      rw [hu] at ey
      cases ey
      exact ⟨_, List.getElem?_eq_getElem ly, r⟩
    have new : ObjOk X.prog X.w (upd H s.heap.objs.size (.tup [v, v'])) h2 s.heap.objs.size (.tup [v, v']) := ⟨by show 2 ≤ sizeLine; decide, [x, y], .cons r1 (.cons r2 .nil), ⟨_, hT2, rfl, _, rfl⟩⟩
    have out : ∀ c, c ∉ [z, TI, TO, i1, i2] → c ≠ z ∧ c ≠ TO ∧ c ≠ i1 ∧ c ≠ i2 := fun c hc => ⟨fun q => hc (by simp [q]), fun q => hc (by simp [q]), fun q => hc (by simp [q]), fun q => hc (by simp [q])⟩
    have I1 : Inv X pins σ (upd H s.heap.objs.size (.tup [v, v'])) { s with heap := h2 } :=
      I.turnedNew (t' := s.toks) (ch := [z, TI, TO, i1, i2]) (fun c o hb q => (sb.2 c (out c hb).1).trans (hk c o (out c hb).1 (out c hb).2.1 (out c hb).2.2.1 (out c hb).2.2.2 q)) hf (Nat.le_refl _) new
    refine ⟨.ref s.heap.objs.size, _, I1, rfl, ⟨_, v, v', rfl, I.hok.fresh (Nat.le_refl _), rfl, fun l hl => by rw [I.tuple_inj hl qx]; exact hv, fun l hl => by rw [I.list_inj hl qy]; exact hv'⟩,
      ⟨z2, (sb.2 _ D.TIz).trans (hk _ _ D.TIz D.TITO D.TIi1 D.TIi2 g1), ⟨x, y, (sb.2 _ D.TOz).trans o'⟩, t1.at fun o q => (sb.2 _ D.i1z).trans q, t2.at fun o q => (sb.2 _ D.i2z).trans q⟩, fun c hcm => ?_⟩
    have lt : c < s.heap.objs.size := by
      simp only [List.mem_cons, List.not_mem_nil, or_false] at hcm
      rcases hcm with rfl | rfl | rfl | rfl | rfl
      · exact low
      · exact Heap.lt_size g1
      · exact Heap.lt_size g2
      · exact Heap.lt_size g3.choose_spec.1
      · exact Heap.lt_size g4.choose_spec.1
    rw [upd_ne (Nat.ne_of_lt lt)]
    exact (hf c hcm).1
  done := by
    intro X hP hw hK hc i pins s σ H E I hf ⟨g0, g1, ⟨x0, y0, g2⟩, g3, g4⟩ ⟨xs, ys, qx, qy, hend⟩
    subst hP hw hK
    obtain ⟨vs, rv, p, _⟩ := I.tuple qx
    obtain ⟨us, ru, p', _⟩ := I.list qy
    have l1 := rv.length
    have l2 := ru.length
    refine next_over (I.ok.hd hc) D (Src.tup i1 a D.l1i1 vs.toArray) (Src.lst i2 b D.l2i2 us.toArray) g0 g1 g2 ⟨g3, p⟩ ⟨g4, p'.isList⟩ (by simp; omega) fun h' hk => ⟨rfl, ?_⟩
    exact I.turnedL (t' := s.toks) (ch := [z, TI, TO, i1, i2]) (fun c o hb q => hk c o (fun q' => hb (by simp [q'])) (fun q' => hb (by simp [q'])) (fun q' => hb (by simp [q'])) (fun q' => hb (by simp [q'])) q) hf
  self := fun A i s Q E st h => wpAny_pyIter_zip st.1 h
end DZ

/-! part DZ2 -/
set_option Elab.async false
set_option linter.all false
set_option maxRecDepth 100000
set_option maxHeartbeats 1000000
set_option autoImplicit false
namespace DZ
open PySem PySem.Spec PyProof.Rows L2 RZ
def iTL (K : PySem.W.Frag) (ta : TA) : TI := fun σ H R => ta σ H fun vs H1 => ∃ a b xs ys, vs = [.ref a, .ref b] ∧ SqT K H1 a xs ∧ SqL K H1 b ys ∧ R (ItTL K a b) H1
theorem pi_TL {X : Cx} {e e2 : Expr} {ta : TA} {p pos tpos : Pos} {elts : List Expr} {kk : Nat} (hg : Gl X "zip") (hm : X.mg "zip" = none) (ha : PA X [e, e2] ta)
    (hs : starEach [e, e2] X.env = (false, eval e X.env) :: starEach [e2] X.env := by rfl) (hpl : (backTo pos (starEach [e2] X.env)).any (·.1) = false := by rfl) :
    PI X (.Tuple elts kk tpos) (.Call (.Name "zip" p) [e, e2] [] pos) (iTL X.K ta) := by
  refine ⟨fun pins s σ H R I h => Call_ (ld_blt I hg hm boot_zip (callWith_type1 (thn (ha.run pos pins s σ H _ I h) fun us s1 ⟨vs, H1, I1, r1, a, b, xs, ys, ex, qx, qy, q⟩ => ?_) hs hpl))⟩
  subst ex
  obtain ⟨u1, u2, rfl, r2, r3⟩ : ∃ u1 u2, us = [u1, u2] ∧ RelV (.ref a) u1 ∧ RelV (.ref b) u2 := by
    cases r1 with
    | cons r2 rr => cases rr with
      | cons r3 rr => cases rr; exact ⟨_, _, rfl, r2, r3⟩
  cases r2
  cases r3
  obtain ⟨vs, rv, p1, _⟩ := I1.tuple qx
  obtain ⟨ws, rw', p2, _⟩ := I1.list qy
  obtain ⟨o1, g1, _⟩ := id p1
  refine zip_begins2 (begins_tuple a vs.toArray) (begins_list b ws.toArray) (show s1.heap.IsTuple a vs.toArray from p1) p2.isList fun h' hz hI hO j1 j2 _ hk => wpAny_pyIter_zip hz ?_
  have fp : ∀ c, s1.heap.objs.size ≤ c → FpOk X pins H1 c := fun c le => I1.fpOk le (I1.hok.fresh le)
  refine ⟨s1.heap.objs.size + 4, [s1.heap.objs.size + 4, s1.heap.objs.size + 2, s1.heap.objs.size + 3, s1.heap.objs.size, s1.heap.objs.size + 1], _, _, H1, rfl, I1.kept (t' := s1.toks) hk,
    turn_TL (PySem.W.ktu_apart s1.heap.objs.size a b (Heap.lt_size g1) p2.lt), ⟨hz, hI, ⟨_, _, hO⟩, ⟨_, j1, rfl, rfl⟩, ⟨_, j2, rfl, rfl⟩⟩, fun c hc => fp c ?_, q⟩
  simp only [List.mem_cons, List.not_mem_nil, or_false] at hc
  rcases hc with rfl | rfl | rfl | rfl | rfl <;> omega
end DZ
namespace DV
open PySem PySem.Spec L2
section
variable {X : Cx} {W : WX}
/-- zip of a frozen tuple and a frozen list -/
def fIZipTL (f : SA) : SI := fun ρ μ P => f ρ μ fun xs μ1 => ∃ ds es, xs = [.d (.tup ds), .d (.lst es)] ∧ P (zipD ds es) (fun _ => True) μ1
theorem pdi_zipTL {e e2 : Expr} {elts : List Expr} {kk : Nat} {f : SA} {p pos tpos : Pos} (hg : Gl X "zip") (hm : X.mg "zip" = none) (h : PDA X [e, e2] f)
    (hs : starEach [e, e2] X.env = (false, eval e X.env) :: starEach [e2] X.env := by rfl) (hpl : (backTo pos (starEach [e2] X.env)).any (·.1) = false := by rfl) :
    PDI X (.Tuple elts kk tpos) (.Call (.Name "zip" p) [e, e2] [] pos) (fIZipTL f) := by
  refine ⟨fun ρ μ P P' k q => h.mo ρ μ _ _ (fun x μ1 ⟨n, n2, e, q⟩ => ⟨n, n2, e, k _ _ _ q⟩) q, (DZ.pi_TL hg hm h.run hs hpl).of fun σ H R q => ?_⟩
  obtain ⟨ad, ρ, μ, s, q⟩ := q
  refine ⟨ad, ρ, μ, s, h.mo ρ μ _ _ (fun xs μ1 ⟨ds, es, e, q⟩ vs H1 t1 m1 r1 => ?_) q⟩
  subst e
  obtain ⟨v, u, rfl, r2, r3⟩ := rsa2 r1
  cases r2 with
  | @tup a ws _ h1 h2 =>
    cases r3 with
    | @lst b us _ k1 k2 =>
      refine ⟨a, b, ws, us, rfl, sqT_same hide_same h1, sqL_same hide_same k1, q _ H1 t1 m1 fun H2 ad2 μ2 st m _ => ?_⟩
      have h3 : SqT X.K H2 a ws := sqT_same hide_same (sqT_same st.same h1)
      have k3 : SqL X.K H2 b us := sqL_same hide_same (sqL_same st.same k1)
      have hl := h2.length
      have kl := k2.length
      have hz := zipD_length ds es
      refine ⟨fun i hi => ⟨ws, us, h3, k3, by omega, by omega⟩, ⟨ws, us, h3, k3, by omega⟩, fun i d x H3 e y => ?_⟩
      obtain ⟨T, x', y', rfl, hT, rfl, f, g⟩ := y
      obtain ⟨d1, d2, g1, g2, rfl⟩ := zipD_get e
      obtain ⟨v, q4, q5⟩ := h2.get g1
      obtain ⟨v', q4', q5'⟩ := k2.get g2
      have z1 := f ws h3
      have z2 := g us k3
      rw [q4] at z1
      rw [q4'] at z2
      cases z1
      cases z2
      have st2 : Step ad2 H2 ad2 (upd H2 T (.tup [x', y'])) := Step.new hT
      exact ⟨st2, m.new hT, .tup (.inl (.inl (by rw [hide_out (m.fresh hT)]; exact upd_same))) (.cons (q5.mono (st.trans st2).same) (.cons (q5'.mono (st.trans st2).same) .nil))⟩
end
end DV

/-! part DG -/
set_option Elab.async false
set_option linter.all false
set_option maxRecDepth 100000
set_option maxHeartbeats 1000000
set_option autoImplicit false
namespace DG
open PySem PySem.Spec PyProof.Rows L2 DV
/-- FnOk where nothing is being shown -/
structure GOk (P : Program) (w : World) (K : PySem.W.Frag) (mg : Str → Option Value) (base : Heap) (k : Nat) (f : Addr) (fd : FuncData) (ps : List Str) (sp : Sp) : Prop where
  len : ∀ vs H Q E, sp vs H Q E → vs.length = ps.length
  go : ∀ (A : Around) (outer : List Env) (s : Shared) (H : Hp) (args : Args) (us : List Value) (vs : List V) (Q : VK) (E : XK), A.guards = some [] → Room k A → Env0 P w K mg base A outer s H → BindsTo s fd args (ps.zip us) → Vals vs us →
    sp vs H Q E → codeAny (model P w) A (.call (.ref f) args) (CR CX0 outer P w H s Q E) s
section
variable {P : Program} {w : World} {K : PySem.W.Frag} {mg : Str → Option Value} {base : Heap}
theorem go_of {x qual : Str} {st : Stmt} {f : Addr} {fd : FuncData} {N ps : List Str} {k : Nat} {sp : Sp} (F : Fun K x qual st f fd) (S : FnScope N ps (defScope st)) (len : ∀ vs H Q E, sp vs H Q E → vs.length = ps.length)
    (body : ∀ (cdv : Value) (A : Around) (outer : List Env) (s : Shared) (H : Hp) (vs : List V) (Q : VK) (E : XK), A.guards = some [] → Room k (A.deeper (envOfC qual (defScope st) s.heap.objs.size f cdv)) → sp vs H Q E →
      ∃ t, PSs (cxOf CX0 P w K mg base N qual (defScope st) f cdv A outer s H E).nox (defBody st) t ∧ t { nx := fun _ H' => Q .non H', rt := Q } (start N vs) H) : GOk P w K mg base (k + 1) f fd ps sp := by
  obtain ⟨oc, od, kV, doc, pm, an, cdv, ct, osl, rfl, lk, hcd⟩ := F.ex
  refine ⟨len, fun A outer s H args us vs Q E hgd room e0 bind vals keeps => ?_⟩
  have size := len _ _ _ _ keeps
  have inK : K.In s.heap := e0.mod.kin.keeps fun b o q => (e0.bs b o q).1
  have free : s.heap.NoLimit := e0.mod.nolimit.keeps fun b o q => (e0.bs b o q).1
  have kinds : ∀ y ∈ ps.zip us, (defScope st).names.lookup y.1 = some .local ∨ ((defScope st).names.lookup y.1 = some .cell ∧ ((cellsFrom (s.heap.objs.size + 1) (defScope st).names []).lookup y.1).isSome = true) := fun y hy =>
    (S.par y.1 (List.of_mem_zip (a := y.1) (b := y.2) hy).1).imp id fun q => ⟨q, PySem.W.cellsFrom_some _ _ _ (.inl q)⟩
  refine codeAny_call_function room.depth (inK _ _ lk) rfl S.co S.gen rfl (PySem.W.codeRec_of inK hcd) (bind _ _ _ _ (wpAny_newFunctionEnv_cells S.kind kinds fun env he s1 more => ?_))
  subst he
  refine ⟨free.keeps more.toInCall.keep, codeAny_func ?_⟩
  obtain ⟨t, run, holds⟩ := body cdv A outer s H vs Q E hgd (room.deeper _) keeps
  refine wpAny_mono (run.nox.run [] s1 (start N vs) H _ (inv_start S room.hd e0 size vals more) holds) (fun fl s' at_ => ?_) fun e s' q => q
  cases fl with
  | brk => exact (at_.elim fun _ q => q.elim fun _ q => q.2.elim)
  | cont => exact (at_.elim fun _ q => q.elim fun _ q => q.2.elim)
  | next => obtain ⟨_, H', J, q⟩ := at_; exact ⟨V.non, H', J.os, J.bare, J.base, J.hok, rfl, q⟩
  | ret u => obtain ⟨v, _, H', J, rv, q⟩ := at_; exact ⟨v, H', J.os, J.bare, J.base, J.hok, rv, q⟩
end
section
variable {X : Cx}
theorem pe_go {k : Nat} {f : Addr} {fd : FuncData} {ps : List Str} {sp : Sp} {x : Str} {p pos : Pos} {e : Expr} {es : List Expr} {t : TA} (F : GOk X.prog X.w X.K X.mg X.base k f fd ps sp) (hgd : X.A.guards = some []) (hr : Room k X.A) (hg : Gl X x)
    (hm : X.mg x = some (.ref f)) (hk : PySem.W.keepIn X.K (.ref f) = true) (hb : Binds X.K fd ps []) (ha : PA X (e :: es) t) (hdb : (x == ("__debug__" : Str)) = false) (he : starEach (e :: es) X.env = (false, eval e X.env) :: starEach es X.env)
    (hpl : (backTo pos (starEach es X.env)).any (·.1) = false) : PE X (.Call (.Name x p) (e :: es) [] pos) (tCall sp [] E0 t) := by
  refine ⟨fun pins s σ H Q I h => wpAny_Call_Name_kw (ld_glob I hg hm (PySem.W.callWith_K (h₀ := X.base) I.ok.mod.kin hk (thn (ha.run pos pins s σ H _ I h) fun us s1 ⟨vs, H1, I1, r, q⟩ => ⟨I1.kIn, ?_⟩) he hpl) hdb)⟩
  have q' : sp vs H1 Q E0 := by have z : sp (vs ++ []) H1 Q E0 := q; rwa [List.append_nil] at z
  have hl : us.length = ps.length := by rw [← r.length]; exact F.len _ _ _ _ q'
  have hbd := hb s1 us I1.kIn (by rw [List.append_nil]; exact hl)
  rw [List.append_nil] at hbd
  refine wpAny_call (codeAny_mono (F.go X.A X.stack s1 H1 ⟨us, []⟩ us vs Q E0 hgd hr I1.env0 hbd r q') fun fl s' hq => ?_)
  match fl, hq with
  | .error e, hq => exact pass0 pins σ H1 s1 e s' I1 hq
  | .ok (.ret u), hq => exact I1.after hq
  | .ok .next, hq => exact False.elim hq
  | .ok .brk, hq => exact False.elim hq
  | .ok .cont, hq => exact False.elim hq
end
end DG

/-! part DG2 -/
set_option Elab.async false
set_option linter.all false
set_option maxRecDepth 100000
set_option maxHeartbeats 1000000
set_option autoImplicit false
namespace DV
open PySem PySem.Spec L2
open PyProof.Rows (envOfC)
theorem ok_defg {P : Program} {w : World} {K : PySem.W.Frag} {mg : Str → Option Value} {base : Heap} {x qual : Str} {st : Stmt} {f : Addr} {fd : FuncData} {N ps : List Str} {k : Nat} {T : TF} {fb : SS} (F : Fun K x qual st f fd) (S : FnScope N ps (defScope st))
    (hb : ∀ (cdv : Value) (A : Around) (outer : List Env) (s : Shared) (H : Hp) (E : XK), A.guards = some [] → Room k (A.deeper (envOfC qual (defScope st) s.heap.objs.size f cdv)) → PDSs (cxOf CX0 P w K mg base N qual (defScope st) f cdv A outer s H E).nox WZ (defBody st) fb)
    (hT : ∀ ss μ (Q : D → Mu → Prop), ss.length = ps.length → T ss μ Q → fb (startR N ss) μ (kD μ.length Q)) : DG.GOk P w K mg base (k + 1) f fd ps (spT ps.length K T) := by
  refine DG.go_of F S (fun vs H Q E h => ?_) (fun cdv A outer s H vs Q E hgd hr h => ?_)
  · obtain ⟨ad, ss, μ, r, m, l, _⟩ := h
    rw [rpSA_len r]
    exact l
  · obtain ⟨ad, ss, μ, r, m, l, q⟩ := h
    have B := hb cdv A outer s H E hgd hr
    refine ⟨_, B.run, ad, startR N ss, μ, sim_start m r, B.mo _ _ _ _ ?_ (hT ss μ _ l q)⟩
    have hl := m.len
    have less : ∀ {ad' : List Addr} {H' : Hp}, Step ad H ad' H' → Step ad H ad H' := fun t => ⟨List.prefix_refl _, fun b o h e => ⟨h, (t.keep b o h e).2⟩⟩
    refine ⟨fun ρ' μ' q σ' H' ad' t s' => ?_, fun y μ' q v H' ad' t m' rv => ?_, fun _ _ q => q.elim, fun _ _ q => q.elim, fun _ _ _ q => q.elim⟩
    · obtain ⟨m2, sm⟩ := s'.m.take t.pre
      rw [hl] at m2
      exact q .non H' (less t) m2 .non
    · obtain ⟨d, e, q⟩ := q
      obtain ⟨m2, sm⟩ := m'.take t.pre
      rw [hl] at m2
      refine q v H' (less t) m2 ?_
      cases y with
      | d y => cases e; exact Rp.mono sm rv
      | ex _ _ _ _ => cases e
      | m j =>
        unfold fin at e
        simp only at e
        split at e
        · cases e
        · cases e2 : μ'[j]? with
          | none => rw [e2] at e; cases e
          | some ds =>
            rw [e2] at e
            cases e
            obtain ⟨a, h1, rfl⟩ := rv
            obtain ⟨b, xs, q1, q2, q3⟩ := m'.at_ j ds e2
            rw [h1] at q1
            cases q1
            refine .lst (xs := xs) (.inl (.inl ?_)) (q3.mono sm)
            rw [hide_out fun z => ?_]
            · exact q2
            · rename_i hj
              obtain ⟨t', e3⟩ := t.pre
              subst e3
              have hnd := m'.nd
              obtain ⟨l1, e4⟩ := List.getElem?_eq_some_iff.mp h1
              obtain ⟨i, hi, e5⟩ := List.getElem_of_mem z
              have : (ad ++ t')[i]'(by rw [List.length_append]; omega) = a := by rw [List.getElem_append_left hi]; exact e5
              have hij := (List.getElem_inj hnd).mp (this.trans e4.symm)
              omega

/-- a def that keeps its promise where nothing is being shown -/
def DefOkG (P : Program) (w : World) (K : PySem.W.Frag) (mg : Str → Option Value) (base : Heap) (x : Str) (k n : Nat) (T : TF) : Prop :=
  MonF T ∧ ∃ f fd ps, mg x = some (.ref f) ∧ PySem.W.keepIn K (.ref f) = true ∧ Binds K fd ps [] ∧ DG.GOk P w K mg base k f fd ps (spT n K T)
theorem ok_defDG {P : Program} {w : World} {K : PySem.W.Frag} {mg : Str → Option Value} {base : Heap} {x : Str} {st : Stmt} {N ps : List Str} {k : Nat} {T : TF} {fb : SS} (t : Top K mg x st ps) (S : FnScope N ps (defScope st)) (mT : MonF T)
    (hb : ∀ (f : Addr) (cdv : Value) (A : Around) (outer : List Env) (s : Shared) (H : Hp) (E : XK), A.guards = some [] → Room k (A.deeper (envOfC x (defScope st) s.heap.objs.size f cdv)) → PDSs (cxOf CX0 P w K mg base N x (defScope st) f cdv A outer s H E).nox WZ (defBody st) fb)
    (hT : ∀ ss μ (Q : D → Mu → Prop), ss.length = ps.length → T ss μ Q → fb (startR N ss) μ (kD μ.length Q)) : DefOkG P w K mg base x (k + 1) ps.length T := by
  obtain ⟨f, fd, F, b, g⟩ := t
  exact ⟨mT, f, fd, ps, g, F.kp, b, ok_defg F S (fun cdv A outer s H E hgd hr => hb f cdv A outer s H E hgd hr) hT⟩
section
variable {X : Cx} {W : WX}
theorem pd_callDG {x : Str} {k n : Nat} {T : TF} {p pos : Pos} {e : Expr} {es : List Expr} {f : SA} (C : DefOkG X.prog X.w X.K X.mg X.base x k n T) (hgd : X.A.guards = some []) (hr : Room k X.A) (hg : Gl X x) (h : PDA X (e :: es) f)
    (hdb : (x == ("__debug__" : Str)) = false := by decide) (he : starEach (e :: es) X.env = (false, eval e X.env) :: starEach es X.env := by rfl) (hpl : (backTo pos (starEach es X.env)).any (·.1) = false := by rfl) :
    PD X (.Call (.Name x p) (e :: es) [] pos) (fCall n T f) := by
  obtain ⟨mT, fa, fd, ps, g, kp, b, F⟩ := C
  exact pd_call mT h.mo (DG.pe_go F hgd hr hg g kp b h.run hdb he hpl)
/-! ### repr -/
/-- what may be shown: depth up to k, up to n signs -/
def Sh (k n : Nat) (d : D) : Prop := d.py.showable = true ∧ d.py.hasDict = false ∧ d.py.depth ≤ k ∧ d.py.shown.length ≤ n
def shD (d : D) : Str := d.py.shown
theorem sh_int {i : Int} (h : i.natAbs.log2 < 1920) : Sh 0 1921 (.int i) := ⟨by simpa [D.py, PyData.showable] using h, rfl, Nat.le_refl _, by
  show (PyData.shown (.int i)).length ≤ 1921
  unfold PyData.shown
  exact PyProof.Rows.int_text_len_1921 h⟩
theorem Sh.mono {k l n m : Nat} {d : D} (h : Sh k n d) (h1 : k ≤ l) (h2 : n ≤ m) : Sh l m d := ⟨h.1, h.2.1, Nat.le_trans h.2.2.1 h1, Nat.le_trans h.2.2.2 h2⟩
theorem sh_all {k n : Nat} : ∀ {ds : List D}, (∀ d ∈ ds, Sh k n d) → PyData.showableAll (pyA ds) = true ∧ PyData.hasDictAll (pyA ds) = false ∧ PyData.depthAll (pyA ds) ≤ k ∧ ((PyData.shownAll (pyA ds)).map (·.length)).sum ≤ ds.length * n ∧ (PyData.shownAll (pyA ds)).length = ds.length
  | [], _ => ⟨rfl, rfl, Nat.zero_le _, Nat.zero_le _, rfl⟩
  | d :: r, h => by
    obtain ⟨a1, a2, a3, a4⟩ := h d (by simp)
    obtain ⟨b1, b2, b3, b4, b5⟩ := sh_all (ds := r) fun x hx => h x (List.mem_cons_of_mem _ hx)
    refine ⟨?_, ?_, ?_, ?_, ?_⟩
    · simp only [pyA, PyData.showableAll, a1, b1, Bool.and_self]
    · simp only [pyA, PyData.hasDictAll, a2, b2, Bool.or_self]
    · simp only [pyA, PyData.depthAll]
      omega
    · simp only [pyA, PyData.shownAll, List.map_cons, List.sum_cons, List.length_cons, Nat.add_mul, Nat.one_mul]
      omega
    · simp only [pyA, PyData.shownAll, List.length_cons, b5]
theorem sh_tup {k n : Nat} {ds : List D} (h : ∀ d ∈ ds, Sh k n d) : Sh (k + 1) (ds.length * n + 2 * ds.length + 3) (.tup ds) := by
  obtain ⟨b1, b2, b3, b4, b5⟩ := sh_all h
  refine ⟨by simpa only [D.py, PyData.showable] using b1, by simpa only [D.py, PyData.hasDict] using b2, by simp only [D.py, PyData.depth]; omega, ?_⟩
  have q := tupleText_len_le (PyData.shownAll (pyA ds))
  simp only [D.py, PyData.shown]
  omega
theorem sh_lst {k n : Nat} {ds : List D} (h : ∀ d ∈ ds, Sh k n d) : Sh (k + 1) (ds.length * n + 2 * ds.length + 3) (.lst ds) := by
  obtain ⟨b1, b2, b3, b4, b5⟩ := sh_all h
  refine ⟨by simpa only [D.py, PyData.showable] using b1, by simpa only [D.py, PyData.hasDict] using b2, by simp only [D.py, PyData.depth]; omega, ?_⟩
  have q := listText_len_le (PyData.shownAll (pyA ds))
  simp only [D.py, PyData.shown]
  omega
def rRepr (K : PySem.W.Frag) : List V → Hp → VK → Prop := fun xs H Q => ∃ (a : Addr) (d : PyData), xs = [.ref a] ∧ Dp K H (.ref a) d ∧ (d.showable = true ∧ d.hasDict = false ∧ d.depth ≤ 10 ∧ d.shown.length ≤ sizeLine) ∧ Q (.str d.shown) H
theorem call_repr (hgd : X.A.guards = some []) {k : Nat} (hr : Room k X.A) : CallR X (.builtin "repr") (rRepr X.K) := by
  intro pins s σ H xs us Q I r h
  obtain ⟨a, d, rfl, dp, ⟨h1, h2, h3, h4⟩, q⟩ := h
  obtain ⟨u, rfl, rfl⟩ : ∃ u, us = [u] ∧ u = Value.ref a := by
    cases r with
    | cons r rr => cases rr; exact ⟨_, rfl, r⟩
  obtain ⟨as, rd⟩ := Dp.reads I d (.ref a) (.ref a) dp rfl
  have un := hr.un
  exact repr_of_reads' rd h1 (PyData.noDict_hsm h2) hgd (by omega) (fun _ _ e => e) (fun h' u tk hk => ⟨.str d.shown, H, I.kept hk, ⟨u, rfl⟩, q⟩) h4
def gRepr (ss : List S) (_ : Mu) : Option D := match ss with
  | [.d (.tup ds)] => some (.str (shD (.tup ds)))
  | [.d (.lst ds)] => some (.str (shD (.lst ds)))
  | _ => none
def cRepr (ss : List S) (_ : Mu) : Prop := match ss with
  | [.d d] => Sh 10 1000000 d
  | _ => True
theorem snd_repr : SoundA X.K (rRepr X.K) (gA cRepr gRepr) := by
  intro vs ss H ad μ Q m r h
  obtain ⟨h1, d, h2, h3⟩ := h
  have big : 1000000 ≤ sizeLine := by decide
  unfold gRepr at h2
  split at h2
  · rename_i ds
    cases h2
    obtain ⟨v, rfl, r1⟩ := rsa1 r
    cases r1 with
    | tup q1 q2 => exact ⟨_, _, rfl, Rp.dp (Rp.mono hide_same (.tup q1 q2)) (plain_of h1.2.1), ⟨h1.1, h1.2.1, h1.2.2.1, Nat.le_trans h1.2.2.2 big⟩, h3 _ H (Step.refl _ _) m (.str _)⟩
  · rename_i ds
    cases h2
    obtain ⟨v, rfl, r1⟩ := rsa1 r
    cases r1 with
    | lst q1 q2 => exact ⟨_, _, rfl, Rp.dp (Rp.mono hide_same (.lst q1 q2)) (plain_of h1.2.1), ⟨h1.1, h1.2.1, h1.2.2.1, Nat.le_trans h1.2.2.2 big⟩, h3 _ H (Step.refl _ _) m (.str _)⟩
  · cases h2
end
end DV

/-! part DN -/
set_option Elab.async false
set_option linter.all false
set_option maxRecDepth 100000
set_option maxHeartbeats 1000000
set_option autoImplicit false
namespace DV
open PySem PySem.Spec L2
open PyProof.Rows (envOfC)
/-! ### defs that return a new list, and such a list passed on alone -/
abbrev TFN := List S → Mu → (List D → Mu → Prop) → Prop
def MonFN (T : TFN) : Prop := ∀ ss μ (P P' : List D → Mu → Prop), (∀ d μ', P d μ' → P' d μ') → T ss μ P → T ss μ P'
def spN (n : Nat) (K : PySem.W.Frag) (T : TFN) : Sp := fun vs H Q _ => ∃ ad ss μ, RpSA K (hide ad H) ad vs ss ∧ RpM K H ad μ ∧ ss.length = n ∧ T ss μ fun ds μ' => ∀ p H', H p = none → Step ad H (ad ++ [p]) H' → RpM K H' (ad ++ [p]) (μ' ++ [ds]) → Q (.ref p) H'
def kN (n : Nat) (P : List D → Mu → Prop) : K4 where
  nx := fun _ _ => False
  rt := fun x μ' => ∃ j ds, x = .m j ∧ ¬ j < n ∧ μ'[j]? = some ds ∧ P ds (μ'.take n)
  bk := fun _ _ => False
  ct := fun _ _ => False
  er := fun _ _ _ => False
def DefOkN (P : Program) (w : World) (K : PySem.W.Frag) (mg : Str → Option Value) (base : Heap) (x : Str) (k n : Nat) (T : TFN) : Prop :=
  MonFN T ∧ ∃ f fd ps, mg x = some (.ref f) ∧ PySem.W.keepIn K (.ref f) = true ∧ Binds K fd ps [] ∧ FnOk P w K mg base CX0 k f fd ps (spN n K T)
theorem ok_defN {P : Program} {w : World} {K : PySem.W.Frag} {mg : Str → Option Value} {base : Heap} {x : Str} {st : Stmt} {N ps : List Str} {k : Nat} {T : TFN} {fb : SS} (t : Top K mg x st ps) (S : FnScope N ps (defScope st)) (mT : MonFN T)
    (hb : ∀ (f : Addr) (cdv : Value) (A : Around) (outer : List Env) (s : Shared) (H : Hp) (E : XK), Room k (A.deeper (envOfC x (defScope st) s.heap.objs.size f cdv)) → PDSs (cxOf CX0 P w K mg base N x (defScope st) f cdv A outer s H E).nox WZ (defBody st) fb)
    (hT : ∀ ss μ (Q : List D → Mu → Prop), ss.length = ps.length → T ss μ Q → fb (startR N ss) μ (kN μ.length Q)) : DefOkN P w K mg base x (k + 1) ps.length T := by
  obtain ⟨f, fd, F, b, g⟩ := t
  refine ⟨mT, f, fd, ps, g, F.kp, b, F.ok S (fun vs H Q E h => ?_) (fun cdv A outer s H vs Q E hr h => ?_)⟩
  · obtain ⟨ad, ss, μ, r, m, l, _⟩ := h
    rw [rpSA_len r]
    exact l
  · obtain ⟨ad, ss, μ, r, m, l, q⟩ := h
    have B := hb f cdv A outer s H E hr
    refine ⟨_, B.run, ad, startR N ss, μ, sim_start m r, B.mo _ _ _ _ ?_ (hT ss μ _ l q)⟩
    have hl := m.len
    refine ⟨fun ρ' μ' q => q.elim, fun y μ' q v H' ad' t m' rv => ?_, fun _ _ q => q.elim, fun _ _ q => q.elim, fun _ _ _ q => q.elim⟩
    obtain ⟨j, ds, rfl, hj, e2, q⟩ := q
    obtain ⟨a, h1, rfl⟩ := rv
    obtain ⟨c, xs, q1, q2, q3⟩ := m'.at_ j ds e2
    rw [h1] at q1
    cases q1
    have hin : a ∈ ad' := List.mem_of_getElem? h1
    have hna : a ∉ ad := fun z => by
      obtain ⟨t', e3⟩ := t.pre
      subst e3
      have hnd := m'.nd
      obtain ⟨l1, e4⟩ := List.getElem?_eq_some_iff.mp h1
      obtain ⟨i, hi, e5⟩ := List.getElem_of_mem z
      have : (ad ++ t')[i]'(by rw [List.length_append]; omega) = a := by rw [List.getElem_append_left hi]; exact e5
      have hij := (List.getElem_inj hnd).mp (this.trans e4.symm)
      omega
    have hfree : H a = none := by
      cases e : H a with
      | none => rfl
      | some o => exact absurd hin (t.keep a o hna e).1
    obtain ⟨m2, _⟩ := m'.take t.pre
    rw [hl] at m2
    have sub : ∀ b, b ∈ ad ++ [a] → b ∈ ad' := fun b hb => by
      rcases List.mem_append.mp hb with hb | hb
      · exact t.pre.subset hb
      · rw [List.mem_singleton] at hb; rw [hb]; exact hin
    have sm : Same (hide ad' H') (hide (ad ++ [a]) H') := fun b o e => by
      obtain ⟨h, e1⟩ := hide_some e
      rw [hide_out fun q => h (sub b q)]
      exact e1
    refine q a H' hfree ⟨List.prefix_append _ _, fun b o hb e => ⟨fun z => ?_, (t.keep b o hb e).2⟩⟩ ⟨?_, ?_, fun i es q => ?_⟩
    · exact (t.keep b o hb e).1 (sub b z)
    · have := m2.len
      rw [List.length_append, List.length_append, this]
      rfl
    · rw [List.nodup_append]
      exact ⟨m2.nd, by simp, fun x hx y hy e => by rw [List.mem_singleton] at hy; subst hy; subst e; exact hna hx⟩
    · have h2 := m2.len
      by_cases c : i < (μ'.take μ.length).length
      · rw [List.getElem?_append_left c] at q
        rw [List.getElem?_take] at q
        split at q
        · obtain ⟨b, ys, w1, w2, w3⟩ := m'.at_ i es q
          have hi : i < ad.length := by omega
          refine ⟨b, ys, ?_, w2, w3.mono sm⟩
          obtain ⟨t', e3⟩ := t.pre
          subst e3
          rw [List.getElem?_append_left hi] at w1 ⊢
          exact w1
        · cases q
      · rw [List.getElem?_append_right (by omega)] at q
        have hi : i - (μ'.take μ.length).length = 0 := by
          cases z : i - (μ'.take μ.length).length with
          | zero => rfl
          | succ z' => rw [z] at q; cases q
        rw [hi] at q
        cases q
        have hil : i = ad.length := by omega
        refine ⟨a, xs, ?_, q2, q3.mono sm⟩
        rw [hil, List.getElem?_append_right (Nat.le_refl _), Nat.sub_self]
        rfl
section
variable {X : Cx} {W : WX} {pos p : Pos}
def fRetN (f : SN) : SS := fun ρ μ k => f ρ μ fun ds μ1 => k.rt (.m μ1.length) (μ1 ++ [ds])
theorem pd_retN {e : Expr} {f : SN} (h : PDN X e f) : PDS X W (.Return (some e) pos) (fRetN f) := by
  refine ⟨fun ρ μ k k' l q => h.mo ρ μ _ _ (fun ds μ1 q => l.rt _ _ q) q, (ps_ret h.run).of fun Dn σ H q => ?_⟩
  obtain ⟨ad, ρ, μ, s, q⟩ := q
  exact ⟨ad, ρ, μ, s, h.mo ρ μ _ _ (fun ds μ1 q a H' _ t m => q (.ref a) H' (ad ++ [a]) t m ⟨a, last_ad m, rfl⟩) q⟩
def fCallN (n : Nat) (T : TFN) (f : SA) : SN := fun ρ μ P => f ρ μ fun ss μ1 => ss.length = n ∧ T ss μ1 P
theorem pdn_callN {x : Str} {k n : Nat} {T : TFN} {e : Expr} {es : List Expr} {f : SA} (C : DefOkN X.prog X.w X.K X.mg X.base x k n T) (hr : Room k X.A) (hg : Gl X x) (h : PDA X (e :: es) f)
    (hdb : (x == ("__debug__" : Str)) = false := by decide) (he : starEach (e :: es) X.env = (false, eval e X.env) :: starEach es X.env := by rfl) (hpl : (backTo pos (starEach es X.env)).any (·.1) = false := by rfl) :
    PDN X (.Call (.Name x p) (e :: es) [] pos) (fCallN n T f) := by
  obtain ⟨mT, fa, fd, ps, g, kp, b, F⟩ := C
  refine ⟨fun ρ μ P P' k q => h.mo ρ μ _ _ (fun ss μ1 q => ⟨q.1, mT ss μ1 _ _ k q.2⟩) q, (pe_call (E := E0) F hr hg g kp b .nil pass0 h.run hdb he hpl).of fun σ H Q q => ?_⟩
  obtain ⟨ad, ρ, μ, s, q⟩ := q
  refine ⟨ad, ρ, μ, s, h.mo ρ μ _ _ (fun ss μ1 q vs H1 t1 m1 r1 => ?_) q⟩
  show spN n X.K T (vs ++ []) H1 Q E0
  rw [List.append_nil]
  exact ⟨ad, ss, μ1, r1, m1, q.1, mT ss μ1 _ _ (fun ds μ2 q a H2 ha t2 m2 => q a H2 (free_back s.m t1 m1 a ha) (t1.trans t2) m2) q.2⟩
/-- f(a new list), which tells a truth -/
def fCallOn (T : TF) (f : SN) : SE := fun ρ μ P => f ρ μ fun ds μ1 => T [.m 0] [ds] fun d _ => ∃ b, d = .bl b ∧ P (.d (.bl b)) μ1
theorem pd_callOn {x : Str} {k : Nat} {T : TF} {e : Expr} {f : SN} (C : DefOkG X.prog X.w X.K X.mg X.base x k 1 T) (hgd : X.A.guards = some []) (hr : Room k X.A) (hg : Gl X x) (h : PDN X e f)
    (hdb : (x == ("__debug__" : Str)) = false := by decide) (he : starEach [e] X.env = (false, eval e X.env) :: starEach [] X.env := by rfl) (hpl : (backTo pos (starEach [] X.env)).any (·.1) = false := by rfl) :
    PD X (.Call (.Name x p) [e] [] pos) (fCallOn T f) := by
  obtain ⟨mT, fa, fd, ps, g, kp, b, F⟩ := C
  refine ⟨fun ρ μ P P' k q => h.mo ρ μ _ _ (fun ds μ1 q => mT _ _ _ _ (fun d μ2 ⟨b, e, q⟩ => ⟨b, e, k _ _ q⟩) q) q, (DG.pe_go F hgd hr hg g kp b (pa_cons h.run pa_nil he) hdb he hpl).of fun σ H Q q => ?_⟩
  obtain ⟨ad, ρ, μ, s, q⟩ := q
  refine ⟨ad, ρ, μ, s, h.mo ρ μ _ _ (fun ds μ1 q a H' ha t m => ?_) q⟩
  have hlast : (μ1 ++ [ds])[μ1.length]? = some ds := by rw [List.getElem?_append_right (Nat.le_refl _), Nat.sub_self]; rfl
  obtain ⟨a2, xs, g1, g2, g3⟩ := m.at_ _ _ hlast
  rw [last_ad m] at g1
  cases g1
  obtain ⟨mm, _, hna⟩ := m.last
  have sm1 : Same (hide (ad ++ [a]) H') (hide [a] H') := fun b o e => by
    obtain ⟨h, e1⟩ := hide_some e
    rw [hide_out fun q => h (List.mem_append_right _ q)]
    exact e1
  have m1 : RpM X.K H' [a] [ds] := ⟨rfl, by simp, fun j es q => by
    cases j with
    | zero => cases q; exact ⟨a, xs, rfl, g2, g3.mono sm1⟩
    | succ j => cases q⟩
  show spT 1 X.K T ([V.ref a] ++ []) H' Q E0
  refine ⟨[a], [.m 0], [ds], .cons ⟨a, rfl, rfl⟩ .nil, m1, rfl, mT _ _ _ _ (fun d μ2 ⟨b, e, q⟩ v H2 t2 m2 r2 => ?_) q⟩
  subst e
  cases r2
  have keep : ∀ c o, c ∉ ad ++ [a] → H' c = some o → H2 c = some o := fun c o hc e => (t2.keep c o (fun z => hc (List.mem_append_right _ z)) e).2
  refine q (.bl b) H2 ⟨List.prefix_refl _, fun c o hc e => ?_⟩ ⟨mm.len, mm.nd, fun j es q => ?_⟩ (.bl b)
  · obtain ⟨h1, h2⟩ := t.keep c o hc e
    exact ⟨hc, keep c o h1 h2⟩
  · have hj : j < μ1.length := (List.getElem?_eq_some_iff.mp q).1
    obtain ⟨c, ys, w1, w2, w3⟩ := m.at_ j es (by rw [List.getElem?_append_left hj]; exact q)
    have hlen := mm.len
    rw [List.getElem?_append_left (by omega)] at w1
    have hca : c ≠ a := fun z => hna (z ▸ List.mem_of_getElem? w1)
    refine ⟨c, ys, w1, (t2.keep c _ (fun z => hca (List.mem_singleton.mp z)) w2).2, w3.mono fun d o e => ?_⟩
    obtain ⟨h, e1⟩ := hide_some e
    rw [hide_out fun z => h (List.mem_append_left _ z)]
    exact keep d o h e1
end
end DV

/-! part DE -/
set_option Elab.async false
set_option linter.all false
set_option maxRecDepth 100000
set_option maxHeartbeats 1000000
set_option autoImplicit false
namespace DE
open PySem PySem.Spec PyProof.Rows L2 DV
/-- the call of the law's def from its caller, where nothing is being shown -/
theorem go_law {P : Program} {w : World} {K : PySem.W.Frag} {mg mb : Str → Option Value} {k : Nat} {fa a : Addr} {fd : FuncData} {x : Str} {sp : Sp} {s1 : Shared} {vs : List Value} {ns : List Int}
    (inK : K.In s1.heap) (glob : s1.heap.Ns mainGlobals mg) (bns : s1.heap.Ns builtinsNs mb) (boot : ∀ y : Str, y ≠ "__name__" → mb y = bootBuiltins y) (lim : s1.heap.NoLimit) (gens : s1.gens = #[])
    (at_ : s1.heap.get? a = some { cls := .type "list", data := .seq vs.toArray }) (numb : IntsAre vs ns) (small : ns.length ≤ sizeLine) (room : Room k callerA)
    (F : ∀ base : Heap, K.In base → base.Ns mainGlobals mg → DG.GOk P w K mg base k fa fd [x] sp) (bind : ∀ (s : Shared) (u : Value), BindsTo s fd ⟨[u], []⟩ [(x, u)])
    (keeps : ∀ T : Hp, Only T → SqL K T a (ns.map V.int) → sp [.ref a] T (fun v _ => v = .bl true) fun _ _ _ => False) :
    codeAny (model P w) callerA (.call (.ref fa) ⟨[.ref a], []⟩) (fun r s' => r = .ok (.ret (.bool true)) ∧ OldK s1.heap s'.heap ∧ s'.os = s1.os ∧ AllBare s'.gens) s1 := by
  have rel := vals_ints numb
  have lens := numb.length
  have main : ∀ T : Hp, Only T → SqL K T a (ns.map V.int) → HOk P w T s1.heap → (∀ b, T b ≠ none → b = a) → (T a ≠ none → K.lookup a = none) →
      codeAny (model P w) callerA (.call (.ref fa) ⟨[.ref a], []⟩) (fun r s' => r = .ok (.ret (.bool true)) ∧ OldK s1.heap s'.heap ∧ s'.os = s1.os ∧ AllBare s'.gens) s1 := by
    intro T only seq ok just notK
    have below : ∀ {b : Addr} {o : Obj}, s1.heap.get? b = some o → T b = none → (hidT s1.heap T).get? b = some o := fun q z => hidT_get q z
    have nodict : ∀ {b : Addr} {o : Obj} {es : Array DictEntry} {ep : Nat}, s1.heap.get? b = some o → o.data = .dict es ep → T b = none := fun {b o es ep} q d => by
      cases z : T b with
      | none => rfl
      | some u =>
        obtain rfl : b = a := just b (by rw [z]; simp)
        rw [at_] at q
        cases q
        exact nomatch (show Data.seq vs.toArray _ = Data.dict es ep from d)
    have nsT : ∀ {b : Addr} {m : Str → Option Value}, s1.heap.Ns b m → (hidT s1.heap T).Ns b m := fun {b m} ⟨o, es, ep, q, d, r⟩ => ⟨o, es, ep, below q (nodict q d), d, r⟩
    have kT : K.In (hidT s1.heap T) := fun b o q => below (inK b o q) (by
      cases z : T b with
      | none => rfl
      | some u =>
        obtain rfl : b = a := just b (by rw [z]; simp)
        rw [notK (by rw [z]; simp)] at q
        cases q)
    obtain ⟨mc, c1, c2⟩ := lim
    have e0 : Env0 P w K mg (hidT s1.heap T) callerA [] s1 T :=
      ⟨rfl, ⟨kT, nsT glob, ⟨mb, nsT bns, boot⟩, ⟨mc, nsT c1, c2⟩⟩, fun b o q => of_hidT q, Nat.le_of_eq (hidT_size _ _), trivial, fun b hb => (List.not_mem_nil hb).elim, ok, .of_eq gens⟩
    refine codeAny_mono ((F _ kT (nsT glob)).go callerA [] s1 T ⟨[.ref a], []⟩ [.ref a] [.ref a] _ _ rfl room e0 (bind s1 (.ref a)) (.cons rfl .nil) (keeps T only seq)) fun r s' h => ?_
    match r, h with
    | .error e, h => exact False.elim h
    | .ok .next, h => exact False.elim h
    | .ok .brk, h => exact False.elim h
    | .ok .cont, h => exact False.elim h
    | .ok (.ret u), ⟨v, T', os, bare, un, ok', rv, q⟩ =>
      have q : v = .bl true := q
      subst q
      obtain rfl : u = Value.bool true := rv
      refine ⟨rfl, OldK.of_keep fun b o e => ?_, os, bare⟩
      cases z : T b with
      | none => exact un.keep b o e z (fun y => (List.not_mem_nil y).elim) (by simp)
      | some u =>
        rcases only b with y | ⟨ob, xs, y⟩
        · rw [z] at y
          cases y
        · have y2 := un.frzs b ob _ y
          have e1 := (ok b _ y).1
          have e2 := (ok' b _ y2).1
          rw [e] at e1
          cases e1
          exact e2
  cases hk : K.lookup a with
  | some o =>
    have q := inK a o hk
    rw [at_] at q
    cases q
    exact main (fun _ => none) (fun _ => .inl rfl) (.inr ⟨_, vs.toArray, _, hk, rfl, rfl, rfl, by rw [List.size_toArray, lens]; exact small, by simpa using rel⟩) (fun b u z => nomatch (show (none : Option HO) = some u from z)) (fun b z => (z rfl).elim) fun z => (z rfl).elim
  | none =>
    have here : (fun b => if b = a then some (HO.frz { cls := .type "list", data := .seq vs.toArray } (.lst (ns.map V.int))) else none : Hp) a = some (.frz { cls := .type "list", data := .seq vs.toArray } (.lst (ns.map V.int))) := if_pos rfl
    refine main (fun b => if b = a then some (.frz { cls := .type "list", data := .seq vs.toArray } (.lst (ns.map V.int))) else none) (fun b => ?_) (.inl (.inr ⟨{ cls := .type "list", data := .seq vs.toArray }, here⟩)) (fun b u z => ?_) (fun b z => ?_) fun _ => hk
    · by_cases hb : b = a
      · subst hb
        exact .inr ⟨_, _, here⟩
      · exact .inl (if_neg hb)
    · by_cases hb : b = a
      · subst hb
        have z2 := here.symm.trans z
        cases z2
        exact ⟨at_, by rw [List.length_map]; exact small, vs, _, rel, at_⟩
      · exact nomatch (if_neg hb).symm.trans z
    · exact Classical.byContradiction fun hb => z (if_neg hb)
theorem go_walk {l : PySem.W.OpenLaw} {n k : Nat} {q : Program} {loose : List Str} {XP : (Str → Option Value) → Heap → Prop} {YP : World → Heap → Prop} {d : DefRec} {K : Params → PySem.W.Frag} {sp : PySem.W.Frag → Sp} {x : Str}
    (hn : l.most = some n) (hn2 : n ≤ sizeLine) (hdf : d.params.defaults = []) (room : Room k callerA) (hY : ∀ (w : World) (h : Heap), YP w h → (K w.params).In h)
    (F : ∀ (w : World) (mg : Str → Option Value) (fa : Addr) (h : Heap), (K w.params).In h → h.Ns mainGlobals mg → mg d.name = some (.ref fa) →
      ∃ fd : FuncData, (∀ (s : Shared) (u : Value), BindsTo s fd ⟨[u], []⟩ [(x, u)]) ∧ ∀ base : Heap, (K w.params).In base → base.Ns mainGlobals mg → DG.GOk l.prog w (K w.params) mg base k fa fd [x] (sp (K w.params)))
    (keeps : ∀ (K : PySem.W.Frag) (T : Hp) (a : Addr) (ns : List Int), ns.length ≤ n → Only T → SqL K T a (ns.map V.int) → sp K [.ref a] T (fun v _ => v = .bl true) fun _ _ _ => False) :
    PySem.W.WalkO q loose XP YP l.row.toRowW d [] (fun f vs => PySem.call f vs) := by
  refine Att.attach_call hn hdf fun w s0 s1 mg mb fa o pm cd doc a vs ns G Y ho hd hcd hmg hobj hints hlen hgens => ?_
  obtain ⟨fd, hb, hF⟩ := F w mg fa _ (hY w _ Y) G.T.g hmg
  exact go_law (hY w _ Y) G.T.g G.T.b G.T.builtins G.T.nolimit hgens hobj hints (Nat.le_trans hlen hn2) room hF hb fun T only seq => keeps _ T a ns hlen only seq
end DE

/-! part DS -/
set_option Elab.async false
set_option linter.all false
set_option maxRecDepth 100000
set_option maxHeartbeats 1000000
set_option autoImplicit false
/-! showing data with dicts in it, where only the dicts themselves are told apart from sys.modules -/
namespace DV
open PySem PySem.Spec L2
section
variable {P : Program} {w : World} {h : Heap} {a : Addr} {o : Obj} {n : Nat}
/-- u holds the data d and may be shown inside of something -/
def Shw (P : Program) (w : World) (h : Heap) (u : Value) (d : PyData) : Prop := ∃ as bs, Reads h u d as ∧ ReadAtMost h d.depth bs ∧ ReprK P w bs h d.depth u d.shown
def ShwA (P : Program) (w : World) (h : Heap) (us : List Value) (ds : List PyData) : Prop := ∃ as bs, ReadsAll h us ds as ∧ ReadAtMost h (PyData.depthAll ds) bs ∧ ReprAllK P w bs h (PyData.depthAll ds) us (PyData.shownAll ds)
/-- repr of it -/
def Rpr (P : Program) (w : World) (h : Heap) (a : Addr) (d : PyData) : Prop := ∀ (A : Around) (E : Value → Shared → Prop) (s : Shared) (Q : Value → Shared → Prop), A.guards = some [] → A.units + (d.depth + 1) < cLine →
  (∀ b o, h.get? b = some o → s.heap.get? b = some o) → (∀ h' u tk, (∀ b o, s.heap.get? b = some o → h'.get? b = some o) → Q (.str d.shown u) { s with heap := h', toks := tk }) → wpAny (model P w) A (call (.builtin "repr") [.ref a]) Q E s
theorem shwA_nil : ShwA P w h [] [] := ⟨_, [], .nil, fun _ z => (nomatch z), by rw [PyData.shownAll]; exact .nil⟩
theorem shwA_cons {u : Value} {us : List Value} {d : PyData} {ds : List PyData} (x : Shw P w h u d) (r : ShwA P w h us ds) : ShwA P w h (u :: us) (d :: ds) := by
  obtain ⟨a1, b1, r1, m1, k1⟩ := x
  obtain ⟨a2, b2, r2, m2, k2⟩ := r
  have l1 : d.depth ≤ PyData.depthAll (d :: ds) := by rw [PyData.depthAll]; exact Nat.le_max_left _ _
  have l2 : PyData.depthAll ds ≤ PyData.depthAll (d :: ds) := by rw [PyData.depthAll]; exact Nat.le_max_right _ _
  refine ⟨_, b1 ++ b2, .cons r1 r2, (m1.mono l1).append (m2.mono l2), ?_⟩
  have c1 := (k1.more (as' := b1 ++ b2) fun b z => List.mem_append.mpr (.inl z)).level_le l1
  have c2 := k2.more_le (as' := b1 ++ b2) (fun b z => List.mem_append.mpr (.inr z)) l2
  rw [PyData.shownAll]
  exact .cons c1 c2
theorem shw_list {vs : Array Value} {xs : List PyData} (h1 : h.get? a = some o) (h2 : o.cls = .type "list") (h3 : o.data = .seq vs n) (e : ShwA P w h vs.toList xs) (hz : (PyData.list xs).shown.length ≤ sizeLine) : Shw P w h (.ref a) (.list xs) ∧ Rpr P w h a (.list xs) := by
  obtain ⟨as, bs, r, m, k⟩ := e
  have R : Reads h (.ref a) (.list xs) (a :: as) := .list h1 h2 h3 r
  have dp : (PyData.list xs).depth = PyData.depthAll xs + 1 := by rw [PyData.depth]
  have sh : (PyData.list xs).shown = listText (PyData.shownAll xs) := by rw [PyData.shown]
  have na : a ∉ bs := not_mem_of_deeper R (by rw [dp]; exact Nat.lt_succ_self _) m
  rw [sh] at hz
  obtain ⟨l⟩ := vs
  refine ⟨⟨_, a :: bs, R, .cons R (by rw [dp]; exact Nat.le_succ _) m, ?_⟩, fun A E s Q hg hu hk hq => ?_⟩
  · rw [dp, sh]
    cases l with
    | nil => cases r; rw [PyData.shownAll, listText_nil]; exact .listEmpty h1 h2 h3
    | cons x l => exact .list h1 h2 h3 na (by simpa using k.length_eq) fun i y z => k.item i y (by simpa using z)
  · rw [dp] at hu
    rw [sh] at hq
    have hu' : A.units + 1 + (PyData.depthAll xs + 1) < cLine := by omega
    refine call_repr_slot (by omega) (T := "list") (idr := "list.__repr__") ⟨o, hk _ _ h1, h2⟩ F.slot_list_repr.toG ?_
    cases l with
    | nil =>
      cases r
      rw [PyData.shownAll, listText_nil] at hq
      exact call_list_repr_empty ⟨o, hk _ _ h1, h2⟩ (hk _ _ h1) h3 ⟨_, _, rfl, hq s.heap _ _ fun _ _ z => z⟩
    | cons x l => exact call_list_reprK h1 h2 h3 na (by simpa using k.length_eq) (fun i y z => k.item i y (by simpa using z)) (A := A.in1) hg (fun b _ => Clear.nil b) hu' hk (fun h' u tk z => ⟨_, _, rfl, hq h' u tk z⟩) hz
theorem shw_tup {vs : Array Value} {xs : List PyData} (h1 : h.get? a = some o) (h2 : o.cls = .type "tuple") (h3 : o.data = .seq vs n) (e : ShwA P w h vs.toList xs) (hz : (PyData.tuple xs).shown.length ≤ sizeLine) : Shw P w h (.ref a) (.tuple xs) ∧ Rpr P w h a (.tuple xs) := by
  obtain ⟨as, bs, r, m, k⟩ := e
  have R : Reads h (.ref a) (.tuple xs) as := .tuple h1 h2 h3 r
  have dp : (PyData.tuple xs).depth = PyData.depthAll xs + 1 := by rw [PyData.depth]
  have sh : (PyData.tuple xs).shown = tupleText (PyData.shownAll xs) := by rw [PyData.shown]
  have na : a ∉ bs := not_mem_of_deeper R (by rw [dp]; exact Nat.lt_succ_self _) m
  rw [sh] at hz
  refine ⟨⟨_, a :: bs, R, .cons R (by rw [dp]; exact Nat.le_succ _) m, ?_⟩, fun A E s Q hg hu hk hq => ?_⟩
  · rw [dp, sh]
    exact .tuple h1 h2 h3 na k
  · rw [dp] at hu
    rw [sh] at hq
    have hu' : A.units + 1 + (PyData.depthAll xs + 1) < cLine := by omega
    exact call_repr_slot (by omega) (T := "tuple") (idr := "tuple.__repr__") ⟨o, hk _ _ h1, h2⟩ F.slot_tuple_repr (call_tuple_reprK h1 h2 h3 na k (A := A.in1) hg (fun b _ => Clear.nil b) hu' hk (fun h' u tk z => ⟨_, _, rfl, hq h' u tk z⟩) hz)
theorem shw_dct {es : Array DictEntry} {kvs : List (PyData × PyData)} (hsy : (a == sysModules) = false) (h1 : h.get? a = some o) (h2 : o.cls = .type "dict") (h3 : o.data = .dict es n) (e1 : ShwA P w h (es.toList.map (·.key)) (kvs.map (·.1))) (e2 : ShwA P w h (es.toList.map (·.val)) (kvs.map (·.2)))
    (hz : (PyData.dict kvs).shown.length ≤ sizeLine) : Shw P w h (.ref a) (.dict kvs) ∧ Rpr P w h a (.dict kvs) := by
  obtain ⟨as, b1, r1, m1, k1⟩ := e1
  obtain ⟨cs, b2, r2, m2, k2⟩ := e2
  have R : Reads h (.ref a) (.dict kvs) (a :: as ++ cs) := .dict h1 h2 h3 r1 r2
  have dp : (PyData.dict kvs).depth = PyData.depthKv kvs + 1 := by rw [PyData.depth]
  have sh : (PyData.dict kvs).shown = dictText (PyData.shownKv kvs) := by rw [PyData.shown]
  have l1 := PyData.depthAll_keys_le kvs
  have l2 := PyData.depthAll_vals_le kvs
  have m : ReadAtMost h (PyData.depthKv kvs) (b1 ++ b2) := (m1.mono l1).append (m2.mono l2)
  have na : a ∉ b1 ++ b2 := not_mem_of_deeper R (by rw [dp]; exact Nat.lt_succ_self _) m
  have en := ReprEntriesK.of_two es.toList _ _ (k1.more_le (as' := b1 ++ b2) (fun b z => List.mem_append.mpr (.inl z)) l1) (k2.more_le (as' := b1 ++ b2) (fun b z => List.mem_append.mpr (.inr z)) l2)
  rw [← PyData.shownKv_eq] at en
  rw [sh] at hz
  refine ⟨⟨_, a :: (b1 ++ b2), R, .cons R (by rw [dp]; exact Nat.le_succ _) m, ?_⟩, fun A E s Q hg hu hk hq => ?_⟩
  · rw [dp, sh]
    exact .dict h1 h2 h3 hsy na en
  · rw [dp] at hu
    rw [sh] at hq
    have hu' : A.units + 1 + (PyData.depthKv kvs + 1) < cLine := by omega
    exact call_repr_slot (by omega) (T := "dict") (idr := "dict.__repr__") ⟨o, hk _ _ h1, h2⟩ F.slot_dict_repr (call_dict_reprK h1 h2 h3 hsy na en (A := A.in1) hg (fun b _ => Clear.nil b) hu' hk (fun h' u tk z => ⟨_, _, rfl, hq h' u tk z⟩) hz)
end
end DV

/-! part DR -/
set_option Elab.async false
set_option linter.all false
set_option maxRecDepth 100000
set_option maxHeartbeats 1000000
set_option autoImplicit false
namespace DV
open PySem PySem.Spec L2
def SysOk (_ : PySem.W.Frag) : Prop := True
mutual
/-- no error within -/
def D.showy : D → Bool
  | .tup ds => showyA ds
  | .lst ds => showyA ds
  | .dct _ ds => showyA ds
  | .err _ _ _ => false
  | .erb _ => false
  | _ => true
def showyA : List D → Bool
  | [] => true
  | d :: r => d.showy && showyA r
end
section
variable {X : Cx} {pins : List (Addr × Obj)} {σ : L2.St} {H : Hp} {s : Shared}
theorem key_reads : ∀ {es : List DictEntry} {kvs : List (Key × Value)}, Pairs (mixKind X.prog X.w) es kvs → ∃ as, ReadsAll s.heap (es.map (·.key)) (kvs.map fun p => keyPy p.1) as ∧ as = []
  | _, _, .nil => ⟨[], .nil, rfl⟩
  | _, _, .cons (e := e) (kv := kv) h1 h2 r => by
    obtain ⟨as, q, rfl⟩ := key_reads r
    have h1' : keyIs kv.1 e.key = true := h1
    rcases keyIs_shape h1' with ⟨i, t, e1, e2⟩ | ⟨x, t, e1, e2⟩
    · refine ⟨[] ++ [], ?_, rfl⟩
      rw [List.map_cons, List.map_cons, e1, e2]
      exact .cons (.int i t) q
    · refine ⟨[] ++ [], ?_, rfl⟩
      rw [List.map_cons, List.map_cons, e1, e2]
      exact .cons (.str x t) q
theorem pairs_vals : ∀ {es : List DictEntry} {kvs : List (Key × Value)}, Pairs (mixKind X.prog X.w) es kvs → es.map (·.val) = kvs.map (·.2)
  | _, _, .nil => rfl
  | _, _, .cons h1 h2 r => by rw [List.map_cons, List.map_cons, h2, pairs_vals r]
theorem kv_keys : ∀ {a : List (Key × V)} {b : List (Key × Value)}, KV a b → b.map (·.1) = a.map (·.1)
  | _, _, .nil => rfl
  | _, _, .cons h r => by rw [List.map_cons, List.map_cons, h.1, kv_keys r]
theorem kv_vals : ∀ {a : List (Key × V)} {b : List (Key × Value)}, KV a b → Vals (a.map (·.2)) (b.map (·.2))
  | _, _, .nil => .nil
  | _, _, .cons h r => .cons h.2 (kv_vals r)
theorem zip_fst : ∀ {ks : List PyData} {ds : List PyData}, ks.length = ds.length → (ks.zip ds).map (·.1) = ks
  | [], _, _ => rfl
  | k :: ks, [], h => by simp at h
  | k :: ks, d :: ds, h => by rw [List.zip_cons_cons, List.map_cons, zip_fst (by simpa using h)]
theorem zip_snd : ∀ {ks : List PyData} {ds : List PyData}, ks.length = ds.length → (ks.zip ds).map (·.2) = ds
  | [], [], _ => rfl
  | [], d :: ds, h => by simp at h
  | k :: ks, [], h => by simp at h
  | k :: ks, d :: ds, h => by rw [List.zip_cons_cons, List.map_cons, zip_snd (by simpa using h)]
theorem pyA_length : ∀ ds : List D, (pyA ds).length = ds.length
  | [] => rfl
  | d :: r => congrArg (· + 1) (pyA_length r)
mutual
theorem Rp.shw (I : Inv X pins σ H s) : ∀ (d : D) (v : V) (u : Value), Rp X.K H v d → RelV v u → d.showy = true → d.py.showable = true → d.py.shown.length ≤ sizeLine → Shw X.prog X.w s.heap u d.py ∧ ∀ a, u = .ref a → Rpr X.prog X.w s.heap a d.py
  | .non, _, _, h, r, _, _, _ => by cases h; cases r; exact ⟨⟨_, [], .none, fun _ z => (nomatch z), .of_is ReprIs.none _ _ _⟩, fun _ z => (nomatch z)⟩
  | .bl b, _, _, h, r, _, _, _ => by cases h; cases r; exact ⟨⟨_, [], .bool b, fun _ z => (nomatch z), .of_is (ReprIs.bool b) _ _ _⟩, fun _ z => (nomatch z)⟩
  | .int i, _, _, h, r, _, p2, _ => by cases h; obtain ⟨t, rfl⟩ := r; exact ⟨⟨_, [], .int i t, fun _ z => (nomatch z), .of_is (ReprIs.int t (by simpa [D.py, PyData.showable] using p2)) _ _ _⟩, fun _ z => (nomatch z)⟩
  | .str x, _, _, h, r, _, _, p3 => by cases h; obtain ⟨t, rfl⟩ := r; exact ⟨⟨_, [], .str x t, fun _ z => (nomatch z), .of_is (ReprIs.str x t (by simpa only [D.py, PyData.shown] using p3)) _ _ _⟩, fun _ z => (nomatch z)⟩
  | .tup ds, _, _, h, r, p, p2, p3 => by
    cases h with
    | tup h1 h2 =>
      cases r
      obtain ⟨its, rv, ⟨o, ho, hc, n, hd⟩, _⟩ := I.tuple h1
      have e := RpA.shw I ds _ its h2 rv p (by simpa only [D.py, PyData.showable] using p2) fun t z => Nat.le_trans (by simpa only [D.py, PyData.shown] using tupleText_mem_le z) p3
      have q := shw_tup ho hc hd e p3
      exact ⟨q.1, fun a z => by cases z; exact q.2⟩
  | .lst ds, _, _, h, r, p, p2, p3 => by
    cases h with
    | @lst a _ _ h1 h2 =>
      cases r
      obtain ⟨its, rv, ⟨o, n, ho, hc, _, hd⟩, _⟩ := I.list h1
      have e := RpA.shw I ds _ its h2 rv p (by simpa only [D.py, PyData.showable] using p2) fun t z => Nat.le_trans (by simpa only [D.py, PyData.shown] using listText_mem_le z) p3
      have q := shw_list ho hc hd e p3
      exact ⟨q.1, fun a z => by cases z; exact q.2⟩
  | .dct ks ds, _, _, h, r, p, p2, p3 => by
    cases h with
    | @dct a kvs _ h1 h2 =>
      cases r
      obtain ⟨hz, hd, vs, rel, dd⟩ := dk_of I.hok h1
      obtain ⟨o, es, ep, ho, hx, hdt, _, pr, _⟩ := dd
      obtain ⟨as, q1, rfl⟩ := key_reads (s := s) pr
      have hl : ((kvs.map (·.1)).map keyPy).length = (pyA ds).length := by
        have := h2.length
        rw [pyA_length, List.length_map, List.length_map]
        simpa using this
      have ek : vs.map (fun p => keyPy p.1) = (kvs.map (·.1)).map keyPy := by rw [← kv_keys rel, List.map_map]; rfl
      have py : D.py (.dct (kvs.map (·.1)) ds) = .dict (((kvs.map (·.1)).map keyPy).zip (pyA ds)) := rfl
      rw [py] at p2 p3 ⊢
      have p3' : (dictText (PyData.shownKv (((kvs.map (·.1)).map keyPy).zip (pyA ds)))).length ≤ sizeLine := by simpa only [PyData.shown] using p3
      obtain ⟨sk, sv⟩ := PyData.showableKv_split _ (show PyData.showableKv (((kvs.map (·.1)).map keyPy).zip (pyA ds)) = true by simpa only [PyData.showable] using p2)
      have lk : ∀ t ∈ PyData.shownAll ((((kvs.map (·.1)).map keyPy).zip (pyA ds)).map (·.1)), t.length ≤ sizeLine := fun t z => by
        obtain ⟨x, hx, hl⟩ := PyData.shownKv_key_le _ t z
        exact Nat.le_trans hl (Nat.le_trans (dictText_mem_le hx) p3')
      have lv : ∀ t ∈ PyData.shownAll ((((kvs.map (·.1)).map keyPy).zip (pyA ds)).map (·.2)), t.length ≤ sizeLine := fun t z => by
        obtain ⟨x, hx, hl⟩ := PyData.shownKv_val_le _ t z
        exact Nat.le_trans hl (Nat.le_trans (dictText_mem_le hx) p3')
      generalize hK : ((kvs.map (·.1)).map keyPy).zip (pyA ds) = K at *
      have e1 : ShwA X.prog X.w s.heap (es.toList.map (·.key)) (K.map (·.1)) := by
        subst hK
        rw [zip_fst hl] at sk lk ⊢
        rw [ek] at q1
        obtain ⟨bs, m, k⟩ := ReprAllK.of_readsAll (prog := X.prog) (w := X.w) q1 sk (fun _ => List.not_mem_nil) lk
        exact ⟨_, bs, q1, m, k⟩
      have e2 : ShwA X.prog X.w s.heap (es.toList.map (·.val)) (K.map (·.2)) := by
        subst hK
        rw [zip_snd hl] at sv lv ⊢
        rw [pairs_vals pr]
        exact RpA.shw I ds _ (vs.map (·.2)) h2 (kv_vals rel) p sv lv
      have q := shw_dct hd ho hx.1 hdt e1 e2 p3
      exact ⟨q.1, fun a z => by cases z; exact q.2⟩
  | .err _ _ _, _, _, _, _, p, _, _ => nomatch p
  | .erb _, _, _, _, _, p, _, _ => nomatch p
theorem RpA.shw (I : Inv X pins σ H s) : ∀ (ds : List D) (vs : List V) (us : List Value), RpA X.K H vs ds → Vals vs us → showyA ds = true → PyData.showableAll (pyA ds) = true → (∀ t ∈ PyData.shownAll (pyA ds), t.length ≤ sizeLine) → ShwA X.prog X.w s.heap us (pyA ds)
  | [], _, _, h, r, _, _, _ => by cases h; cases r; exact shwA_nil
  | d :: ds, _, _, h, r, p, p2, p3 => by
    cases h with
    | cons h1 h2 =>
      cases r with
      | cons r1 r2 =>
        have p' := Bool.and_eq_true_iff.mp p
        have p2' := Bool.and_eq_true_iff.mp (show (d.py.showable && PyData.showableAll (pyA ds)) = true by simpa only [pyA, PyData.showableAll] using p2)
        exact shwA_cons (Rp.shw I d _ _ h1 r1 p'.1 p2'.1 (p3 _ (by simp only [pyA, PyData.shownAll]; exact List.mem_cons_self ..))).1 (RpA.shw I ds _ _ h2 r2 p'.2 p2'.2 fun t z => p3 t (by simp only [pyA, PyData.shownAll]; exact List.mem_cons_of_mem _ z))
end
end
/-- what may be shown: depth up to k, up to n signs -/
def Sw (k n : Nat) (d : D) : Prop := d.showy = true ∧ d.py.showable = true ∧ d.py.depth ≤ k ∧ d.py.shown.length ≤ n
section
variable {X : Cx}
def rRepr2 (K : PySem.W.Frag) : List V → Hp → VK → Prop := fun xs H Q => ∃ (v : V) (d : D), xs = [v] ∧ Rp K H v d ∧ d.showy = true ∧ d.py.showable = true ∧ d.py.depth ≤ 60 ∧ d.py.shown.length ≤ sizeLine ∧ Q (.str d.py.shown) H
theorem call_repr2 (hgd : X.A.guards = some []) {k : Nat} (hr : Room k X.A) (hs : SysOk X.K) : CallR X (.builtin "repr") (rRepr2 X.K) := by
  intro pins s σ H xs us Q I r h
  obtain ⟨v, d, rfl, rp, h1, h2, h3, h4, q⟩ := h
  obtain ⟨u, rfl, ru⟩ : ∃ u, us = [u] ∧ RelV v u := by
    cases r with
    | cons r rr => cases rr; exact ⟨_, rfl, r⟩
  have un := hr.un
  have onref : ∀ a, u = .ref a → wpAny (model X.prog X.w) X.A (call (.builtin "repr") [u]) (EP X pins σ Q) X.xe s := fun a e => by
    have sh := (Rp.shw I d v u rp ru h1 h2 h4).2 a e
    subst e
    exact sh _ _ s _ hgd (by omega) (fun _ _ e => e) fun h' u tk hk => ⟨.str d.py.shown, H, I.kept hk, ⟨u, rfl⟩, q⟩
  cases rp with
  | non => cases ru; exact PySem.P.repr_of_none ⟨.str "None", H, I.tok _, ⟨_, rfl⟩, q⟩
  | bl b => cases ru; exact PySem.P.repr_of_bool ⟨.str (D.py (.bl b)).shown, H, I.tok _, ⟨_, rfl⟩, q⟩
  | int i =>
    obtain ⟨t, rfl⟩ := ru
    exact PySem.P.repr_of_int (by simpa [D.py, PyData.showable] using h2) ⟨.str (D.py (.int i)).shown, H, I.tok _, ⟨_, rfl⟩, q⟩
  | str x =>
    obtain ⟨t, rfl⟩ := ru
    exact PySem.P.repr_of_str ⟨.str (D.py (.str x)).shown, H, I.tok _, ⟨_, rfl⟩, q⟩ h4
  | tup _ _ => cases ru; exact onref _ rfl
  | lst _ _ => cases ru; exact onref _ rfl
  | dct _ _ => cases ru; exact onref _ rfl
  | err _ _ _ => cases h1
  | erb _ => cases h1
def gRepr2 (ss : List S) (_ : Mu) : Option D := match ss with
  | [.d d] => some (.str d.py.shown)
  | _ => none
def cRepr2 (ss : List S) (_ : Mu) : Prop := match ss with
  | [.d d] => Sw 60 1000000 d
  | _ => True
theorem snd_repr2 : SoundA X.K (rRepr2 X.K) (gA cRepr2 gRepr2) := by
  intro vs ss H ad μ Q m r h
  obtain ⟨h1, d, h2, h3⟩ := h
  have big : 1000000 ≤ sizeLine := by decide
  unfold gRepr2 at h2
  split at h2
  · rename_i e
    cases h2
    obtain ⟨v, rfl, r1⟩ := rsa1 r
    exact ⟨v, e, rfl, Rp.mono hide_same r1, h1.1, h1.2.1, h1.2.2.1, Nat.le_trans h1.2.2.2 big, h3 _ H (Step.refl _ _) m (.str _)⟩
  · cases h2
end
end DV

/-! part DX0 -/
set_option Elab.async false
set_option linter.all false
set_option maxRecDepth 100000
set_option maxHeartbeats 1000000
set_option autoImplicit false
/-! several except clauses, with names and without -/
namespace DX
open PySem PySem.Spec PyProof.Rows L2
/-- a clause: its class, the slot of its name, its suite's reading -/
abbrev Cl := Value × Option Nat × (Addr → Value → Option Addr → TS)
def endsBut (i : Nat) (D : Ends) : Ends := { nx := fun σ H => D.nx (σ.set i none) H, rt := D.rt, bk := fun σ H => D.bk (σ.set i none) H, ct := fun σ H => D.ct (σ.set i none) H }
def suiteOf (o : Option Nat) (ts : Addr → Value → Option Addr → TS) (a : Addr) (cls : Value) (d : Option Addr) (D : Ends) (σ : L2.St) (H : Hp) : Prop := match o with
  | none => ts a cls d D σ H
  | some i => ts a cls d (endsBut i D) (σ.set i (some (.ref a))) H
def wCl (K : PySem.W.Frag) (Wout : WX) (D : Ends) : List Cl → WX
  | [] => Wout
  | (c, o, ts) :: r => fun cls d σ H => ∃ b, PySem.W.exmOne K cls c = some b ∧ (b = true → ∀ a, H a = none → suiteOf o ts a cls d D σ H) ∧ (b = false → wCl K Wout D r cls d σ H)
inductive ClsOk (X : Cx) : List ExceptHandler → List Cl → Prop
  | nil : ClsOk X [] []
  | bare {x : Str} {c : Value} {ts : Addr → Value → Option Addr → TS} {st : Stmt} {sts : List Stmt} {np p : Pos} {hds : List ExceptHandler} {l : List Cl} (hc : Names X x c)
      (su : ∀ (a : Addr) (oe : Obj) (cls : Value) (d : Option Addr) (pn : List (Addr × Obj)), Zc cls d oe → (∃ vs, oe.data = .fields vs) → PSs (X.suite a ((a, oe) :: pn)) (st :: sts) (ts a cls d)) (r : ClsOk X hds l) :
      ClsOk X (.ExceptHandler (some (.Name x np)) none (st :: sts) p :: hds) ((c, none, ts) :: l)
  | named {x n : Str} {i : Nat} {c : Value} {ts : Addr → Value → Option Addr → TS} {st : Stmt} {sts : List Stmt} {np p : Pos} {hds : List ExceptHandler} {l : List Cl} (hc : Names X x c) (hi : X.N[i]? = some n) (hn : X.env.kindOf n = some .local)
      (su : ∀ (a : Addr) (oe : Obj) (cls : Value) (d : Option Addr) (pn : List (Addr × Obj)), Zc cls d oe → (∃ vs, oe.data = .fields vs) → PSs (X.suite a ((a, oe) :: pn)) (st :: sts) (ts a cls d)) (r : ClsOk X hds l) :
      ClsOk X (.ExceptHandler (some (.Name x np)) (some n) (st :: sts) p :: hds) ((c, some i, ts) :: l)
section
variable {X : Cx} {Wout : WX}
theorem frs_no {B : Heap} {l : List Env} {h : Heap} {a : Addr} {o : Obj} {vs : Array Value} (ff : h.FunFrames B l) (e : h.get? a = some o) (d : o.data = .fields vs) : a ∉ frs l := fun hm => by
  obtain ⟨_, o', e', nf⟩ := ff.mem hm
  rw [e] at e'
  cases e'
  exact nf _ d
theorem clauses {pins : List (Addr × Obj)} {σ : L2.St} {H : Hp} {D : Ends} {a : Addr} {B : Heap} {sI s' : Shared} {cls : Value} {d : Option Addr} {h3 : Heap} (ok : X.Ok) (hs : X.stack = X.env :: X.outer) (hf : X.env.frame = some X.env.locals) (hN : X.N.Nodup) (tk : Takes X Wout)
    (J : Inv X pins σ H sI) (nb : ∀ b o, sI.heap.get? b = some o → b ∉ frs X.stack → B.get? b = some o) (up3 : sI.heap.UpToSlots h3) (na : H a = none) (os : s'.os = sI.os) (ag : AllBare s'.gens) (fl3 : HandSPX.FlyingZ B (X.env :: X.outer) a (Zc cls d) h3)
    (hfr : X.A.frames = some (X.env :: X.outer)) : ∀ {hds : List ExceptHandler} {l : List Cl}, ClsOk X hds l → wCl X.K Wout D l cls d σ H → wpAny (model X.prog X.w) X.A (handleBy (.ref a) X.env hds) (SP X pins D) X.xe { s' with heap := h3 } := by
  have J3 : Inv X pins σ H { s' with heap := h3 } := J.landed nb fl3.1 up3 os ag
  obtain ⟨oe3, vs3, he3, hz3, hd3⟩ := fl3.there
  have nfr := frs_no fl3.2.2.1 he3 hd3
  have nL : a ≠ X.env.locals := fun z => nfr (List.mem_filterMap.mpr ⟨X.env, List.mem_cons_self, by rw [hf, z]⟩)
  have nF : a ∉ X.fs := fun hm => by
    obtain ⟨e, he, q⟩ := List.mem_filterMap.mp hm
    exact nfr (List.mem_filterMap.mpr ⟨e, List.mem_cons_of_mem _ he, q⟩)
  have S3 := J3.suite he3 hd3 na nL nF
  have LT : PySem.W.Looks (model X.prog X.w) h3 (typeOf (.ref a)) cls := fun A Q E s k q => wpAny_typeOf_ref (k _ _ he3) (by rw [hz3.1]; exact q)
  have ask : ∀ {x : Str} {c : Value} {np : Pos} {Q : Value → Shared → Prop} {E : Value → Shared → Prop}, Names X x c → Q c { s' with heap := h3 } → wpAny (model X.prog X.w) (X.A.mark (some (.ref a))) (eval (.Name x np) X.env) Q E { s' with heap := h3 } := fun {x c np Q E} hc q => by
    obtain ⟨hg, hdbg, hm | ⟨hm, hv, hnn⟩⟩ := hc
    · exact ld_glob (X := X.suite a ((a, oe3) :: (X.pn ++ pins))) S3 hg hm q hdbg
    · exact ld_blt (X := X.suite a ((a, oe3) :: (X.pn ++ pins))) S3 hg hm hv q hnn hdbg
  intro hds l hk
  induction hk with
  | nil =>
    intro w
    refine wpAny_handleBy_nil ?_
    obtain ⟨k1, k2, k3, oe, vs, T, oT, ts', he, hz, hd, h1, hr⟩ := id fl3
    unfold PySem.passOn
    refine wpAny_bind (wpAny_field he hd h1 ?_)
    have e0 : ¬ ((Value.ref T == Value.none) = true) := by simp
    rw [if_neg e0]
    have last : wpAny (model X.prog X.w) X.A (setFlight (.ref a) X.env.frame) (fun _ s4 => wpAny (model X.prog X.w) X.A (throw (.ref a) : Sem Flow) (SP X pins D) X.xe s4) X.xe { s' with heap := h3 } := by
      rw [hf]
      refine HandSPX.setFlight_upZ fl3 fun h4 hh4 up4 => wpAny_throw (tk _ _ ?_)
      have sky : Sky B X.stack a (Zc cls d) X.env.locals h4 := .inr (.inr (by rw [hs]; exact hh4))
      exact ⟨a, B, sI, pins, σ, H, cls, d, rfl, J, nb, up3.trans up4, sky, na, os, ag, w⟩
    first
      | exact wpAny_bind (wpAny_pure (wpAny_bind last))
      | exact wpAny_bind last
  | @bare x c ts st sts np p hds2 l2 hc su r ih =>
    intro w
    obtain ⟨b, hb1, hyes, hno⟩ := w
    refine wpAny_handleBy_cons (codeAny_handlers_test ?_) (by intro q; cases q)
    refine ask hc ((PySem.W.exm_one (M := model X.prog X.w) J3.kIn LT hb1).here ?_)
    cases b with
    | false => exact ih (hno rfl)
    | true =>
      refine codeAny_handlers_suite (HandSPX.lands_againZ fl3 fun h4 fl4 up4 => ?_)
      have J4 : Inv X pins σ H { s' with heap := h4 } := J.landed nb fl4.1 (up3.trans up4) os ag
      obtain ⟨oe4, vs4, he4, hz4, hd4⟩ := fl4.there
      have S4 := J4.suite he4 hd4 na nL nF
      refine wpAny_mono ((su a oe4 cls d (X.pn ++ pins) hz4 ⟨_, hd4⟩).run [] _ _ H _ S4 (hyes rfl a na)) (fun f s6 q6 => ?_) (fun _ _ z => False.elim z)
      cases f with
      | next => exact let ⟨σ6, H6, S6, q⟩ := q6; ⟨_, _, S6.unsuite ok, q⟩
      | brk => exact let ⟨σ6, H6, S6, q⟩ := q6; ⟨_, _, S6.unsuite ok, q⟩
      | cont => exact let ⟨σ6, H6, S6, q⟩ := q6; ⟨_, _, S6.unsuite ok, q⟩
      | ret u => exact let ⟨v6, σ6, H6, S6, r6, q⟩ := q6; ⟨_, _, _, S6.unsuite ok, r6, q⟩
  | @named x n i c ts st sts np p hds2 l2 hc hi hn su r ih =>
    intro w
    obtain ⟨b, hb1, hyes, hno⟩ := w
    refine wpAny_handleBy_cons (codeAny_handlers_test ?_) (by intro q; cases q)
    refine ask hc ((PySem.W.exm_one (M := model X.prog X.w) J3.kIn LT hb1).here ?_)
    cases b with
    | false => exact ih (hno rfl)
    | true =>
      refine codeAny_handlers_suite_as (HandSPX.lands_againZ fl3 fun h4 fl4 up4 => ?_)
      have J4 : Inv X pins σ H { s' with heap := h4 } := J.landed nb fl4.1 (up3.trans up4) os ag
      obtain ⟨oe4, vs4, he4, hz4, hd4⟩ := fl4.there
      have S4 := J4.suite he4 hd4 na nL nF
      refine store_ok (X := X.suite a ((a, oe4) :: (X.pn ++ pins))) (v := .ref a) S4 hN hi (.inl hn) rfl (fun s5 S5 => ?_) (.inr hn)
      refine wpAny_mono ((su a oe4 cls d (X.pn ++ pins) hz4 ⟨_, hd4⟩).run [] s5 _ H _ S5 (hyes rfl a na)) (fun f s6 q6 => ?_) (fun _ _ z => False.elim z)
      have out : ∀ {σ6 : L2.St} {H6 : Hp} {Q : Shared → Prop}, Inv (X.suite a ((a, oe4) :: (X.pn ++ pins))) [] σ6 H6 s6 → (∀ s7, Inv X pins (σ6.set i none) H6 s7 → Q s7) →
          wpAny (model X.prog X.w) X.A (do bindName X.env n .none; unbindBehindTheSuite X.env n p) (fun _ s7 => Q s7) X.xe s6 := fun {σ6 H6 Q} S6 hq => gone_ok (S6.unsuite ok) hN hi hn hq
      cases f with
      | next => exact let ⟨σ6, H6, S6, q⟩ := q6; out S6 fun s7 J7 => ⟨_, _, J7, q⟩
      | brk => exact let ⟨σ6, H6, S6, q⟩ := q6; out S6 fun s7 J7 => ⟨_, _, J7, q⟩
      | cont => exact let ⟨σ6, H6, S6, q⟩ := q6; out S6 fun s7 J7 => ⟨_, _, J7, q⟩
      | ret u => exact let ⟨v6, σ6, H6, S6, r6, q⟩ := q6; out S6 fun s7 J7 => ⟨_, _, _, J7, r6, q⟩
theorem ps_try {body : List Stmt} {h₀ : ExceptHandler} {hds : List ExceptHandler} {l : List Cl} {pos : Pos} {tb : WX → TS} (hs : X.stack = X.env :: X.outer) (hf : X.env.frame = some X.env.locals) (hN : X.N.Nodup) (tk : Takes X Wout)
    (hb : ∀ (W : WX) (pn : List (Addr × Obj)) (xe : Value → Shared → Prop), Takes (X.tr pn xe) W → PassesOwn (model X.prog X.w) X.A X.env xe → PSs (X.tr pn xe) body (tb W)) (hh : ClsOk X (h₀ :: hds) l) :
    PS X (.Try body (h₀ :: hds) [] [] pos) (fun D σ H => tb (wCl X.K Wout D l) D σ H) := by
  refine ⟨fun pins s σ H D I h => ?_⟩
  have ok := I.ok
  have hfr : X.A.frames = some (X.env :: X.outer) := by rw [ok.frames, hs]
  have B0 := hb (wCl X.K Wout D l) (X.pn ++ pins) (fun e s₁ => wpAny (model X.prog X.w) X.A (noteFrame e X.env) (fun _ s₂ => wpAny (model X.prog X.w) X.A (setFlight e none) (fun _ s₃ => wpAny (model X.prog X.w) X.A (handleBy e X.env (h₀ :: hds)) (SP X pins D) X.xe s₃) X.xe s₂) X.xe s₁)
    (fun u s' xx => ?_) PassesOwn.looking
  · refine wpAny_Try_except (wpAny_mono (B0.run [] s σ H D (I.toTry _) h) (fun f s1 q1 => ?_) fun e s1 he => he)
    cases f with
    | next => exact let ⟨σ', H', J', q⟩ := q1; wpAny_execs_nil ⟨σ', H', J'.ofTry ok, q⟩
    | brk => exact let ⟨σ', H', J', q⟩ := q1; ⟨σ', H', J'.ofTry ok, q⟩
    | cont => exact let ⟨σ', H', J', q⟩ := q1; ⟨σ', H', J'.ofTry ok, q⟩
    | ret u => exact let ⟨v, σ', H', J', r, q⟩ := q1; ⟨v, σ', H', J'.ofTry ok, r, q⟩
  · obtain ⟨a, B, sI, pins', σ', H', cls, d, rfl, J', nb, up, sky, na, os, ag, w⟩ := xx
    have J : Inv X pins σ' H' sI := J'.ofTry ok
    have sky' : Sky B (X.env :: X.outer) a (Zc cls d) X.env.locals s'.heap := by rw [← hs]; exact sky
    show wpAny (model X.prog X.w) X.A (noteFrame (.ref a) X.env) _ _ _
    exact Sky.land Zc.steady hfr hf sky' fun h3 fl3 up3 => clauses ok hs hf hN tk J nb (up.trans up3) na os ag fl3 hfr hh w
end
end DX

/-! part DX -/
set_option Elab.async false
set_option linter.all false
set_option maxRecDepth 100000
set_option maxHeartbeats 1000000
set_option autoImplicit false
/-! errors as data: made, asked, raised, caught -/
namespace DV
open PySem PySem.Spec L2
open PyProof.Rows (envOfC)
section
variable {X : Cx} {W : WX} {C : Addr} {f x : Str} {p pos kpos : Pos} {e : Expr} {ta : TA}
/-! ### C(e), C(f=e) -/
def tMk (C : Addr) (f : Str) (ta : TA) : TE := fun σ H Q => ta σ H fun vs H1 => ∃ y, vs = [y] ∧ ∀ a dx, H1 a = none → H1 dx = none → dx ≠ a → Q (.ref a) (upd (upd H1 dx (exd dx [(f, y)])) a (exo a C (some dx)))
def tMkX (C : Addr) (f : Str) (ta : TA) : L2.St → Hp → XK → Prop := fun σ H Q => ta σ H fun vs H1 => ∃ y, vs = [y] ∧ ∀ dx, H1 dx = none → Q (.ref C) (some dx) (upd H1 dx (.xd [(f, y)]))
theorem pe_mk (T : EM.MkC X.prog X.K C f) (hr : Room 1 X.A) (hg : Gl X x) (hm : X.mg x = some (.ref C)) (ha : PA X [e] ta) (hdb : (x == ("__debug__" : Str)) = false := by decide) (hs : starEach [e] X.env = (false, eval e X.env) :: starEach [] X.env := by rfl) :
    PE X (.Call (.Name x p) [e] [] pos) (tMk C f ta) := by
  refine ⟨fun pins s σ H Q I h => ?_⟩
  refine wpAny_Call_Name_kw (ld_glob I hg hm ?_ hdb)
  refine PySem.W.callWith_K (h₀ := X.base) I.ok.mod.kin T.kp (thn (ha.run pos pins s σ H _ I h) fun us s1 ⟨vs, H1, I1, r1, y, e1, q1⟩ => ⟨I1.kIn, ?_⟩) hs (by rfl)
  subst e1
  cases r1 with
  | cons r1 r2 => cases r2; exact EM.mk_inv T I1 hr r1 (.inl ⟨rfl, rfl⟩) q1
theorem pmk_mk (T : EM.MkC X.prog X.K C f) (hr : Room 1 X.A) (hg : Gl X x) (hm : X.mg x = some (.ref C)) (ha : PA X [e] ta) (hdb : (x == ("__debug__" : Str)) = false := by decide) (hs : starEach [e] X.env = (false, eval e X.env) :: starEach [] X.env := by rfl) :
    PMk X (.Call (.Name x p) [e] [] pos) (tMkX C f ta) := by
  intro pins s σ H Q I h
  refine wpAny_Call_Name_kw (ld_glob I hg hm ?_ hdb)
  refine PySem.W.callWith_K (h₀ := X.base) I.ok.mod.kin T.kp (thn (ha.run pos pins s σ H _ I h) fun us s1 ⟨vs, H1, I1, r1, y, e1, q1⟩ => ⟨I1.kIn, ?_⟩) hs (by rfl)
  subst e1
  cases r1 with
  | cons r1 r2 => cases r2; exact EM.mk_mkp T I1 hr r1 (.inl ⟨rfl, rfl⟩) q1
theorem pe_mkK (T : EM.MkC X.prog X.K C f) (hr : Room 1 X.A) (hg : Gl X x) (hm : X.mg x = some (.ref C)) (hk : PK X [⟨some f, e, kpos⟩] ta) (hdb : (x == ("__debug__" : Str)) = false := by decide)
    (hpl : ((backTo pos (starEach [] X.env)).any (·.1) || (backToKw pos (keywordEach [⟨some f, e, kpos⟩] X.env)).any (·.1.isNone)) = false := by rfl) (hall : (backToKw pos (keywordEach [⟨some f, e, kpos⟩] X.env)).all (·.1.isSome) = true := by rfl)
    (hks : (backToKw pos (keywordEach [⟨some f, e, kpos⟩] X.env)).filterMap (·.1) = [f] := by rfl) : PE X (.Call (.Name x p) [] [⟨some f, e, kpos⟩] pos) (tMk C f ta) := by
  refine ⟨fun pins s σ H Q I h => ?_⟩
  refine wpAny_Call_Name_kw (ld_glob I hg hm ?_ hdb)
  refine PySem.W.callWith_KW0 (h₀ := X.base) I.ok.mod.kin T.kp hall (thn (hk.run pos pins s σ H _ I h) fun us s1 ⟨vs, H1, I1, r1, y, e1, q1⟩ => ⟨I1.kIn, ?_⟩) hpl
  subst e1
  cases r1 with
  | cons r1 r2 => cases r2; rw [hks]; exact EM.mk_inv T I1 hr r1 (.inr ⟨rfl, rfl⟩) q1
theorem pmk_mkK (T : EM.MkC X.prog X.K C f) (hr : Room 1 X.A) (hg : Gl X x) (hm : X.mg x = some (.ref C)) (hk : PK X [⟨some f, e, kpos⟩] ta) (hdb : (x == ("__debug__" : Str)) = false := by decide)
    (hpl : ((backTo pos (starEach [] X.env)).any (·.1) || (backToKw pos (keywordEach [⟨some f, e, kpos⟩] X.env)).any (·.1.isNone)) = false := by rfl) (hall : (backToKw pos (keywordEach [⟨some f, e, kpos⟩] X.env)).all (·.1.isSome) = true := by rfl)
    (hks : (backToKw pos (keywordEach [⟨some f, e, kpos⟩] X.env)).filterMap (·.1) = [f] := by rfl) : PMk X (.Call (.Name x p) [] [⟨some f, e, kpos⟩] pos) (tMkX C f ta) := by
  intro pins s σ H Q I h
  refine wpAny_Call_Name_kw (ld_glob I hg hm ?_ hdb)
  refine PySem.W.callWith_KW0 (h₀ := X.base) I.ok.mod.kin T.kp hall (thn (hk.run pos pins s σ H _ I h) fun us s1 ⟨vs, H1, I1, r1, y, e1, q1⟩ => ⟨I1.kIn, ?_⟩) hpl
  subst e1
  cases r1 with
  | cons r1 r2 => cases r2; rw [hks]; exact EM.mk_mkp T I1 hr r1 (.inr ⟨rfl, rfl⟩) q1
/-- as data -/
def fMk (C : Addr) (f : Str) (g : SA) : SE := fun ρ μ P => g ρ μ fun ss μ1 => ∃ d, ss = [.d d] ∧ P (.d (.err C f d)) μ1
theorem err_new {K : PySem.W.Frag} {H : Hp} {ad : List Addr} {μ : Mu} {a dx : Addr} {v : V} {d : D} (m : RpM K H ad μ) (r : Rp K (hide ad H) v d) (h1 : H a = none) (h2 : H dx = none) (hne : dx ≠ a) :
    Step ad H ad (upd (upd H dx (exd dx [(f, v)])) a (exo a C (some dx))) ∧ RpM K (upd (upd H dx (exd dx [(f, v)])) a (exo a C (some dx))) ad μ ∧ Rp K (hide ad (upd (upd H dx (exd dx [(f, v)])) a (exo a C (some dx)))) (.ref a) (.err C f d) := by
  have s1 : Step ad H ad (upd H dx (exd dx [(f, v)])) := Step.new h2
  have m1 := m.new (o := exd dx [(f, v)]) h2
  have n1 : upd H dx (exd dx [(f, v)]) a = none := by rw [upd_ne (Ne.symm hne)]; exact h1
  have s2 : Step ad (upd H dx (exd dx [(f, v)])) ad (upd (upd H dx (exd dx [(f, v)])) a (exo a C (some dx))) := Step.new n1
  have m2 := m1.new (o := exo a C (some dx)) n1
  have st := s1.trans s2
  refine ⟨st, m2, .err (dx := dx) (v := v) ?_ ?_ (r.mono st.same)⟩
  · rw [hide_out (m1.fresh n1)]; exact upd_same
  · rw [hide_out (m.fresh h2), upd_ne hne]; exact upd_same
theorem mk_imp {g : SA} (mg : MonE g) (σ : L2.St) (H : Hp) (Q : VK) (q : teOf X.K (fMk C f g) σ H Q) : tMk C f (taOf X.K g) σ H Q := by
  obtain ⟨ad, ρ, μ, s, q⟩ := q
  refine ⟨ad, ρ, μ, s, mg ρ μ _ _ (fun ss μ1 ⟨d, e1, q⟩ vs H1 t1 m1 r1 => ?_) q⟩
  subst e1
  obtain ⟨v, rfl, r2⟩ := rsa1 r1
  refine ⟨v, rfl, fun a dx h1 h2 hne => ?_⟩
  obtain ⟨st, m2, r3⟩ := err_new m1 r2 h1 h2 hne
  exact q _ _ (t1.trans st) m2 r3
theorem mon_mk {g : SA} (mg : MonE g) : MonE (fMk C f g) := fun ρ μ P P' k q => mg ρ μ _ _ (fun ss μ1 ⟨d, e1, q⟩ => ⟨d, e1, k _ _ q⟩) q
theorem pd_mk {g : SA} (T : EM.MkC X.prog X.K C f) (hr : Room 1 X.A) (hg : Gl X x) (hm : X.mg x = some (.ref C)) (ha : PDA X [e] g) (hdb : (x == ("__debug__" : Str)) = false := by decide) (hs : starEach [e] X.env = (false, eval e X.env) :: starEach [] X.env := by rfl) :
    PD X (.Call (.Name x p) [e] [] pos) (fMk C f g) := ⟨mon_mk ha.mo, (pe_mk T hr hg hm ha.run hdb hs).of (mk_imp ha.mo)⟩
theorem pd_mkK {g : SA} (T : EM.MkC X.prog X.K C f) (hr : Room 1 X.A) (hg : Gl X x) (hm : X.mg x = some (.ref C)) (hk : PDK X [⟨some f, e, kpos⟩] g) (hdb : (x == ("__debug__" : Str)) = false := by decide)
    (hpl : ((backTo pos (starEach [] X.env)).any (·.1) || (backToKw pos (keywordEach [⟨some f, e, kpos⟩] X.env)).any (·.1.isNone)) = false := by rfl) (hall : (backToKw pos (keywordEach [⟨some f, e, kpos⟩] X.env)).all (·.1.isSome) = true := by rfl)
    (hks : (backToKw pos (keywordEach [⟨some f, e, kpos⟩] X.env)).filterMap (·.1) = [f] := by rfl) : PD X (.Call (.Name x p) [] [⟨some f, e, kpos⟩] pos) (fMk C f g) := ⟨mon_mk hk.mo, (pe_mkK T hr hg hm hk.run hdb hpl hall hks).of (mk_imp hk.mo)⟩
/-- raise C(e) -/
def fRaise (C : Addr) (f : Str) (g : SA) : SS := fun ρ μ k => g ρ μ fun ss μ1 => ∃ d, ss = [.d d] ∧ k.er (.err C f d) ρ μ1
theorem mon_raise {g : SA} (mg : MonE g) : MonS (fRaise C f g) := fun ρ μ k k' l q => mg ρ μ _ _ (fun ss μ1 ⟨d, e1, q⟩ => ⟨d, e1, l.er _ _ _ q⟩) q
theorem xd_new {K : PySem.W.Frag} {H : Hp} {ad : List Addr} {μ : Mu} {dx : Addr} {v : V} {d : D} (m : RpM K H ad μ) (r : Rp K (hide ad H) v d) (h2 : H dx = none) :
    Step ad H ad (upd H dx (.xd [(f, v)])) ∧ RpM K (upd H dx (.xd [(f, v)])) ad μ ∧ RpX K (hide ad (upd H dx (.xd [(f, v)]))) (.ref C) (some dx) (.err C f d) := by
  have st : Step ad H ad (upd H dx (.xd [(f, v)])) := Step.new h2
  refine ⟨st, m.new h2, rfl, dx, v, rfl, ?_, r.mono st.same⟩
  rw [hide_out (m.fresh h2)]; exact upd_same
theorem raise_imp {g : SA} (mg : MonE g) (Dn : Ends) (σ : L2.St) (H : Hp) (q : tsOf X.K W (fRaise C f g) Dn σ H) : tMkX C f (taOf X.K g) σ H fun cls d H' => W cls d σ H' := by
  obtain ⟨ad, ρ, μ, s, q⟩ := q
  refine ⟨ad, ρ, μ, s, mg ρ μ _ _ (fun ss μ1 ⟨d, e1, q⟩ vs H1 t1 m1 r1 => ?_) q⟩
  subst e1
  obtain ⟨v, rfl, r2⟩ := rsa1 r1
  refine ⟨v, rfl, fun dx h2 => ?_⟩
  obtain ⟨st, m2, r3⟩ := xd_new (f := f) (C := C) m1 r2 h2
  exact q _ _ σ _ ad (t1.trans st) (s.step (t1.trans st) m2) r3
theorem pds_raise {g : SA} {pos2 : Pos} (hc : X.calm = true) (tk : Takes X W) (T : EM.MkC X.prog X.K C f) (hr : Room 1 X.A) (hg : Gl X x) (hm : X.mg x = some (.ref C)) (ha : PDA X [e] g) (hdb : (x == ("__debug__" : Str)) = false := by decide)
    (hs : starEach [e] X.env = (false, eval e X.env) :: starEach [] X.env := by rfl) : PDS X W (.Raise (some (.Call (.Name x p) [e] [] pos)) none pos2) (fRaise C f g) :=
  ⟨mon_raise ha.mo, (ps_raise hc tk (pmk_mk T hr hg hm ha.run hdb hs)).of (raise_imp ha.mo)⟩
theorem pds_raiseK {g : SA} {pos2 : Pos} (hc : X.calm = true) (tk : Takes X W) (T : EM.MkC X.prog X.K C f) (hr : Room 1 X.A) (hg : Gl X x) (hm : X.mg x = some (.ref C)) (hk : PDK X [⟨some f, e, kpos⟩] g) (hdb : (x == ("__debug__" : Str)) = false := by decide)
    (hpl : ((backTo pos (starEach [] X.env)).any (·.1) || (backToKw pos (keywordEach [⟨some f, e, kpos⟩] X.env)).any (·.1.isNone)) = false := by rfl) (hall : (backToKw pos (keywordEach [⟨some f, e, kpos⟩] X.env)).all (·.1.isSome) = true := by rfl)
    (hks : (backToKw pos (keywordEach [⟨some f, e, kpos⟩] X.env)).filterMap (·.1) = [f] := by rfl) : PDS X W (.Raise (some (.Call (.Name x p) [] [⟨some f, e, kpos⟩] pos)) none pos2) (fRaise C f g) :=
  ⟨mon_raise hk.mo, (ps_raise hc tk (pmk_mkK T hr hg hm hk.run hdb hpl hall hks)).of (raise_imp hk.mo)⟩
end
end DV

/-! part DX2 -/
set_option Elab.async false
set_option linter.all false
set_option maxRecDepth 100000
set_option maxHeartbeats 1000000
set_option autoImplicit false
namespace DV
open PySem PySem.Spec L2 PyProof.Rows
/-- a class of errors without attributes -/
structure BareC (K : PySem.W.Frag) (C : Addr) : Prop where
  ex : PySem.W.excIn K C HandSPX.veTail "ValueError.__new__" = true
  kp : PySem.W.keepIn K (.ref C) = true
  exB : PySem.W.subIn K (.ref C) (.type "BaseException") = some true
  tyC : PySem.W.typeIn K (.ref C) = some (.type "type")
section
variable {X : Cx} {W : WX} {C : Addr} {f x : Str} {p pos kpos : Pos} {e : Expr} {te : TE}
theorem pe_bare (T : BareC X.K C) (hg : Gl X x) (hm : X.mg x = some (.ref C)) (hdb : (x == ("__debug__" : Str)) = false := by decide) : PE X (.Call (.Name x p) [] [] pos) (fun _ H Q => ∀ a, H a = none → Q (.ref a) (upd H a (ExO (.ref C) a))) := by
  refine ⟨fun pins s σ H Q I h => ?_⟩
  refine wpAny_Call_Name_kw (ld_glob I hg hm (PySem.W.callWith_K0 I.kIn T.kp ?_) hdb)
  obtain ⟨bm, N, nm, qn, bs, hdct, sn, sub, ab, col, dd, k0, k1, k2, k3, k5, mN, hC, hN, hni, TT⟩ := exc_obj I.kIn T.ex
  refine wpAny_call_exc_subT F.excBase_ValueError TT hC hN hni (fun h' a hm => ?_) (Nat.zero_le _)
  have hn : H a = none := I.hok.gone hm.new
  obtain ⟨t, ht, _, _⟩ := hm.there
  exact ⟨.ref a, upd H a (ExO (.ref C) a), I.laidN hm.keeps hm.new hn (exO_ok ht ⟨rfl, rfl⟩ rfl rfl rfl (show 4 < 6 by decide)), rfl, h a hn⟩
theorem pmk_bare (T : BareC X.K C) (hg : Gl X x) (hm : X.mg x = some (.ref C)) (hdb : (x == ("__debug__" : Str)) = false := by decide) : PMk X (.Call (.Name x p) [] [] pos) (fun _ H Q => Q (.ref C) none H) := by
  intro pins s σ H Q I h
  refine wpAny_Call_Name_kw (ld_glob I hg hm (PySem.W.callWith_K0 I.kIn T.kp ?_) hdb)
  obtain ⟨bm, N, nm, qn, bs, hdct, sn, sub, ab, col, dd, k0, k1, k2, k3, k5, mN, hC, hN, hni, TT⟩ := exc_obj I.kIn T.ex
  refine wpAny_call_exc_subT F.excBase_ValueError TT hC hN hni (fun h' a hm => ?_) (Nat.zero_le _)
  exact mk_of I hm (raises_own T.exB T.tyC) h (I.hok.gone hm.new)
def fBare (C : Addr) : SE := fun _ μ P => P (.d (.erb C)) μ
theorem pd_bare (T : BareC X.K C) (hg : Gl X x) (hm : X.mg x = some (.ref C)) (hdb : (x == ("__debug__" : Str)) = false := by decide) : PD X (.Call (.Name x p) [] [] pos) (fBare C) := by
  refine ⟨fun ρ μ P P' k q => k _ _ q, (pe_bare T hg hm hdb).of fun σ H Q q a ha => ?_⟩
  obtain ⟨ad, ρ, μ, s, q⟩ := q
  have st : Step ad H ad (upd H a (ExO (.ref C) a)) := Step.new ha
  exact q _ _ st (s.m.new ha) (.erb (by rw [hide_out (s.m.fresh ha)]; exact upd_same))
def fRaise0 (C : Addr) : SS := fun ρ μ k => k.er (.erb C) ρ μ
theorem pds_raise0 {pos2 : Pos} (hc : X.calm = true) (tk : Takes X W) (T : BareC X.K C) (hg : Gl X x) (hm : X.mg x = some (.ref C)) (hdb : (x == ("__debug__" : Str)) = false := by decide) : PDS X W (.Raise (some (.Call (.Name x p) [] [] pos)) none pos2) (fRaise0 C) := by
  refine ⟨fun ρ μ k k' l q => l.er _ _ _ q, (ps_raise hc tk (pmk_bare T hg hm hdb)).of fun Dn σ H q => ?_⟩
  obtain ⟨ad, ρ, μ, s, q⟩ := q
  exact q (.ref C) none σ H ad (Step.refl _ _) s ⟨rfl, rfl⟩
/-! ### e.f -/
/-- the class at C lets the attribute f of its errors be read -/
structure AttC (K : PySem.W.Frag) (C : Addr) (f : Str) : Prop where
  xf : XfC K C
  no : PySem.W.findIn K (.ref C) f = some none
def tEa (K : PySem.W.Frag) (f : Str) (te : TE) : TE := fun σ H Q => te σ H fun x H1 => ∃ (a C dx : Addr) (fs : List (Str × V)) (v : V), x = .ref a ∧ H1 a = some (exo a C (some dx)) ∧ H1 dx = some (exd dx fs) ∧ fs.lookup f = some v ∧ AttC K C f ∧ Q v H1
theorem pe_ea (he : PE X e te) (hb : attributeBase e f X.env (eval e X.env) = eval e X.env := by rfl) : PE X (.Attribute e f pos) (tEa X.K f te) := by
  refine ⟨fun pins s σ H Q I h => attr_of hb (thn (he.run pins s σ H _ I h) fun u s1 hh => ?_)⟩
  obtain ⟨x, H1, I1, rx, a, C, dx, fs, v, ex, ea, ed, hl, T, q⟩ := hh
  subst ex
  obtain rfl : u = Value.ref a := rx
  obtain ⟨t1, ho⟩ := exo_at I1.hok ea
  obtain ⟨mA, hns, rel⟩ := exd_at I1.hok ed
  obtain ⟨od, hod, hlk⟩ := lookIn_ns hns
  obtain ⟨u, hu, ru⟩ := RelO.some_of (v := v) (o := mA f) (by rw [← hl]; exact rel f)
  have J : PySem.W.InstAt s1.heap a _ C (some od) := ⟨ho, rfl, rfl, hod⟩
  exact HandSPX.exc_get I1.kIn J T.xf.ga T.xf.gg T.xf.exC (PySem.W.findObj_own T.xf.hdC T.no rfl (by rw [hlk, hu])) (handed_of ru) ⟨v, H1, I1.tok _, ru, q⟩
def fAtt (K : PySem.W.Frag) (f : Str) (g : SE) : SE := fun ρ μ P => g ρ μ fun y μ1 => ∃ C d, y = .d (.err C f d) ∧ AttC K C f ∧ P (.d d) μ1
theorem pd_att {g : SE} (he : PD X e g) (hb : attributeBase e f X.env (eval e X.env) = eval e X.env := by rfl) : PD X (.Attribute e f pos) (fAtt X.K f g) := by
  refine ⟨fun ρ μ P P' k q => he.mo ρ μ _ _ (fun y μ1 ⟨C, d, e1, T, q⟩ => ⟨C, d, e1, T, k _ _ q⟩) q, (pe_ea he.run hb).of fun σ H Q q => ?_⟩
  obtain ⟨ad, ρ, μ, s, q⟩ := q
  refine ⟨ad, ρ, μ, s, he.mo ρ μ _ _ (fun y μ1 ⟨C, d, e1, T, q⟩ v H1 t1 m1 r1 => ?_) q⟩
  subst e1
  cases r1 with
  | @err a dx C f v x h1 h2 h3 => exact ⟨a, C, dx, [(f, v)], v, rfl, (hide_some h1).2, (hide_some h2).2, by simp [List.lookup], T, q _ H1 t1 m1 h3⟩
/-! ### isinstance(e, ..) -/
/-- an error at a, of the class at C -/
def ErAt (H : Hp) (a C : Addr) : Prop := (∃ dx fs, H a = some (exo a C (some dx)) ∧ H dx = some (exd dx fs)) ∨ H a = some (ExO (.ref C) a)
theorem er_kit {pins : List (Addr × Obj)} {σ : L2.St} {H : Hp} {s : Shared} {a : Addr} (I : Inv X pins σ H s) (E : ErAt H a C) (T : ExcC X.K C) : ∃ Q : Heap → Prop, PySem.W.KitX X.K (.ref a) (.ref C) Q ∧ Q s.heap := by
  have hc : (PySem.W.clsIn X.K C).isSome = true := by
    obtain ⟨cd, hc, _⟩ := PySem.W.any_some T.hd
    rw [hc]; rfl
  rcases E with ⟨dx, fs, e1, e2⟩ | e1
  · obtain ⟨t1, ho⟩ := exo_at I.hok e1
    obtain ⟨mA, ⟨oD, es, ep, hoD, _⟩, rel⟩ := exd_at I.hok e2
    exact ⟨_, PySem.W.kitx_exc (od := some oD) hc T.hg T.hk T.hs T.ha T.hn T.ht T.hm, ⟨ho, rfl, rfl, hoD⟩⟩
  · obtain ⟨⟨oe, vs, ho, hz, hd, _⟩, _, _⟩ := I.hok a _ e1
    obtain ⟨oc, od, dt, sl⟩ := oe
    obtain ⟨z1, z2⟩ := hz
    dsimp only at z1 z2 hd
    subst z1 z2 hd
    exact ⟨_, PySem.W.kitx_exc (od := none) hc T.hg T.hk T.hs T.ha T.hn T.ht T.hm, ⟨ho, rfl, rfl, trivial⟩⟩
def rIsX (K : PySem.W.Frag) : List V → Hp → VK → Prop := fun xs H Q => ∃ (a C : Addr) (c : V) (u : Value) (b : Bool), xs = [.ref a, c] ∧ ClsV c u ∧ ErAt H a C ∧ ExcC K C ∧ PySem.W.kitOne K (.ref C) u = some b ∧ Q (.bl b) H
def rIsXT (K : PySem.W.Frag) : List V → Hp → VK → Prop := fun xs H Q => ∃ (a C tp : Addr) (cs : List V) (us : List Value) (b : Bool), xs = [.ref a, .ref tp] ∧ H tp = some (.tup cs) ∧ Paired ClsV cs us ∧ ErAt H a C ∧ ExcC K C ∧ PySem.W.kitAny K (.ref C) us = some b ∧ Q (.bl b) H
theorem call_isX : CallR X (.builtin "isinstance") (rIsX X.K) := by
  intro pins s σ H xs us Q I r h
  obtain ⟨a, C, c, u, b, rfl, k, E, T, e, q⟩ := h
  obtain ⟨u1, u2, rfl, r1, r2⟩ := vals2 r
  obtain rfl := k.eq r2
  obtain rfl : u1 = Value.ref a := r1
  obtain ⟨Y, Z, y⟩ := er_kit I E T
  exact PySem.W.kia_one Z I.kIn y e (fun z => nomatch z) fun tk => ⟨.bl b, H, I.tok tk, rfl, q⟩
theorem call_isXT : CallR X (.builtin "isinstance") (rIsXT X.K) := by
  intro pins s σ H xs us Q I r h
  obtain ⟨a, C, tp, cs, ws, b, rfl, hT, k, E, T, e, q⟩ := h
  obtain ⟨u1, u2, rfl, r1, r2⟩ := vals2 r
  obtain rfl : u1 = Value.ref a := r1
  obtain rfl : u2 = Value.ref tp := r2
  obtain ⟨Y, Z, y⟩ := er_kit I E T
  obtain ⟨_, its, rv, o, h1, h2, n, h3⟩ := (show ObjOk X.prog X.w H s.heap tp (.tup cs) from I.hok tp _ hT)
  obtain rfl := ClsV.all k rv
  obtain ⟨oc, od, dt, sl⟩ := o
  simp only at h2 h3
  subst h2 h3
  exact PySem.W.kia_tup Z I.kIn y h1 e (fun z => nomatch z) fun tk => ⟨.bl b, H, I.tok tk, rfl, q⟩
def errOf : S → Option Addr
  | .d (.err C _ _) => some C
  | .d (.erb C) => some C
  | _ => none
theorem errOf_at {K : PySem.W.Frag} {ad : List Addr} {H : Hp} {v : V} {y : S} {C : Addr} (r : RpS K (hide ad H) ad v y) (h : errOf y = some C) : ∃ a, v = .ref a ∧ ErAt H a C := by
  unfold errOf at h
  split at h
  · cases h
    cases r with
    | err h1 h2 h3 => exact ⟨_, rfl, .inl ⟨_, _, (hide_some h1).2, (hide_some h2).2⟩⟩
  · cases h
    cases r with
    | erb h1 => exact ⟨_, rfl, .inr (hide_some h1).2⟩
  · cases h
def fIsX (K : PySem.W.Frag) (u : Value) (g : SE) : SE := fun ρ μ P => g ρ μ fun y μ1 => ∃ C b, errOf y = some C ∧ ExcC K C ∧ PySem.W.kitOne K (.ref C) u = some b ∧ P (.d (.bl b)) μ1
theorem mon_isX {K : PySem.W.Frag} {u : Value} {g : SE} (m : MonE g) : MonE (fIsX K u g) := fun ρ μ P P' k q => m ρ μ _ _ (fun y μ1 ⟨C, b, e1, T, e2, q⟩ => ⟨C, b, e1, T, e2, k _ _ q⟩) q
theorem isX_imp {u : Value} {c : V} {g : SE} (hu : ClsV c u) (m : MonE g) (σ : L2.St) (H : Hp) (Q : VK) (q : teOf X.K (fIsX X.K u g) σ H Q) : tCB (rIsX X.K) (tCons (teOf X.K g) (tCons (tC c) tNil)) σ H Q := by
  obtain ⟨ad, ρ, μ, s, q⟩ := q
  refine ⟨ad, ρ, μ, s, m ρ μ _ _ (fun y μ1 ⟨C, b, e1, T, e2, q⟩ v H1 t1 m1 r1 => ?_) q⟩
  obtain ⟨a, rfl, E⟩ := errOf_at r1 e1
  exact ⟨a, C, c, u, b, rfl, hu, E, T, e2, q _ H1 t1 m1 (.bl _)⟩
theorem pd_isOwn {n : Str} {D : Addr} {p2 : Pos} {g : SE} (h : PD X e g) (hg : Gl X "isinstance") (hm : X.mg "isinstance" = none) (hg2 : Gl X n) (hm2 : X.mg n = some (.ref D)) (hd2 : (n == ("__debug__" : Str)) = false := by decide)
    (hs : starEach [e, .Name n p2] X.env = (false, eval e X.env) :: starEach [.Name n p2] X.env := by rfl) (hs2 : starEach [.Name n p2] X.env = (false, eval (.Name n p2) X.env) :: starEach [] X.env := by rfl)
    (hpl : (backTo pos (starEach [.Name n p2] X.env)).any (·.1) = false := by rfl) : PD X (.Call (.Name "isinstance" p) [e, .Name n p2] [] pos) (fIsX X.K (.ref D) g) :=
  ⟨mon_isX h.mo, (pe_callB call_isX hg hm bt_isi (pa_cons h.run (pa_cons (pe_glob (v := .ref D) hg2 hm2 rfl hd2) pa_nil hs2) hs) (by decide) (by decide) hs hpl).of (isX_imp (.own D) h.mo)⟩
theorem pd_isBlt {n : Str} {T : String} {p2 : Pos} {g : SE} (h : PD X e g) (hg : Gl X "isinstance") (hm : X.mg "isinstance" = none) (hg2 : Gl X n) (hm2 : X.mg n = none) (hb2 : bootBuiltins n = some (.type T)) (hn2 : n ≠ "__name__") (hd2 : (n == ("__debug__" : Str)) = false)
    (hs : starEach [e, .Name n p2] X.env = (false, eval e X.env) :: starEach [.Name n p2] X.env := by rfl) (hs2 : starEach [.Name n p2] X.env = (false, eval (.Name n p2) X.env) :: starEach [] X.env := by rfl)
    (hpl : (backTo pos (starEach [.Name n p2] X.env)).any (·.1) = false := by rfl) : PD X (.Call (.Name "isinstance" p) [e, .Name n p2] [] pos) (fIsX X.K (.type T) g) :=
  ⟨mon_isX h.mo, (pe_callB call_isX hg hm bt_isi (pa_cons h.run (pa_cons (pe_bltn (v := .ty T) hg2 hm2 hb2 rfl hn2 hd2) pa_nil hs2) hs) (by decide) (by decide) hs hpl).of (isX_imp (.ty T) h.mo)⟩
/-- a tuple of built-in classes -/
inductive BltA (X : Cx) : List Expr → List V → List Value → Prop
  | nil : BltA X [] [] []
  | cons {n : Str} {T : String} {p2 : Pos} {es : List Expr} {cs : List V} {us : List Value} (hg2 : Gl X n) (hm2 : X.mg n = none) (hb2 : bootBuiltins n = some (.type T)) (hn2 : n ≠ "__name__") (hd2 : (n == ("__debug__" : Str)) = false)
      (hs : starEach (.Name n p2 :: es) X.env = (false, eval (.Name n p2) X.env) :: starEach es X.env) (r : BltA X es cs us) : BltA X (.Name n p2 :: es) (.ty T :: cs) (.type T :: us)
theorem BltA.pair {es : List Expr} {cs : List V} {us : List Value} (h : BltA X es cs us) : Paired ClsV cs us := by
  induction h with
  | nil => exact .nil
  | @cons n T _ _ _ _ _ _ _ _ _ _ _ ih => exact .cons (.ty T) ih
theorem BltA.pa {es : List Expr} {cs : List V} {us : List Value} (h : BltA X es cs us) : PA X es (fun _ H Q => Q cs H) := by
  induction h with
  | nil => exact pa_nil
  | @cons n T _ _ _ _ hg2 hm2 hb2 hn2 hd2 hs r ih => exact pa_cons (pe_bltn (v := .ty T) hg2 hm2 hb2 rfl hn2 hd2) ih hs
def fIsXT (K : PySem.W.Frag) (us : List Value) (g : SE) : SE := fun ρ μ P => g ρ μ fun y μ1 => ∃ C b, errOf y = some C ∧ ExcC K C ∧ PySem.W.kitAny K (.ref C) us = some b ∧ P (.d (.bl b)) μ1
theorem pd_isTup {es : List Expr} {cs : List V} {us : List Value} {k : Nat} {p2 : Pos} {g : SE} (h : PD X e g) (hg : Gl X "isinstance") (hm : X.mg "isinstance" = none) (B : BltA X es cs us) (hl : cs.length ≤ 1000)
    (hs : starEach [e, .Tuple es k p2] X.env = (false, eval e X.env) :: starEach [.Tuple es k p2] X.env := by rfl) (hs2 : starEach [.Tuple es k p2] X.env = (false, eval (.Tuple es k p2) X.env) :: starEach [] X.env := by rfl)
    (hpl : (backTo pos (starEach [.Tuple es k p2] X.env)).any (·.1) = false := by rfl) : PD X (.Call (.Name "isinstance" p) [e, .Tuple es k p2] [] pos) (fIsXT X.K us g) := by
  refine ⟨fun ρ μ P P' k q => h.mo ρ μ _ _ (fun y μ1 ⟨C, b, e1, T, e2, q⟩ => ⟨C, b, e1, T, e2, k _ _ q⟩) q, (pe_callB call_isXT hg hm bt_isi (pa_cons h.run (pa_cons (pe_tup B.pa) pa_nil hs2) hs) (by decide) (by decide) hs hpl).of fun σ H Q q => ?_⟩
  obtain ⟨ad, ρ, μ, s, q⟩ := q
  refine ⟨ad, ρ, μ, s, h.mo ρ μ _ _ (fun y μ1 ⟨C, b, e1, T, e2, q⟩ v H1 t1 m1 r1 => ?_) q⟩
  refine ⟨by rw [sizeLine_eq]; omega, fun tp hp => ?_⟩
  have st : Step ad H1 ad (upd H1 tp (.tup cs)) := Step.new hp
  obtain ⟨a, rfl, E⟩ := errOf_at (RpS.step st r1) e1
  exact ⟨a, C, tp, cs, us, b, rfl, upd_same, B.pair, E, T, e2, q _ _ (t1.trans st) (m1.new hp) (.bl _)⟩
end
end DV

/-! part DX3 -/
set_option Elab.async false
set_option linter.all false
set_option maxRecDepth 100000
set_option maxHeartbeats 1000000
set_option autoImplicit false
namespace DV
open PySem PySem.Spec L2
open PyProof.Rows (envOfC)
/-! ### defs that may raise -/
abbrev TX := List S → Mu → (D → Mu → Prop) → (D → Mu → Prop) → Prop
def MonTX (T : TX) : Prop := ∀ ss μ (P P' : D → Mu → Prop) (R R' : D → Mu → Prop), (∀ d μ', P d μ' → P' d μ') → (∀ d μ', R d μ' → R' d μ') → T ss μ P R → T ss μ P' R'
def spX (n : Nat) (K : PySem.W.Frag) (T : TX) : Sp := fun vs H Q E => ∃ ad ss μ, RpSA K (hide ad H) ad vs ss ∧ RpM K H ad μ ∧ ss.length = n ∧ T ss μ (fun d μ' => ∀ v H', Step ad H ad H' → RpM K H' ad μ' → Rp K (hide ad H') v d → Q v H')
  (fun x μ' => ∀ cls d H', Step ad H ad H' → RpM K H' ad μ' → RpX K (hide ad H') cls d x → E cls d H')
abbrev SX := Rho → Mu → (S → Mu → Prop) → (D → Mu → Prop) → Prop
def MonX (f : SX) : Prop := ∀ ρ μ (P P' : S → Mu → Prop) (R R' : D → Mu → Prop), (∀ d μ', P d μ' → P' d μ') → (∀ d μ', R d μ' → R' d μ') → f ρ μ P R → f ρ μ P' R'
def teX (K : PySem.W.Frag) (W : WX) (f : SX) : TE := fun σ H Q => ∃ ad ρ μ, Sim K H ad ρ μ σ ∧ f ρ μ (fun x μ' => ∀ v H', Step ad H ad H' → RpM K H' ad μ' → RpS K (hide ad H') ad v x → Q v H') (fun x μ' => ∀ cls d H', Step ad H ad H' → RpM K H' ad μ' → RpX K (hide ad H') cls d x → W cls d σ H')
structure PDX (X : Cx) (W : WX) (e : Expr) (f : SX) : Prop where
  mo : MonX f
  run : PE X e (teX X.K W f)
def DefOkX (P : Program) (w : World) (K : PySem.W.Frag) (mg : Str → Option Value) (base : Heap) (x : Str) (k n : Nat) (T : TX) : Prop :=
  MonTX T ∧ ∃ f fd ps, mg x = some (.ref f) ∧ PySem.W.keepIn K (.ref f) = true ∧ Binds K fd ps [] ∧ FnOk P w K mg base (L2.CX P w) k f fd ps (spX n K T)
section
variable {X : Cx} {W : WX} {x : Str} {k n : Nat} {T : TX} {p pos : Pos} {e : Expr} {es : List Expr} {f : SA}
def fCallX (n : Nat) (T : TX) (f : SA) : SX := fun ρ μ P R => f ρ μ fun ss μ1 => ss.length = n ∧ T ss μ1 (fun d μ2 => P (.d d) μ2) R
theorem pdx_call (tk : Takes X W) (C : DefOkX X.prog X.w X.K X.mg X.base x k n T) (hr : Room k X.A) (hg : Gl X x) (h : PDA X (e :: es) f) (hdb : (x == ("__debug__" : Str)) = false := by decide)
    (he : starEach (e :: es) X.env = (false, eval e X.env) :: starEach es X.env := by rfl) (hpl : (backTo pos (starEach es X.env)).any (·.1) = false := by rfl) : PDX X W (.Call (.Name x p) (e :: es) [] pos) (fCallX n T f) := by
  obtain ⟨mT, fa, fd, ps, g, kp, b, F⟩ := C
  refine ⟨fun ρ μ P P' R R' k1 k2 q => h.mo ρ μ _ _ (fun ss μ1 q => ⟨q.1, mT ss μ1 _ _ _ _ (fun d μ2 q => k1 _ _ q) k2 q.2⟩) q, (pe_callS (E := WE W) F hr hg g kp b (fun σ => passAt tk σ) h.run hdb he hpl).of fun σ H Q q => ?_⟩
  obtain ⟨ad, ρ, μ, s, q⟩ := q
  refine ⟨ad, ρ, μ, s, h.mo ρ μ _ _ (fun ss μ1 q vs H1 t1 m1 r1 => ?_) q⟩
  exact ⟨ad, ss, μ1, r1, m1, q.1, mT ss μ1 _ _ _ _ (fun d μ2 q v H2 t2 m2 r2 => q v H2 (t1.trans t2) m2 r2) (fun x μ2 q cls d H2 t2 m2 r2 => q cls d H2 (t1.trans t2) m2 r2) q.2⟩
def fExprX (g : SX) : SS := fun ρ μ k => g ρ μ (fun _ μ1 => k.nx ρ μ1) (fun x μ1 => k.er x ρ μ1)
theorem pds_exprX {g : SX} (h : PDX X W e g) (hs : swapsWith e none pos.line X.env = pure false := by rfl) : PDS X W (.Expr e pos) (fExprX g) := by
  refine ⟨fun ρ μ k k' l q => h.mo ρ μ _ _ _ _ (fun x μ1 q => l.nx _ _ q) (fun x μ1 q => l.er _ _ _ q) q, (ps_expr h.run hs).of fun Dn σ H q => ?_⟩
  obtain ⟨ad, ρ, μ, s, q⟩ := q
  exact ⟨ad, ρ, μ, s, h.mo ρ μ _ _ _ _ (fun x μ1 q v H1 t1 m1 r1 => q σ H1 ad t1 (s.step t1 m1)) (fun x μ1 q cls d H1 t1 m1 r1 => q cls d σ H1 ad t1 (s.step t1 m1) r1) q⟩
def fRetX (g : SX) : SS := fun ρ μ k => g ρ μ k.rt (fun x μ1 => k.er x ρ μ1)
theorem pds_retX {g : SX} (h : PDX X W e g) : PDS X W (.Return (some e) pos) (fRetX g) := by
  refine ⟨fun ρ μ k k' l q => h.mo ρ μ _ _ _ _ l.rt (fun x μ1 q => l.er _ _ _ q) q, (ps_ret h.run).of fun Dn σ H q => ?_⟩
  obtain ⟨ad, ρ, μ, s, q⟩ := q
  exact ⟨ad, ρ, μ, s, h.mo ρ μ _ _ _ _ (fun x μ1 q v H1 t1 m1 r1 => q v H1 ad t1 m1 r1) (fun x μ1 q cls d H1 t1 m1 r1 => q cls d σ H1 ad t1 (s.step t1 m1) r1) q⟩
def fSetX (i : Nat) (g : SX) : SS := fun ρ μ k => g ρ μ (fun x μ1 => k.nx (ρ.set i (some x)) μ1) (fun x μ1 => k.er x ρ μ1)
theorem pds_setX {i : Nat} {y : Str} {p : Pos} {g : SX} (h : PDX X W e g) (hp : ∀ te, PE X e te → PS X (.Assign [.Name y p] e pos) (tAsg te (gName i))) : PDS X W (.Assign [.Name y p] e pos) (fSetX i g) := by
  refine ⟨fun ρ μ k k' l q => h.mo ρ μ _ _ _ _ (fun x μ1 q => l.nx _ _ q) (fun x μ1 q => l.er _ _ _ q) q, (hp _ h.run).of fun Dn σ H q => ?_⟩
  obtain ⟨ad, ρ, μ, s, q⟩ := q
  exact ⟨ad, ρ, μ, s, h.mo ρ μ _ _ _ _ (fun x μ1 q v H1 t1 m1 r1 => q _ H1 ad t1 ((s.step t1 m1).set r1)) (fun x μ1 q cls d H1 t1 m1 r1 => q cls d σ H1 ad t1 (s.step t1 m1) r1) q⟩
end
def kDX (n : Nat) (P R : D → Mu → Prop) : K4 := { kD n P with er := fun x _ μ' => R x (μ'.take n) }
theorem ok_defX {P : Program} {w : World} {K : PySem.W.Frag} {mg : Str → Option Value} {base : Heap} {x qual : Str} {st : Stmt} {f : Addr} {fd : FuncData} {N ps : List Str} {k : Nat} {T : TX} {fb : SS} (F : Fun K x qual st f fd) (Sc : FnScope N ps (defScope st))
    (hb : ∀ (cdv : Value) (A : Around) (outer : List Env) (s : Shared) (H : Hp) (E : XK), Room k (A.deeper (envOfC qual (defScope st) s.heap.objs.size f cdv)) → PDSs (cxOf (L2.CX P w) P w K mg base N qual (defScope st) f cdv A outer s H E) (fun cls d _ H => E cls d H) (defBody st) fb)
    (hT : ∀ ss μ (Q R : D → Mu → Prop), ss.length = ps.length → T ss μ Q R → fb (startR N ss) μ (kDX μ.length Q R)) : FnOk P w K mg base (L2.CX P w) (k + 1) f fd ps (spX ps.length K T) := by
  refine F.okX Sc (fun vs H Q E h => ?_) (fun cdv A outer s H vs Q E hr h => ?_)
  · obtain ⟨ad, ss, μ, r, m, l, _⟩ := h
    rw [rpSA_len r]
    exact l
  · obtain ⟨ad, ss, μ, r, m, l, q⟩ := h
    have B := hb cdv A outer s H E hr
    refine ⟨_, B.run, ad, startR N ss, μ, sim_start m r, B.mo _ _ _ _ ?_ (hT ss μ _ _ l q)⟩
    have hl := m.len
    have less : ∀ {ad' : List Addr} {H' : Hp}, Step ad H ad' H' → Step ad H ad H' := fun t => ⟨List.prefix_refl _, fun b o h e => ⟨h, (t.keep b o h e).2⟩⟩
    refine ⟨fun ρ' μ' q σ' H' ad' t s' => ?_, fun y μ' q v H' ad' t m' rv => ?_, fun _ _ q => q.elim, fun _ _ q => q.elim, fun y ρ' μ' q cls d σ' H' ad' t s' rx => ?_⟩
    · obtain ⟨m2, sm⟩ := s'.m.take t.pre
      rw [hl] at m2
      exact q .non H' (less t) m2 .non
    · obtain ⟨d, e, q⟩ := q
      obtain ⟨m2, sm⟩ := m'.take t.pre
      rw [hl] at m2
      exact q v H' (less t) m2 (fin_rp m' t.pre (by rw [← hl]) rv e)
    · obtain ⟨m2, sm⟩ := s'.m.take t.pre
      rw [hl] at m2
      exact q cls d H' (less t) m2 (rx.mono sm)
where
  fin_rp {K : PySem.W.Frag} {H' : Hp} {ad ad' : List Addr} {μ' : Mu} {n : Nat} {v : V} {y : S} {d : D} (m' : RpM K H' ad' μ') (pre : ad <+: ad') (hn : n = ad.length) (rv : RpS K (hide ad' H') ad' v y) (e : fin n μ' y = some d) : Rp K (hide ad H') v d := by
    obtain ⟨m2, sm⟩ := m'.take pre
    cases y with
    | d y => cases e; exact Rp.mono sm rv
    | ex _ _ _ _ => cases e
    | m j =>
      unfold fin at e
      simp only at e
      split at e
      · cases e
      · rename_i hj
        cases e2 : μ'[j]? with
        | none => rw [e2] at e; cases e
        | some ds =>
          rw [e2] at e
          cases e
          obtain ⟨a, h1, rfl⟩ := rv
          obtain ⟨b, xs, q1, q2, q3⟩ := m'.at_ j ds e2
          rw [h1] at q1
          cases q1
          refine .lst (xs := xs) (.inl (.inl ?_)) (q3.mono sm)
          rw [hide_out fun z => ?_]
          · exact q2
          · obtain ⟨t', e3⟩ := pre
            subst e3
            obtain ⟨l1, e4⟩ := List.getElem?_eq_some_iff.mp h1
            obtain ⟨i, hi, e5⟩ := List.getElem_of_mem z
            have e6 : (ad ++ t')[i]'(by rw [List.length_append]; omega) = a := by rw [List.getElem_append_left hi]; exact e5
            have hij := (List.getElem_inj m'.nd).mp (e6.trans e4.symm)
            omega
theorem ok_defDX {P : Program} {w : World} {K : PySem.W.Frag} {mg : Str → Option Value} {base : Heap} {x : Str} {st : Stmt} {N ps : List Str} {k : Nat} {T : TX} {fb : SS} (t : Top K mg x st ps) (S : FnScope N ps (defScope st)) (mT : MonTX T)
    (hb : ∀ (f : Addr) (cdv : Value) (A : Around) (outer : List Env) (s : Shared) (H : Hp) (E : XK), Room k (A.deeper (envOfC x (defScope st) s.heap.objs.size f cdv)) → PDSs (cxOf (L2.CX P w) P w K mg base N x (defScope st) f cdv A outer s H E) (fun cls d _ H => E cls d H) (defBody st) fb)
    (hT : ∀ ss μ (Q R : D → Mu → Prop), ss.length = ps.length → T ss μ Q R → fb (startR N ss) μ (kDX μ.length Q R)) : DefOkX P w K mg base x (k + 1) ps.length T := by
  obtain ⟨f, fd, F, b, g⟩ := t
  exact ⟨mT, f, fd, ps, g, F.kp, b, ok_defX F S (fun cdv A outer s H E hr => hb f cdv A outer s H E hr) hT⟩
/-! ### try .. except C as e .. -/
def kNo (k : K4) : K4 := { k with er := fun _ _ _ => False }
def kBut (i : Nat) (k : K4) : K4 := { nx := fun ρ μ => k.nx (ρ.set i none) μ, rt := k.rt, bk := fun ρ μ => k.bk (ρ.set i none) μ, ct := fun ρ μ => k.ct (ρ.set i none) μ, er := fun _ _ _ => False }
abbrev ClD := Value × Option Nat × (Addr → Value → Option Addr → SS)
def suiteD (o : Option Nat) (fs : Addr → Value → Option Addr → SS) (a : Addr) (cls : Value) (d : Option Addr) (x : D) (ρ : Rho) (μ : Mu) (k : K4) : Prop := match o with
  | none => fs a cls d ρ μ (kNo k)
  | some i => fs a cls d (ρ.set i (some (.ex a cls d x))) μ (kBut i k)
def clD (K : PySem.W.Frag) (k : K4) : List ClD → D → Rho → Mu → Prop
  | [], x, ρ, μ => k.er x ρ μ
  | (c, o, fs) :: r, x, ρ, μ => ∃ C b, errOf (.d x) = some C ∧ PySem.W.exmOne K (.ref C) c = some b ∧ (b = true → ∀ a d, suiteD o fs a (.ref C) d x ρ μ k) ∧ (b = false → clD K k r x ρ μ)
def fTry (K : PySem.W.Frag) (fb : SS) (l : List ClD) : SS := fun ρ μ k => fb ρ μ { k with er := fun x ρ1 μ1 => clD K k l x ρ1 μ1 }
def ClMon : List ClD → Prop
  | [] => True
  | (_, _, fs) :: r => (∀ a cls d, MonS (fs a cls d)) ∧ ClMon r
theorem mon_suiteD {o : Option Nat} {fs : Addr → Value → Option Addr → SS} {a : Addr} {cls : Value} {d : Option Addr} {x : D} {ρ : Rho} {μ : Mu} {k k' : K4} (m : MonS (fs a cls d)) (l : K4.le k k') (h : suiteD o fs a cls d x ρ μ k) : suiteD o fs a cls d x ρ μ k' := by
  cases o with
  | none => exact m _ _ (kNo k) (kNo k') ⟨l.nx, l.rt, l.bk, l.ct, fun _ _ _ q => q⟩ h
  | some i => exact m _ _ (kBut i k) (kBut i k') ⟨fun _ _ q => l.nx _ _ q, l.rt, fun _ _ q => l.bk _ _ q, fun _ _ q => l.ct _ _ q, fun _ _ _ q => q⟩ h
theorem mon_clD {K : PySem.W.Frag} {k k' : K4} (l : K4.le k k') : ∀ {cs : List ClD}, ClMon cs → ∀ {x : D} {ρ : Rho} {μ : Mu}, clD K k cs x ρ μ → clD K k' cs x ρ μ
  | [], _, _, _, _, q => l.er _ _ _ q
  | (c, o, fs) :: r, m, x, ρ, μ, ⟨C, b, e1, e2, q1, q2⟩ => ⟨C, b, e1, e2, fun z a d => mon_suiteD (m.1 _ _ _) l (q1 z a d), fun z => mon_clD l m.2 (q2 z)⟩
theorem mon_try {K : PySem.W.Frag} {fb : SS} {cs : List ClD} (mb : MonS fb) (mc : ClMon cs) : MonS (fTry K fb cs) := fun ρ μ k k' l q => mb ρ μ { k with er := fun x ρ1 μ1 => clD K k cs x ρ1 μ1 } { k' with er := fun x ρ1 μ1 => clD K k' cs x ρ1 μ1 } ⟨l.nx, l.rt, l.bk, l.ct, fun _ _ _ q => mon_clD l mc q⟩ q
/-- the clauses with their suites -/
inductive PDC (X : Cx) : List ExceptHandler → List ClD → Prop
  | nil : PDC X [] []
  | bare {x : Str} {c : Value} {fs : Addr → Value → Option Addr → SS} {st : Stmt} {sts : List Stmt} {np p : Pos} {hds : List ExceptHandler} {l : List ClD} (hc : Names X x c)
      (su : ∀ (a : Addr) (oe : Obj) (cls : Value) (d : Option Addr) (pn : List (Addr × Obj)), Zc cls d oe → (∃ vs, oe.data = .fields vs) → PDSs (X.suite a ((a, oe) :: pn)) WZ (st :: sts) (fs a cls d)) (mo : ∀ a cls d, MonS (fs a cls d)) (r : PDC X hds l) :
      PDC X (.ExceptHandler (some (.Name x np)) none (st :: sts) p :: hds) ((c, none, fs) :: l)
  | named {x n : Str} {i : Nat} {c : Value} {fs : Addr → Value → Option Addr → SS} {st : Stmt} {sts : List Stmt} {np p : Pos} {hds : List ExceptHandler} {l : List ClD} (hc : Names X x c) (hi : X.N[i]? = some n) (hn : X.env.kindOf n = some .local)
      (su : ∀ (a : Addr) (oe : Obj) (cls : Value) (d : Option Addr) (pn : List (Addr × Obj)), Zc cls d oe → (∃ vs, oe.data = .fields vs) → PDSs (X.suite a ((a, oe) :: pn)) WZ (st :: sts) (fs a cls d)) (mo : ∀ a cls d, MonS (fs a cls d)) (r : PDC X hds l) :
      PDC X (.ExceptHandler (some (.Name x np)) (some n) (st :: sts) p :: hds) ((c, some i, fs) :: l)
def clsT (K : PySem.W.Frag) (l : List ClD) : List DX.Cl := l.map fun p => (p.1, p.2.1, fun a cls d => tsOf K WZ (p.2.2 a cls d))
section
variable {X : Cx} {W : WX}
theorem PDC.mon {hds : List ExceptHandler} {l : List ClD} (h : PDC X hds l) : ClMon l := by
  induction h with
  | nil => trivial
  | bare hc su mo r ih => exact ⟨mo, ih⟩
  | named hc hi hn su mo r ih => exact ⟨mo, ih⟩
theorem PDC.ok {hds : List ExceptHandler} {l : List ClD} (h : PDC X hds l) : DX.ClsOk X hds (clsT X.K l) := by
  induction h with
  | nil => exact .nil
  | bare hc su mo r ih => exact .bare hc (fun a oe cls d pn z v => (su a oe cls d pn z v).run) ih
  | named hc hi hn su mo r ih => exact .named hc hi hn (fun a oe cls d pn z v => (su a oe cls d pn z v).run) ih
theorem RpX.cls_of {K : PySem.W.Frag} {F : Hp} {cls : Value} {d : Option Addr} {x : D} {C : Addr} (r : RpX K F cls d x) (h : errOf (.d x) = some C) : cls = .ref C := by
  cases x with
  | err C' f y => cases h; exact r.1
  | erb C' => cases h; exact r.1
  | non => cases h
  | bl _ => cases h
  | int _ => cases h
  | str _ => cases h
  | tup _ => cases h
  | lst _ => cases h
  | dct _ _ => cases h
theorem clD_w {ad : List Addr} {H : Hp} {Dn : Ends} : ∀ {l : List ClD}, ClMon l → ∀ {x : D} {ρ : Rho} {μ : Mu}, clD X.K (kOf X.K W ad H Dn) l x ρ μ → ∀ cls d σ' H' ad', Step ad H ad' H' → Sim X.K H' ad' ρ μ σ' → RpX X.K (hide ad' H') cls d x → DX.wCl X.K W Dn (clsT X.K l) cls d σ' H'
  | [], _, x, ρ, μ, q, cls, d, σ', H', ad', t, s, r => q cls d σ' H' ad' t s r
  | (c, o, fs) :: l, m, x, ρ, μ, ⟨C, b, e1, e2, q1, q2⟩, cls, d, σ', H', ad', t, s, r => by
    obtain rfl := r.cls_of e1
    refine ⟨b, e2, fun z a ha => ?_, fun z => clD_w m.2 (q2 z) (.ref C) d σ' H' ad' t s r⟩
    have q := q1 z a d
    cases o with
    | none => exact ⟨ad', ρ, μ, s, m.1 _ _ _ _ _ (kNo (kOf X.K W ad H Dn)) _ ⟨fun _ _ h => (kOf_step t).nx _ _ h, fun _ _ h => (kOf_step t).rt _ _ h, fun _ _ h => (kOf_step t).bk _ _ h, fun _ _ h => (kOf_step t).ct _ _ h, fun _ _ _ h => h.elim⟩ q⟩
    | some i =>
      refine ⟨ad', ρ.set i (some (.ex a (.ref C) d x)), μ, s.set ⟨rfl, r⟩, m.1 _ _ _ _ _ (kBut i (kOf X.K W ad H Dn)) _ ⟨fun ρ2 μ2 h σ2 H2 ad2 t2 s2 => ?_, fun y μ2 h v H2 ad2 t2 m2 r2 => ?_, fun ρ2 μ2 h σ2 H2 ad2 t2 s2 => ?_, fun ρ2 μ2 h σ2 H2 ad2 t2 s2 => ?_, fun _ _ _ h => h.elim⟩ q⟩
      · exact h _ H2 ad2 (t.trans t2) (s2.unset i)
      · exact h v H2 ad2 (t.trans t2) m2 r2
      · exact h _ H2 ad2 (t.trans t2) (s2.unset i)
      · exact h _ H2 ad2 (t.trans t2) (s2.unset i)
theorem pds_try {body : List Stmt} {h₀ : ExceptHandler} {hds : List ExceptHandler} {l : List ClD} {pos : Pos} {fb : SS} (hs : X.stack = X.env :: X.outer) (hf : X.env.frame = some X.env.locals) (hN : X.N.Nodup) (tk : Takes X W)
    (hb : ∀ (W' : WX) (pn : List (Addr × Obj)) (xe : Value → Shared → Prop), Takes (X.tr pn xe) W' → PassesOwn (model X.prog X.w) X.A X.env xe → PDSs (X.tr pn xe) W' body fb) (hmb : MonS fb) (hh : PDC X (h₀ :: hds) l) :
    PDS X W (.Try body (h₀ :: hds) [] [] pos) (fTry X.K fb l) := by
  refine ⟨mon_try hmb hh.mon, (DX.ps_try (tb := fun W' => tsOf X.K W' fb) hs hf hN tk (fun W' pn xe tk' po => (hb W' pn xe tk' po).run) hh.ok).of fun Dn σ H q => ?_⟩
  obtain ⟨ad, ρ, μ, s, q⟩ := q
  refine ⟨ad, ρ, μ, s, hmb ρ μ { kOf X.K W ad H Dn with er := fun x ρ1 μ1 => clD X.K (kOf X.K W ad H Dn) l x ρ1 μ1 } _ ⟨fun _ _ h => h, fun _ _ h => h, fun _ _ h => h, fun _ _ h => h, fun x ρ1 μ1 h cls d σ' H' ad' t s' r => clD_w hh.mon h cls d σ' H' ad' t s' r⟩ q⟩
/-- e.f in an except suite -/
def fXatt (K : PySem.W.Frag) (a : Addr) (cls : Value) (dd : Option Addr) (f : Str) (g : SE) : SE := fun ρ μ P => g ρ μ fun y μ1 => ∃ C d, y = .ex a cls dd (.err C f d) ∧ AttC K C f ∧ P (.d d) μ1
theorem pd_xatt {a : Addr} {oe : Obj} {cls : Value} {d : Option Addr} {pn : List (Addr × Obj)} {e : Expr} {g : SE} {pos : Pos} {f : Str} (hz : Zc cls d oe) (hf : ∃ vs, oe.data = .fields vs) (he : PD (X.suite a ((a, oe) :: pn)) e g) (hb : attributeBase e f X.env (eval e X.env) = eval e X.env := by rfl) :
    PD (X.suite a ((a, oe) :: pn)) (.Attribute e f pos) (fXatt X.K a cls d f g) := by
  refine ⟨fun ρ μ P P' k q => he.mo ρ μ _ _ (fun y μ1 ⟨C, d, e1, T, q⟩ => ⟨C, d, e1, T, k _ _ q⟩) q, ⟨fun pins s σ H Q I q => ?_⟩⟩
  obtain ⟨ad, ρ, μ, sm, q⟩ := q
  refine attr_of hb (thn (he.run.run pins s σ H (fun x H1 => x = .ref a ∧ ∃ (C dd : Addr) (v : V) (y : D) (μ1 : Mu), cls = .ref C ∧ AttC X.K C f ∧ d = some dd ∧ H1 dd = some (.xd [(f, v)]) ∧ Q v H1) I ⟨ad, ρ, μ, sm, he.mo ρ μ _ _ (fun y μ1 hy v H1 t1 m1 r1 => ?_) q⟩) fun u s1 hh => ?_)
  · obtain ⟨C, x, e1, T, q⟩ := hy
    subst e1
    obtain ⟨r1, hc, dd, v', hd, hx, rx⟩ := r1
    exact ⟨r1, C, dd, v', x, μ1, hc, T, hd, (hide_some hx).2, q v' H1 t1 m1 rx⟩
  · obtain ⟨x, H1, I1, rx, ex, C, dd, v, y, μ1, ec, T, ed, ea, q2⟩ := hh
    subst ex
    obtain rfl : u = Value.ref a := rx
    subst ec
    subst ed
    obtain ⟨ha, _⟩ := I1.pin (a, oe) (List.mem_append_left _ List.mem_cons_self)
    obtain ⟨vs, hd⟩ := hf
    have hx : ObjOk X.prog X.w H1 s1.heap dd (.xd [(f, v)]) := I1.hok dd _ ea
    obtain ⟨mA, hns, hr⟩ := hx
    obtain ⟨od, ho, hl⟩ := lookIn_ns hns
    have h1 : ([(f, v)] : List (Str × V)).lookup f = some v := by simp [List.lookup]
    obtain ⟨u, hu, ru⟩ := RelO.some_of (v := v) (o := mA f) (by rw [← h1]; exact hr f)
    have J : PySem.W.InstAt s1.heap a oe C (some od) := ⟨ha, hz.1, by unfold PySem.W.notCls; rw [hd] <;> rfl, by rw [hz.2]; exact ho⟩
    exact HandSPX.exc_get I1.kIn J T.xf.ga T.xf.gg T.xf.exC (PySem.W.findObj_own T.xf.hdC T.no rfl (by rw [hl, hu])) (handed_of ru) ⟨v, H1, I1.tok _, ru, q2⟩
end
end DV

/-! part DB -/
set_option Elab.async false
set_option linter.all false
set_option maxRecDepth 100000
set_option maxHeartbeats 1000000
set_option autoImplicit false
/-! True and False among ints -/
namespace DB
open PySem PySem.Spec
abbrev bi (b : Bool) : Int := if b = true then 1 else 0
theorem ty_bool (b : Bool) : ∀ s : Shared, s.TypeIs (.bool b) "bool" := fun _ => rfl
theorem ty_int (i : Int) (t : Tok) : ∀ s : Shared, s.TypeIs (.int i t) "int" := fun _ => rfl
theorem no_sub : isSubtype (.type "int") (.type "bool") = pure false := by kernel_rfl
theorem g_sub {b : Bool} {i : Int} {t : Tok} : Gives (Builtin.«int.__sub__» ⟨[.bool b, .int i t], []⟩) (.int (bi b - i)) := by cases b <;> exact .of_eq rfl
theorem g_add {b : Bool} {i : Int} {t : Tok} : Gives (Builtin.«int.__add__» ⟨[.bool b, .int i t], []⟩) (.int (bi b + i)) := by cases b <;> exact .of_eq rfl
theorem g_gt {b : Bool} {i : Int} {t : Tok} : Gives (Builtin.«int.__gt__» ⟨[.bool b, .int i t], []⟩) (.val (.bool (decide (i < bi b)))) := by cases b <;> exact .of_eq rfl
section
variable {prog : Program} {w : World} {A : Around} {E : Value → Shared → Prop} {s : Shared} {b : Bool} {i : Int} {t : Tok} {Q : Value → Shared → Prop}
theorem sub_bi (h : Q (.int (bi b - i) s.toks) { s with toks := s.toks + 1 }) : wpAny (model prog w) A (binaryOp .Sub (.bool b) (.int i t)) Q E s :=
  binaryOp_left_gives (op := .Sub) (T := "bool") (U := "int") (by decide) (ty_bool b s) (ty_int i t) F.fills_bool_sub F.fills_int_sub no_sub F.slot_bool_sub F.slot_int_rsub F.entry_int_sub (F.args_int_sub_2 _ _) g_sub trivial h
theorem add_bi (h : Q (.int (bi b + i) s.toks) { s with toks := s.toks + 1 }) : wpAny (model prog w) A (binaryOp .Add (.bool b) (.int i t)) Q E s :=
  binaryOp_left_gives (op := .Add) (T := "bool") (U := "int") (by decide) (ty_bool b s) (ty_int i t) F.fills_bool_add F.fills_int_add no_sub F.slot_bool_add F.slot_int_radd F.entry_int_add (F.args_int_add_2 _ _) g_add trivial h
theorem gt_bi (h : Q (.bool (decide (i < bi b))) s) : wpAny (model prog w) A (compareOp .Gt (.bool b) (.int i t)) Q E s :=
  PyProof.Rows.wpAny_richCompare_left (op := .Gt) (Ta := "bool") (Tb := "int") (ty_bool b s) (ty_int i t s) (by decide) no_sub F.slot_bool_gt (call_gives F.slot_bool_gt (ty_bool b s) F.entry_int_gt (F.args_int_gt_2 _ _) g_gt ⟨by simp, h⟩)
theorem same_sub : reflectedDiffers (.type "int") (.type "bool") "sub" = pure false := by
  unfold reflectedDiffers
  show (typeLookup (.type "bool") (dunderR "sub") >>= fun rb => typeLookup (.type "int") (dunderR "sub") >>= fun ra => pure (rb.isSome && rb != ra)) = pure false
  rw [typeLookup_type, typeLookup_type, builtinLookup_eq_fast]; kernel_rfl
theorem sub_ib (h : Q (.int (i - bi b) s.toks) { s with toks := s.toks + 1 }) : wpAny (model prog w) A (binaryOp .Sub (.int i t) (.bool b)) Q E s :=
  binaryOp_sub_gives (op := .Sub) (T := "int") (U := "bool") (by decide) (ty_int i t s) rfl F.fills_int_sub F.fills_bool_sub isSubtype_bool_int same_sub F.slot_int_sub F.entry_int_sub (F.args_int_sub_2 _ _) (AutoIntG7.int___sub___int_bool_0 i t b) trivial h
theorem g_mul2 {b : Bool} {t : Tok} : Gives (Builtin.«int.__mul__» ⟨[.bool b, .int 2 t], []⟩) (.int (bi b * 2)) := by cases b <;> exact .of_eq rfl
theorem g_mod1000 {b : Bool} {t : Tok} : Gives (Builtin.«int.__mod__» ⟨[.bool b, .int 1000 t], []⟩) (.int (bi b % 1000)) := by cases b <;> exact .of_eq rfl
theorem mul_bi (h : Q (.int (bi b * 2) s.toks) { s with toks := s.toks + 1 }) : wpAny (model prog w) A (binaryOp .Mult (.bool b) (.int 2 t)) Q E s :=
  binaryOp_left_gives (op := .Mult) (T := "bool") (U := "int") (by decide) (ty_bool b s) (ty_int 2 t) F.fills_bool_mul F.fills_int_mul no_sub F.slot_bool_mul F.slot_int_rmul F.entry_int_mul (F.args_int_mul_2 _ _) g_mul2 trivial h
theorem mod_bi (h : Q (.int (bi b % 1000) s.toks) { s with toks := s.toks + 1 }) : wpAny (model prog w) A (binaryOp .Mod (.bool b) (.int 1000 t)) Q E s :=
  binaryOp_left_gives (op := .Mod) (T := "bool") (U := "int") (by decide) (ty_bool b s) (ty_int 1000 t) F.fills_bool_mod F.fills_int_mod no_sub F.slot_bool_mod F.slot_int_rmod F.entry_int_mod (F.args_int_mod_2 _ _) g_mod1000 trivial h
end
end DB

/-! part DTR -/
set_option Elab.async false
set_option linter.all false
set_option maxRecDepth 100000
set_option maxHeartbeats 1000000
set_option autoImplicit false
/-! t[::-1] of a tuple -/
namespace DTR
open PySem PySem.Spec PyProof.Rows L2 HT
theorem adj_rev (n : Nat) : Builtin.Slice.sliceAdjust none none (-1) (n : Int) = ((n : Int) - 1, -1) := by
  unfold Builtin.Slice.sliceAdjust
  rfl
theorem places_rev (n : Nat) : Builtin.Slice.slicePlaces ((n : Int) - 1) (-1) (-1) = n := by
  unfold Builtin.Slice.slicePlaces
  have h1 : ¬ ((-1 : Int) > 0) := by decide
  simp only [h1, if_false]
  by_cases h : (n : Int) - 1 > -1
  · rw [if_pos h]
    have e : (- -1 : Int) = 1 := by decide
    rw [e, Int.ediv_one]
    omega
  · rw [if_neg h]
    have : n = 0 := by omega
    subst this
    rfl
theorem pick_rev (xs : Array Value) : (List.range xs.size).filterMap (fun (k : Nat) => xs[(((xs.size : Int) - 1) + (k : Int) * (-1)).toNat]?) = xs.toList.reverse := by
  have e : (List.range xs.size).filterMap (fun (k : Nat) => xs[(((xs.size : Int) - 1) + (k : Int) * (-1)).toNat]?) = ((List.range xs.size).map fun k => xs.size - 1 - k).filterMap (xs[·]?) := by
    have key : ∀ l : List Nat, (∀ k ∈ l, k < xs.size) → l.filterMap (fun (k : Nat) => xs[(((xs.size : Int) - 1) + (k : Int) * (-1)).toNat]?) = (l.map fun k => xs.size - 1 - k).filterMap (xs[·]?) := by
      intro l
      induction l with
      | nil => intro _; rfl
      | cons k l ih =>
        intro h
        have hk := h k (by simp)
        have z : (((xs.size : Int) - 1) + (k : Int) * (-1)).toNat = xs.size - 1 - k := by omega
        rw [List.map_cons, List.filterMap_cons, List.filterMap_cons, z, ih fun j hj => h j (List.mem_cons_of_mem _ hj)]
    exact key _ fun k hk => List.mem_range.mp hk
  rw [e, PySem.W.krv_range, List.filterMap_reverse, PySem.W.krv_all]
section
variable {prog : Program} {w : World} {A : Around} {E : Value → Shared → Prop} {s : Shared}
theorem getItem_rev {t sl : Addr} {items : Array Value} {vs : Value} {Q : Value → Shared → Prop} (ht : IsTup s.heap t items) (hs : s.heap.IsSliceOf sl .none .none vs) (ps : IsPart vs (some (-1)))
    (h : Q (.ref s.heap.objs.size) { s with heap := s.heap.push { cls := .type "tuple", data := .seq items.toList.reverse.toArray } }) (hsz : items.size ≤ sizeLine) : wpAny (model prog w) A (getItem (.ref t) (.ref sl)) Q E s := by
  have hok : sizeOk (.seq items.toList.reverse.toArray) := by
    show items.toList.reverse.toArray.size ≤ sizeLine
    rw [List.size_toArray, List.length_reverse, Array.length_toList]
    exact hsz
  obtain ⟨os, hos, hcs, hds⟩ := id hs
  have hTs : s.TypeIs (.ref sl) "slice" := ⟨os, hos, hcs⟩
  unfold getItem
  try with_reducible refine wpAny_holding ?_
  first | refine wpAny_bind (wpAny_pure ?_) | skip
  refine wpAny_bind (wpAny_sequenceKey ht.typeIs (by decide) ?_)
  refine wpAny_bind (wpAny_callSpecial?_slot (name := Str.ofString "__getitem__") ht.typeIs slot_tuple_getitem ?_)
  refine wpAny_call_entry slot_tuple_getitem ht.typeIs entry_tuple_getitem ?_ (args_tuple_getitem _ _)
  show wpAny _ _ (Builtin.Tuple.tupleItemsOf (.ref t) >>= _) _ _ s
  refine wpAny_bind (tupleItemsOf_ ht (wpAny_bind (wpAny_typeOf hTs ?_)))
  rw [if_pos (by decide)]
  refine wpAny_bind ?_
  unfold Builtin.Slice.sliceApplied Builtin.Slice.sliceFields
  refine wpAny_bind (wpAny_bind (wpAny_field hos hds (x := .none) rfl ?_))
  refine wpAny_bind (wpAny_field hos hds (x := .none) rfl ?_)
  refine wpAny_bind (wpAny_field hos hds (x := vs) rfl (wpAny_pure ?_))
  refine wpAny_bind (slicePart_ ps ?_)
  show wpAny _ _ (if ((-1 : Int) == 0) = true then _ else _) _ _ s
  rw [if_neg (by decide)]
  refine wpAny_bind (slicePart_none (wpAny_bind (slicePart_none (wpAny_bind (wpAny_pure ?_)))))
  show wpAny _ _ (match Builtin.Slice.sliceAdjust none none (-1) (items.size : Int) with | (lo, hi) => pure (lo, (-1 : Int), Builtin.Slice.slicePlaces lo hi (-1))) _ _ s
  rw [adj_rev]
  refine wpAny_pure ?_
  show wpAny _ _ (if (((items.size : Int) - 1) == 0 && (-1 : Int) == 1 && Builtin.Slice.slicePlaces ((items.size : Int) - 1) (-1) (-1) == items.size) = true then _ else _) _ _ s
  have hno : ¬ ((((items.size : Int) - 1) == 0 && (-1 : Int) == 1 && Builtin.Slice.slicePlaces ((items.size : Int) - 1) (-1) (-1) == items.size) = true) := by simp
  rw [if_neg hno, places_rev, pick_rev]
  first
    | exact wpAny_bind (m := Builtin.Tuple.tupleExact _) (wpAny_newObj_type (wpAny_pure ⟨_, rfl, wpAny_pure h⟩) hok)
    | exact wpAny_bind (m := Builtin.Tuple.tupleExact _) (wpAny_newObj_type (wpAny_bind (wpAny_pure (wpAny_pure ⟨_, rfl, wpAny_pure h⟩))) hok)
    | exact wpAny_bind (wpAny_bind (m := Builtin.Tuple.tupleExact _) (wpAny_newObj_type (wpAny_pure (wpAny_pure ⟨_, rfl, wpAny_pure h⟩)) hok))
    | exact wpAny_bind (wpAny_bind (m := Builtin.Tuple.tupleExact _) (wpAny_newObj_type (wpAny_pure ⟨_, rfl, wpAny_pure h⟩) hok))
end
section
variable {X : Cx}
def tRevT (K : PySem.W.Frag) (te : TE) : TE := fun σ H Q => te σ H fun x H1 => ∃ a xs, x = .ref a ∧ SqT K H1 a xs ∧ ∀ p, H1 p = none → Q (.ref p) (upd H1 p (.tup xs.reverse))
theorem pe_revT {e : Expr} {te : TE} {k : Nat} {p1 p2 p3 pos : Pos} (he : PE X e te) : PE X (.Subscript e (.Slice none none (some (.UnaryOp .USub (.Constant (.int 1) k p1) p2)) p3) pos) (tRevT X.K te) := by
  refine ⟨fun pins s σ H Q I h => Subscript_ (thn (he.run pins s σ H _ I h) fun v s1 hv => ?_)⟩
  obtain ⟨x, H1, I1, r1, a, xs, rfl, hx, q⟩ := hv
  obtain rfl : v = Value.ref a := r1
  have st : PO X (some (.UnaryOp .USub (.Constant (.int 1) k p1) p2)) (tPart (tUn (rU fun i => .int (-i)) (tC (.int 1)))) := po_some (pe_un un_neg pe_int)
  refine wpAny_Slice (thn (po_none.run pins s1 σ H1 (fun o H2 => o = none ∧ H2 = H1) I1 ⟨rfl, rfl⟩) fun vl s2 hl => ?_)
  obtain ⟨l, H2, I2, pl, rfl, rfl⟩ := hl
  refine thn (po_none.run pins s2 σ H2 (fun o H3 => o = none ∧ H3 = H2) I2 ⟨rfl, rfl⟩) fun vu s3 hu => ?_
  obtain ⟨u, H3, I3, pu, rfl, rfl⟩ := hu
  refine thn (st.run pins s3 σ H3 (fun o H4 => o = some (-1) ∧ H4 = H3) I3 ⟨1, rfl, -1, rfl, rfl, rfl⟩) fun vs s4 hs => ?_
  obtain ⟨o, H4, I4, ps, rfl, rfl⟩ := hs
  cases pl
  cases pu
  have I5 : Inv X pins σ H4 { s4 with heap := s4.heap.push { cls := .type "slice", data := .fields #[.none, .none, vs] } } := I4.kept (t' := s4.toks) fun b ob z => Heap.get?_push_of_some _ z
  obtain ⟨its, r, ht, hz⟩ := I5.tuple hx
  have hlen := r.length
  show wpAny (model X.prog X.w) X.A (subscriptTail e (.Slice none none (some (.UnaryOp .USub (.Constant (.int 1) k p1) p2)) p3) (.ref a) (.ref s4.heap.objs.size)) (EP X pins σ Q) X.xe { s4 with heap := s4.heap.push { cls := .type "slice", data := .fields #[.none, .none, vs] } }
  refine tail_any (ops := [.ref a, .ref s4.heap.objs.size]) ht.typeIs slot_tuple_getitem.lookup ?_ (by with_unfolding_all rfl)
  refine getItem_rev ht (Heap.IsSliceOf.new _ .none .none vs) ps ?_ (by rw [List.size_toArray]; omega)
  refine ⟨.ref _, _, I5.laid (t' := s4.toks) (o := .tup xs.reverse) (fun b ob z => Heap.get?_push_of_some _ z) (Nat.le_refl _) ?_, rfl, q _ (I5.hok.fresh (Nat.le_refl _))⟩
  exact ⟨by rw [List.length_reverse]; exact hz, its.reverse, r.reverse, _, Heap.get?_push_size _ rfl, rfl, 0, by simp⟩
end
end DTR

/-! part DD -/
set_option Elab.async false
set_option linter.all false
set_option maxRecDepth 100000
set_option maxHeartbeats 1000000
set_option autoImplicit false
namespace DV
open PySem PySem.Spec L2
section
variable {X : Cx} {W : WX}
/-! ### list + list -/
def rCatL (K : PySem.W.Frag) : R2 := fun x y H Q => ∃ a b xs ys, x = .ref a ∧ y = .ref b ∧ SqL K H a xs ∧ SqL K H b ys ∧ xs.length + ys.length ≤ sizeLine ∧ ∀ p, H p = none → Q (.ref p) (upd H p (.lst (xs ++ ys)))
theorem op_catL : OpR X (binaryOp .Add) (rCatL X.K) := by
  intro pins s σ H x y v u Q I rx ry h
  obtain ⟨a, b, xs, ys, rfl, rfl, h1, h2, hz, q⟩ := h
  cases rx
  cases ry
  obtain ⟨its, r, p1, _⟩ := I.list h1
  obtain ⟨its2, r2, p2, _⟩ := I.list h2
  obtain ⟨⟨cls, dd, data, sl⟩, ho, hc, n, hd⟩ := id p1.isList
  obtain ⟨⟨cls2, dd2, data2, sl2⟩, ho2, hc2, n2, hd2⟩ := id p2.isList
  simp only at hc hd hc2 hd2
  subst hc hd hc2 hd2
  have e : its.toArray ++ its2.toArray = (its ++ its2).toArray := by simp
  have l1 := r.length
  have l2 := r2.length
  refine concat_meets ⟨_, ho, rfl⟩ ⟨_, ho2, rfl⟩ noFill_list_add seq_list_add PySem.F.slot_list_add PySem.F.entry_list_add (PySem.F.args_list_add_2 _ _) (PyProof.Rows.list_addW a b its.toArray its2.toArray n n2 dd dd2 sl sl2 (by rw [List.size_toArray, List.size_toArray]; omega)) ⟨ho, ho2, ?_⟩
  rw [e]
  exact ⟨.ref _, _, I.lnew (t' := s.toks) (r.append r2) (by rw [List.length_append]; omega), rfl, q _ I.fresh⟩
/-! ### + of ints, bools, tuples, lists -/
def rBI (g : Int → Int → V) : R2 := fun x y H Q => ∃ b i, x = .bl b ∧ y = .int i ∧ Q (g (DB.bi b) i) H
def rIB (g : Int → Int → V) : R2 := fun x y H Q => ∃ i b, x = .int i ∧ y = .bl b ∧ Q (g i (DB.bi b)) H
theorem op_add_bi : OpR X (binaryOp .Add) (rBI fun i j => .int (i + j)) := by
  intro pins s σ H x y v u Q I rx ry h
  obtain ⟨b, i, rfl, rfl, q⟩ := h
  cases rx
  obtain ⟨t, rfl⟩ := ry
  exact DB.add_bi ⟨.int _, H, I.tok _, ⟨_, rfl⟩, q⟩
theorem op_sub_bi : OpR X (binaryOp .Sub) (rBI fun i j => .int (i - j)) := by
  intro pins s σ H x y v u Q I rx ry h
  obtain ⟨b, i, rfl, rfl, q⟩ := h
  cases rx
  obtain ⟨t, rfl⟩ := ry
  exact DB.sub_bi ⟨.int _, H, I.tok _, ⟨_, rfl⟩, q⟩
theorem op_sub_ib : OpR X (binaryOp .Sub) (rIB fun i j => .int (i - j)) := by
  intro pins s σ H x y v u Q I rx ry h
  obtain ⟨i, b, rfl, rfl, q⟩ := h
  cases ry
  obtain ⟨t, rfl⟩ := rx
  exact DB.sub_ib ⟨.int _, H, I.tok _, ⟨_, rfl⟩, q⟩
theorem op_gt_bi : OpR X (compareOp .Gt) (rBI fun i j => .bl (decide (j < i))) := by
  intro pins s σ H x y v u Q I rx ry h
  obtain ⟨b, i, rfl, rfl, q⟩ := h
  cases rx
  obtain ⟨t, rfl⟩ := ry
  exact DB.gt_bi ⟨.bl _, H, I, rfl, q⟩
def rB2 : R2 := fun x y H Q => ∃ b, x = .bl b ∧ y = .int 2 ∧ Q (.int (DB.bi b * 2)) H
theorem op_mul_b2 : OpR X (binaryOp .Mult) rB2 := by
  intro pins s σ H x y v u Q I rx ry h
  obtain ⟨b, rfl, rfl, q⟩ := h
  cases rx
  obtain ⟨t, rfl⟩ := ry
  exact DB.mul_bi ⟨.int _, H, I.tok _, ⟨_, rfl⟩, q⟩
def rBm : R2 := fun x y H Q => ∃ b, x = .bl b ∧ y = .int 1000 ∧ Q (.int (DB.bi b % 1000)) H
theorem op_mod_bm : OpR X (binaryOp .Mod) rBm := by
  intro pins s σ H x y v u Q I rx ry h
  obtain ⟨b, rfl, rfl, q⟩ := h
  cases rx
  obtain ⟨t, rfl⟩ := ry
  exact DB.mod_bi ⟨.int _, H, I.tok _, ⟨_, rfl⟩, q⟩
theorem CMul2 (i : Int) : CMul i 2 := .inr ⟨by decide, by decide⟩
/-- the number of an int, of True, of False -/
def numD : S → Option Int
  | .d (.int i) => some i
  | .d (.bl b) => some (DB.bi b)
  | _ => none
def isBl : S → Bool
  | .d (.bl _) => true
  | _ => false
def cAddW : S → S → Mu → Prop := fun x y _ => match x, y with
  | .d (.tup a), .d (.tup b) => a.length + b.length ≤ 100000
  | .d (.lst a), .d (.lst b) => a.length + b.length ≤ 100000
  | _, _ => True
def fAddW : S → S → Mu → Option D := fun x y _ => match x, y with
  | .d (.int i), .d (.int j) => some (.int (i + j))
  | .d (.bl b), .d (.int j) => some (.int (DB.bi b + j))
  | .d (.tup a), .d (.tup b) => some (.tup (a ++ b))
  | .d (.lst a), .d (.lst b) => some (.lst (a ++ b))
  | _, _ => none
end
section
variable {K : PySem.W.Frag}
theorem lst_sq {H : Hp} {ad : List Addr} {v : V} {ds : List D} (r : RpS K (hide ad H) ad v (.d (.lst ds))) : ∃ a xs, v = .ref a ∧ SqL K H a xs ∧ RpA K (hide ad H) xs ds := by
  cases r with
  | lst h1 h2 => exact ⟨_, _, rfl, sqL_same hide_same h1, h2⟩
theorem snd_addW : Sound2 K (fun x y H Q => (rI0 (fun i j => .int (i + j)) x y H Q ∨ rCatA K x y H Q) ∨ (rBI (fun i j => .int (i + j)) x y H Q ∨ rCatL K x y H Q)) (gF cAddW fAddW) := by
  intro v u x y H ad μ Q m rx ry h
  obtain ⟨h1, d, h2, h3⟩ := h
  unfold fAddW at h2
  split at h2
  · cases h2
    exact .inl (.inl ⟨_, _, rp_int rx, rp_int ry, h3 _ H (Step.refl _ _) m (.int _)⟩)
  · cases h2
    exact .inr (.inl ⟨_, _, rp_bl rx, rp_int ry, h3 _ H (Step.refl _ _) m (.int _)⟩)
  · rename_i a b
    cases h2
    have q := snd_add v u _ _ H ad μ Q m rx ry (show gF cAdd fAdd (.d (.tup a)) (.d (.tup b)) μ _ from ⟨h1, _, rfl, h3⟩)
    exact .inl q
  · rename_i a b
    cases h2
    obtain ⟨p, xs, rfl, s1, r1⟩ := lst_sq rx
    obtain ⟨q, ys, rfl, s2, r2⟩ := lst_sq ry
    have l1 := r1.length
    have l2 := r2.length
    have hz : a.length + b.length ≤ 100000 := h1
    exact .inr (.inr ⟨p, q, xs, ys, rfl, rfl, s1, s2, sz (by omega), new_lst m (r1.append r2) h3⟩)
  · cases h2
def fSubW : S → S → Mu → Option D := fun x y _ => match x, y with
  | .d (.int i), .d (.int j) => some (.int (i - j))
  | .d (.bl b), .d (.int j) => some (.int (DB.bi b - j))
  | .d (.int i), .d (.bl b) => some (.int (i - DB.bi b))
  | _, _ => none
theorem snd_subW : Sound2 K (fun x y H Q => rI0 (fun i j => .int (i - j)) x y H Q ∨ (rBI (fun i j => .int (i - j)) x y H Q ∨ rIB (fun i j => .int (i - j)) x y H Q)) (gF c0 fSubW) := by
  intro v u x y H ad μ Q m rx ry h
  obtain ⟨h1, d, h2, h3⟩ := h
  unfold fSubW at h2
  split at h2
  · cases h2
    exact .inl ⟨_, _, rp_int rx, rp_int ry, h3 _ H (Step.refl _ _) m (.int _)⟩
  · cases h2
    exact .inr (.inl ⟨_, _, rp_bl rx, rp_int ry, h3 _ H (Step.refl _ _) m (.int _)⟩)
  · cases h2
    exact .inr (.inr ⟨_, _, rp_int rx, rp_bl ry, h3 _ H (Step.refl _ _) m (.int _)⟩)
  · cases h2
def fGtW : S → S → Mu → Option D := fun x y _ => match x, y with
  | .d (.int i), .d (.int j) => some (.bl (decide (j < i)))
  | .d (.bl b), .d (.int j) => some (.bl (decide (j < DB.bi b)))
  | _, _ => none
theorem snd_gtW : Sound2 K (fun x y H Q => rI0 (fun i j => .bl (decide (j < i))) x y H Q ∨ rBI (fun i j => .bl (decide (j < i))) x y H Q) (gF c0 fGtW) := by
  intro v u x y H ad μ Q m rx ry h
  obtain ⟨h1, d, h2, h3⟩ := h
  unfold fGtW at h2
  split at h2
  · cases h2
    exact .inl ⟨_, _, rp_int rx, rp_int ry, h3 _ H (Step.refl _ _) m (.bl _)⟩
  · cases h2
    exact .inr ⟨_, _, rp_bl rx, rp_int ry, h3 _ H (Step.refl _ _) m (.bl _)⟩
  · cases h2
def fMul2 : S → S → Mu → Option D := fun x y _ => match x, y with
  | .d (.int i), .d (.int 2) => some (.int (i * 2))
  | .d (.bl b), .d (.int 2) => some (.int (DB.bi b * 2))
  | _, _ => none
theorem snd_mul2 : Sound2 K (fun x y H Q => rI CMul (fun i j => .int (i * j)) x y H Q ∨ rB2 x y H Q) (gF c0 fMul2) := by
  intro v u x y H ad μ Q m rx ry h
  obtain ⟨h1, d, h2, h3⟩ := h
  unfold fMul2 at h2
  split at h2
  · cases h2
    exact .inl ⟨_, _, rp_int rx, rp_int ry, CMul2 _, h3 _ H (Step.refl _ _) m (.int _)⟩
  · cases h2
    exact .inr ⟨_, rp_bl rx, rp_int ry, h3 _ H (Step.refl _ _) m (.int _)⟩
  · cases h2
def fModM : S → S → Mu → Option D := fun x y _ => match x, y with
  | .d (.int i), .d (.int 1000) => some (.int (i % 1000))
  | .d (.bl b), .d (.int 1000) => some (.int (DB.bi b % 1000))
  | _, _ => none
theorem snd_modM : Sound2 K (fun x y H Q => rI (fun _ j => 0 < j) (fun i j => .int (i % j)) x y H Q ∨ rBm x y H Q) (gF c0 fModM) := by
  intro v u x y H ad μ Q m rx ry h
  obtain ⟨h1, d, h2, h3⟩ := h
  unfold fModM at h2
  split at h2
  · cases h2
    exact .inl ⟨_, _, rp_int rx, rp_int ry, show (0 : Int) < 1000 by decide, h3 _ H (Step.refl _ _) m (.int _)⟩
  · cases h2
    exact .inr ⟨_, rp_bl rx, rp_int ry, h3 _ H (Step.refl _ _) m (.int _)⟩
  · cases h2
/-! ### == and != of data at any depth -/
def shapedD (d : D) : Prop := d.plain = true ∧ SeqAt.shaped d.py = true
/-- data as it stands -/
def datOf (μ : Mu) : S → Option D
  | .d d => some d
  | .m j => (μ[j]?).map .lst
  | .ex _ _ _ _ => none
theorem datOf_rp {H : Hp} {ad : List Addr} {μ : Mu} {v : V} {x : S} {d : D} (m : RpM K H ad μ) (r : RpS K (hide ad H) ad v x) (h : datOf μ x = some d) (p : d.plain = true) : Dp K H v d.py := by
  cases x with
  | d y => cases h; exact Rp.dp (Rp.mono hide_same r) p
  | m j =>
    have h' : (μ[j]?).map D.lst = some d := h
    cases e : μ[j]? with
    | none => rw [e] at h'; cases h'
    | some ds =>
      rw [e] at h'
      cases h'
      obtain ⟨a, xs, rfl, s1, r2⟩ := seq_sq (x := .m j) m r e
      exact .lst s1 (RpA.dp (RpA.mono hide_same r2) p)
  | ex _ _ _ _ => cases h
def cEqP : S → S → Mu → Prop := fun x y μ => (∀ d, datOf μ x = some d → shapedD d) ∧ ∀ d, datOf μ y = some d → shapedD d
def fEqP : S → S → Mu → Option D := fun x y μ => match datOf μ x, datOf μ y with
  | some d, some e => some (.bl (PyData.eqv d.py e.py))
  | _, _ => none
def fNeP : S → S → Mu → Option D := fun x y μ => match datOf μ x, datOf μ y with
  | some d, some e => some (.bl (!PyData.eqv d.py e.py))
  | _, _ => none
theorem snd_eqP : Sound2 K (rEqD K) (gF cEqP fEqP) := by
  intro v u x y H ad μ Q m rx ry h
  obtain ⟨h1, d, h2, h3⟩ := h
  unfold fEqP at h2
  split at h2
  · rename_i d1 e1 h4 h5
    cases h2
    have s1 := h1.1 _ h4
    have s2 := h1.2 _ h5
    exact ⟨_, _, datOf_rp m rx h4 s1.1, datOf_rp m ry h5 s2.1, s1.2, s2.2, h3 _ H (Step.refl _ _) m (.bl _)⟩
  · cases h2
theorem snd_neP : Sound2 K (rNeD K) (gF cEqP fNeP) := by
  intro v u x y H ad μ Q m rx ry h
  obtain ⟨h1, d, h2, h3⟩ := h
  unfold fNeP at h2
  split at h2
  · rename_i d1 e1 h4 h5
    cases h2
    have s1 := h1.1 _ h4
    have s2 := h1.2 _ h5
    exact ⟨_, _, datOf_rp m rx h4 s1.1, datOf_rp m ry h5 s2.1, s1.2, s2.2, h3 _ H (Step.refl _ _) m (.bl _)⟩
  · cases h2
/-- in a tuple of ints -/
def fInI : S → S → Mu → Option D := fun x y μ => match x, y with
  | .d (.int i), .d (.tup ds) => match intsOf ds with
    | some ns => some (.bl (ns.contains i))
    | none => none
  | _, _ => none
theorem snd_inI : Sound2 K (rIn K false) (gF c0 fInI) := by
  intro v u x y H ad μ Q m rx ry h
  obtain ⟨h1, d, h2, h3⟩ := h
  unfold fInI at h2
  split at h2
  · split at h2
    · rename_i i ds ns e
      cases h2
      have e1 := intsOf_some e
      obtain ⟨p, xs, rfl, s1, r1⟩ := tup_sq ry rfl
      rw [e1] at r1
      have e2 := rpA_ints r1
      obtain rfl := rp_int rx
      refine ⟨p, xs, rfl, .inr s1, rfl, ?_, ?_⟩
      · rw [e2]; simp [List.all_eq_true, flatV]
      · rw [e2, inV_ints]
        exact h3 _ H (Step.refl _ _) m (.bl _)
    · cases h2
  · cases h2
/-- str of an int -/
theorem snd_strI : SoundA K (fun xs H Q => ∃ i, xs = [.int i] ∧ i.natAbs.log2 < 1920 ∧ Q (.str (toString i)) H) (gA (fun ss _ => match ss with | [.d (.int i)] => i.natAbs.log2 < 1920 | _ => True) (fA1 fun i => .str (toString i))) := by
  intro vs ss H ad μ Q m r h
  obtain ⟨h1, d, h2, h3⟩ := h
  obtain ⟨i, rfl, rfl⟩ := fA1_some h2
  obtain ⟨v, rfl, r1⟩ := rsa1 r
  exact ⟨i, by rw [rp_int r1], h1, h3 _ H (Step.refl _ _) m (.str _)⟩
end
section
variable {X : Cx} {W : WX}
theorem addW_ok : OpR X (binaryOp .Add) (fun x y H Q => (rI0 (fun i j => .int (i + j)) x y H Q ∨ rCatA X.K x y H Q) ∨ (rBI (fun i j => .int (i + j)) x y H Q ∨ rCatL X.K x y H Q)) := (op_add.or op_catA).or (op_add_bi.or op_catL)
theorem subW_ok : OpR X (binaryOp .Sub) (fun x y H Q => rI0 (fun i j => .int (i - j)) x y H Q ∨ (rBI (fun i j => .int (i - j)) x y H Q ∨ rIB (fun i j => .int (i - j)) x y H Q)) := op_sub.or (op_sub_bi.or op_sub_ib)
theorem gtW_ok : OpR X (compareOp .Gt) (fun x y H Q => rI0 (fun i j => .bl (decide (j < i))) x y H Q ∨ rBI (fun i j => .bl (decide (j < i))) x y H Q) := op_gt.or op_gt_bi
theorem mul2_ok : OpR X (binaryOp .Mult) (fun x y H Q => rI CMul (fun i j => .int (i * j)) x y H Q ∨ rB2 x y H Q) := op_mul.or op_mul_b2
theorem modM_ok : OpR X (binaryOp .Mod) (fun x y H Q => rI (fun _ j => 0 < j) (fun i j => .int (i % j)) x y H Q ∨ rBm x y H Q) := op_mod.or op_mod_bm
/-- t[::-1] -/
def fRevT (g : SE) : SE := fun ρ μ P => g ρ μ fun y μ1 => ∃ ds, y = .d (.tup ds) ∧ P (.d (.tup ds.reverse)) μ1
theorem rpA_rev {K : PySem.W.Frag} {F : Hp} : ∀ {vs : List V} {ds : List D}, RpA K F vs ds → RpA K F vs.reverse ds.reverse
  | _, _, .nil => .nil
  | _, _, .cons h r => by
    rw [List.reverse_cons, List.reverse_cons]
    exact (rpA_rev r).append (.cons h .nil)
theorem pd_revT {e : Expr} {g : SE} {k : Nat} {p1 p2 p3 pos : Pos} (h : PD X e g) : PD X (.Subscript e (.Slice none none (some (.UnaryOp .USub (.Constant (.int 1) k p1) p2)) p3) pos) (fRevT g) := by
  refine ⟨fun ρ μ P P' k q => h.mo ρ μ _ _ (fun y μ1 ⟨ds, e1, q⟩ => ⟨ds, e1, k _ _ q⟩) q, (DTR.pe_revT h.run).of fun σ H Q q => ?_⟩
  obtain ⟨ad, ρ, μ, s, q⟩ := q
  refine ⟨ad, ρ, μ, s, h.mo ρ μ _ _ (fun y μ1 ⟨ds, e1, q⟩ v H1 t1 m1 r1 => ?_) q⟩
  subst e1
  obtain ⟨a, xs, rfl, s1, r2⟩ := tup_sq r1 rfl
  exact ⟨a, xs, rfl, s1, new_tup m1 (rpA_rev r2) fun w H2 t2 m2 r3 => q w H2 (t1.trans t2) m2 r3⟩
/-- {}, {'a': 1} -/
theorem dct_new {K : PySem.W.Frag} {H : Hp} {ad : List Addr} {μ : Mu} {p : Addr} {kvs : List (Key × V)} {ds : List D} (m : RpM K H ad μ) (hp : H p = none) (r : RpA K (hide ad H) (kvs.map (·.2)) ds) :
    Step ad H ad (upd H p (.dK kvs)) ∧ RpM K (upd H p (.dK kvs)) ad μ ∧ Rp K (hide ad (upd H p (.dK kvs))) (.ref p) (.dct (kvs.map (·.1)) ds) := by
  have st : Step ad H ad (upd H p (.dK kvs)) := Step.new hp
  exact ⟨st, m.new hp, .dct (by rw [hide_out (m.fresh hp)]; exact upd_same) (r.mono st.same)⟩
theorem pd_dct0 {pos : Pos} : PD X (.Dict [] [] pos) (fC (.dct [] [])) := by
  refine ⟨fun ρ μ P P' k q => k _ _ q, pe_dnewK.of fun σ H Q q p hp => ?_⟩
  obtain ⟨ad, ρ, μ, s, q⟩ := q
  obtain ⟨st, m, r⟩ := dct_new (kvs := []) s.m hp .nil
  exact q _ _ st m r
theorem pd_dct1 {x : Str} {i : Int} {j1 j2 : Nat} {p1 p2 pos : Pos} : PD X (.Dict [some (.Constant (.str x) j1 p1)] [.Constant (.int i) j2 p2] pos) (fC (.dct [.inr x] [.int i])) := by
  refine ⟨fun ρ μ P P' k q => k _ _ q, (pe_disp (pps_cons pe_str pe_int pps_nil) rfl rfl (by simp) (by simp)).of fun σ H Q q p hp => ?_⟩
  obtain ⟨ad, ρ, μ, s, q⟩ := q
  have e : upd (upd H p (.dK [])) p (.dK [(.inr x, .int i)]) = upd H p (.dK [(.inr x, .int i)]) := by
    funext b
    by_cases hb : b = p
    · rw [hb, upd_same, upd_same]
    · rw [upd_ne hb, upd_ne hb, upd_ne hb]
  obtain ⟨st, m, r⟩ := dct_new (kvs := [(.inr x, V.int i)]) s.m hp (.cons (.int i) .nil)
  refine ⟨upd_same, [(.inr x, .int i)], rfl, by simp, ?_⟩
  show Q (.ref p) (upd (upd H p (.dK [])) p (.dK [(.inr x, .int i)]))
  rw [e]
  exact q _ _ st m r
/-! ### isinstance(x, a built-in type), for data of any kind but errors -/
def tyD : D → Option String
  | .non => some "NoneType"
  | .bl _ => some "bool"
  | .int _ => some "int"
  | .str _ => some "str"
  | .tup _ => some "tuple"
  | .lst _ => some "list"
  | .dct _ _ => some "dict"
  | _ => none
def isBW (x : S) (T : String) : Option Bool := match x with
  | .d d => (tyD d).bind fun t => kitB t T
  | _ => none
def fIsiW (T : String) (f : SE) : SE := fun ρ μ P => f ρ μ fun x μ1 => ∃ b, isBW x T = some b ∧ P (.d (.bl b)) μ1
theorem pd_isiW {e : Expr} {T : String} {n : Str} {p p2 pos : Pos} {f : SE} (h : PD X e f) (hg : Gl X "isinstance") (hm : X.mg "isinstance" = none) (hg2 : Gl X n) (hm2 : X.mg n = none) (hb2 : bootBuiltins n = some (.type T)) (hn2 : n ≠ "__name__") (hd2 : (n == ("__debug__" : Str)) = false)
    (hs : starEach [e, .Name n p2] X.env = (false, eval e X.env) :: starEach [.Name n p2] X.env := by rfl) (hs2 : starEach [.Name n p2] X.env = (false, eval (.Name n p2) X.env) :: starEach [] X.env := by rfl)
    (hpl : (backTo pos (starEach [.Name n p2] X.env)).any (·.1) = false := by rfl) : PD X (.Call (.Name "isinstance" p) [e, .Name n p2] [] pos) (fIsiW T f) := by
  have h0 : PE X (.Call (.Name "isinstance" p) [e, .Name n p2] [] pos) (tCB (rIsi X.K) (tCons (teOf X.K f) (tCons (tC (.ty T)) tNil))) :=
    pe_callB call_isi hg hm bt_isi (pa_cons h.run (pa_cons (pe_bltn hg2 hm2 hb2 rfl hn2 hd2) pa_nil hs2) hs) (by decide) (by decide) hs hpl
  refine ⟨fun ρ μ P P' k q => h.mo ρ μ _ _ (fun x μ1 ⟨b, e, q⟩ => ⟨b, e, k _ _ q⟩) q, h0.of fun σ H Q q => ?_⟩
  obtain ⟨ad, ρ, μ, s, q⟩ := q
  refine ⟨ad, ρ, μ, s, h.mo ρ μ _ _ (fun x μ1 ⟨b, e, q⟩ v H1 t1 m1 r1 => ?_) q⟩
  have fin : ∀ {t : String}, kitB t T = some b → TyX X.K H1 v (.type t) → rIsi X.K [v, .ty T] H1 Q := fun {t} k ty => ⟨v, .ty T, .type t, .type T, b, rfl, .ty T, ty, kit_ty k, q _ H1 t1 m1 (.bl b)⟩
  cases x with
  | m j => cases e
  | ex _ _ _ _ => cases e
  | d y =>
    cases y with
    | non => cases r1; exact fin e (.base .non)
    | bl b => cases r1; exact fin e (.base (.bl b))
    | int i => cases r1; exact fin e (.base (.int i))
    | str z => cases r1; exact fin e (.base (.str z))
    | tup ds =>
      cases r1 with
      | tup h1 h2 =>
        rcases sqT_same hide_same h1 with (z | ⟨o, z⟩) | ⟨o, its, n, z1, z2, _⟩
        · exact fin e (.base (.tup z))
        · exact fin e (.fTuple z)
        · exact fin e (.kTuple z1 z2)
    | lst ds =>
      cases r1 with
      | lst h1 h2 =>
        rcases sqL_same hide_same h1 with (z | ⟨o, z⟩) | ⟨o, its, n, z1, z2, _⟩
        · exact fin e (.base (.lst z))
        · exact fin e (.base (.frz z))
        · exact fin e (.kList z1 z2)
    | dct ks ds =>
      cases r1 with
      | dct h1 h2 => exact fin e (.base (.dK (hide_some h1).2))
    | err _ _ _ => cases e
    | erb _ => cases e
end
end DV

/-! part DW -/
set_option Elab.async false
set_option linter.all false
set_option maxRecDepth 100000
set_option maxHeartbeats 1000000
set_option autoImplicit false
namespace DV
open PySem PySem.Spec L2
section
variable {X : Cx} {W : WX}
theorem named {x n : Str} {i : Nat} {c : Value} {fs : Addr → Value → Option Addr → SS} {st : Stmt} {sts : List Stmt} {np p : Pos} {hds : List ExceptHandler} {l : List ClD} (hc : Names X x c) (hi : X.N[i]? = some n) (hn : X.env.kindOf n = some .local)
    (su : ∀ (a : Addr) (oe : Obj) (cls : Value) (d : Option Addr) (pn : List (Addr × Obj)), Zc cls d oe → (∃ vs, oe.data = .fields vs) → PDSs (X.suite a ((a, oe) :: pn)) WZ (st :: sts) (fs a cls d)) (r : PDC X hds l) :
    PDC X (.ExceptHandler (some (.Name x np)) (some n) (st :: sts) p :: hds) ((c, some i, fs) :: l) := .named hc hi hn su (fun a cls d => (su a { cls := cls, dict := d, data := .fields #[] } cls d [] ⟨rfl, rfl⟩ ⟨_, rfl⟩).mo) r
theorem bare {x : Str} {c : Value} {fs : Addr → Value → Option Addr → SS} {st : Stmt} {sts : List Stmt} {np p : Pos} {hds : List ExceptHandler} {l : List ClD} (hc : Names X x c)
    (su : ∀ (a : Addr) (oe : Obj) (cls : Value) (d : Option Addr) (pn : List (Addr × Obj)), Zc cls d oe → (∃ vs, oe.data = .fields vs) → PDSs (X.suite a ((a, oe) :: pn)) WZ (st :: sts) (fs a cls d)) (r : PDC X hds l) :
    PDC X (.ExceptHandler (some (.Name x np)) none (st :: sts) p :: hds) ((c, none, fs) :: l) := .bare hc su (fun a cls d => (su a { cls := cls, dict := d, data := .fields #[] } cls d [] ⟨rfl, rfl⟩ ⟨_, rfl⟩).mo) r
theorem pds_tryA {body : List Stmt} {h₀ : ExceptHandler} {hds : List ExceptHandler} {l : List ClD} {pos : Pos} {fb : SS} (hs : X.stack = X.env :: X.outer) (hf : X.env.frame = some X.env.locals) (hN : X.N.Nodup) (tk : Takes X W)
    (hb : ∀ (W' : WX) (pn : List (Addr × Obj)) (xe : Value → Shared → Prop), Takes (X.tr pn xe) W' → PassesOwn (model X.prog X.w) X.A X.env xe → PDSs (X.tr pn xe) W' body fb) (hh : PDC X (h₀ :: hds) l) :
    PDS X W (.Try body (h₀ :: hds) [] [] pos) (fTry X.K fb l) := pds_try hs hf hN tk hb (hb (fun _ _ _ _ => False) [] (fun _ _ => False) takes_none5 PassesOwn.never).mo hh
theorem bt_str : bootBuiltins "str" = some (.type "str") := by decide +kernel
theorem bt_TypeError : bootBuiltins "TypeError" = some (.type "TypeError") := by decide +kernel
theorem bt_KeyError : bootBuiltins "KeyError" = some (.type "KeyError") := by decide +kernel
theorem bt_IndexError : bootBuiltins "IndexError" = some (.type "IndexError") := by decide +kernel
theorem bt_LookupError : bootBuiltins "LookupError" = some (.type "LookupError") := by decide +kernel
theorem bt_OverflowError : bootBuiltins "OverflowError" = some (.type "OverflowError") := by decide +kernel
theorem bt_ZeroDivisionError : bootBuiltins "ZeroDivisionError" = some (.type "ZeroDivisionError") := by decide +kernel
theorem bt_ArithmeticError : bootBuiltins "ArithmeticError" = some (.type "ArithmeticError") := by decide +kernel
theorem bt_RuntimeError : bootBuiltins "RuntimeError" = some (.type "RuntimeError") := by decide +kernel
theorem bt_NotImplementedError : bootBuiltins "NotImplementedError" = some (.type "NotImplementedError") := by decide +kernel
theorem bt_AttributeError : bootBuiltins "AttributeError" = some (.type "AttributeError") := by decide +kernel
theorem bt_ValueError : bootBuiltins "ValueError" = some (.type "ValueError") := by decide +kernel
theorem bt_Exception : bootBuiltins "Exception" = some (.type "Exception") := by decide +kernel
end
end DV
namespace K1
open PySem PySem.Spec L2 DV
/-- the classes of errors, in the order in which the law asks for them -/
def nm (i : Nat) : Str := (["PersuasionError", "InvalidSetting", "InvalidBelief", "InvalidSplit", "InvalidExperiment", "InvalidPlane", "InvalidGame", "InvalidOutcome", "InvalidAnswers", "InvalidAction", "InvalidState", "InvalidNumber", "InvalidName", "InvalidDeed", "InvalidDrawing", "Unfit", "InvalidLot", "InvalidWishes", "InvalidBook", "InvalidLines", "InvalidText", "NotTransparent", "NothingToUndo", "NothingToRedo"] : List Str).getD i ""
/-- what the text's top has made of them -/
structure Cls (P : Program) (K : PySem.W.Frag) (mg : Str → Option Value) (cl : Nat → Addr) : Prop where
  gl : ∀ i, i < 24 → mg (nm i) = some (.ref (cl i))
  gv : ∀ i, 1 ≤ i → i ≤ 15 → EM.MkC P K (cl i) "given"
  ix : ∀ i, 16 ≤ i → i ≤ 19 → EM.MkC P K (cl i) "index"
  ln : EM.MkC P K (cl 20) "line"
  br : ∀ i, i < 24 → (i = 0 ∨ 21 ≤ i) → BareC K (cl i)
  ex : ∀ i, i < 24 → ExcC K (cl i)
  xf : ∀ i, i < 24 → XfC K (cl i)
  kt : ∀ i j, i < 24 → j < 24 → PySem.W.kitOne K (.ref (cl i)) (.ref (cl j)) = some (decide (j = 0 ∨ i = j))
  kv : ∀ i, i < 24 → PySem.W.kitOne K (.ref (cl i)) (.type "ValueError") = some true
  ke : ∀ i, i < 24 → PySem.W.kitOne K (.ref (cl i)) (.type "Exception") = some true
  k1 : ∀ i, i < 24 → PySem.W.kitAny K (.ref (cl i)) [.type "TypeError", .type "KeyError", .type "IndexError", .type "LookupError", .type "OverflowError", .type "ZeroDivisionError"] = some false
  k2 : ∀ i, i < 24 → PySem.W.kitAny K (.ref (cl i)) [.type "ArithmeticError", .type "RuntimeError", .type "NotImplementedError", .type "AttributeError"] = some false
  em : ∀ i j, i < 24 → j < 24 → PySem.W.exmOne K (.ref (cl i)) (.ref (cl j)) = some (decide (j = 0 ∨ i = j))
  sy : SysOk K
/-! ### sizes of what is shown -/
mutual
def wt : D → Nat
  | .non => 4
  | .bl _ => 5
  | .int i => (PyData.shown (.int i)).length
  | .str x => (PyData.shown (.str x)).length
  | .tup ds => wtA ds + 2 * ds.length + 3
  | .lst ds => wtA ds + 2 * ds.length + 3
  | .dct ks ds => (D.py (.dct ks ds)).shown.length
  | .err _ _ _ => 2
  | .erb _ => 2
def wtA : List D → Nat
  | [] => 0
  | d :: r => wt d + wtA r
end
mutual
theorem shown_le : ∀ d : D, d.py.shown.length ≤ wt d
  | .non => by decide +kernel
  | .bl true => by decide +kernel
  | .bl false => by decide +kernel
  | .int i => Nat.le_refl _
  | .str x => Nat.le_refl _
  | .tup ds => by
    have h := shownA_le ds
    have q := tupleText_len_le (PyData.shownAll (pyA ds))
    simp only [D.py, PyData.shown, wt]
    omega
  | .lst ds => by
    have h := shownA_le ds
    have q := listText_len_le (PyData.shownAll (pyA ds))
    simp only [D.py, PyData.shown, wt]
    omega
  | .dct ks ds => Nat.le_refl _
  | .err _ _ _ => by show (PyData.shown (.dict [])).length ≤ 2; decide +kernel
  | .erb _ => by show (PyData.shown (.dict [])).length ≤ 2; decide +kernel
theorem shownA_le : ∀ ds : List D, ((PyData.shownAll (pyA ds)).map (·.length)).sum ≤ wtA ds ∧ (PyData.shownAll (pyA ds)).length = ds.length
  | [] => ⟨Nat.le_refl _, rfl⟩
  | d :: r => by
    have h1 := shown_le d
    have h2 := shownA_le r
    simp only [pyA, PyData.shownAll, List.map_cons, List.sum_cons, wtA, List.length_cons]
    omega
end
/-! ### the characters of what is shown -/
theorem ok_app {a b : Str} (h : PyData.strOk a = true) (h2 : PyData.strOk b = true) : PyData.strOk (a ++ b) = true := by
  show (a.cps ++ b.cps).all (· < 0x110000) = true
  rw [Array.all_append, Bool.and_eq_true]
  exact ⟨h, h2⟩
theorem ok_join : ∀ ts : List Str, (∀ t ∈ ts, PyData.strOk t = true) → PyData.strOk (Str.join ", " ts) = true
  | [], _ => by decide +kernel
  | [x], h => h x (by simp)
  | x :: y :: r, h => ok_app (ok_app (h x (by simp)) (by decide +kernel)) (ok_join (y :: r) fun t ht => h t (List.mem_cons_of_mem _ ht))
theorem ok_tuple {ts : List Str} (h : ∀ t ∈ ts, PyData.strOk t = true) : PyData.strOk (tupleText ts) = true := by
  unfold tupleText
  refine ok_app (ok_app (by decide +kernel) (ok_join ts h)) ?_
  split <;> decide +kernel
theorem ok_from : ∀ (ts : List Str) (k : Nat) (acc : Str), PyData.strOk acc = true → (∀ t ∈ ts, PyData.strOk t = true) → PyData.strOk (textFrom k acc ts) = true
  | [], _, _, h, _ => h
  | t :: r, k, acc, h, ht => ok_from r (k + 1) _ (ok_app (ok_app h (by split <;> decide +kernel)) (ht t (by simp))) fun t h => ht t (List.mem_cons_of_mem _ h)
theorem ok_list {ts : List Str} (h : ∀ t ∈ ts, PyData.strOk t = true) : PyData.strOk (listText ts) = true := ok_app (ok_from ts 0 _ (by decide +kernel) h) (by decide +kernel)
/-- may be shown; depth up to k, size up to n -/
structure Fine (k n : Nat) (d : D) : Prop where
  tx : PyData.strOk d.py.shown = true
  sw : d.showy = true
  sb : d.py.showable = true
  dp : d.py.depth ≤ k
  sz : wt d ≤ n
theorem Fine.mono {k l n m : Nat} {d : D} (h : Fine k n d) (h1 : k ≤ l) (h2 : n ≤ m) : Fine l m d := ⟨h.tx, h.sw, h.sb, Nat.le_trans h.dp h1, Nat.le_trans h.sz h2⟩
theorem Fine.sho {k n : Nat} {d : D} (h : Fine k n d) (h1 : k ≤ 60) (h2 : n ≤ 1000000) : Sw 60 1000000 d := ⟨h.sw, h.sb, Nat.le_trans h.dp h1, Nat.le_trans (shown_le d) (Nat.le_trans h.sz h2)⟩
structure FineA (k n : Nat) (ds : List D) : Prop where
  tx : ∀ t ∈ PyData.shownAll (pyA ds), PyData.strOk t = true
  sw : showyA ds = true
  sb : PyData.showableAll (pyA ds) = true
  dp : PyData.depthAll (pyA ds) ≤ k
  sz : wtA ds ≤ n
theorem fine_nil {k n : Nat} : FineA k n [] := ⟨fun _ h => (nomatch h), rfl, rfl, Nat.zero_le _, Nat.zero_le _⟩
theorem fine_cons {k n m : Nat} {d : D} {ds : List D} (h : Fine k n d) (r : FineA k m ds) : FineA k (n + m) (d :: ds) := by
  refine ⟨fun t ht => ?_, by simp only [showyA, h.sw, r.sw, Bool.and_self], by simp only [pyA, PyData.showableAll, h.sb, r.sb, Bool.and_self], ?_, ?_⟩
  · simp only [pyA, PyData.shownAll] at ht
    rcases List.mem_cons.mp ht with e | e
    · rw [e]; exact h.tx
    · exact r.tx t e
  · have := h.dp
    have := r.dp
    simp only [pyA, PyData.depthAll]
    omega
  · have := h.sz
    have := r.sz
    simp only [wtA]
    omega
theorem fine_tup {k n : Nat} {ds : List D} (h : FineA k n ds) : Fine (k + 1) (n + 2 * ds.length + 3) (.tup ds) := by
  refine ⟨by simpa only [D.py, PyData.shown] using ok_tuple h.tx, h.sw, by simpa only [D.py, PyData.showable] using h.sb, ?_, ?_⟩
  · have := h.dp
    simp only [D.py, PyData.depth]
    omega
  · have := h.sz
    simp only [wt]
    omega
theorem fine_lst {k n : Nat} {ds : List D} (h : FineA k n ds) : Fine (k + 1) (n + 2 * ds.length + 3) (.lst ds) := by
  refine ⟨by simpa only [D.py, PyData.shown] using ok_list h.tx, h.sw, by simpa only [D.py, PyData.showable] using h.sb, ?_, ?_⟩
  · have := h.dp
    simp only [D.py, PyData.depth]
    omega
  · have := h.sz
    simp only [wt]
    omega
theorem of_tup {k n : Nat} {ds : List D} (h : Fine k n (.tup ds)) : wtA ds + 2 * ds.length + 3 ≤ n := by
  have := h.sz
  simp only [wt] at this
  omega
theorem fineA_of {k : Nat} : ∀ {ds : List D}, (∀ d ∈ ds, Fine k (wt d) d) → FineA k (wtA ds) ds
  | [], _ => fine_nil
  | d :: r, h => fine_cons (h d (by simp)) (fineA_of fun x hx => h x (List.mem_cons_of_mem _ hx))
theorem fineA_mem {k n : Nat} : ∀ {ds : List D}, FineA k n ds → ∀ d ∈ ds, Fine k (wt d) d
  | [], _, _, h => by cases h
  | d :: r, h, x, hx => by
    have s1 : d.showy = true ∧ showyA r = true := Bool.and_eq_true_iff.mp h.sw
    have s2 : d.py.showable = true ∧ PyData.showableAll (pyA r) = true := Bool.and_eq_true_iff.mp (show (d.py.showable && PyData.showableAll (pyA r)) = true by simpa only [pyA, PyData.showableAll] using h.sb)
    have s3 : d.py.depth ≤ k ∧ PyData.depthAll (pyA r) ≤ k := by
      have := h.dp
      simp only [pyA, PyData.depthAll] at this
      omega
    rcases List.mem_cons.mp hx with e | hx
    · subst e; exact ⟨h.tx _ (by simp [pyA, PyData.shownAll]), s1.1, s2.1, s3.1, Nat.le_refl _⟩
    · exact fineA_mem (n := wtA r) ⟨fun t ht => h.tx t (by simp only [pyA, PyData.shownAll]; exact List.mem_cons_of_mem _ ht), s1.2, s2.2, s3.2, Nat.le_refl _⟩ x hx
theorem wtA_app : ∀ a b : List D, wtA (a ++ b) = wtA a + wtA b
  | [], b => by simp [wtA]
  | d :: r, b => by simp only [List.cons_append, wtA, wtA_app r b]; omega
theorem wtA_mem : ∀ {ds : List D} {d : D}, d ∈ ds → wt d ≤ wtA ds
  | d :: r, x, h => by
    rcases List.mem_cons.mp h with e | h
    · subst e; simp only [wtA]; omega
    · have := wtA_mem h
      simp only [wtA]; omega
end K1

/-! part DL -/
set_option Elab.async false
set_option linter.all false
set_option maxRecDepth 100000
set_option maxHeartbeats 1000000
set_option autoImplicit false
namespace DV
open PySem PySem.Spec L2
section
variable {X : Cx}
theorem PD.weak {e : Expr} {f g : SE} (h : PD X e f) (m : MonE g) (i : ∀ ρ μ P, g ρ μ P → f ρ μ P) : PD X e g :=
  ⟨m, h.run.of fun σ H Q ⟨ad, ρ, μ, s, q⟩ => ⟨ad, ρ, μ, s, i _ _ _ q⟩⟩
theorem mon_fC (d : D) : MonE (fC d) := fun ρ μ P P' k h => k _ _ h
def fL (ds : List D) : SA := fun ρ μ P => P (ds.map S.d) μ
theorem pdl_nil : PDA X [] (fL []) := pda_nil
theorem pdl_cons {e : Expr} {es : List Expr} {d : D} {ds : List D} (h : PD X e (fC d)) (r : PDA X es (fL ds)) (hs : starEach (e :: es) X.env = (false, eval e X.env) :: starEach es X.env := by rfl) : PDA X (e :: es) (fL (d :: ds)) :=
  pda_cons h r hs
theorem allD_map : ∀ ds : List D, allD (ds.map S.d) = some ds
  | [] => rfl
  | d :: ds => by show (allD (ds.map S.d)).map _ = _; rw [allD_map ds]; rfl
theorem pdl_tup {es : List Expr} {ds : List D} {k : Nat} {pos : Pos} (h : PDA X es (fL ds)) (hl : ds.length ≤ 100000 := by decide) : PD X (.Tuple es k pos) (fC (.tup ds)) :=
  (pd_tup h).weak (mon_fC _) fun ρ μ P q => ⟨ds, allD_map ds, hl, q⟩
theorem pdl_lst {es : List Expr} {ds : List D} {pos : Pos} (h : PDA X es (fL ds)) (hl : ds.length ≤ 100000 := by decide) : PD X (.List es pos) (fC (.lst ds)) :=
  (pd_lst h).weak (mon_fC _) fun ρ μ P q => ⟨ds, allD_map ds, hl, q⟩
theorem pdl_neg {i : Int} {j : Nat} {p pos : Pos} : PD X (.UnaryOp .USub (.Constant (.int i) j p) pos) (fC (.int (-i))) :=
  (pd_neg pd_int).weak (mon_fC _) fun ρ μ P q => q
theorem pdl_pow {a b : Int} {j1 j2 : Nat} {p1 p2 pos : Pos} (h : CPow a b) : PD X (.BinOp (.Constant (.int a) j1 p1) .Pow (.Constant (.int b) j2 p2) pos) (fC (.int (a ^ b.toNat))) :=
  (pd_op op_pow mon_gF snd_I pd_int pd_int).weak (mon_fC _) fun ρ μ P q => ⟨h, _, rfl, q⟩
end
end DV

/-! part DW2 -/
set_option Elab.async false
set_option linter.all false
set_option maxRecDepth 100000
set_option maxHeartbeats 1000000
set_option autoImplicit false
namespace DV
open PySem PySem.Spec L2
section
variable {X : Cx} {W : WX}
theorem kIsX {K : PySem.W.Frag} {e : Expr} {u : Value} {g : SE} (hK : X.K = K) (h : PD X e (fIsX X.K u g)) : PD X e (fIsX K u g) := hK ▸ h
theorem kIsXT {K : PySem.W.Frag} {e : Expr} {us : List Value} {g : SE} (hK : X.K = K) (h : PD X e (fIsXT X.K us g)) : PD X e (fIsXT K us g) := hK ▸ h
theorem kAtt {K : PySem.W.Frag} {e : Expr} {f : Str} {g : SE} (hK : X.K = K) (h : PD X e (fAtt X.K f g)) : PD X e (fAtt K f g) := hK ▸ h
theorem kXatt {K : PySem.W.Frag} {e : Expr} {a : Addr} {cls : Value} {d : Option Addr} {f : Str} {g : SE} (hK : X.K = K) (h : PD X e (fXatt X.K a cls d f g)) : PD X e (fXatt K a cls d f g) := hK ▸ h
theorem kTry {K : PySem.W.Frag} {st : Stmt} {fb : SS} {l : List ClD} (hK : X.K = K) (h : PDS X W st (fTry X.K fb l)) : PDS X W st (fTry K fb l) := hK ▸ h
end
end DV

/-! part U0 -/
set_option Elab.async false
set_option linter.all false
set_option maxRecDepth 100000
set_option autoImplicit false
set_option exponentiation.threshold 4000
set_option maxHeartbeats 1000000
namespace K1
open PySem PySem.Spec L2 DV
open PyProof.Rows (envOfC)
variable {P : Program} {w : World} {K : PySem.W.Frag} {mg : Str → Option Value} {base : Heap} {cl : Nat → Addr}

def topS (i : Nat) : Stmt := PySem.Challenge.pw_persuasion_k01_errors_each_of_its_own.main.body.getD i (.Pass ⟨0, 0, 0, 0⟩)
abbrev s__law_well : Stmt := topS 26
abbrev N__law_well : List Str := ["script", "lap", "mixed", "cell", "own"]
theorem sc__law_well : FnScope N__law_well ["script", "lap"] (defScope s__law_well) := ⟨rfl, rfl, rfl, by decide +kernel, rfl, by decide +kernel, by decide +kernel⟩
abbrev s__law_draw : Stmt := topS 27
abbrev N__law_draw : List Str := ["well", "few", "figure", "mixed"]
theorem sc__law_draw : FnScope N__law_draw ["well", "few"] (defScope s__law_draw) := ⟨rfl, rfl, rfl, by decide +kernel, rfl, by decide +kernel, by decide +kernel⟩
abbrev s__law_one : Stmt := topS 28
abbrev N__law_one : List Str := ["well", "some"]
theorem sc__law_one : FnScope N__law_one ["well", "some"] (defScope s__law_one) := ⟨rfl, rfl, rfl, by decide +kernel, rfl, by decide +kernel, by decide +kernel⟩
abbrev s__law_odd : Stmt := topS 29
abbrev N__law_odd : List Str := ["well"]
theorem sc__law_odd : FnScope N__law_odd ["well"] (defScope s__law_odd) := ⟨rfl, rfl, rfl, by decide +kernel, rfl, by decide +kernel, by decide +kernel⟩
abbrev s__law_bent : Stmt := topS 30
abbrev N__law_bent : List Str := ["well", "thing", "at", "way"]
theorem sc__law_bent : FnScope N__law_bent ["well", "thing"] (defScope s__law_bent) := ⟨rfl, rfl, rfl, by decide +kernel, rfl, by decide +kernel, by decide +kernel⟩
abbrev s__law_thing : Stmt := topS 31
abbrev N__law_thing : List Str := ["well", "thing", "turn"]
theorem sc__law_thing : FnScope N__law_thing ["well"] (defScope s__law_thing) := ⟨rfl, rfl, rfl, by decide +kernel, rfl, by decide +kernel, by decide +kernel⟩
abbrev s__law_kinds : Stmt := topS 32
abbrev N__law_kinds : List Str := ["fault", "some"]
theorem sc__law_kinds : FnScope N__law_kinds ["fault"] (defScope s__law_kinds) := ⟨rfl, rfl, rfl, by decide +kernel, rfl, by decide +kernel, by decide +kernel⟩
abbrev s__law_is_strange : Stmt := topS 33
abbrev N__law_is_strange : List Str := ["fault"]
theorem sc__law_is_strange : FnScope N__law_is_strange ["fault"] (defScope s__law_is_strange) := ⟨rfl, rfl, rfl, by decide +kernel, rfl, by decide +kernel, by decide +kernel⟩
abbrev s__law_by_place : Stmt := topS 34
abbrev N__law_by_place : List Str := ["thing", "some"]
theorem sc__law_by_place : FnScope N__law_by_place ["thing"] (defScope s__law_by_place) := ⟨rfl, rfl, rfl, by decide +kernel, rfl, by decide +kernel, by decide +kernel⟩
abbrev s__law_by_name : Stmt := topS 35
abbrev N__law_by_name : List Str := ["thing", "some"]
theorem sc__law_by_name : FnScope N__law_by_name ["thing"] (defScope s__law_by_name) := ⟨rfl, rfl, rfl, by decide +kernel, rfl, by decide +kernel, by decide +kernel⟩
abbrev s__law_throw : Stmt := topS 36
abbrev N__law_throw : List Str := ["way", "thing"]
theorem sc__law_throw : FnScope N__law_throw ["way", "thing"] (defScope s__law_throw) := ⟨rfl, rfl, rfl, by decide +kernel, rfl, by decide +kernel, by decide +kernel⟩
abbrev s__law_caught : Stmt := topS 37
abbrev N__law_caught : List Str := ["way", "thing", "e", "found"]
theorem sc__law_caught : FnScope N__law_caught ["way", "thing"] (defScope s__law_caught) := ⟨rfl, rfl, rfl, by decide +kernel, rfl, by decide +kernel, by decide +kernel⟩
abbrev s__law_based : Stmt := topS 38
abbrev N__law_based : List Str := ["way", "thing", "found", "e"]
theorem sc__law_based : FnScope N__law_based ["way", "thing"] (defScope s__law_based) := ⟨rfl, rfl, rfl, by decide +kernel, rfl, by decide +kernel, by decide +kernel⟩
abbrev s__law_bare : Stmt := topS 39
abbrev N__law_bare : List Str := ["way", "found"]
theorem sc__law_bare : FnScope N__law_bare ["way"] (defScope s__law_bare) := ⟨rfl, rfl, rfl, by decide +kernel, rfl, by decide +kernel, by decide +kernel⟩
abbrev s__law_are_kinds : Stmt := topS 40
abbrev N__law_are_kinds : List Str := ["faults", "first", "at", "k"]
theorem sc__law_are_kinds : FnScope N__law_are_kinds ["faults", "first"] (defScope s__law_are_kinds) := ⟨rfl, rfl, rfl, by decide +kernel, rfl, by decide +kernel, by decide +kernel⟩
abbrev s__law_right : Stmt := topS 41
abbrev N__law_right : List Str := ["well", "thing", "other", "kept", "more", "placed", "named", "some", "rest", "one", "two", "base", "way", "k", "each"]
theorem sc__law_right : FnScope N__law_right ["well"] (defScope s__law_right) := ⟨rfl, rfl, rfl, by decide +kernel, rfl, by decide +kernel, by decide +kernel⟩
abbrev s_law : Stmt := topS 42
abbrev N_law : List Str := ["script", "lap"]
theorem sc_law : FnScope N_law ["script"] (defScope s_law) := ⟨rfl, rfl, rfl, by decide +kernel, rfl, by decide +kernel, by decide +kernel⟩
theorem rngD_nat (n : Nat) : rngD (n : Int) = (List.range n).map fun (i : Nat) => D.int (i : Int) := by
  unfold rngD
  rw [Int.toNat_natCast]
theorem get_last {ms : List (List D)} {x : List D} : (ms ++ [x])[ms.length]? = some x := by
  rw [List.getElem?_append_right (Nat.le_refl _), Nat.sub_self]
  rfl
theorem bls_some : ∀ ns : List Bool, blsOf (ns.map D.bl) = some ns
  | [] => rfl
  | n :: r => by simp only [List.map_cons, blsOf, bls_some r, Option.map_some]
theorem loop_inv {α : Type} {g : SG} {body : SS} {ok : Mu → Prop} {k : K4} (enc : α → D) (I : Nat → Rho → Mu → Prop) : ∀ (items : List α) (n : Nat) (ρ : Rho) (μ : Mu),
    (∀ i a ρ μ, items[i]? = some a → I (n + i) ρ μ → ok μ ∧ ∀ k' : K4, k'.rt = k.rt → (∀ ρ' μ', I (n + i + 1) ρ' μ' → k'.nx ρ' μ') → g (.d (enc a)) ρ μ fun ρ1 μ1 => body ρ1 μ1 k') →
    (∀ ρ μ, I (n + items.length) ρ μ → ok μ ∧ k.nx ρ μ) → I n ρ μ → loopS g body ok (items.map enc) ρ μ k
  | [], n, ρ, μ, _, h2, h => h2 ρ μ h
  | a :: r, n, ρ, μ, h1, h2, h => by
    have q := h1 0 a ρ μ rfl h
    refine ⟨q.1, q.2 _ rfl fun ρ' μ' h' => ?_⟩
    refine loop_inv enc I r (n + 1) ρ' μ' (fun i b ρ μ hb hi => ?_) (fun ρ μ hi => h2 ρ μ ?_) h'
    · have e : n + 1 + i = n + (i + 1) := by omega
      rw [e] at hi ⊢
      exact h1 (i + 1) b ρ μ hb hi
    · have e : n + (a :: r).length = n + 1 + r.length := by rw [List.length_cons]; omega
      rw [e]
      exact hi
theorem cut_map {α : Type} (f : α → D) (l : List α) (lo hi : Option Int) : ∃ l' : List α, cutD (l.map f) lo hi = l'.map f := by
  unfold cutD
  rw [← List.map_drop, ← List.map_take]
  exact ⟨_, rfl⟩
theorem lc_pure {α : Type} {g : SG} {tt : STe} {fe : SE} {ok : Mu → Prop} {ρ : Rho} (enc : α → D) (out : α → Option D) (hok : ∀ μ, ok μ) : ∀ (items : List α) (acc : List D) (μ : Mu) (P : List D → Mu → Prop),
    (∀ a ∈ items, ∀ (μ' : Mu) (P : S → Mu → Prop) (P2 : Mu → Prop), (match out a with | some d => P (.d d) μ' | none => P2 μ') → g (.d (enc a)) ρ μ' fun ρ1 μ1 => tt ρ1 μ1 fun b μ2 => if b = true then fe ρ1 μ2 P else P2 μ2) →
    acc.length + items.length ≤ 40000 → P (acc ++ items.filterMap out) μ → lcLoop g tt fe ok ρ (items.map enc) acc μ P
  | [], acc, μ, P, _, _, q => ⟨hok _, by simpa using q⟩
  | a :: r, acc, μ, P, h, hl, q => by
    refine ⟨hok _, by simp at hl; omega, h a (by simp) _ _ _ ?_⟩
    cases e : out a with
    | none =>
      refine ⟨by simp, ?_⟩
      rw [List.dropLast_concat]
      exact lc_pure enc out hok r acc μ P (fun b hb => h b (List.mem_cons_of_mem _ hb)) (by simp at hl; omega) (by simpa [e] using q)
    | some d =>
      refine ⟨d, rfl, by simp, ?_⟩
      rw [List.dropLast_concat]
      exact lc_pure enc out hok r (acc ++ [d]) μ P (fun b hb => h b (List.mem_cons_of_mem _ hb)) (by simp at hl ⊢; omega) (by simpa [e] using q)
/-! ### rows -/
theorem lc_pure2 {α : Type} {g : SG} {tt : STe} {fe : SE} {ok : Mu → Prop} {ρ : Rho} (enc : α → D) (out : α → Option D) (μ : Mu) (hok : ∀ acc, ok (μ ++ [acc])) : ∀ (items : List α) (acc : List D) (P : List D → Mu → Prop),
    (∀ a ∈ items, ∀ (acc : List D) (P : S → Mu → Prop) (P2 : Mu → Prop), (match out a with | some d => P (.d d) (μ ++ [acc]) | none => P2 (μ ++ [acc])) → g (.d (enc a)) ρ (μ ++ [acc]) fun ρ1 μ1 => tt ρ1 μ1 fun b μ2 => if b = true then fe ρ1 μ2 P else P2 μ2) →
    acc.length + items.length ≤ 40000 → P (acc ++ items.filterMap out) μ → lcLoop g tt fe ok ρ (items.map enc) acc μ P
  | [], acc, P, _, _, q => ⟨hok _, by simpa using q⟩
  | a :: r, acc, P, h, hl, q => by
    refine ⟨hok _, by simp at hl; omega, h a (by simp) acc _ _ ?_⟩
    cases e : out a with
    | none =>
      refine ⟨by simp, ?_⟩
      rw [List.dropLast_concat]
      exact lc_pure2 enc out μ hok r acc P (fun b hb => h b (List.mem_cons_of_mem _ hb)) (by simp at hl; omega) (by simpa [e] using q)
    | some d =>
      refine ⟨d, rfl, by simp, ?_⟩
      rw [List.dropLast_concat]
      exact lc_pure2 enc out μ hok r (acc ++ [d]) P (fun b hb => h b (List.mem_cons_of_mem _ hb)) (by simp at hl ⊢; omega) (by simpa [e] using q)
inductive AllR {α : Type} (R : α → D → Prop) : List α → List D → Prop
  | nil : AllR R [] []
  | cons {a : α} {l : List α} {d : D} {ds : List D} : R a d → AllR R l ds → AllR R (a :: l) (d :: ds)
theorem range_get {n i a : Nat} (h : (List.range n)[i]? = some a) : a = i ∧ i < n := by
  have h2 := List.getElem?_eq_some_iff.mp h
  obtain ⟨h3, h4⟩ := h2
  rw [List.getElem_range] at h4
  rw [List.length_range] at h3
  exact ⟨h4.symm, h3⟩
/-- what the draws are made from -/
def IsW (w : List D) : Prop := ∃ a b c : Int, w = [.int a, .int b, .int c] ∧ 0 ≤ a
end K1

/-! part U1 -/
set_option Elab.async false
set_option linter.all false
set_option maxRecDepth 100000
set_option autoImplicit false
set_option exponentiation.threshold 4000
set_option maxHeartbeats 1000000
namespace K1
open PySem PySem.Spec L2 DV
open PyProof.Rows (envOfC)
variable {P : Program} {w : World} {K : PySem.W.Frag} {mg : Str → Option Value} {base : Heap} {cl : Nat → Addr}

local macro_rules | `(tactic| walk_at "dv") => `(tactic| simp only [startR, fAddW, fSubW, fGtW, fMul2, fModM, cAddW, cEqP, fEqP, fNeP, fInI, fIsiW, isBW, tyD, Option.bind_some, fRevT, fMk, fBare, fAtt, fIsX, fIsXT, fRaise, fRaise0, fTry, clD, suiteD, kNo, kBut, fXatt, fExprX, fCallX, kDX, gRepr2, cRepr2, datOf, errOf, kD, fin, fSeq, fNext, fDrop, fNRep, fNRg, fParN0, fPar3, fPar3N, fAsg, fRet, fIfS, fNever, fPar, fNew, fApp, fVar, fC, fOp, fTest, fTAnd, fTOr, fTNot, fVAnd, fVOr, fVNot, fNeg, fIf, fChain, fANil, fACons, fTup, fLst, fCB, fNLst, fOfN, fYes, fIsi, fONone, fOSome, fSl, sliceF,
  gF, gA, cI, fI, c0, cAdd, fAdd, fIx, cRepT, fRepT, fEq, fNe, fNotIn, intsOf, blsOf, allD, seqOf, tupOf, fLen, cA0, f1L, gSum, gAll, gAny, fTupleOf, fListOf, fA1, fA2, cDm, gN, gsNil_eq, gsCons_eq, gT_eq, gSb_eq, isB, itemsOf, fISeq, fIRng, fIEnum, fIZip, fIZipTL, fFor, fLc, wipeR, fCall, fCallK, fRetN, kN, fCallN, fCallOn, kwS, pick, gRepr, cRepr, List.filterMap_cons_some, List.filterMap_nil,
  List.map_cons, List.map_nil, List.length_cons, List.length_nil, List.replicate_succ, List.replicate_zero, List.cons_append, List.nil_append, List.append_nil, List.getElem?_cons_zero, List.getElem?_cons_succ, List.getElem?_nil, List.set_cons_zero, List.set_cons_succ, List.set_nil, List.take_succ_cons, List.take_zero, List.take_nil,
  Option.map_some, Option.map_none, Option.some.injEq, Option.get_some, exists_eq_left', exists_eq_left, exists_eq_right, true_and, and_true, if_true, if_false, reduceCtorEq, ite_true, ite_false, S.d.injEq, S.m.injEq, D.int.injEq, D.tup.injEq, D.lst.injEq, D.bl.injEq, D.str.injEq, List.cons.injEq, exists_and_left, exists_and_right,
  Nat.sub_zero, Nat.reduceSub, Nat.reduceAdd, Nat.zero_add, Nat.add_zero, Bool.not_true, Bool.not_false, Bool.false_eq_true, decide_eq_true_eq, Nat.reduceLT, Nat.reduceLeDiff, Nat.le_refl, List.take_length, Int.reduceLT, Int.reduceToNat, Nat.lt_irrefl, gt_iff_lt, Nat.not_lt_zero, Int.cast_ofNat_Int, decide_true, decide_false, and_assoc])

def T__law_well : TFN := fun ss μ P => ∃ (ns : List Int) (lap : Nat), ss = [.d (.lst (ns.map D.int)), .d (.int (lap : Int))] ∧ (ns.length ≤ 1000) ∧ ∀ w', IsW w' → P w' μ
theorem mon__law_well : MonFN T__law_well := fun ss μ P P' k ⟨a, b, e, h, q⟩ => ⟨a, b, e, h, fun r h1 => k _ _ (q r h1)⟩
theorem ok__law_well (t : Top K mg "_law_well" s__law_well ["script", "lap"]) (m_abs : mg "abs" = none) (m_int : mg "int" = none) (m_len : mg "len" = none) :
    DefOkN P w K mg base "_law_well" 1 2 T__law_well := by
  have nd := (sc__law_well).nd
  refine ok_defN (k := 0) t sc__law_well mon__law_well (fun f cdv A outer s H E hr =>
    (pds_cons (pds_set (pd_op addW_ok mon_gF snd_addW pd_int (pd_op op_mul mon_gF snd_I pd_int (pd_var (pv 1)))) (fun _ h => ps_set (i := 2) nd rfl (by first | exact Or.inl rfl | exact Or.inr rfl) h))
      (pds_cons (pds_for PassesOwn.never rfl (pdi_seq (pd_slice (pd_var (pv 0)) pdo_none (pdo_some pd_int))) (pdg_name (pg_name (i := 3) nd rfl (by first | exact Or.inl rfl | exact Or.inr rfl))) (pds_one (pds_set (pd_op op_mod mon_gF snd_I (pd_Ty call_int1 snd_int1 mon_gA (by rfl) m_int bt_int (pda_cons (pd_op addW_ok mon_gF snd_addW (pd_op addW_ok mon_gF snd_addW (pd_op op_mul mon_gF snd_I (pd_var (pv 2)) pd_int) (pd_op op_mul mon_gF snd_I (pd_op op_mod mon_gF snd_I (pd_Ty call_int1 snd_int1 mon_gA (by rfl) m_int bt_int (pda_cons (pd_var (pv 3)) pda_nil)) pd_int) pd_int)) pd_int) pda_nil)) pd_int) (fun _ h => ps_set (i := 2) nd rfl (by first | exact Or.inl rfl | exact Or.inr rfl) h))))
      (pds_cons (pds_set (pd_if (ptd_cmp op_lt mon_gF snd_B0 (nomark _) (pd_var (pv 1)) (pd_B call_len_seq snd_len mon_gA (by rfl) m_len bt_len (pda_cons (pd_var (pv 0)) pda_nil))) (pd_Ty call_int1 snd_int1 mon_gA (by rfl) m_int bt_int (pda_cons (pd_ix ix_ok mon_gF snd_ix (fun _ _ => rfl) (pd_var (pv 0)) (pd_var (pv 1))) pda_nil)) pd_int) (fun _ h => ps_set (i := 4) nd rfl (by first | exact Or.inl rfl | exact Or.inr rfl) h))
      (pds_cons (pds_set (pd_op op_mod mon_gF snd_I (pd_Ty call_int1 snd_int1 mon_gA (by rfl) m_int bt_int (pda_cons (pd_op addW_ok mon_gF snd_addW (pd_op addW_ok mon_gF snd_addW (pd_op op_mul mon_gF snd_I (pd_var (pv 2)) pd_int) (pd_op op_mul mon_gF snd_I (pd_op op_mod mon_gF snd_I (pd_Ty call_int1 snd_int1 mon_gA (by rfl) m_int bt_int (pda_cons (pd_var (pv 4)) pda_nil)) pd_int) pd_int)) pd_int) pda_nil)) pd_int) (fun _ h => ps_set (i := 2) nd rfl (by first | exact Or.inl rfl | exact Or.inr rfl) h))
      (pds_one (pd_retN (pdn_lst (pda_cons (pd_if (ptd_w (pdw_or (ptd_cmp op_lt mon_gF snd_B0 (nomark _) (pd_var (pv 4)) pd_int) (pdw_or1 (ptd_cmp op_ge mon_gF snd_B0 (nomark _) (pd_var (pv 4)) (pd_op op_pow mon_gF snd_I pd_int pd_int))))) (pd_B call_abs snd_abs mon_gA (by rfl) m_abs bt_abs (pda_cons (pd_var (pv 4)) pda_nil)) pd_int) (pda_cons (pd_var (pv 2)) (pda_cons pd_int pda_nil))))))))))) ?_
  intro ss μ Q hl h
  obtain ⟨ns, lap, rfl, hn, q⟩ := h
  have p1 : (0 : Int) < 2147483477 := by decide
  have cm : ∀ x c : Int, 0 ≤ c → c < 2 ^ 30 → CMul x c := fun x c h1 h2 => .inr ⟨by omega, by omega⟩
  have c1 : CMul 6841 (lap : Int) := .inl ⟨by decide, by decide⟩
  have fin0 : ∀ w', IsW w' → ¬ False ∧ ∃ ds, (μ ++ [w'])[μ.length]? = some ds ∧ Q ds (List.take μ.length (μ ++ [w'])) := fun w' hw' => ⟨id, w', get_last, by rw [List.take_left]; exact q w' hw'⟩
  walk_at "dv"
  refine ⟨c1, ?_⟩
  obtain ⟨is, e⟩ := cut_map D.int ns none (some 12)
  rw [e]
  refine loop_inv D.int (fun _ ρ μ' => μ = μ' ∧ ∃ (a : Int) (s3 : Option S), ρ = [some (.d (.lst (ns.map D.int))), some (.d (.int (lap : Int))), some (.d (.int a)), s3, none]) is 0 _ _ ?_ ?_ ⟨rfl, _, _, rfl⟩
  · rintro i x _ _ _ ⟨rfl, a, s3, rfl⟩
    refine ⟨trivial, fun k' _ hk => ?_⟩
    walk_at "dv"
    refine ⟨cm _ _ (by decide) (by decide), cm _ _ (by decide) (by decide), ?_⟩
    exact hk _ _ ⟨rfl, _, _, rfl⟩
  · rintro _ _ ⟨rfl, a, s3, rfl⟩
    refine ⟨trivial, ?_⟩
    have cp : CPow 10 15 := ⟨by decide, by decide, by decide⟩
    have fin : ∀ (x : Int), IsW [.int (if x < 0 then -x else x), .int ((a * 61 + x % 2147483477 * 28657 + 11) % 2147483477), .int 0] := fun x => ⟨_, _, _, rfl, by split <;> omega⟩
    have fin2 : ∀ (x : Int), IsW [.int 0, .int ((a * 61 + x % 2147483477 * 28657 + 11) % 2147483477), .int 0] := fun x => ⟨_, _, _, rfl, by decide⟩
    walk_at "dv"
    by_cases c : (lap : Int) < ((ns.map D.int).length : Int)
    · rw [if_pos c]
      have c2 : lap < ns.length := by rw [List.length_map] at c; omega
      rw [if_neg (by omega), Int.toNat_natCast, List.getElem?_map, List.getElem?_eq_getElem c2]
      generalize ns[lap] = x at *
      walk_at "dv"
      refine ⟨cm _ _ (by decide) (by decide), cm _ _ (by decide) (by decide), ?_⟩
      by_cases d : x < 0
      · rw [if_pos d]; exact fin0 _ (fin x)
      · rw [if_neg d]
        refine ⟨cp, ?_⟩
        by_cases d2 : 10 ^ 15 ≤ x
        · rw [if_pos d2]; exact fin0 _ (fin x)
        · rw [if_neg d2]; exact fin0 _ (fin2 x)
    · rw [if_neg c]
      refine ⟨cm _ _ (by decide) (by decide), cm _ _ (by decide) (by decide), cp, ?_⟩
      rw [if_neg (by decide)]
      exact fin0 _ (fin2 0)
def T__law_draw : TF := fun ss μ P => ∃ w ms few, ss = [.m 0, .d (.int few)] ∧ μ = w :: ms ∧ (IsW w ∧ 0 < few ∧ few < 2 ^ 100) ∧ ∀ r w', IsW w' → 0 ≤ r → r < few → P (.int r) (w' :: ms)
theorem mon__law_draw : MonF T__law_draw := fun ss μ P P' k ⟨a, b, c, e, e2, h, q⟩ => ⟨a, b, c, e, e2, h, fun r w' h1 h2 h3 => k _ _ (q r w' h1 h2 h3)⟩
theorem ok__law_draw (t : Top K mg "_law_draw" s__law_draw ["well", "few"]) (m_divmod : mg "divmod" = none) (m_int : mg "int" = none) :
    DefOk P w K mg base "_law_draw" 1 2 T__law_draw := by
  have nd := (sc__law_draw).nd
  refine ok_defD (k := 0) t sc__law_draw mon__law_draw (fun f cdv A outer s H E hr =>
    (pds_cons (pds_if (ptd_cmp op_gt mon_gF snd_B0 (nomark _) (pd_ix ix_ok mon_gF snd_ix (fun _ _ => rfl) (pd_var (pv 0)) pd_int) pd_int) (pds_cons (pds_asg (pd_B call_divmodW snd_divmod mon_gA (by rfl) m_divmod bt_divmod (pda_cons (pd_ix ix_ok mon_gF snd_ix (fun _ _ => rfl) (pd_var (pv 0)) pd_int) (pda_cons (pd_var (pv 1)) pda_nil))) (pdg_tup (n := 2) rfl (pdgs_cons (pdg_sub (pd_var (pv 0)) pd_int) (pdgs_cons (pdg_name (pg_name (i := 2) nd rfl (by first | exact Or.inl rfl | exact Or.inr rfl))) pdgs_nil))))
      (pds_one (pd_ret (pd_var (pv 2))))) pds_nil)
      (pds_cons (pds_asg (pd_op addW_ok mon_gF snd_addW (pd_ix ix_ok mon_gF snd_ix (fun _ _ => rfl) (pd_var (pv 0)) pd_int) pd_int) (pdg_sub (pd_var (pv 0)) pd_int))
      (pds_cons (pds_set (pd_op op_mod mon_gF snd_I (pd_Ty call_int1 snd_int1 mon_gA (by rfl) m_int bt_int (pda_cons (pd_op addW_ok mon_gF snd_addW (pd_op op_mul mon_gF snd_I (pd_ix ix_ok mon_gF snd_ix (fun _ _ => rfl) (pd_var (pv 0)) pd_int) pd_int) (pd_op op_mul mon_gF snd_I pd_int (pd_ix ix_ok mon_gF snd_ix (fun _ _ => rfl) (pd_var (pv 0)) pd_int))) pda_nil)) pd_int) (fun _ h => ps_set (i := 3) nd rfl (by first | exact Or.inl rfl | exact Or.inr rfl) h))
      (pds_cons (pds_asg (pd_op op_mod mon_gF snd_I (pd_Ty call_int1 snd_int1 mon_gA (by rfl) m_int bt_int (pda_cons (pd_op addW_ok mon_gF snd_addW (pd_op op_mul mon_gF snd_I (pd_var (pv 3)) (pd_op addW_ok mon_gF snd_addW (pd_op op_mod mon_gF snd_I (pd_Ty call_int1 snd_int1 mon_gA (by rfl) m_int bt_int (pda_cons (pd_var (pv 3)) pda_nil)) pd_int) pd_int)) (pd_ix ix_ok mon_gF snd_ix (fun _ _ => rfl) (pd_var (pv 0)) pd_int)) pda_nil)) pd_int) (pdg_sub (pd_var (pv 0)) pd_int))
      (pds_one (pd_ret (pd_op op_mod mon_gF snd_I (pd_Ty call_int1 snd_int1 mon_gA (by rfl) m_int bt_int (pda_cons (pd_op op_fdivW mon_gF snd_I (pd_ix ix_ok mon_gF snd_ix (fun _ _ => rfl) (pd_var (pv 0)) pd_int) pd_int) pda_nil)) (pd_var (pv 1)))))))))) ?_
  intro ss μ Q hl h
  obtain ⟨_, ms, few, rfl, rfl, ⟨⟨a, b, c, rfl, ha⟩, h1, h2⟩, q⟩ := h
  have p1 : (0 : Int) < 2147483477 := by decide
  have p2 : (0 : Int) < 4999 := by decide
  have c1 : CMul b 44497 := .inr ⟨by decide, by decide⟩
  have c2 : CMul 13007 (c + 1) := .inl ⟨by decide, by decide⟩
  have c4 : ∀ x y : Int, CMul (x % 2147483477) y := fun x y => .inl ⟨by have := Int.emod_nonneg x (show (2147483477 : Int) ≠ 0 by decide); omega, by have := Int.emod_lt_of_pos x p1; omega⟩
  have c5 : ∀ x : Int, CDivW x 1013 := fun x => ⟨by decide, by decide⟩
  walk_at "dv"
  by_cases hc : 0 < a
  · rw [if_pos hc]
    exact ⟨h1, h2, by decide, q _ _ ⟨_, _, _, rfl, Int.ediv_nonneg ha (by omega)⟩ (Int.emod_nonneg _ (by omega)) (Int.emod_lt_of_pos _ h1)⟩
  · rw [if_neg hc]
    exact ⟨by decide, c1, c2, c4 _ _, by decide, c5 _, h1, q _ _ ⟨_, _, _, rfl, ha⟩ (Int.emod_nonneg _ (by omega)) (Int.emod_lt_of_pos _ h1)⟩
def T__law_one : TF := fun ss μ P => ∃ w ms ds, (ss = [.m 0, .d (.tup ds)] ∨ ss = [.m 0, .d (.lst ds)]) ∧ μ = w :: ms ∧ (IsW w ∧ ds ≠ [] ∧ ds.length ≤ 1000) ∧ ∀ d w', IsW w' → d ∈ ds → P d (w' :: ms)
theorem mon__law_one : MonF T__law_one := fun ss μ P P' k ⟨a, b, c, e, e2, h, q⟩ => ⟨a, b, c, e, e2, h, fun r w' h1 h2 => k _ _ (q r w' h1 h2)⟩
theorem ok__law_one (t : Top K mg "_law_one" s__law_one ["well", "some"]) (C__law_draw : DefOk P w K mg base "_law_draw" 1 2 T__law_draw) (m_len : mg "len" = none) :
    DefOk P w K mg base "_law_one" 2 2 T__law_one := by
  have nd := (sc__law_one).nd
  refine ok_defD (k := 1) t sc__law_one mon__law_one (fun f cdv A outer s H E hr =>
    (pds_one (pd_ret (pd_ix ix_ok mon_gF snd_ix (fun _ _ => rfl) (pd_var (pv 1)) (pd_callD C__law_draw (hr.mono (by decide)) (by rfl) (pda_cons (pd_var (pv 0)) (pda_cons (pd_B call_len_seq snd_len mon_gA (by rfl) m_len bt_len (pda_cons (pd_var (pv 1)) pda_nil)) pda_nil))))))) ?_
  intro ss μ Q hl h
  obtain ⟨w0, ms, ds, e, rfl, ⟨hw, h1, h2⟩, q⟩ := h
  have hp : (0 : Int) < (ds.length : Int) := by
    cases ds with
    | nil => exact absurd rfl h1
    | cons a l => rw [List.length_cons]; omega
  rcases e with rfl | rfl
  · walk_at "dv"
    refine ⟨w0, ms, _, rfl, rfl, ⟨hw, hp, by omega⟩, fun r w' hw' r0 r1 => ?_⟩
    walk_at "dv"
    rw [if_neg (by omega)]
    have hr : r.toNat < ds.length := by omega
    rw [List.getElem?_eq_getElem hr]
    walk_at "dv"
    exact q _ _ hw' (List.getElem_mem hr)
  · walk_at "dv"
    refine ⟨w0, ms, _, rfl, rfl, ⟨hw, hp, by omega⟩, fun r w' hw' r0 r1 => ?_⟩
    walk_at "dv"
    rw [if_neg (by omega)]
    have hr : r.toNat < ds.length := by omega
    rw [List.getElem?_eq_getElem hr]
    walk_at "dv"
    exact q _ _ hw' (List.getElem_mem hr)
end K1

/-! part U2 -/
set_option Elab.async false
set_option linter.all false
set_option maxRecDepth 100000
set_option autoImplicit false
set_option exponentiation.threshold 4000
set_option maxHeartbeats 1000000
namespace K1
open PySem PySem.Spec L2 DV
open PyProof.Rows (envOfC)
variable {P : Program} {w : World} {K : PySem.W.Frag} {mg : Str → Option Value} {base : Heap} {cl : Nat → Addr}

local macro_rules | `(tactic| walk_at "dv") => `(tactic| simp only [startR, fAddW, fSubW, fGtW, fMul2, fModM, cAddW, cEqP, fEqP, fNeP, fInI, fIsiW, isBW, tyD, Option.bind_some, fRevT, fMk, fBare, fAtt, fIsX, fIsXT, fRaise, fRaise0, fTry, clD, suiteD, kNo, kBut, fXatt, fExprX, fCallX, kDX, gRepr2, cRepr2, datOf, errOf, kD, fin, fSeq, fNext, fDrop, fNRep, fNRg, fParN0, fPar3, fPar3N, fAsg, fRet, fIfS, fNever, fPar, fNew, fApp, fVar, fC, fOp, fTest, fTAnd, fTOr, fTNot, fVAnd, fVOr, fVNot, fNeg, fIf, fChain, fANil, fACons, fTup, fLst, fCB, fNLst, fOfN, fYes, fIsi, fONone, fOSome, fSl, sliceF,
  gF, gA, cI, fI, c0, cAdd, fAdd, fIx, cRepT, fRepT, fEq, fNe, fNotIn, intsOf, blsOf, allD, seqOf, tupOf, fLen, cA0, f1L, gSum, gAll, gAny, fTupleOf, fListOf, fA1, fA2, cDm, gN, gsNil_eq, gsCons_eq, gT_eq, gSb_eq, isB, itemsOf, fISeq, fIRng, fIEnum, fIZip, fIZipTL, fFor, fLc, wipeR, fCall, fCallK, fRetN, kN, fCallN, fCallOn, kwS, pick, gRepr, cRepr, List.filterMap_cons_some, List.filterMap_nil,
  List.map_cons, List.map_nil, List.length_cons, List.length_nil, List.replicate_succ, List.replicate_zero, List.cons_append, List.nil_append, List.append_nil, List.getElem?_cons_zero, List.getElem?_cons_succ, List.getElem?_nil, List.set_cons_zero, List.set_cons_succ, List.set_nil, List.take_succ_cons, List.take_zero, List.take_nil,
  Option.map_some, Option.map_none, Option.some.injEq, Option.get_some, exists_eq_left', exists_eq_left, exists_eq_right, true_and, and_true, if_true, if_false, reduceCtorEq, ite_true, ite_false, S.d.injEq, S.m.injEq, D.int.injEq, D.tup.injEq, D.lst.injEq, D.bl.injEq, D.str.injEq, List.cons.injEq, exists_and_left, exists_and_right,
  Nat.sub_zero, Nat.reduceSub, Nat.reduceAdd, Nat.zero_add, Nat.add_zero, Bool.not_true, Bool.not_false, Bool.false_eq_true, decide_eq_true_eq, Nat.reduceLT, Nat.reduceLeDiff, Nat.le_refl, List.take_length, Int.reduceLT, Int.reduceToNat, Nat.lt_irrefl, gt_iff_lt, Nat.not_lt_zero, Int.cast_ofNat_Int, decide_true, decide_false, and_assoc])

/-- the odd things -/
def oddL : List D := [D.non, .bl true, .bl false, .int 0, .int 1, .int 2, .int (-1), .int 7, .int 3, .int 4, .str "", .str "a", .str "gains", .str "0", .tup [], .tup [.int 0], .tup [.int 1], .tup [.int 0, .int 1], .tup [.int 1, .int 2], .tup [.int 2, .int 4], .tup [.int 1, .int 1], .tup [.int 1, .int 0], .tup [.int 3, .int (-2)], .tup [.bl true, .int 1], .tup [.int 1, .bl true], .tup [.tup [.int 0, .int 1]], .tup [.tup [.int 1, .int 1]], .tup [.tup [.tup [.int 1, .int 1]]], .tup [.tup [.int 1, .int 2], .tup [.int 1, .int 2]], .tup [.tup [.int 0, .int 1], .tup [.int 1, .int 1]], .tup [.tup [.int 1, .int 1], .tup [.int 0, .int 1]], .tup [.tup [.int 3, .int 2], .tup [.int (-1), .int 2]], .lst [], .lst [.int 1], .lst [.tup [.int 1, .int 1]], .tup [.tup [.tup [.int 1, .int 1], .tup [.tup [.int 1, .int 2], .tup [.int 1, .int 2]]]], .dct [] [], .dct [.inr "a"] [.int 1], .tup [D.non], .tup [.tup []], .tup [.tup [.int 0, .int 1], .int 1], .int (10 ^ Int.toNat 20), .tup [.int 0, .int 1, .int 2], .tup [.int 1, .int 0, .int 2], .tup [.tup [.int 1, .int 3], .tup [.int 1, .int 3], .tup [.int 1, .int 3]], .tup [.tup [], .tup []], .tup [.tup [.tup [.tup [.int 1, .int 1]]], .tup [.tup [.tup [.int 1, .int 1]]]]]
def T__law_odd : TF := fun ss μ P => ∃ w ms, ss = [.m 0] ∧ μ = w :: ms ∧ (IsW w) ∧ ∀ d w', IsW w' → d ∈ oddL → P d (w' :: ms)
theorem mon__law_odd : MonF T__law_odd := fun ss μ P P' k ⟨a, b, e, e2, h, q⟩ => ⟨a, b, e, e2, h, fun d w' h1 h2 => k _ _ (q d w' h1 h2)⟩
theorem ok__law_odd (t : Top K mg "_law_odd" s__law_odd ["well"]) (C__law_one : DefOk P w K mg base "_law_one" 2 2 T__law_one) :
    DefOk P w K mg base "_law_odd" 3 1 T__law_odd := by
  have nd := (sc__law_odd).nd
  refine ok_defD (k := 2) t sc__law_odd mon__law_odd (fun f cdv A outer s H E hr =>
    (pds_one (pd_ret (pd_callD C__law_one (hr.mono (by decide)) (by rfl) (pda_cons (pd_var (pv 0)) (pda_cons (pdl_tup (ds := oddL) (pdl_cons pd_non (pdl_cons pd_bl (pdl_cons pd_bl (pdl_cons pd_int (pdl_cons pd_int (pdl_cons pd_int (pdl_cons pdl_neg (pdl_cons pd_int (pdl_cons pd_int (pdl_cons pd_int (pdl_cons pd_str (pdl_cons pd_str (pdl_cons pd_str (pdl_cons pd_str (pdl_cons (pdl_tup pdl_nil) (pdl_cons (pdl_tup (pdl_cons pd_int pdl_nil)) (pdl_cons (pdl_tup (pdl_cons pd_int pdl_nil)) (pdl_cons (pdl_tup (pdl_cons pd_int (pdl_cons pd_int pdl_nil))) (pdl_cons (pdl_tup (pdl_cons pd_int (pdl_cons pd_int pdl_nil))) (pdl_cons (pdl_tup (pdl_cons pd_int (pdl_cons pd_int pdl_nil))) (pdl_cons (pdl_tup (pdl_cons pd_int (pdl_cons pd_int pdl_nil))) (pdl_cons (pdl_tup (pdl_cons pd_int (pdl_cons pd_int pdl_nil))) (pdl_cons (pdl_tup (pdl_cons pd_int (pdl_cons pdl_neg pdl_nil))) (pdl_cons (pdl_tup (pdl_cons pd_bl (pdl_cons pd_int pdl_nil))) (pdl_cons (pdl_tup (pdl_cons pd_int (pdl_cons pd_bl pdl_nil))) (pdl_cons (pdl_tup (pdl_cons (pdl_tup (pdl_cons pd_int (pdl_cons pd_int pdl_nil))) pdl_nil)) (pdl_cons (pdl_tup (pdl_cons (pdl_tup (pdl_cons pd_int (pdl_cons pd_int pdl_nil))) pdl_nil)) (pdl_cons (pdl_tup (pdl_cons (pdl_tup (pdl_cons (pdl_tup (pdl_cons pd_int (pdl_cons pd_int pdl_nil))) pdl_nil)) pdl_nil)) (pdl_cons (pdl_tup (pdl_cons (pdl_tup (pdl_cons pd_int (pdl_cons pd_int pdl_nil))) (pdl_cons (pdl_tup (pdl_cons pd_int (pdl_cons pd_int pdl_nil))) pdl_nil))) (pdl_cons (pdl_tup (pdl_cons (pdl_tup (pdl_cons pd_int (pdl_cons pd_int pdl_nil))) (pdl_cons (pdl_tup (pdl_cons pd_int (pdl_cons pd_int pdl_nil))) pdl_nil))) (pdl_cons (pdl_tup (pdl_cons (pdl_tup (pdl_cons pd_int (pdl_cons pd_int pdl_nil))) (pdl_cons (pdl_tup (pdl_cons pd_int (pdl_cons pd_int pdl_nil))) pdl_nil))) (pdl_cons (pdl_tup (pdl_cons (pdl_tup (pdl_cons pd_int (pdl_cons pd_int pdl_nil))) (pdl_cons (pdl_tup (pdl_cons pdl_neg (pdl_cons pd_int pdl_nil))) pdl_nil))) (pdl_cons (pdl_lst pdl_nil) (pdl_cons (pdl_lst (pdl_cons pd_int pdl_nil)) (pdl_cons (pdl_lst (pdl_cons (pdl_tup (pdl_cons pd_int (pdl_cons pd_int pdl_nil))) pdl_nil)) (pdl_cons (pdl_tup (pdl_cons (pdl_tup (pdl_cons (pdl_tup (pdl_cons pd_int (pdl_cons pd_int pdl_nil))) (pdl_cons (pdl_tup (pdl_cons (pdl_tup (pdl_cons pd_int (pdl_cons pd_int pdl_nil))) (pdl_cons (pdl_tup (pdl_cons pd_int (pdl_cons pd_int pdl_nil))) pdl_nil))) pdl_nil))) pdl_nil)) (pdl_cons pd_dct0 (pdl_cons pd_dct1 (pdl_cons (pdl_tup (pdl_cons pd_non pdl_nil)) (pdl_cons (pdl_tup (pdl_cons (pdl_tup pdl_nil) pdl_nil)) (pdl_cons (pdl_tup (pdl_cons (pdl_tup (pdl_cons pd_int (pdl_cons pd_int pdl_nil))) (pdl_cons pd_int pdl_nil))) (pdl_cons (pdl_pow ⟨by decide, by decide, by decide⟩) (pdl_cons (pdl_tup (pdl_cons pd_int (pdl_cons pd_int (pdl_cons pd_int pdl_nil)))) (pdl_cons (pdl_tup (pdl_cons pd_int (pdl_cons pd_int (pdl_cons pd_int pdl_nil)))) (pdl_cons (pdl_tup (pdl_cons (pdl_tup (pdl_cons pd_int (pdl_cons pd_int pdl_nil))) (pdl_cons (pdl_tup (pdl_cons pd_int (pdl_cons pd_int pdl_nil))) (pdl_cons (pdl_tup (pdl_cons pd_int (pdl_cons pd_int pdl_nil))) pdl_nil)))) (pdl_cons (pdl_tup (pdl_cons (pdl_tup pdl_nil) (pdl_cons (pdl_tup pdl_nil) pdl_nil))) (pdl_cons (pdl_tup (pdl_cons (pdl_tup (pdl_cons (pdl_tup (pdl_cons (pdl_tup (pdl_cons pd_int (pdl_cons pd_int pdl_nil))) pdl_nil)) pdl_nil)) (pdl_cons (pdl_tup (pdl_cons (pdl_tup (pdl_cons (pdl_tup (pdl_cons pd_int (pdl_cons pd_int pdl_nil))) pdl_nil)) pdl_nil)) pdl_nil))) pdl_nil)))))))))))))))))))))))))))))))))))))))))))))))) pda_nil)))))) ?_
  intro ss μ Q hl h
  obtain ⟨w0, ms, rfl, rfl, hw, q⟩ := h
  walk_at "dv"
  refine ⟨w0, ms, oddL, .inl rfl, rfl, ⟨hw, by decide, by decide⟩, fun d w' h1 h2 => ?_⟩
  show Q d (List.take (ms.length + 1) (w' :: ms))
  rw [List.take_of_length_le (by simp)]
  exact q d w' h1 h2
end K1

/-! part U3 -/
set_option Elab.async false
set_option linter.all false
set_option maxRecDepth 100000
set_option autoImplicit false
set_option exponentiation.threshold 4000
set_option maxHeartbeats 1000000
namespace K1
open PySem PySem.Spec L2 DV
open PyProof.Rows (envOfC)
variable {P : Program} {w : World} {K : PySem.W.Frag} {mg : Str → Option Value} {base : Heap} {cl : Nat → Addr}

local macro_rules | `(tactic| walk_at "dv") => `(tactic| simp only [startR, fAddW, fSubW, fGtW, fMul2, fModM, cAddW, cEqP, fEqP, fNeP, fInI, fIsiW, isBW, tyD, Option.bind_some, fRevT, fMk, fBare, fAtt, fIsX, fIsXT, fRaise, fRaise0, fTry, clD, suiteD, kNo, kBut, fXatt, fExprX, fCallX, kDX, gRepr2, cRepr2, datOf, errOf, kD, fin, fSeq, fNext, fDrop, fNRep, fNRg, fParN0, fPar3, fPar3N, fAsg, fRet, fIfS, fNever, fPar, fNew, fApp, fVar, fC, fOp, fTest, fTAnd, fTOr, fTNot, fVAnd, fVOr, fVNot, fNeg, fIf, fChain, fANil, fACons, fTup, fLst, fCB, fNLst, fOfN, fYes, fIsi, fONone, fOSome, fSl, sliceF,
  gF, gA, cI, fI, c0, cAdd, fAdd, fIx, cRepT, fRepT, fEq, fNe, fNotIn, intsOf, blsOf, allD, seqOf, tupOf, fLen, cA0, f1L, gSum, gAll, gAny, fTupleOf, fListOf, fA1, fA2, cDm, gN, gsNil_eq, gsCons_eq, gT_eq, gSb_eq, isB, itemsOf, fISeq, fIRng, fIEnum, fIZip, fIZipTL, fFor, fLc, wipeR, fCall, fCallK, fRetN, kN, fCallN, fCallOn, kwS, pick, gRepr, cRepr, List.filterMap_cons_some, List.filterMap_nil,
  List.map_cons, List.map_nil, List.length_cons, List.length_nil, List.replicate_succ, List.replicate_zero, List.cons_append, List.nil_append, List.append_nil, List.getElem?_cons_zero, List.getElem?_cons_succ, List.getElem?_nil, List.set_cons_zero, List.set_cons_succ, List.set_nil, List.take_succ_cons, List.take_zero, List.take_nil,
  Option.map_some, Option.map_none, Option.some.injEq, Option.get_some, exists_eq_left', exists_eq_left, exists_eq_right, true_and, and_true, if_true, if_false, reduceCtorEq, ite_true, ite_false, S.d.injEq, S.m.injEq, D.int.injEq, D.tup.injEq, D.lst.injEq, D.bl.injEq, D.str.injEq, List.cons.injEq, exists_and_left, exists_and_right,
  Nat.sub_zero, Nat.reduceSub, Nat.reduceAdd, Nat.zero_add, Nat.add_zero, Bool.not_true, Bool.not_false, Bool.false_eq_true, decide_eq_true_eq, Nat.reduceLT, Nat.reduceLeDiff, Nat.le_refl, List.take_length, Int.reduceLT, Int.reduceToNat, Nat.lt_irrefl, gt_iff_lt, Nat.not_lt_zero, Int.cast_ofNat_Int, decide_true, decide_false, and_assoc])


theorem _root_.DV.DefOk.mono {x : Str} {j k n : Nat} {T : TF} (h : DefOk P w K mg base x j n T) (hk : j ≤ k) : DefOk P w K mg base x k n T := by
  obtain ⟨m, f, fd, ps, g, kp, b, F⟩ := h
  exact ⟨m, f, fd, ps, g, kp, b, F.mono hk⟩
def kidsD : D → List D
  | .tup ds => ds
  | _ => []
def kidsL (l : List D) : List D := l.flatMap kidsD
def oddJ : Nat → List D
  | 0 => oddL
  | n + 1 => kidsL (oddJ n)
def oddK (n : Nat) : List D := oddJ (6 - n)
def fineB (k n : Nat) (d : D) : Bool := PyData.strOk d.py.shown && d.showy && d.py.showable && decide (d.py.depth ≤ k) && decide (wt d ≤ n)
theorem fine_of {k n : Nat} {d : D} (h : fineB k n d = true) : Fine k n d := by
  simp only [fineB, Bool.and_eq_true, decide_eq_true_eq] at h
  exact ⟨h.1.1.1.1, h.1.1.1.2, h.1.1.2, h.1.2, h.2⟩
def intB (i : Int) : Bool := [D.int (i - 1), .int (i + 1), .int (0 - i), .int (i * 2), .int (i % 1000)].all (fineB 5 80)
def isiB (d : D) : Bool := match d with
  | .int i => intB i
  | .bl b => intB (DB.bi b)
  | .err _ _ _ => false
  | .erb _ => false
  | _ => true
theorem odd_all : ∀ m ≤ 6, ∀ d ∈ oddJ m, fineB 5 150 d = true ∧ isiB d = true := by decide +kernel
theorem odd_six : oddJ 6 = [] := by decide +kernel

end K1

/-! part U4 -/
set_option Elab.async false
set_option linter.all false
set_option maxRecDepth 100000
set_option autoImplicit false
set_option exponentiation.threshold 4000
set_option maxHeartbeats 1000000
namespace K1
open PySem PySem.Spec L2 DV
theorem str_all : ∀ i : Fin 1000, fineB 5 80 (.str (toString (i.val : Int))) = true := by decide +kernel
theorem kt_tt : kitB "tuple" "tuple" = some true := by decide +kernel
theorem kt_it : kitB "int" "tuple" = some false := by decide +kernel
theorem kt_bt : kitB "bool" "tuple" = some false := by decide +kernel
theorem kt_nt : kitB "NoneType" "tuple" = some false := by decide +kernel
theorem kt_st : kitB "str" "tuple" = some false := by decide +kernel
theorem kt_lt : kitB "list" "tuple" = some false := by decide +kernel
theorem kt_dt : kitB "dict" "tuple" = some false := by decide +kernel
theorem kt_ti : kitB "tuple" "int" = some false := by decide +kernel
theorem kt_ii : kitB "int" "int" = some true := by decide +kernel
theorem kt_bi : kitB "bool" "int" = some true := by decide +kernel
theorem kt_ni : kitB "NoneType" "int" = some false := by decide +kernel
theorem kt_si : kitB "str" "int" = some false := by decide +kernel
theorem kt_li : kitB "list" "int" = some false := by decide +kernel
theorem kt_di : kitB "dict" "int" = some false := by decide +kernel
theorem str_fine {i : Int} (h : 0 ≤ i) (h2 : i < 1000) : Fine 5 80 (.str (toString i)) := by
  have := str_all ⟨i.toNat, by omega⟩
  rw [show ((⟨i.toNat, by omega⟩ : Fin 1000).val : Int) = i by simp; omega] at this
  exact fine_of this
theorem Fine.wt0 {k n : Nat} {d : D} (h : Fine k n d) : Fine k (wt d) d := ⟨h.tx, h.sw, h.sb, h.dp, Nat.le_refl _⟩
theorem FineA.mono {k l n m : Nat} {d : List D} (h : FineA k n d) (h1 : k ≤ l) (h2 : n ≤ m) : FineA l m d := ⟨h.tx, h.sw, h.sb, Nat.le_trans h.dp h1, Nat.le_trans h.sz h2⟩
theorem wtA_sub {a b : List D} (h : a.Sublist b) : wtA a ≤ wtA b := by
  induction h with
  | slnil => exact Nat.le_refl _
  | cons x _ ih => simp only [wtA]; omega
  | cons_cons x _ ih => simp only [wtA]; omega
theorem fineA_by {k n : Nat} {a b : List D} (h : FineA k n b) (hm : ∀ d ∈ a, d ∈ b) (hw : wtA a ≤ wtA b) : FineA k n a :=
  (fineA_of fun d hd => fineA_mem h d (hm d hd)).mono (Nat.le_refl _) (Nat.le_trans hw h.sz)
theorem fineA_sub {k n : Nat} {a b : List D} (h : FineA k n b) (s : a.Sublist b) : FineA k n a := fineA_by h (fun _ hd => s.subset hd) (wtA_sub s)
theorem cut_sub (ds : List D) (a b : Option Int) : (cutD ds a b).Sublist ds := (List.take_sublist _ _).trans (List.drop_sublist _ _)
theorem wtA_rev : ∀ a : List D, wtA a.reverse = wtA a
  | [] => rfl
  | d :: r => by rw [List.reverse_cons, wtA_app, wtA_rev r]; simp only [wtA]; omega
theorem fineA_rev {k n : Nat} {a : List D} (h : FineA k n a) : FineA k n a.reverse := fineA_by h (fun _ hd => List.mem_reverse.mp hd) (Nat.le_of_eq (wtA_rev a))
theorem fineA_app {k n m : Nat} : ∀ {a b : List D}, FineA k n a → FineA k m b → FineA k (n + m) (a ++ b) := by
  intro a b h1 h2
  have h : FineA k (wtA (a ++ b)) (a ++ b) := fineA_of fun d hd => by
    rcases List.mem_append.mp hd with e | e
    · exact fineA_mem h1 d e
    · exact fineA_mem h2 d e
  refine h.mono (Nat.le_refl _) ?_
  have := h1.sz
  have := h2.sz
  rw [wtA_app]; omega
theorem intB_of {i : Int} (h : intB i = true) : Fine 5 80 (.int (i - 1)) ∧ Fine 5 80 (.int (i + 1)) ∧ Fine 5 80 (.int (0 - i)) ∧ Fine 5 80 (.int (i * 2)) ∧ Fine 5 80 (.int (i % 1000)) := by
  simp only [intB, List.all_cons, List.all_nil, Bool.and_true, Bool.and_eq_true] at h
  exact ⟨fine_of h.1, fine_of h.2.1, fine_of h.2.2.1, fine_of h.2.2.2.1, fine_of h.2.2.2.2⟩
theorem fine_bl (b : Bool) : Fine 5 80 (.bl b) := by cases b <;> exact fine_of (by decide +kernel)
theorem fine_zero : Fine 5 80 (.int 0) := fine_of (by decide +kernel)
theorem fine_odd {d : D} (h : d ∈ oddL) : Fine 5 150 d := fine_of (odd_all 0 (by decide) d h).1
theorem fine_one1 : Fine 5 80 (.tup [.int 1, .int 1]) := fine_of (by decide +kernel)
theorem kid_mem {n : Nat} {ds : List D} {d : D} (hn : n + 1 ≤ 6) (h : D.tup ds ∈ oddK (n + 1)) (hd : d ∈ ds) : d ∈ oddK n := by
  unfold oddK at *
  rw [show 6 - n = (6 - (n + 1)) + 1 by omega]
  exact List.mem_flatMap.mpr ⟨_, h, hd⟩
theorem log_k {i : Int} (h : 0 ≤ i) (h2 : i < 1000) : i.natAbs.log2 < 1920 := by
  have h1 : i.natAbs < 1000 := by omega
  by_cases c : i.natAbs = 0
  · rw [c]; decide
  · have := (Nat.log2_lt c (k := 10)).mpr (by omega)
    omega
end K1

/-! part U5 -/
set_option Elab.async false
set_option linter.all false
set_option maxRecDepth 100000
set_option autoImplicit false
set_option exponentiation.threshold 4000
set_option maxHeartbeats 1000000
namespace K1
open PySem PySem.Spec L2 DV
open PyProof.Rows (envOfC)
variable {P : Program} {w : World} {K : PySem.W.Frag} {mg : Str → Option Value} {base : Heap} {cl : Nat → Addr}

local macro_rules | `(tactic| walk_at "dv") => `(tactic| simp only [startR, fAddW, fSubW, fGtW, fMul2, fModM, cAddW, cEqP, fEqP, fNeP, fInI, fIsiW, isBW, tyD, Option.bind_some, fRevT, fMk, fBare, fAtt, fIsX, fIsXT, fRaise, fRaise0, fTry, clD, suiteD, kNo, kBut, fXatt, fExprX, fCallX, kDX, gRepr2, cRepr2, datOf, errOf, kD, fin, fSeq, fNext, fDrop, fNRep, fNRg, fParN0, fPar3, fPar3N, fAsg, fRet, fIfS, fNever, fPar, fNew, fApp, fVar, fC, fOp, fTest, fTAnd, fTOr, fTNot, fVAnd, fVOr, fVNot, fNeg, fIf, fChain, fANil, fACons, fTup, fLst, fCB, fNLst, fOfN, fYes, fIsi, fONone, fOSome, fSl, sliceF,
  gF, gA, cI, fI, c0, cAdd, fAdd, fIx, cRepT, fRepT, fEq, fNe, fNotIn, intsOf, blsOf, allD, seqOf, tupOf, fLen, cA0, f1L, gSum, gAll, gAny, fTupleOf, fListOf, fA1, fA2, cDm, gN, gsNil_eq, gsCons_eq, gT_eq, gSb_eq, isB, itemsOf, fISeq, fIRng, fIEnum, fIZip, fIZipTL, fFor, fLc, wipeR, fCall, fCallK, fRetN, kN, fCallN, fCallOn, kwS, pick, gRepr, cRepr, List.filterMap_cons_some, List.filterMap_nil,
  List.map_cons, List.map_nil, List.length_cons, List.length_nil, List.replicate_succ, List.replicate_zero, List.cons_append, List.nil_append, List.append_nil, List.getElem?_cons_zero, List.getElem?_cons_succ, List.getElem?_nil, List.set_cons_zero, List.set_cons_succ, List.set_nil, List.take_succ_cons, List.take_zero, List.take_nil,
  Option.map_some, Option.map_none, Option.some.injEq, Option.get_some, exists_eq_left', exists_eq_left, exists_eq_right, true_and, and_true, if_true, if_false, reduceCtorEq, ite_true, ite_false, S.d.injEq, S.m.injEq, D.int.injEq, D.tup.injEq, D.lst.injEq, D.bl.injEq, D.str.injEq, List.cons.injEq, exists_and_left, exists_and_right,
  Nat.sub_zero, Nat.reduceSub, Nat.reduceAdd, Nat.zero_add, Nat.add_zero, Bool.not_true, Bool.not_false, Bool.false_eq_true, decide_eq_true_eq, Nat.reduceLT, Nat.reduceLeDiff, Nat.le_refl, List.take_length, Int.reduceLT, Int.reduceToNat, Nat.lt_irrefl, gt_iff_lt, Nat.not_lt_zero, Int.cast_ofNat_Int, decide_true, decide_false, and_assoc, kt_tt, kt_it, kt_bt, kt_nt, kt_st, kt_lt, kt_dt, kt_ti, kt_ii, kt_bi, kt_ni, kt_si, kt_li, kt_di])

def T__law_bent (n : Nat) : TF := fun ss μ P => ∃ w ms thing, ss = [.m 0, .d thing] ∧ μ = w :: ms ∧ (IsW w ∧ n ≤ 6 ∧ thing ∈ oddK n) ∧ ∀ d w', IsW w' → Fine (6 + n) (1000 + 1000 * n) d → P d (w' :: ms)
theorem mon__law_bent (n : Nat) : MonF (T__law_bent n) := fun ss μ P P' k ⟨a, b, c, e, e2, h, q⟩ => ⟨a, b, c, e, e2, h, fun r w' h1 h2 => k _ _ (q r w' h1 h2)⟩
theorem bent_zero {l : Nat} (t : Top K mg "_law_bent" s__law_bent ["well", "thing"]) : DefOk P w K mg base "_law_bent" l 2 (T__law_bent 0) := by
  obtain ⟨f, fd, F, b, g⟩ := t
  have no : ∀ {ss μ Q}, ¬ T__law_bent 0 ss μ Q := fun {ss μ Q} ⟨_, _, c, _, _, h, _⟩ => by
    have := h.2.2
    rw [show oddK 0 = [] from odd_six] at this
    cases this
  exact ⟨mon__law_bent 0, f, fd, ["well", "thing"], g, F.kp, b, ⟨fun vs H Q E h => by
    obtain ⟨ad, ss, μ, _, _, _, q⟩ := h
    exact absurd q no, fun A outer s H args us vs Q E _ _ _ _ h => by
    obtain ⟨ad, ss, μ, _, _, _, q⟩ := h
    exact absurd q no⟩⟩
theorem bent_step {l n : Nat} (t : Top K mg "_law_bent" s__law_bent ["well", "thing"]) (C__law_draw : DefOk P w K mg base "_law_draw" l 2 T__law_draw) (C__law_odd : DefOk P w K mg base "_law_odd" l 1 T__law_odd) (m_int : mg "int" = none) (m_isinstance : mg "isinstance" = none) (m_len : mg "len" = none) (m_list : mg "list" = none) (m_str : mg "str" = none) (m_tuple : mg "tuple" = none) (C__law_bent : DefOk P w K mg base "_law_bent" l 2 (T__law_bent n)) :
    DefOk P w K mg base "_law_bent" (l + 1) 2 (T__law_bent (n + 1)) := by
  have nd := (sc__law_bent).nd
  refine ok_defD (k := l) t sc__law_bent (mon__law_bent (n + 1)) (fun f cdv A outer s H E hr =>
    (pds_cons (pds_if (ptd_w (pdw_and (ptd_val (pd_isiW (T := "tuple") (pd_var (pv 1)) (by rfl) m_isinstance (by rfl) m_tuple bt_tuple (by decide) (by decide))) (pdw_and (ptd_cmp gtW_ok mon_gF snd_gtW (nomark _) (pd_B call_len_seq snd_len mon_gA (by rfl) m_len bt_len (pda_cons (pd_var (pv 1)) pda_nil)) pd_int) (pdw_and1 (ptd_cmp gtW_ok mon_gF snd_gtW (nomark _) (pd_callD C__law_draw hr (by rfl) (pda_cons (pd_var (pv 0)) (pda_cons pd_int pda_nil))) pd_int))))) (pds_cons (pds_set (pd_callD C__law_draw hr (by rfl) (pda_cons (pd_var (pv 0)) (pda_cons (pd_B call_len_seq snd_len mon_gA (by rfl) m_len bt_len (pda_cons (pd_var (pv 1)) pda_nil)) pda_nil))) (fun _ h => ps_set (i := 2) nd rfl (by first | exact Or.inl rfl | exact Or.inr rfl) h))
      (pds_one (pd_ret (pd_op addW_ok mon_gF snd_addW (pd_op addW_ok mon_gF snd_addW (pd_slice (pd_var (pv 1)) pdo_none (pdo_some (pd_var (pv 2)))) (pd_tup (pda_cons (pd_callD C__law_bent hr (by rfl) (pda_cons (pd_var (pv 0)) (pda_cons (pd_ix ix_ok mon_gF snd_ix (fun _ _ => rfl) (pd_var (pv 1)) (pd_var (pv 2))) pda_nil))) pda_nil))) (pd_slice (pd_var (pv 1)) (pdo_some (pd_op addW_ok mon_gF snd_addW (pd_var (pv 2)) pd_int)) pdo_none))))) pds_nil)
      (pds_cons (pds_set (pd_callD C__law_draw hr (by rfl) (pda_cons (pd_var (pv 0)) (pda_cons pd_int pda_nil))) (fun _ h => ps_set (i := 3) nd rfl (by first | exact Or.inl rfl | exact Or.inr rfl) h))
      (pds_cons (pds_if (ptd_w (pdw_and (ptd_val (pd_isiW (T := "tuple") (pd_var (pv 1)) (by rfl) m_isinstance (by rfl) m_tuple bt_tuple (by decide) (by decide))) (pdw_and1 (ptd_cmp op_lt mon_gF snd_B0 (nomark _) (pd_var (pv 3)) pd_int)))) (pds_one (pd_ret (pd_ix ix_ok mon_gF snd_ix (fun _ _ => rfl) (pd_tup (pda_cons (pd_op addW_ok mon_gF snd_addW (pd_var (pv 1)) (pd_slice (pd_var (pv 1)) (pdo_some (pd_neg pd_int)) pdo_none)) (pda_cons (pd_slice (pd_var (pv 1)) (pdo_some pd_int) pdo_none) (pda_cons (pd_slice (pd_var (pv 1)) pdo_none (pdo_some (pd_neg pd_int))) (pda_cons (pd_revT (pd_var (pv 1))) (pda_cons (pd_Ty call_list_of snd_listOf mon_gA (by rfl) m_list bt_list (pda_cons (pd_var (pv 1)) pda_nil)) (pda_cons (pd_tup (pda_cons (pd_var (pv 1)) pda_nil)) (pda_cons (pd_op addW_ok mon_gF snd_addW (pd_var (pv 1)) (pd_tup (pda_cons (pd_tup (pda_cons pd_int (pda_cons pd_int pda_nil))) pda_nil))) pda_nil)))))))) (pd_var (pv 3))))) pds_nil)
      (pds_cons (pds_if (ptd_w (pdw_and (ptd_val (pd_isiW (T := "int") (pd_var (pv 1)) (by rfl) m_isinstance (by rfl) m_int bt_int (by decide) (by decide))) (pdw_and1 (ptd_cmp op_lt mon_gF snd_B0 (nomark _) (pd_var (pv 3)) pd_int)))) (pds_one (pd_ret (pd_ix ix_ok mon_gF snd_ix (fun _ _ => rfl) (pd_tup (pda_cons (pd_op subW_ok mon_gF snd_subW (pd_var (pv 1)) pd_int) (pda_cons (pd_op addW_ok mon_gF snd_addW (pd_var (pv 1)) pd_int) (pda_cons (pd_op subW_ok mon_gF snd_subW pd_int (pd_var (pv 1))) (pda_cons (pd_op mul2_ok mon_gF snd_mul2 (pd_var (pv 1)) pd_int) (pda_cons (pd_cmp gtW_ok mon_gF snd_gtW (nomark _) (pd_var (pv 1)) pd_int) (pda_cons pd_int (pda_cons (pd_Ty call_str_int snd_strI mon_gA (by rfl) m_str bt_str (pda_cons (pd_op modM_ok mon_gF snd_modM (pd_var (pv 1)) pd_int) pda_nil)) pda_nil)))))))) (pd_var (pv 3))))) pds_nil)
      (pds_one (pd_ret (pd_callD C__law_odd hr (by rfl) (pda_cons (pd_var (pv 0)) pda_nil))))))))) ?_
  intro ss μ Q hl h
  obtain ⟨w0, ms, thing, rfl, rfl, ⟨hw, hn, hm⟩, q⟩ := h
  obtain ⟨c1, c2⟩ := odd_all _ (Nat.sub_le 6 _) _ hm
  have c1 := fine_of c1
  have ta : ∀ w2 : List D, List.take (ms.length + 1) (w2 :: ms) = w2 :: ms := fun w2 => List.take_of_length_le (by simp)
  have odd : ∀ w1 : List D, IsW w1 → T__law_odd [S.m 0] (w1 :: ms) fun d μ2 => Q d (List.take (ms.length + 1) μ2) := by
    intro w1 hw1
    refine ⟨w1, ms, rfl, rfl, hw1, fun d w2 hw2 hd => ?_⟩
    show Q d (List.take (ms.length + 1) (w2 :: ms))
    rw [ta]
    exact q d w2 hw2 ((fine_odd hd).mono (by omega) (by omega))
  have fin : ∀ (d : D) (w2 : List D), IsW w2 → Fine 6 1000 d → Q d (w2 :: ms) := by
    intro d w2 hw2 hd
    exact q d w2 hw2 (hd.mono (by omega) (by omega))
  cases thing with
  | tup ds =>
    have hz := of_tup c1
    have fa : FineA 5 (wtA ds) ds := fineA_of fun d hd => (fine_of (odd_all _ (Nat.sub_le 6 n) _ (kid_mem hn hm hd)).1).wt0
    have cl : ∀ a b, (cutD ds a b).length ≤ ds.length := fun a b => (cut_sub ds a b).length_le
    have fc : ∀ a b, FineA 5 150 (cutD ds a b) := fun a b => fineA_sub (fa.mono (Nat.le_refl _) (by omega)) (cut_sub ds a b)
    have fd : FineA 5 150 ds := fa.mono (Nat.le_refl _) (by omega)
    have ft : ∀ xs : List D, FineA 5 400 xs → xs.length ≤ 200 → Fine 6 1000 (.tup xs) := fun xs h h2 => (fine_tup h).mono (by omega) (by omega)
    have tail : ∀ (r : Int) (w1 : List D), IsW w1 → 0 ≤ r → r < 9 → if r < 7 then
        ds.length + (cutD ds (some (-1)) none).length ≤ 100000 ∧ ds.length ≤ 99999 ∧ ∃ d, (if r < 0 then none else [D.tup (ds ++ cutD ds (some (-1)) none), D.tup (cutD ds (some 1) none), D.tup (cutD ds none (some (-1))), D.tup ds.reverse, D.lst ds, D.tup [D.tup ds], D.tup (ds ++ [D.tup [D.int 1, D.int 1]])][r.toNat]?) = some d ∧ Q d (w1 :: ms)
        else T__law_odd [S.m 0] (w1 :: ms) fun d μ2 => Q d (List.take (ms.length + 1) μ2) := by
      intro r w1 hw1 r0 r1
      split
      · rename_i hr
        have := cl (some (-1)) none
        refine ⟨by omega, by omega, ?_⟩
        rw [if_neg (by omega)]
        obtain rfl | rfl | rfl | rfl | rfl | rfl | rfl : r = 0 ∨ r = 1 ∨ r = 2 ∨ r = 3 ∨ r = 4 ∨ r = 5 ∨ r = 6 := by omega
        · exact ⟨_, rfl, fin _ _ hw1 (ft _ ((fineA_app fd (fc _ _)).mono (by omega) (by omega)) (by rw [List.length_append]; omega))⟩
        · exact ⟨_, rfl, fin _ _ hw1 (ft _ ((fc _ _).mono (by omega) (by omega)) (by have := cl (some 1) none; omega))⟩
        · exact ⟨_, rfl, fin _ _ hw1 (ft _ ((fc _ _).mono (by omega) (by omega)) (by have := cl none (some (-1)); omega))⟩
        · exact ⟨_, rfl, fin _ _ hw1 (ft _ ((fineA_rev fd).mono (by omega) (by omega)) (by rw [List.length_reverse]; omega))⟩
        · exact ⟨_, rfl, fin _ _ hw1 ((fine_lst fd).mono (by omega) (by omega))⟩
        · exact ⟨_, rfl, fin _ _ hw1 (ft _ ((fine_cons c1 fine_nil (m := 0)).mono (by omega) (by omega)) (by simp))⟩
        · exact ⟨_, rfl, fin _ _ hw1 (ft _ ((fineA_app fd (fine_cons fine_one1 fine_nil (m := 0))).mono (by omega) (by omega)) (by rw [List.length_append]; simp; omega))⟩
      · exact odd _ hw1
    walk_at "dv"
    split
    · refine ⟨w0, ms, 7, rfl, rfl, ⟨hw, by decide, by decide⟩, fun r w1 hw1 r0 r1 => ?_⟩
      walk_at "dv"
      by_cases e : (0 : Int) < r
      · rw [if_pos e]
        refine ⟨w1, ms, _, rfl, rfl, ⟨hw1, by assumption, by omega⟩, fun r w2 hw2 r0 r1 => ?_⟩
        walk_at "dv"
        have hi : r.toNat < ds.length := by omega
        refine ⟨ds[r.toNat], ?_, ?_⟩
        · rw [if_neg (by omega), List.getElem?_eq_getElem hi]
        refine ⟨w2, ms, _, rfl, rfl, ⟨hw2, by omega, kid_mem hn hm (List.getElem_mem hi)⟩, fun d w3 hw3 hd => ?_⟩
        have l1 := cl none (some r)
        have l2 := cl (some (r + 1)) none
        walk_at "dv"
        refine ⟨by omega, by rw [List.length_append]; simp only [List.length_cons, List.length_nil]; omega, ?_⟩
        refine q _ _ hw3 ?_
        refine (fine_tup (fineA_app (fineA_app ((fc none (some r)).mono (l := 6 + n) (by omega) (Nat.le_refl _)) (fine_cons hd (fine_nil (n := 0)))) ((fc (some (r + 1)) none).mono (l := 6 + n) (by omega) (Nat.le_refl _)))).mono (by omega) ?_
        rw [List.length_append, List.length_append]; simp only [List.length_cons, List.length_nil]; omega
      · rw [if_neg e]
        refine ⟨w1, ms, 9, rfl, rfl, ⟨hw1, by decide, by decide⟩, fun r w2 hw2 r0 r1 => ?_⟩
        walk_at "dv"
        exact tail r w2 hw2 r0 r1
    · refine ⟨w0, ms, 9, rfl, rfl, ⟨hw, by decide, by decide⟩, fun r w1 hw1 r0 r1 => ?_⟩
      walk_at "dv"
      exact tail r w1 hw1 r0 r1
  | int i =>
    obtain ⟨i1, i2, i3, i4, i5⟩ := intB_of c2
    have m0 : 0 ≤ i % 1000 := Int.emod_nonneg _ (by decide)
    have m1 : i % 1000 < 1000 := Int.emod_lt_of_pos _ (by decide)
    have lk := log_k m0 m1
    walk_at "dv"
    refine ⟨w0, ms, 9, rfl, rfl, ⟨hw, by decide, by decide⟩, fun r w1 hw1 r0 r1 => ?_⟩
    walk_at "dv"
    split
    · refine ⟨lk, ?_⟩
      rw [if_neg (by omega)]
      obtain rfl | rfl | rfl | rfl | rfl | rfl | rfl : r = 0 ∨ r = 1 ∨ r = 2 ∨ r = 3 ∨ r = 4 ∨ r = 5 ∨ r = 6 := by omega
      · exact ⟨_, rfl, fin _ _ hw1 (i1.mono (by decide) (by decide))⟩
      · exact ⟨_, rfl, fin _ _ hw1 (i2.mono (by decide) (by decide))⟩
      · exact ⟨_, rfl, fin _ _ hw1 (i3.mono (by decide) (by decide))⟩
      · exact ⟨_, rfl, fin _ _ hw1 (i4.mono (by decide) (by decide))⟩
      · exact ⟨_, rfl, fin _ _ hw1 ((fine_bl _).mono (by decide) (by decide))⟩
      · exact ⟨_, rfl, fin _ _ hw1 (fine_zero.mono (by decide) (by decide))⟩
      · exact ⟨_, rfl, fin _ _ hw1 ((str_fine m0 m1).mono (by decide) (by decide))⟩
    · exact odd _ hw1
  | bl b =>
    obtain ⟨i1, i2, i3, i4, i5⟩ := intB_of c2
    have m0 : 0 ≤ DB.bi b % 1000 := Int.emod_nonneg _ (by decide)
    have m1 : DB.bi b % 1000 < 1000 := Int.emod_lt_of_pos _ (by decide)
    have lk := log_k m0 m1
    walk_at "dv"
    refine ⟨w0, ms, 9, rfl, rfl, ⟨hw, by decide, by decide⟩, fun r w1 hw1 r0 r1 => ?_⟩
    walk_at "dv"
    split
    · refine ⟨lk, ?_⟩
      rw [if_neg (by omega)]
      obtain rfl | rfl | rfl | rfl | rfl | rfl | rfl : r = 0 ∨ r = 1 ∨ r = 2 ∨ r = 3 ∨ r = 4 ∨ r = 5 ∨ r = 6 := by omega
      · exact ⟨_, rfl, fin _ _ hw1 (i1.mono (by decide) (by decide))⟩
      · exact ⟨_, rfl, fin _ _ hw1 (i2.mono (by decide) (by decide))⟩
      · exact ⟨_, rfl, fin _ _ hw1 (i3.mono (by decide) (by decide))⟩
      · exact ⟨_, rfl, fin _ _ hw1 (i4.mono (by decide) (by decide))⟩
      · exact ⟨_, rfl, fin _ _ hw1 ((fine_bl _).mono (by decide) (by decide))⟩
      · exact ⟨_, rfl, fin _ _ hw1 (fine_zero.mono (by decide) (by decide))⟩
      · exact ⟨_, rfl, fin _ _ hw1 ((str_fine m0 m1).mono (by decide) (by decide))⟩
    · exact odd _ hw1
  | err _ _ _ => cases c2
  | erb _ => cases c2
  | str x =>
    walk_at "dv"
    refine ⟨w0, ms, 9, rfl, rfl, ⟨hw, by decide, by decide⟩, fun r w1 hw1 r0 r1 => ?_⟩
    walk_at "dv"
    exact odd _ hw1
  | lst ds =>
    walk_at "dv"
    refine ⟨w0, ms, 9, rfl, rfl, ⟨hw, by decide, by decide⟩, fun r w1 hw1 r0 r1 => ?_⟩
    walk_at "dv"
    exact odd _ hw1
  | non =>
    walk_at "dv"
    refine ⟨w0, ms, 9, rfl, rfl, ⟨hw, by decide, by decide⟩, fun r w1 hw1 r0 r1 => ?_⟩
    walk_at "dv"
    exact odd _ hw1
  | dct ks ds =>
    walk_at "dv"
    refine ⟨w0, ms, 9, rfl, rfl, ⟨hw, by decide, by decide⟩, fun r w1 hw1 r0 r1 => ?_⟩
    walk_at "dv"
    exact odd _ hw1
theorem ok__law_bent (t : Top K mg "_law_bent" s__law_bent ["well", "thing"]) (C__law_draw : DefOk P w K mg base "_law_draw" 1 2 T__law_draw) (C__law_odd : DefOk P w K mg base "_law_odd" 3 1 T__law_odd) (m_int : mg "int" = none) (m_isinstance : mg "isinstance" = none) (m_len : mg "len" = none) (m_list : mg "list" = none) (m_str : mg "str" = none) (m_tuple : mg "tuple" = none) : DefOk P w K mg base "_law_bent" 9 2 (T__law_bent 6) := by
  have st : ∀ n, DefOk P w K mg base "_law_bent" (3 + n) 2 (T__law_bent n) := by
    intro n
    induction n with
    | zero => exact bent_zero t
    | succ n ih => exact bent_step (l := 3 + n) t (C__law_draw.mono (show 1 ≤ 3 + n by omega)) (C__law_odd.mono (show 3 ≤ 3 + n by omega)) m_int m_isinstance m_len m_list m_str m_tuple ih
  exact st 6
end K1

/-! part U6 -/
set_option Elab.async false
set_option linter.all false
set_option maxRecDepth 100000
set_option autoImplicit false
set_option exponentiation.threshold 4000
set_option maxHeartbeats 1000000
namespace K1
open PySem PySem.Spec L2 DV
open PyProof.Rows (envOfC)
variable {P : Program} {w : World} {K : PySem.W.Frag} {mg : Str → Option Value} {base : Heap} {cl : Nat → Addr}

local macro_rules | `(tactic| walk_at "dv") => `(tactic| simp only [startR, fAddW, fSubW, fGtW, fMul2, fModM, cAddW, cEqP, fEqP, fNeP, fInI, fIsiW, isBW, tyD, Option.bind_some, fRevT, fMk, fBare, fAtt, fIsX, fIsXT, fRaise, fRaise0, fTry, clD, suiteD, kNo, kBut, fXatt, fExprX, fCallX, kDX, gRepr2, cRepr2, datOf, errOf, kD, fin, fSeq, fNext, fDrop, fNRep, fNRg, fParN0, fPar3, fPar3N, fAsg, fRet, fIfS, fNever, fPar, fNew, fApp, fVar, fC, fOp, fTest, fTAnd, fTOr, fTNot, fVAnd, fVOr, fVNot, fNeg, fIf, fChain, fANil, fACons, fTup, fLst, fCB, fNLst, fOfN, fYes, fIsi, fONone, fOSome, fSl, sliceF,
  gF, gA, cI, fI, c0, cAdd, fAdd, fIx, cRepT, fRepT, fEq, fNe, fNotIn, intsOf, blsOf, allD, seqOf, tupOf, fLen, cA0, f1L, gSum, gAll, gAny, fTupleOf, fListOf, fA1, fA2, cDm, gN, gsNil_eq, gsCons_eq, gT_eq, gSb_eq, isB, itemsOf, fISeq, fIRng, fIEnum, fIZip, fIZipTL, fFor, fLc, wipeR, fCall, fCallK, fRetN, kN, fCallN, fCallOn, kwS, pick, gRepr, cRepr, List.filterMap_cons_some, List.filterMap_nil,
  List.map_cons, List.map_nil, List.length_cons, List.length_nil, List.replicate_succ, List.replicate_zero, List.cons_append, List.nil_append, List.append_nil, List.getElem?_cons_zero, List.getElem?_cons_succ, List.getElem?_nil, List.set_cons_zero, List.set_cons_succ, List.set_nil, List.take_succ_cons, List.take_zero, List.take_nil,
  Option.map_some, Option.map_none, Option.some.injEq, Option.get_some, exists_eq_left', exists_eq_left, exists_eq_right, true_and, and_true, if_true, if_false, reduceCtorEq, ite_true, ite_false, S.d.injEq, S.m.injEq, D.int.injEq, D.tup.injEq, D.lst.injEq, D.bl.injEq, D.str.injEq, List.cons.injEq, exists_and_left, exists_and_right,
  Nat.sub_zero, Nat.reduceSub, Nat.reduceAdd, Nat.zero_add, Nat.add_zero, Bool.not_true, Bool.not_false, Bool.false_eq_true, decide_eq_true_eq, Nat.reduceLT, Nat.reduceLeDiff, Nat.le_refl, List.take_length, Int.reduceLT, Int.reduceToNat, Nat.lt_irrefl, gt_iff_lt, Nat.not_lt_zero, Int.cast_ofNat_Int, decide_true, decide_false, and_assoc])

theorem small_all : ∀ i : Fin 30, fineB 0 2 (.int (i.val : Int)) = true := by decide +kernel
theorem fine_small {i : Int} (h : 0 ≤ i) (h2 : i < 30) : Fine 0 2 (.int i) := by
  have := small_all ⟨i.toNat, by omega⟩
  rw [show ((⟨i.toNat, by omega⟩ : Fin 30).val : Int) = i by simp; omega] at this
  exact fine_of this

def T__law_thing : TF := fun ss μ P => ∃ w ms, ss = [.m 0] ∧ μ = w :: ms ∧ (IsW w) ∧ ∀ d w', IsW w' → Fine 45 8000 d → P d (w' :: ms)
theorem mon__law_thing : MonF T__law_thing := fun ss μ P P' k ⟨a, b, e, e2, h, q⟩ => ⟨a, b, e, e2, h, fun d w' h1 h2 => k _ _ (q d w' h1 h2)⟩
theorem ok__law_thing (t : Top K mg "_law_thing" s__law_thing ["well"]) (C__law_bent : DefOk P w K mg base "_law_bent" 9 2 (T__law_bent 6)) (C__law_draw : DefOk P w K mg base "_law_draw" 1 2 T__law_draw) (C__law_odd : DefOk P w K mg base "_law_odd" 3 1 T__law_odd) (m_range : mg "range" = none) :
    DefOk P w K mg base "_law_thing" 10 1 T__law_thing := by
  have nd := (sc__law_thing).nd
  refine ok_defD (k := 9) t sc__law_thing mon__law_thing (fun f cdv A outer s H E hr =>
    (pds_cons (pds_set (pd_callD C__law_odd (hr.mono (by decide)) (by rfl) (pda_cons (pd_var (pv 0)) pda_nil)) (fun _ h => ps_set (i := 1) nd rfl (by first | exact Or.inl rfl | exact Or.inr rfl) h))
      (pds_cons (pds_if (ptd_cmp (eq_ok hr.units) mon_gF snd_eq (nomark _) (pd_callD C__law_draw (hr.mono (by decide)) (by rfl) (pda_cons (pd_var (pv 0)) (pda_cons pd_int pda_nil))) pd_int) (pds_one (pds_set (pd_callD C__law_bent (hr.mono (by decide)) (by rfl) (pda_cons (pd_var (pv 0)) (pda_cons (pd_var (pv 1)) pda_nil))) (fun _ h => ps_set (i := 1) nd rfl (by first | exact Or.inl rfl | exact Or.inr rfl) h))) pds_nil)
      (pds_cons (pds_if (ptd_cmp (eq_ok hr.units) mon_gF snd_eq (nomark _) (pd_callD C__law_draw (hr.mono (by decide)) (by rfl) (pda_cons (pd_var (pv 0)) (pda_cons pd_int pda_nil))) pd_int) (pds_one (pds_for PassesOwn.never rfl (pdi_range (by rfl) m_range (pda_cons (pd_callD C__law_draw (hr.mono (by decide)) (by rfl) (pda_cons (pd_var (pv 0)) (pda_cons pd_int pda_nil))) pda_nil)) (pdg_name (pg_name (i := 2) nd rfl (by first | exact Or.inl rfl | exact Or.inr rfl))) (pds_one (pds_set (pd_if (ptd_cmp (eq_ok hr.units) mon_gF snd_eq (nomark _) (pd_callD C__law_draw (hr.mono (by decide)) (by rfl) (pda_cons (pd_var (pv 0)) (pda_cons pd_int pda_nil))) pd_int) (pd_lst (pda_cons (pd_var (pv 1)) pda_nil)) (pd_tup (pda_cons (pd_var (pv 2)) (pda_cons (pd_var (pv 1)) pda_nil)))) (fun _ h => ps_set (i := 1) nd rfl (by first | exact Or.inl rfl | exact Or.inr rfl) h))))) pds_nil)
      (pds_one (pd_ret (pd_var (pv 1)))))))) ?_
  intro ss μ Q hl h
  obtain ⟨w0, ms, rfl, rfl, hw, q⟩ := h
  have ta : ∀ w2 : List D, List.take (ms.length + 1) (w2 :: ms) = w2 :: ms := fun w2 => List.take_of_length_le (by simp)
  walk_at "dv"
  refine ⟨w0, ms, rfl, rfl, hw, fun d1 w1 hw1 hd1 => ?_⟩
  walk_at "dv"
  refine ⟨w1, ms, 3, rfl, rfl, ⟨hw1, by decide, by decide⟩, fun r w2 hw2 r0 r1 => ?_⟩
  walk_at "dv"
  split
  · refine ⟨w2, ms, d1, rfl, rfl, ⟨hw2, by decide, hd1⟩, fun d3 w3 hw3 hd3 => ?_⟩
    walk_at "dv"
    have d4 : Fine 12 7000 d3 := hd3
    refine ⟨w3, ms, 4, rfl, rfl, ⟨hw3, by decide, by decide⟩, fun r w4 hw4 r0 r1 => ?_⟩
    walk_at "dv"
    split
    · refine ⟨w4, ms, 30, rfl, rfl, ⟨hw4, by decide, by decide⟩, fun r w5 hw5 r0 r1 => ?_⟩
      walk_at "dv"
      refine ⟨by omega, by omega, ?_⟩
      obtain ⟨k, rfl⟩ := Int.eq_ofNat_of_zero_le r0
      rw [rngD_nat]
      refine loop_inv (fun i : Nat => D.int (i : Int)) (fun i ρ μ' => ∃ (d : D) (w : List D) (s2 : Option S), μ' = w :: ms ∧ IsW w ∧ Fine (12 + i) (7000 + 20 * i) d ∧ ρ = [some (.m 0), some (.d d), s2]) _ 0 _ _ ?_ ?_ ⟨_, _, _, rfl, hw5, d4, rfl⟩
      · rintro i x _ _ ex ⟨d, w, s2, rfl, hw, hd, rfl⟩
        rw [Nat.zero_add] at *
        obtain ⟨xl, rfl⟩ := (List.getElem?_eq_some_iff.mp ex)
        rw [List.length_range] at xl
        rw [List.getElem_range] at *
        refine ⟨trivial, fun k' _ hk => ?_⟩
        walk_at "dv"
        refine ⟨w, ms, 3, rfl, rfl, ⟨hw, by decide, by decide⟩, fun r w6 hw6 r0 r1 => ?_⟩
        walk_at "dv"
        split
        · refine hk _ _ ⟨_, _, _, rfl, hw6, (fine_lst (fine_cons hd (fine_nil (n := 0)))).mono (by omega) (by simp; omega), rfl⟩
        · refine hk _ _ ⟨_, _, _, rfl, hw6, (fine_tup (fine_cons ((fine_small  (by omega) (by omega)).mono (Nat.zero_le _) (Nat.le_refl _)) (fine_cons hd (fine_nil (n := 0))))).mono (by omega) (by simp; omega), rfl⟩
      · rintro _ _ ⟨d, w, s2, rfl, hw, hd, rfl⟩
        refine ⟨trivial, ?_⟩
        rw [List.length_range, Nat.zero_add] at hd
        walk_at "dv"
        refine q _ _ hw (hd.mono ?_ ?_) <;> omega
    · exact q _ _ hw4 (d4.mono (by decide) (by decide))
  · have hw3 := hw2
    have d4 : Fine 12 7000 d1 := (fine_odd hd1).mono (by decide) (by decide)
    refine ⟨w2, ms, 4, rfl, rfl, ⟨hw3, by decide, by decide⟩, fun r w4 hw4 r0 r1 => ?_⟩
    walk_at "dv"
    split
    · refine ⟨w4, ms, 30, rfl, rfl, ⟨hw4, by decide, by decide⟩, fun r w5 hw5 r0 r1 => ?_⟩
      walk_at "dv"
      refine ⟨by omega, by omega, ?_⟩
      obtain ⟨k, rfl⟩ := Int.eq_ofNat_of_zero_le r0
      rw [rngD_nat]
      refine loop_inv (fun i : Nat => D.int (i : Int)) (fun i ρ μ' => ∃ (d : D) (w : List D) (s2 : Option S), μ' = w :: ms ∧ IsW w ∧ Fine (12 + i) (7000 + 20 * i) d ∧ ρ = [some (.m 0), some (.d d), s2]) _ 0 _ _ ?_ ?_ ⟨_, _, _, rfl, hw5, d4, rfl⟩
      · rintro i x _ _ ex ⟨d, w, s2, rfl, hw, hd, rfl⟩
        rw [Nat.zero_add] at *
        obtain ⟨xl, rfl⟩ := (List.getElem?_eq_some_iff.mp ex)
        rw [List.length_range] at xl
        rw [List.getElem_range] at *
        refine ⟨trivial, fun k' _ hk => ?_⟩
        walk_at "dv"
        refine ⟨w, ms, 3, rfl, rfl, ⟨hw, by decide, by decide⟩, fun r w6 hw6 r0 r1 => ?_⟩
        walk_at "dv"
        split
        · refine hk _ _ ⟨_, _, _, rfl, hw6, (fine_lst (fine_cons hd (fine_nil (n := 0)))).mono (by omega) (by simp; omega), rfl⟩
        · refine hk _ _ ⟨_, _, _, rfl, hw6, (fine_tup (fine_cons ((fine_small  (by omega) (by omega)).mono (Nat.zero_le _) (Nat.le_refl _)) (fine_cons hd (fine_nil (n := 0))))).mono (by omega) (by simp; omega), rfl⟩
      · rintro _ _ ⟨d, w, s2, rfl, hw, hd, rfl⟩
        refine ⟨trivial, ?_⟩
        rw [List.length_range, Nat.zero_add] at hd
        walk_at "dv"
        refine q _ _ hw (hd.mono ?_ ?_) <;> omega
    · exact q _ _ hw4 (d4.mono (by decide) (by decide))
end K1

/-! part U7 -/
set_option Elab.async false
set_option linter.all false
set_option maxRecDepth 100000
set_option autoImplicit false
set_option exponentiation.threshold 4000
set_option maxHeartbeats 1000000
namespace K1
open PySem PySem.Spec L2 DV
open PyProof.Rows (envOfC)
variable {P : Program} {w : World} {K : PySem.W.Frag} {mg : Str → Option Value} {base : Heap} {cl : Nat → Addr}

local macro_rules | `(tactic| walk_at "dv") => `(tactic| simp only [startR, fAddW, fSubW, fGtW, fMul2, fModM, cAddW, cEqP, fEqP, fNeP, fInI, fIsiW, isBW, tyD, Option.bind_some, fRevT, fMk, fBare, fAtt, fIsX, fIsXT, fRaise, fRaise0, fTry, clD, suiteD, kNo, kBut, fXatt, fExprX, fCallX, kDX, gRepr2, cRepr2, datOf, kD, fin, fSeq, fNext, fDrop, fNRep, fNRg, fParN0, fPar3, fPar3N, fAsg, fRet, fIfS, fNever, fPar, fNew, fApp, fVar, fC, fOp, fTest, fTAnd, fTOr, fTNot, fVAnd, fVOr, fVNot, fNeg, fIf, fChain, fANil, fACons, fTup, fLst, fCB, fNLst, fOfN, fYes, fIsi, fONone, fOSome, fSl, sliceF,
  gF, gA, cI, fI, c0, cAdd, fAdd, fIx, cRepT, fRepT, fEq, fNe, fNotIn, intsOf, blsOf, allD, seqOf, tupOf, fLen, cA0, f1L, gSum, gAll, gAny, fTupleOf, fListOf, fA1, fA2, cDm, gN, gsNil_eq, gsCons_eq, gT_eq, gSb_eq, isB, itemsOf, fISeq, fIRng, fIEnum, fIZip, fIZipTL, fFor, fLc, wipeR, fCall, fCallK, fRetN, kN, fCallN, fCallOn, kwS, pick, gRepr, cRepr, List.filterMap_cons_some, List.filterMap_nil,
  List.map_cons, List.map_nil, List.length_cons, List.length_nil, List.replicate_succ, List.replicate_zero, List.cons_append, List.nil_append, List.append_nil, List.getElem?_cons_zero, List.getElem?_cons_succ, List.getElem?_nil, List.set_cons_zero, List.set_cons_succ, List.set_nil, List.take_succ_cons, List.take_zero, List.take_nil,
  Option.map_some, Option.map_none, Option.some.injEq, Option.get_some, exists_eq_left', exists_eq_left, exists_eq_right, true_and, and_true, if_true, if_false, reduceCtorEq, ite_true, ite_false, S.d.injEq, S.m.injEq, D.int.injEq, D.tup.injEq, D.lst.injEq, D.bl.injEq, D.str.injEq, List.cons.injEq, exists_and_left, exists_and_right,
  Nat.sub_zero, Nat.reduceSub, Nat.reduceAdd, Nat.zero_add, Nat.add_zero, Bool.not_true, Bool.not_false, Bool.false_eq_true, decide_eq_true_eq, Nat.reduceLT, Nat.reduceLeDiff, Nat.le_refl, List.take_length, Int.reduceLT, Int.reduceToNat, Nat.lt_irrefl, gt_iff_lt, Nat.not_lt_zero, Int.cast_ofNat_Int, decide_true, decide_false, and_assoc])

def kindsL (i : Nat) : List D := (List.range 24).map fun j => D.bl (decide (j = 0 ∨ i = j))
def givenL (cl : Nat → Addr) (d : D) : List D := (List.range 15).map fun j => D.err (cl (j + 1)) "given" d

def T__law_kinds (cl : Nat → Addr) : TF := fun ss μ P => ∃ x i, ss = [x] ∧ (i < 24 ∧ errOf x = some (cl i)) ∧ P (.lst (kindsL i)) μ
theorem mon__law_kinds (cl : Nat → Addr) : MonF (T__law_kinds cl) := fun ss μ P P' k ⟨a, b, e, h, q⟩ => ⟨a, b, e, h, k _ _ q⟩
theorem ok__law_kinds (t : Top K mg "_law_kinds" s__law_kinds ["fault"]) (HW : Cls P K mg cl) (m_isinstance : mg "isinstance" = none) :
    DefOk P w K mg base "_law_kinds" 1 1 (T__law_kinds cl) := by
  have nd := (sc__law_kinds).nd
  refine ok_defD (k := 0) t sc__law_kinds (mon__law_kinds cl) (fun f cdv A outer s H E hr =>
    (pds_cons (pds_set (pd_lst (pda_cons (kIsX (K := K) rfl (pd_isOwn (pd_var (pv 0)) (by rfl) m_isinstance (by rfl) (show mg "PersuasionError" = some (.ref (cl 0)) from HW.gl 0 (by decide)))) (pda_cons (kIsX (K := K) rfl (pd_isOwn (pd_var (pv 0)) (by rfl) m_isinstance (by rfl) (show mg "InvalidSetting" = some (.ref (cl 1)) from HW.gl 1 (by decide)))) (pda_cons (kIsX (K := K) rfl (pd_isOwn (pd_var (pv 0)) (by rfl) m_isinstance (by rfl) (show mg "InvalidBelief" = some (.ref (cl 2)) from HW.gl 2 (by decide)))) pda_nil)))) (fun _ h => ps_set (i := 1) nd rfl (by first | exact Or.inl rfl | exact Or.inr rfl) h))
      (pds_cons (pds_set (pd_op addW_ok mon_gF snd_addW (pd_var (pv 1)) (pd_lst (pda_cons (kIsX (K := K) rfl (pd_isOwn (pd_var (pv 0)) (by rfl) m_isinstance (by rfl) (show mg "InvalidSplit" = some (.ref (cl 3)) from HW.gl 3 (by decide)))) (pda_cons (kIsX (K := K) rfl (pd_isOwn (pd_var (pv 0)) (by rfl) m_isinstance (by rfl) (show mg "InvalidExperiment" = some (.ref (cl 4)) from HW.gl 4 (by decide)))) pda_nil)))) (fun _ h => ps_set (i := 1) nd rfl (by first | exact Or.inl rfl | exact Or.inr rfl) h))
      (pds_cons (pds_set (pd_op addW_ok mon_gF snd_addW (pd_var (pv 1)) (pd_lst (pda_cons (kIsX (K := K) rfl (pd_isOwn (pd_var (pv 0)) (by rfl) m_isinstance (by rfl) (show mg "InvalidPlane" = some (.ref (cl 5)) from HW.gl 5 (by decide)))) (pda_cons (kIsX (K := K) rfl (pd_isOwn (pd_var (pv 0)) (by rfl) m_isinstance (by rfl) (show mg "InvalidGame" = some (.ref (cl 6)) from HW.gl 6 (by decide)))) (pda_cons (kIsX (K := K) rfl (pd_isOwn (pd_var (pv 0)) (by rfl) m_isinstance (by rfl) (show mg "InvalidOutcome" = some (.ref (cl 7)) from HW.gl 7 (by decide)))) pda_nil))))) (fun _ h => ps_set (i := 1) nd rfl (by first | exact Or.inl rfl | exact Or.inr rfl) h))
      (pds_cons (pds_set (pd_op addW_ok mon_gF snd_addW (pd_var (pv 1)) (pd_lst (pda_cons (kIsX (K := K) rfl (pd_isOwn (pd_var (pv 0)) (by rfl) m_isinstance (by rfl) (show mg "InvalidAnswers" = some (.ref (cl 8)) from HW.gl 8 (by decide)))) (pda_cons (kIsX (K := K) rfl (pd_isOwn (pd_var (pv 0)) (by rfl) m_isinstance (by rfl) (show mg "InvalidAction" = some (.ref (cl 9)) from HW.gl 9 (by decide)))) pda_nil)))) (fun _ h => ps_set (i := 1) nd rfl (by first | exact Or.inl rfl | exact Or.inr rfl) h))
      (pds_cons (pds_set (pd_op addW_ok mon_gF snd_addW (pd_var (pv 1)) (pd_lst (pda_cons (kIsX (K := K) rfl (pd_isOwn (pd_var (pv 0)) (by rfl) m_isinstance (by rfl) (show mg "InvalidState" = some (.ref (cl 10)) from HW.gl 10 (by decide)))) (pda_cons (kIsX (K := K) rfl (pd_isOwn (pd_var (pv 0)) (by rfl) m_isinstance (by rfl) (show mg "InvalidNumber" = some (.ref (cl 11)) from HW.gl 11 (by decide)))) (pda_cons (kIsX (K := K) rfl (pd_isOwn (pd_var (pv 0)) (by rfl) m_isinstance (by rfl) (show mg "InvalidName" = some (.ref (cl 12)) from HW.gl 12 (by decide)))) pda_nil))))) (fun _ h => ps_set (i := 1) nd rfl (by first | exact Or.inl rfl | exact Or.inr rfl) h))
      (pds_cons (pds_set (pd_op addW_ok mon_gF snd_addW (pd_var (pv 1)) (pd_lst (pda_cons (kIsX (K := K) rfl (pd_isOwn (pd_var (pv 0)) (by rfl) m_isinstance (by rfl) (show mg "InvalidDeed" = some (.ref (cl 13)) from HW.gl 13 (by decide)))) (pda_cons (kIsX (K := K) rfl (pd_isOwn (pd_var (pv 0)) (by rfl) m_isinstance (by rfl) (show mg "InvalidDrawing" = some (.ref (cl 14)) from HW.gl 14 (by decide)))) (pda_cons (kIsX (K := K) rfl (pd_isOwn (pd_var (pv 0)) (by rfl) m_isinstance (by rfl) (show mg "Unfit" = some (.ref (cl 15)) from HW.gl 15 (by decide)))) pda_nil))))) (fun _ h => ps_set (i := 1) nd rfl (by first | exact Or.inl rfl | exact Or.inr rfl) h))
      (pds_cons (pds_set (pd_op addW_ok mon_gF snd_addW (pd_var (pv 1)) (pd_lst (pda_cons (kIsX (K := K) rfl (pd_isOwn (pd_var (pv 0)) (by rfl) m_isinstance (by rfl) (show mg "InvalidLot" = some (.ref (cl 16)) from HW.gl 16 (by decide)))) (pda_cons (kIsX (K := K) rfl (pd_isOwn (pd_var (pv 0)) (by rfl) m_isinstance (by rfl) (show mg "InvalidWishes" = some (.ref (cl 17)) from HW.gl 17 (by decide)))) (pda_cons (kIsX (K := K) rfl (pd_isOwn (pd_var (pv 0)) (by rfl) m_isinstance (by rfl) (show mg "InvalidBook" = some (.ref (cl 18)) from HW.gl 18 (by decide)))) pda_nil))))) (fun _ h => ps_set (i := 1) nd rfl (by first | exact Or.inl rfl | exact Or.inr rfl) h))
      (pds_cons (pds_set (pd_op addW_ok mon_gF snd_addW (pd_var (pv 1)) (pd_lst (pda_cons (kIsX (K := K) rfl (pd_isOwn (pd_var (pv 0)) (by rfl) m_isinstance (by rfl) (show mg "InvalidLines" = some (.ref (cl 19)) from HW.gl 19 (by decide)))) (pda_cons (kIsX (K := K) rfl (pd_isOwn (pd_var (pv 0)) (by rfl) m_isinstance (by rfl) (show mg "InvalidText" = some (.ref (cl 20)) from HW.gl 20 (by decide)))) (pda_cons (kIsX (K := K) rfl (pd_isOwn (pd_var (pv 0)) (by rfl) m_isinstance (by rfl) (show mg "NotTransparent" = some (.ref (cl 21)) from HW.gl 21 (by decide)))) pda_nil))))) (fun _ h => ps_set (i := 1) nd rfl (by first | exact Or.inl rfl | exact Or.inr rfl) h))
      (pds_one (pd_ret (pd_op addW_ok mon_gF snd_addW (pd_var (pv 1)) (pd_lst (pda_cons (kIsX (K := K) rfl (pd_isOwn (pd_var (pv 0)) (by rfl) m_isinstance (by rfl) (show mg "NothingToUndo" = some (.ref (cl 22)) from HW.gl 22 (by decide)))) (pda_cons (kIsX (K := K) rfl (pd_isOwn (pd_var (pv 0)) (by rfl) m_isinstance (by rfl) (show mg "NothingToRedo" = some (.ref (cl 23)) from HW.gl 23 (by decide)))) pda_nil))))))))))))))) ?_
  intro ss μ Q hl h
  obtain ⟨x, i, rfl, ⟨hi, e⟩, q⟩ := h
  have kk : ∀ j, j < 24 → PySem.W.kitOne K (.ref (cl i)) (.ref (cl j)) = some (decide (j = 0 ∨ i = j)) := fun j hj => HW.kt i j hi hj
  have X := HW.ex i hi
  walk_at "dv"
  simp only [e, X, kk, Option.some.injEq, exists_eq_left', true_and, Nat.reduceLT]
  exact q
def T__law_is_strange (cl : Nat → Addr) : TF := fun ss μ P => ∃ x i, ss = [x] ∧ (i < 24 ∧ errOf x = some (cl i)) ∧ P (.bl false) μ
theorem mon__law_is_strange (cl : Nat → Addr) : MonF (T__law_is_strange cl) := fun ss μ P P' k ⟨a, b, e, h, q⟩ => ⟨a, b, e, h, k _ _ q⟩
theorem ok__law_is_strange (t : Top K mg "_law_is_strange" s__law_is_strange ["fault"]) (HW : Cls P K mg cl) (m_ArithmeticError : mg "ArithmeticError" = none) (m_AttributeError : mg "AttributeError" = none) (m_Exception : mg "Exception" = none) (m_IndexError : mg "IndexError" = none) (m_KeyError : mg "KeyError" = none) (m_LookupError : mg "LookupError" = none) (m_NotImplementedError : mg "NotImplementedError" = none) (m_OverflowError : mg "OverflowError" = none) (m_RuntimeError : mg "RuntimeError" = none) (m_TypeError : mg "TypeError" = none) (m_ValueError : mg "ValueError" = none) (m_ZeroDivisionError : mg "ZeroDivisionError" = none) (m_isinstance : mg "isinstance" = none) :
    DefOk P w K mg base "_law_is_strange" 1 1 (T__law_is_strange cl) := by
  have nd := (sc__law_is_strange).nd
  refine ok_defD (k := 0) t sc__law_is_strange (mon__law_is_strange cl) (fun f cdv A outer s H E hr =>
    (pds_cons (pds_if (ptd_val (kIsXT (K := K) rfl (pd_isTup (pd_var (pv 0)) (by rfl) m_isinstance (BltA.cons (by rfl) m_TypeError bt_TypeError (by decide) (by decide) (by rfl) (BltA.cons (by rfl) m_KeyError bt_KeyError (by decide) (by decide) (by rfl) (BltA.cons (by rfl) m_IndexError bt_IndexError (by decide) (by decide) (by rfl) (BltA.cons (by rfl) m_LookupError bt_LookupError (by decide) (by decide) (by rfl) (BltA.cons (by rfl) m_OverflowError bt_OverflowError (by decide) (by decide) (by rfl) (BltA.cons (by rfl) m_ZeroDivisionError bt_ZeroDivisionError (by decide) (by decide) (by rfl) BltA.nil)))))) (by simp)))) (pds_one (pd_ret pd_bl)) pds_nil)
      (pds_cons (pds_if (ptd_val (kIsXT (K := K) rfl (pd_isTup (pd_var (pv 0)) (by rfl) m_isinstance (BltA.cons (by rfl) m_ArithmeticError bt_ArithmeticError (by decide) (by decide) (by rfl) (BltA.cons (by rfl) m_RuntimeError bt_RuntimeError (by decide) (by decide) (by rfl) (BltA.cons (by rfl) m_NotImplementedError bt_NotImplementedError (by decide) (by decide) (by rfl) (BltA.cons (by rfl) m_AttributeError bt_AttributeError (by decide) (by decide) (by rfl) BltA.nil)))) (by simp)))) (pds_one (pd_ret pd_bl)) pds_nil)
      (pds_one (pd_ret (pd_or (pd_not (kIsX (K := K) rfl (pd_isBlt (pd_var (pv 0)) (by rfl) m_isinstance (by rfl) m_ValueError bt_ValueError (by decide) (by decide)))) (pd_one (pd_not (kIsX (K := K) rfl (pd_isBlt (pd_var (pv 0)) (by rfl) m_isinstance (by rfl) m_Exception bt_Exception (by decide) (by decide))))))))))) ?_
  intro ss μ Q hl h
  obtain ⟨x, i, rfl, ⟨hi, e⟩, q⟩ := h
  have X := HW.ex i hi
  have k1 := HW.k1 i hi
  have k2 := HW.k2 i hi
  have kv := HW.kv i hi
  have ke := HW.ke i hi
  walk_at "dv"
  simp only [e, X, k1, k2, kv, ke, Option.some.injEq, exists_eq_left', true_and, if_false, Bool.false_eq_true, Bool.not_true]
  exact q
def T__law_by_place (cl : Nat → Addr) : TF := fun ss μ P => ∃ d, ss = [.d d] ∧ True ∧ P (.lst (givenL cl d)) μ
theorem mon__law_by_place (cl : Nat → Addr) : MonF (T__law_by_place cl) := fun ss μ P P' k ⟨a, e, h, q⟩ => ⟨a, e, h, k _ _ q⟩
theorem ok__law_by_place (t : Top K mg "_law_by_place" s__law_by_place ["thing"]) (HW : Cls P K mg cl) :
    DefOk P w K mg base "_law_by_place" 2 1 (T__law_by_place cl) := by
  have nd := (sc__law_by_place).nd
  refine ok_defD (k := 1) t sc__law_by_place (mon__law_by_place cl) (fun f cdv A outer s H E hr =>
    (pds_cons (pds_set (pd_lst (pda_cons (pd_mk (HW.gv 1 (by decide) (by decide)) (hr.mono (by decide)) (by rfl) (show mg "InvalidSetting" = some (.ref (cl 1)) from HW.gl 1 (by decide)) (pda_cons (pd_var (pv 0)) pda_nil)) (pda_cons (pd_mk (HW.gv 2 (by decide) (by decide)) (hr.mono (by decide)) (by rfl) (show mg "InvalidBelief" = some (.ref (cl 2)) from HW.gl 2 (by decide)) (pda_cons (pd_var (pv 0)) pda_nil)) (pda_cons (pd_mk (HW.gv 3 (by decide) (by decide)) (hr.mono (by decide)) (by rfl) (show mg "InvalidSplit" = some (.ref (cl 3)) from HW.gl 3 (by decide)) (pda_cons (pd_var (pv 0)) pda_nil)) (pda_cons (pd_mk (HW.gv 4 (by decide) (by decide)) (hr.mono (by decide)) (by rfl) (show mg "InvalidExperiment" = some (.ref (cl 4)) from HW.gl 4 (by decide)) (pda_cons (pd_var (pv 0)) pda_nil)) pda_nil))))) (fun _ h => ps_set (i := 1) nd rfl (by first | exact Or.inl rfl | exact Or.inr rfl) h))
      (pds_cons (pds_set (pd_op addW_ok mon_gF snd_addW (pd_var (pv 1)) (pd_lst (pda_cons (pd_mk (HW.gv 5 (by decide) (by decide)) (hr.mono (by decide)) (by rfl) (show mg "InvalidPlane" = some (.ref (cl 5)) from HW.gl 5 (by decide)) (pda_cons (pd_var (pv 0)) pda_nil)) (pda_cons (pd_mk (HW.gv 6 (by decide) (by decide)) (hr.mono (by decide)) (by rfl) (show mg "InvalidGame" = some (.ref (cl 6)) from HW.gl 6 (by decide)) (pda_cons (pd_var (pv 0)) pda_nil)) (pda_cons (pd_mk (HW.gv 7 (by decide) (by decide)) (hr.mono (by decide)) (by rfl) (show mg "InvalidOutcome" = some (.ref (cl 7)) from HW.gl 7 (by decide)) (pda_cons (pd_var (pv 0)) pda_nil)) (pda_cons (pd_mk (HW.gv 8 (by decide) (by decide)) (hr.mono (by decide)) (by rfl) (show mg "InvalidAnswers" = some (.ref (cl 8)) from HW.gl 8 (by decide)) (pda_cons (pd_var (pv 0)) pda_nil)) pda_nil)))))) (fun _ h => ps_set (i := 1) nd rfl (by first | exact Or.inl rfl | exact Or.inr rfl) h))
      (pds_cons (pds_set (pd_op addW_ok mon_gF snd_addW (pd_var (pv 1)) (pd_lst (pda_cons (pd_mk (HW.gv 9 (by decide) (by decide)) (hr.mono (by decide)) (by rfl) (show mg "InvalidAction" = some (.ref (cl 9)) from HW.gl 9 (by decide)) (pda_cons (pd_var (pv 0)) pda_nil)) (pda_cons (pd_mk (HW.gv 10 (by decide) (by decide)) (hr.mono (by decide)) (by rfl) (show mg "InvalidState" = some (.ref (cl 10)) from HW.gl 10 (by decide)) (pda_cons (pd_var (pv 0)) pda_nil)) (pda_cons (pd_mk (HW.gv 11 (by decide) (by decide)) (hr.mono (by decide)) (by rfl) (show mg "InvalidNumber" = some (.ref (cl 11)) from HW.gl 11 (by decide)) (pda_cons (pd_var (pv 0)) pda_nil)) (pda_cons (pd_mk (HW.gv 12 (by decide) (by decide)) (hr.mono (by decide)) (by rfl) (show mg "InvalidName" = some (.ref (cl 12)) from HW.gl 12 (by decide)) (pda_cons (pd_var (pv 0)) pda_nil)) pda_nil)))))) (fun _ h => ps_set (i := 1) nd rfl (by first | exact Or.inl rfl | exact Or.inr rfl) h))
      (pds_one (pd_ret (pd_op addW_ok mon_gF snd_addW (pd_var (pv 1)) (pd_lst (pda_cons (pd_mk (HW.gv 13 (by decide) (by decide)) (hr.mono (by decide)) (by rfl) (show mg "InvalidDeed" = some (.ref (cl 13)) from HW.gl 13 (by decide)) (pda_cons (pd_var (pv 0)) pda_nil)) (pda_cons (pd_mk (HW.gv 14 (by decide) (by decide)) (hr.mono (by decide)) (by rfl) (show mg "InvalidDrawing" = some (.ref (cl 14)) from HW.gl 14 (by decide)) (pda_cons (pd_var (pv 0)) pda_nil)) (pda_cons (pd_mk (HW.gv 15 (by decide) (by decide)) (hr.mono (by decide)) (by rfl) (show mg "Unfit" = some (.ref (cl 15)) from HW.gl 15 (by decide)) (pda_cons (pd_var (pv 0)) pda_nil)) pda_nil))))))))))) ?_
  intro ss μ Q hl h
  obtain ⟨d, rfl, _, q⟩ := h
  walk_at "dv"
  exact q
def T__law_by_name (cl : Nat → Addr) : TF := fun ss μ P => ∃ d, ss = [.d d] ∧ True ∧ P (.lst (givenL cl d)) μ
theorem mon__law_by_name (cl : Nat → Addr) : MonF (T__law_by_name cl) := fun ss μ P P' k ⟨a, e, h, q⟩ => ⟨a, e, h, k _ _ q⟩
theorem ok__law_by_name (t : Top K mg "_law_by_name" s__law_by_name ["thing"]) (HW : Cls P K mg cl) :
    DefOk P w K mg base "_law_by_name" 2 1 (T__law_by_name cl) := by
  have nd := (sc__law_by_name).nd
  refine ok_defD (k := 1) t sc__law_by_name (mon__law_by_name cl) (fun f cdv A outer s H E hr =>
    (pds_cons (pds_set (pd_lst (pda_cons (pd_mkK (HW.gv 1 (by decide) (by decide)) (hr.mono (by decide)) (by rfl) (show mg "InvalidSetting" = some (.ref (cl 1)) from HW.gl 1 (by decide)) (pdk_cons (pd_var (pv 0)) pdk_nil)) (pda_cons (pd_mkK (HW.gv 2 (by decide) (by decide)) (hr.mono (by decide)) (by rfl) (show mg "InvalidBelief" = some (.ref (cl 2)) from HW.gl 2 (by decide)) (pdk_cons (pd_var (pv 0)) pdk_nil)) (pda_cons (pd_mkK (HW.gv 3 (by decide) (by decide)) (hr.mono (by decide)) (by rfl) (show mg "InvalidSplit" = some (.ref (cl 3)) from HW.gl 3 (by decide)) (pdk_cons (pd_var (pv 0)) pdk_nil)) pda_nil)))) (fun _ h => ps_set (i := 1) nd rfl (by first | exact Or.inl rfl | exact Or.inr rfl) h))
      (pds_cons (pds_set (pd_op addW_ok mon_gF snd_addW (pd_var (pv 1)) (pd_lst (pda_cons (pd_mkK (HW.gv 4 (by decide) (by decide)) (hr.mono (by decide)) (by rfl) (show mg "InvalidExperiment" = some (.ref (cl 4)) from HW.gl 4 (by decide)) (pdk_cons (pd_var (pv 0)) pdk_nil)) (pda_cons (pd_mkK (HW.gv 5 (by decide) (by decide)) (hr.mono (by decide)) (by rfl) (show mg "InvalidPlane" = some (.ref (cl 5)) from HW.gl 5 (by decide)) (pdk_cons (pd_var (pv 0)) pdk_nil)) (pda_cons (pd_mkK (HW.gv 6 (by decide) (by decide)) (hr.mono (by decide)) (by rfl) (show mg "InvalidGame" = some (.ref (cl 6)) from HW.gl 6 (by decide)) (pdk_cons (pd_var (pv 0)) pdk_nil)) pda_nil))))) (fun _ h => ps_set (i := 1) nd rfl (by first | exact Or.inl rfl | exact Or.inr rfl) h))
      (pds_cons (pds_set (pd_op addW_ok mon_gF snd_addW (pd_var (pv 1)) (pd_lst (pda_cons (pd_mkK (HW.gv 7 (by decide) (by decide)) (hr.mono (by decide)) (by rfl) (show mg "InvalidOutcome" = some (.ref (cl 7)) from HW.gl 7 (by decide)) (pdk_cons (pd_var (pv 0)) pdk_nil)) (pda_cons (pd_mkK (HW.gv 8 (by decide) (by decide)) (hr.mono (by decide)) (by rfl) (show mg "InvalidAnswers" = some (.ref (cl 8)) from HW.gl 8 (by decide)) (pdk_cons (pd_var (pv 0)) pdk_nil)) (pda_cons (pd_mkK (HW.gv 9 (by decide) (by decide)) (hr.mono (by decide)) (by rfl) (show mg "InvalidAction" = some (.ref (cl 9)) from HW.gl 9 (by decide)) (pdk_cons (pd_var (pv 0)) pdk_nil)) pda_nil))))) (fun _ h => ps_set (i := 1) nd rfl (by first | exact Or.inl rfl | exact Or.inr rfl) h))
      (pds_cons (pds_set (pd_op addW_ok mon_gF snd_addW (pd_var (pv 1)) (pd_lst (pda_cons (pd_mkK (HW.gv 10 (by decide) (by decide)) (hr.mono (by decide)) (by rfl) (show mg "InvalidState" = some (.ref (cl 10)) from HW.gl 10 (by decide)) (pdk_cons (pd_var (pv 0)) pdk_nil)) (pda_cons (pd_mkK (HW.gv 11 (by decide) (by decide)) (hr.mono (by decide)) (by rfl) (show mg "InvalidNumber" = some (.ref (cl 11)) from HW.gl 11 (by decide)) (pdk_cons (pd_var (pv 0)) pdk_nil)) (pda_cons (pd_mkK (HW.gv 12 (by decide) (by decide)) (hr.mono (by decide)) (by rfl) (show mg "InvalidName" = some (.ref (cl 12)) from HW.gl 12 (by decide)) (pdk_cons (pd_var (pv 0)) pdk_nil)) pda_nil))))) (fun _ h => ps_set (i := 1) nd rfl (by first | exact Or.inl rfl | exact Or.inr rfl) h))
      (pds_one (pd_ret (pd_op addW_ok mon_gF snd_addW (pd_var (pv 1)) (pd_lst (pda_cons (pd_mkK (HW.gv 13 (by decide) (by decide)) (hr.mono (by decide)) (by rfl) (show mg "InvalidDeed" = some (.ref (cl 13)) from HW.gl 13 (by decide)) (pdk_cons (pd_var (pv 0)) pdk_nil)) (pda_cons (pd_mkK (HW.gv 14 (by decide) (by decide)) (hr.mono (by decide)) (by rfl) (show mg "InvalidDrawing" = some (.ref (cl 14)) from HW.gl 14 (by decide)) (pdk_cons (pd_var (pv 0)) pdk_nil)) (pda_cons (pd_mkK (HW.gv 15 (by decide) (by decide)) (hr.mono (by decide)) (by rfl) (show mg "Unfit" = some (.ref (cl 15)) from HW.gl 15 (by decide)) (pdk_cons (pd_var (pv 0)) pdk_nil)) pda_nil)))))))))))) ?_
  intro ss μ Q hl h
  obtain ⟨d, rfl, _, q⟩ := h
  walk_at "dv"
  exact q
end K1

/-! part U8 -/
set_option Elab.async false
set_option linter.all false
set_option maxRecDepth 100000
set_option autoImplicit false
set_option exponentiation.threshold 4000
set_option maxHeartbeats 1000000
namespace K1
open PySem PySem.Spec L2 DV
open PyProof.Rows (envOfC)
variable {P : Program} {w : World} {K : PySem.W.Frag} {mg : Str → Option Value} {base : Heap} {cl : Nat → Addr}

local macro_rules | `(tactic| walk_at "dv") => `(tactic| simp only [startR, fAddW, fSubW, fGtW, fMul2, fModM, cAddW, cEqP, fEqP, fNeP, fInI, fIsiW, isBW, tyD, Option.bind_some, fRevT, fMk, fBare, fAtt, fIsX, fIsXT, fRaise, fRaise0, fTry, clD, suiteD, kNo, kBut, fXatt, fExprX, fCallX, kDX, gRepr2, cRepr2, datOf, errOf, kD, fin, fSeq, fNext, fDrop, fNRep, fNRg, fParN0, fPar3, fPar3N, fAsg, fRet, fIfS, fNever, fPar, fNew, fApp, fVar, fC, fOp, fTest, fTAnd, fTOr, fTNot, fVAnd, fVOr, fVNot, fNeg, fIf, fChain, fANil, fACons, fTup, fLst, fCB, fNLst, fOfN, fYes, fIsi, fONone, fOSome, fSl, sliceF,
  gF, gA, cI, fI, c0, cAdd, fAdd, fIx, cRepT, fRepT, fEq, fNe, fNotIn, intsOf, blsOf, allD, seqOf, tupOf, fLen, cA0, f1L, gSum, gAll, gAny, fTupleOf, fListOf, fA1, fA2, cDm, gN, gsNil_eq, gsCons_eq, gT_eq, gSb_eq, isB, itemsOf, fISeq, fIRng, fIEnum, fIZip, fIZipTL, fFor, fLc, wipeR, fCall, fCallK, fRetN, kN, fCallN, fCallOn, kwS, pick, gRepr, cRepr, List.filterMap_cons_some, List.filterMap_nil,
  List.map_cons, List.map_nil, List.length_cons, List.length_nil, List.replicate_succ, List.replicate_zero, List.cons_append, List.nil_append, List.append_nil, List.getElem?_cons_zero, List.getElem?_cons_succ, List.getElem?_nil, List.set_cons_zero, List.set_cons_succ, List.set_nil, List.take_succ_cons, List.take_zero, List.take_nil,
  Option.map_some, Option.map_none, Option.some.injEq, Option.get_some, exists_eq_left', exists_eq_left, exists_eq_right, true_and, and_true, if_true, if_false, reduceCtorEq, ite_true, ite_false, S.d.injEq, S.m.injEq, D.int.injEq, D.tup.injEq, D.lst.injEq, D.bl.injEq, D.str.injEq, List.cons.injEq, exists_and_left, exists_and_right,
  Nat.sub_zero, Nat.reduceSub, Nat.reduceAdd, Nat.zero_add, Nat.add_zero, Bool.not_true, Bool.not_false, Bool.false_eq_true, decide_eq_true_eq, Nat.reduceLT, Nat.reduceLeDiff, Nat.le_refl, List.take_length, Int.reduceLT, Int.reduceToNat, Nat.lt_irrefl, gt_iff_lt, Nat.not_lt_zero, Int.cast_ofNat_Int, decide_true, decide_false, and_assoc])

def thrC (way : Int) : Nat := if way = 0 then 1 else if way = 1 then 2 else if way = 2 then 3 else if way = 3 then 11 else if way = 4 then 16 else if way = 5 then 20 else 15
def thrF (way : Int) : Str := if way = 4 then "index" else if way = 5 then "line" else "given"
theorem Cls.attG (HW : Cls P K mg cl) (i : Nat) (h1 : 1 ≤ i) (h2 : i ≤ 15) : AttC K (cl i) "given" := ⟨HW.xf i (by omega), (HW.gv i h1 h2).fa⟩
theorem Cls.attI (HW : Cls P K mg cl) (i : Nat) (h1 : 16 ≤ i) (h2 : i ≤ 19) : AttC K (cl i) "index" := ⟨HW.xf i (by omega), (HW.ix i h1 h2).fa⟩
theorem Cls.attL (HW : Cls P K mg cl) : AttC K (cl 20) "line" := ⟨HW.xf 20 (by omega), HW.ln.fa⟩

def T__law_throw (cl : Nat → Addr) : TX := fun ss μ P R => ∃ (way : Int) (d : D), ss = [.d (.int way), .d d] ∧ (0 ≤ way ∧ way < 7) ∧ R (.err (cl (thrC way)) (thrF way) d) μ
theorem mon__law_throw (cl : Nat → Addr) : MonTX (T__law_throw cl) := fun ss μ P P' R R' k k2 ⟨a, b, e, h, q⟩ => ⟨a, b, e, h, k2 _ _ q⟩
theorem ok__law_throw (t : Top K mg "_law_throw" s__law_throw ["way", "thing"]) (HW : Cls P K mg cl) :
    DefOkX P w K mg base "_law_throw" 2 2 (T__law_throw cl) := by
  have nd := (sc__law_throw).nd
  refine ok_defDX (k := 1) t sc__law_throw (mon__law_throw cl) (fun f cdv A outer s H E hr =>
    (pds_cons (pds_if (ptd_cmp (eq_ok hr.units) mon_gF snd_eq (nomark _) (pd_var (pv 0)) pd_int) (pds_one (pds_raise rfl (takes_of rfl rfl rfl rfl) (HW.gv 1 (by decide) (by decide)) (hr.mono (by decide)) (by rfl) (show mg "InvalidSetting" = some (.ref (cl 1)) from HW.gl 1 (by decide)) (pda_cons (pd_var (pv 1)) pda_nil))) pds_nil)
      (pds_cons (pds_if (ptd_cmp (eq_ok hr.units) mon_gF snd_eq (nomark _) (pd_var (pv 0)) pd_int) (pds_one (pds_raiseK rfl (takes_of rfl rfl rfl rfl) (HW.gv 2 (by decide) (by decide)) (hr.mono (by decide)) (by rfl) (show mg "InvalidBelief" = some (.ref (cl 2)) from HW.gl 2 (by decide)) (pdk_cons (pd_var (pv 1)) pdk_nil))) pds_nil)
      (pds_cons (pds_if (ptd_cmp (eq_ok hr.units) mon_gF snd_eq (nomark _) (pd_var (pv 0)) pd_int) (pds_one (pds_raise rfl (takes_of rfl rfl rfl rfl) (HW.gv 3 (by decide) (by decide)) (hr.mono (by decide)) (by rfl) (show mg "InvalidSplit" = some (.ref (cl 3)) from HW.gl 3 (by decide)) (pda_cons (pd_var (pv 1)) pda_nil))) pds_nil)
      (pds_cons (pds_if (ptd_cmp (eq_ok hr.units) mon_gF snd_eq (nomark _) (pd_var (pv 0)) pd_int) (pds_one (pds_raiseK rfl (takes_of rfl rfl rfl rfl) (HW.gv 11 (by decide) (by decide)) (hr.mono (by decide)) (by rfl) (show mg "InvalidNumber" = some (.ref (cl 11)) from HW.gl 11 (by decide)) (pdk_cons (pd_var (pv 1)) pdk_nil))) pds_nil)
      (pds_cons (pds_if (ptd_cmp (eq_ok hr.units) mon_gF snd_eq (nomark _) (pd_var (pv 0)) pd_int) (pds_one (pds_raiseK rfl (takes_of rfl rfl rfl rfl) (HW.ix 16 (by decide) (by decide)) (hr.mono (by decide)) (by rfl) (show mg "InvalidLot" = some (.ref (cl 16)) from HW.gl 16 (by decide)) (pdk_cons (pd_var (pv 1)) pdk_nil))) pds_nil)
      (pds_cons (pds_if (ptd_cmp (eq_ok hr.units) mon_gF snd_eq (nomark _) (pd_var (pv 0)) pd_int) (pds_one (pds_raise rfl (takes_of rfl rfl rfl rfl) HW.ln (hr.mono (by decide)) (by rfl) (show mg "InvalidText" = some (.ref (cl 20)) from HW.gl 20 (by decide)) (pda_cons (pd_var (pv 1)) pda_nil))) pds_nil)
      (pds_one (pds_raiseK rfl (takes_of rfl rfl rfl rfl) (HW.gv 15 (by decide) (by decide)) (hr.mono (by decide)) (by rfl) (show mg "Unfit" = some (.ref (cl 15)) from HW.gl 15 (by decide)) (pdk_cons (pd_var (pv 1)) pdk_nil)))))))))) ?_
  intro ss μ Q R hl h
  obtain ⟨way, d, rfl, ⟨h0, h7⟩, q⟩ := h
  walk_at "dv"
  obtain rfl | rfl | rfl | rfl | rfl | rfl | rfl : way = 0 ∨ way = 1 ∨ way = 2 ∨ way = 3 ∨ way = 4 ∨ way = 5 ∨ way = 6 := (by omega) <;> exact q
def T__law_caught : TF := fun ss μ P => ∃ (way : Int) (d : D), ss = [.d (.int way), .d d] ∧ (0 ≤ way ∧ way < 7) ∧ P (.tup [.int way, d]) μ
theorem mon__law_caught : MonF T__law_caught := fun ss μ P P' k ⟨a, b, e, h, q⟩ => ⟨a, b, e, h, k _ _ q⟩
theorem ok__law_caught (t : Top K mg "_law_caught" s__law_caught ["way", "thing"]) (C__law_throw : DefOkX P w K mg base "_law_throw" 2 2 (T__law_throw cl)) (HW : Cls P K mg cl) :
    DefOk P w K mg base "_law_caught" 3 2 T__law_caught := by
  have nd := (sc__law_caught).nd
  refine ok_defD (k := 2) t sc__law_caught mon__law_caught (fun f cdv A outer s H E hr =>
    (pds_cons (kTry (K := K) rfl (pds_tryA rfl rfl nd takes_none5 (fun W pn xe tk po => (pds_one (pds_exprX (pdx_call tk C__law_throw (hr.mono (by decide)) (by rfl) (pda_cons (pd_var (pv 0)) (pda_cons (pd_var (pv 1)) pda_nil))))))
      (named ⟨by rfl, by decide, .inl (show mg "InvalidSetting" = some (.ref (cl 1)) from HW.gl 1 (by decide))⟩ (i := 2) rfl rfl (fun a oe cls d pn hz hv => (pds_one (pds_set (pd_tup (pda_cons pd_int (pda_cons (kXatt (K := K) rfl (pd_xatt hz hv (pd_var (pv 2)))) pda_nil))) (fun _ h => ps_set (i := 3) nd rfl (by first | exact Or.inl rfl | exact Or.inr rfl) h))))
        (named ⟨by rfl, by decide, .inl (show mg "InvalidBelief" = some (.ref (cl 2)) from HW.gl 2 (by decide))⟩ (i := 2) rfl rfl (fun a oe cls d pn hz hv => (pds_one (pds_set (pd_tup (pda_cons pd_int (pda_cons (kXatt (K := K) rfl (pd_xatt hz hv (pd_var (pv 2)))) pda_nil))) (fun _ h => ps_set (i := 3) nd rfl (by first | exact Or.inl rfl | exact Or.inr rfl) h))))
        (named ⟨by rfl, by decide, .inl (show mg "InvalidSplit" = some (.ref (cl 3)) from HW.gl 3 (by decide))⟩ (i := 2) rfl rfl (fun a oe cls d pn hz hv => (pds_one (pds_set (pd_tup (pda_cons pd_int (pda_cons (kXatt (K := K) rfl (pd_xatt hz hv (pd_var (pv 2)))) pda_nil))) (fun _ h => ps_set (i := 3) nd rfl (by first | exact Or.inl rfl | exact Or.inr rfl) h))))
        (named ⟨by rfl, by decide, .inl (show mg "InvalidNumber" = some (.ref (cl 11)) from HW.gl 11 (by decide))⟩ (i := 2) rfl rfl (fun a oe cls d pn hz hv => (pds_one (pds_set (pd_tup (pda_cons pd_int (pda_cons (kXatt (K := K) rfl (pd_xatt hz hv (pd_var (pv 2)))) pda_nil))) (fun _ h => ps_set (i := 3) nd rfl (by first | exact Or.inl rfl | exact Or.inr rfl) h))))
        (named ⟨by rfl, by decide, .inl (show mg "InvalidLot" = some (.ref (cl 16)) from HW.gl 16 (by decide))⟩ (i := 2) rfl rfl (fun a oe cls d pn hz hv => (pds_one (pds_set (pd_tup (pda_cons pd_int (pda_cons (kXatt (K := K) rfl (pd_xatt hz hv (pd_var (pv 2)))) pda_nil))) (fun _ h => ps_set (i := 3) nd rfl (by first | exact Or.inl rfl | exact Or.inr rfl) h))))
        (named ⟨by rfl, by decide, .inl (show mg "InvalidText" = some (.ref (cl 20)) from HW.gl 20 (by decide))⟩ (i := 2) rfl rfl (fun a oe cls d pn hz hv => (pds_one (pds_set (pd_tup (pda_cons pd_int (pda_cons (kXatt (K := K) rfl (pd_xatt hz hv (pd_var (pv 2)))) pda_nil))) (fun _ h => ps_set (i := 3) nd rfl (by first | exact Or.inl rfl | exact Or.inr rfl) h))))
        (named ⟨by rfl, by decide, .inl (show mg "Unfit" = some (.ref (cl 15)) from HW.gl 15 (by decide))⟩ (i := 2) rfl rfl (fun a oe cls d pn hz hv => (pds_one (pds_set (pd_tup (pda_cons pd_int (pda_cons (kXatt (K := K) rfl (pd_xatt hz hv (pd_var (pv 2)))) pda_nil))) (fun _ h => ps_set (i := 3) nd rfl (by first | exact Or.inl rfl | exact Or.inr rfl) h))))
        .nil)))))))))
      (pds_one (pd_ret (pd_var (pv 3)))))) ?_
  intro ss μ Q hl h
  obtain ⟨way, d, rfl, ⟨h0, h7⟩, q⟩ := h
  have em : ∀ i j, i < 24 → j < 24 → PySem.W.exmOne K (.ref (cl i)) (.ref (cl j)) = some (decide (j = 0 ∨ i = j)) := HW.em
  have a1 := HW.attG 1 (by decide) (by decide)
  have a2 := HW.attG 2 (by decide) (by decide)
  have a3 := HW.attG 3 (by decide) (by decide)
  have a11 := HW.attG 11 (by decide) (by decide)
  have a15 := HW.attG 15 (by decide) (by decide)
  have a16 := HW.attI 16 (by decide) (by decide)
  have a20 := HW.attL
  walk_at "dv"
  refine ⟨way, d, rfl, ⟨h0, h7⟩, ?_⟩
  obtain rfl | rfl | rfl | rfl | rfl | rfl | rfl : way = 0 ∨ way = 1 ∨ way = 2 ∨ way = 3 ∨ way = 4 ∨ way = 5 ∨ way = 6 := (by omega) <;> simp only [thrC, thrF, Int.reduceEq, if_true, if_false, reduceIte] <;> walk_at "dv" <;> simp only [em, Nat.reduceLT, Nat.reduceEqDiff, Option.some.injEq, exists_eq_left', S.ex.injEq, D.err.injEq, and_assoc, true_and, false_or, or_false, or_true, true_or, decide_true, decide_false, Bool.true_eq_false, Bool.false_eq_true, forall_const, false_imp_iff, true_imp_iff, implies_true, and_true, eq_self, reduceCtorEq, imp_self, a1, a2, a3, a11, a15, a16, a20]
  all_goals exact ⟨_, _, rfl, rfl, by assumption, q⟩
def T__law_based : TF := fun ss μ P => ∃ (way : Int) (d : D), ss = [.d (.int way), .d d] ∧ (0 ≤ way ∧ way < 7) ∧ P (.bl true) μ
theorem mon__law_based : MonF T__law_based := fun ss μ P P' k ⟨a, b, e, h, q⟩ => ⟨a, b, e, h, k _ _ q⟩
theorem ok__law_based (t : Top K mg "_law_based" s__law_based ["way", "thing"]) (C__law_throw : DefOkX P w K mg base "_law_throw" 2 2 (T__law_throw cl)) (HW : Cls P K mg cl) :
    DefOk P w K mg base "_law_based" 3 2 T__law_based := by
  have nd := (sc__law_based).nd
  refine ok_defD (k := 2) t sc__law_based mon__law_based (fun f cdv A outer s H E hr =>
    (pds_cons (pds_set pd_bl (fun _ h => ps_set (i := 2) nd rfl (by first | exact Or.inl rfl | exact Or.inr rfl) h))
      (pds_cons (kTry (K := K) rfl (pds_tryA rfl rfl nd takes_none5 (fun W pn xe tk po => (pds_one (pds_exprX (pdx_call tk C__law_throw (hr.mono (by decide)) (by rfl) (pda_cons (pd_var (pv 0)) (pda_cons (pd_var (pv 1)) pda_nil))))))
      (named ⟨by rfl, by decide, .inl (show mg "PersuasionError" = some (.ref (cl 0)) from HW.gl 0 (by decide))⟩ (i := 3) rfl rfl (fun a oe cls d pn hz hv => (pds_one (pds_set pd_bl (fun _ h => ps_set (i := 2) nd rfl (by first | exact Or.inl rfl | exact Or.inr rfl) h))))
        .nil)))
      (pds_one (pd_ret (pd_var (pv 2))))))) ?_
  intro ss μ Q hl h
  obtain ⟨way, d, rfl, ⟨h0, h7⟩, q⟩ := h
  have em : ∀ i j, i < 24 → j < 24 → PySem.W.exmOne K (.ref (cl i)) (.ref (cl j)) = some (decide (j = 0 ∨ i = j)) := HW.em
  walk_at "dv"
  refine ⟨way, d, rfl, ⟨h0, h7⟩, ?_⟩
  obtain rfl | rfl | rfl | rfl | rfl | rfl | rfl : way = 0 ∨ way = 1 ∨ way = 2 ∨ way = 3 ∨ way = 4 ∨ way = 5 ∨ way = 6 := (by omega) <;> simp only [thrC, thrF, Int.reduceEq, if_true, if_false, reduceIte] <;> walk_at "dv" <;> simp only [em, Nat.reduceLT, Nat.reduceEqDiff, Option.some.injEq, exists_eq_left', S.ex.injEq, D.err.injEq, and_assoc, true_and, false_or, or_false, or_true, true_or, decide_true, decide_false, Bool.true_eq_false, Bool.false_eq_true, forall_const, false_imp_iff, true_imp_iff, implies_true, and_true, eq_self, reduceCtorEq, imp_self]
  all_goals exact q
def T__law_bare : TF := fun ss μ P => ∃ (way : Int), ss = [.d (.int way)] ∧ (0 ≤ way ∧ way < 4) ∧ P (.int way) μ
theorem mon__law_bare : MonF T__law_bare := fun ss μ P P' k ⟨a, e, h, q⟩ => ⟨a, e, h, k _ _ q⟩
theorem ok__law_bare (t : Top K mg "_law_bare" s__law_bare ["way"]) (HW : Cls P K mg cl) :
    DefOk P w K mg base "_law_bare" 2 1 T__law_bare := by
  have nd := (sc__law_bare).nd
  refine ok_defD (k := 1) t sc__law_bare mon__law_bare (fun f cdv A outer s H E hr =>
    (pds_cons (pds_set (pd_neg pd_int) (fun _ h => ps_set (i := 1) nd rfl (by first | exact Or.inl rfl | exact Or.inr rfl) h))
      (pds_cons (kTry (K := K) rfl (pds_tryA rfl rfl nd takes_none5 (fun W pn xe tk po => (pds_cons (pds_if (ptd_cmp (eq_ok hr.units) mon_gF snd_eq (nomark _) (pd_var (pv 0)) pd_int) (pds_one (pds_raise0 rfl tk (HW.br 21 (by decide) (by decide)) (by rfl) (show mg "NotTransparent" = some (.ref (cl 21)) from HW.gl 21 (by decide)))) pds_nil)
      (pds_cons (pds_if (ptd_cmp (eq_ok hr.units) mon_gF snd_eq (nomark _) (pd_var (pv 0)) pd_int) (pds_one (pds_raise0 rfl tk (HW.br 22 (by decide) (by decide)) (by rfl) (show mg "NothingToUndo" = some (.ref (cl 22)) from HW.gl 22 (by decide)))) pds_nil)
      (pds_cons (pds_if (ptd_cmp (eq_ok hr.units) mon_gF snd_eq (nomark _) (pd_var (pv 0)) pd_int) (pds_one (pds_raise0 rfl tk (HW.br 23 (by decide) (by decide)) (by rfl) (show mg "NothingToRedo" = some (.ref (cl 23)) from HW.gl 23 (by decide)))) pds_nil)
      (pds_one (pds_raise0 rfl tk (HW.br 0 (by decide) (by decide)) (by rfl) (show mg "PersuasionError" = some (.ref (cl 0)) from HW.gl 0 (by decide))))))))
      (bare ⟨by rfl, by decide, .inl (show mg "NotTransparent" = some (.ref (cl 21)) from HW.gl 21 (by decide))⟩ (fun a oe cls d pn hz hv => (pds_one (pds_set pd_int (fun _ h => ps_set (i := 1) nd rfl (by first | exact Or.inl rfl | exact Or.inr rfl) h))))
        (bare ⟨by rfl, by decide, .inl (show mg "NothingToUndo" = some (.ref (cl 22)) from HW.gl 22 (by decide))⟩ (fun a oe cls d pn hz hv => (pds_one (pds_set pd_int (fun _ h => ps_set (i := 1) nd rfl (by first | exact Or.inl rfl | exact Or.inr rfl) h))))
        (bare ⟨by rfl, by decide, .inl (show mg "NothingToRedo" = some (.ref (cl 23)) from HW.gl 23 (by decide))⟩ (fun a oe cls d pn hz hv => (pds_one (pds_set pd_int (fun _ h => ps_set (i := 1) nd rfl (by first | exact Or.inl rfl | exact Or.inr rfl) h))))
        (bare ⟨by rfl, by decide, .inl (show mg "PersuasionError" = some (.ref (cl 0)) from HW.gl 0 (by decide))⟩ (fun a oe cls d pn hz hv => (pds_one (pds_set pd_int (fun _ h => ps_set (i := 1) nd rfl (by first | exact Or.inl rfl | exact Or.inr rfl) h))))
        .nil))))))
      (pds_one (pd_ret (pd_var (pv 1))))))) ?_
  intro ss μ Q hl h
  obtain ⟨way, rfl, ⟨h0, h7⟩, q⟩ := h
  have em : ∀ i j, i < 24 → j < 24 → PySem.W.exmOne K (.ref (cl i)) (.ref (cl j)) = some (decide (j = 0 ∨ i = j)) := HW.em
  walk_at "dv"
  obtain rfl | rfl | rfl | rfl : way = 0 ∨ way = 1 ∨ way = 2 ∨ way = 3 := (by omega)
  all_goals simp only [Int.reduceEq, if_true, if_false, reduceIte, em, Nat.reduceLT, Nat.reduceEqDiff, Option.some.injEq, exists_eq_left', S.ex.injEq, D.err.injEq, and_assoc, true_and, false_or, or_false, or_true, true_or, decide_true, decide_false, Bool.true_eq_false, Bool.false_eq_true, forall_const, false_imp_iff, true_imp_iff, implies_true, and_true, eq_self, reduceCtorEq, imp_self]
  all_goals exact q
end K1

/-! part U9 -/
set_option Elab.async false
set_option linter.all false
set_option maxRecDepth 100000
set_option autoImplicit false
set_option exponentiation.threshold 4000
set_option maxHeartbeats 1000000
namespace K1
open PySem PySem.Spec L2 DV
open PyProof.Rows (envOfC)
variable {P : Program} {w : World} {K : PySem.W.Frag} {mg : Str → Option Value} {base : Heap} {cl : Nat → Addr}

local macro_rules | `(tactic| walk_at "dv") => `(tactic| simp only [startR, fAddW, fSubW, fGtW, fMul2, fModM, cAddW, cEqP, fEqP, fNeP, fInI, fIsiW, isBW, tyD, Option.bind_some, fRevT, fMk, fBare, fAtt, fIsX, fIsXT, fRaise, fRaise0, fTry, clD, suiteD, kNo, kBut, fXatt, fExprX, fCallX, kDX, gRepr2, cRepr2, datOf, kD, fin, fSeq, fNext, fDrop, fNRep, fNRg, fParN0, fPar3, fPar3N, fAsg, fRet, fIfS, fNever, fPar, fNew, fApp, fVar, fC, fOp, fTest, fTAnd, fTOr, fTNot, fVAnd, fVOr, fVNot, fNeg, fIf, fChain, fANil, fACons, fTup, fLst, fCB, fNLst, fOfN, fYes, fIsi, fONone, fOSome, fSl, sliceF,
  gF, gA, cI, fI, c0, cAdd, fAdd, fIx, cRepT, fRepT, fEq, fNe, fNotIn, intsOf, blsOf, allD, seqOf, tupOf, fLen, cA0, f1L, gSum, gAll, gAny, fTupleOf, fListOf, fA1, fA2, cDm, gN, gsNil_eq, gsCons_eq, gT_eq, gSb_eq, isB, itemsOf, fISeq, fIRng, fIEnum, fIZip, fIZipTL, fFor, fLc, wipeR, fCall, fCallK, fRetN, kN, fCallN, fCallOn, kwS, pick, gRepr, cRepr, List.filterMap_cons_some, List.filterMap_nil,
  List.map_cons, List.map_nil, List.length_cons, List.length_nil, List.replicate_succ, List.replicate_zero, List.cons_append, List.nil_append, List.append_nil, List.getElem?_cons_zero, List.getElem?_cons_succ, List.getElem?_nil, List.set_cons_zero, List.set_cons_succ, List.set_nil, List.take_succ_cons, List.take_zero, List.take_nil,
  Option.map_some, Option.map_none, Option.some.injEq, Option.get_some, exists_eq_left', exists_eq_left, exists_eq_right, true_and, and_true, if_true, if_false, reduceCtorEq, ite_true, ite_false, S.d.injEq, S.m.injEq, D.int.injEq, D.tup.injEq, D.lst.injEq, D.bl.injEq, D.str.injEq, List.cons.injEq, exists_and_left, exists_and_right,
  Nat.sub_zero, Nat.reduceSub, Nat.reduceAdd, Nat.zero_add, Nat.add_zero, Bool.not_true, Bool.not_false, Bool.false_eq_true, decide_eq_true_eq, Nat.reduceLT, Nat.reduceLeDiff, Nat.le_refl, List.take_length, Int.reduceLT, Int.reduceToNat, Nat.lt_irrefl, gt_iff_lt, Nat.not_lt_zero, Int.cast_ofNat_Int, decide_true, decide_false, and_assoc])

theorem kinds_all : ∀ i : Fin 24, (D.plain (.lst (kindsL i.val)) && SeqAt.shaped (D.py (.lst (kindsL i.val))) && PyData.eqv (D.py (.lst (kindsL i.val))) (D.py (.lst (kindsL i.val)))) = true := by decide +kernel
theorem kinds_sh {i : Nat} (h : i < 24) : shapedD (.lst (kindsL i)) ∧ PyData.eqv (D.py (.lst (kindsL i))) (D.py (.lst (kindsL i))) = true := by
  have := kinds_all ⟨i, h⟩
  simp only [Bool.and_eq_true] at this
  exact ⟨⟨this.1.1, this.1.2⟩, this.2⟩

theorem contains_two (a m : Nat) : ([0, (m : Int)] : List Int).contains (a : Int) = decide (a = 0 ∨ m = a) := by
  rw [Bool.eq_iff_iff, List.contains_iff_mem, decide_eq_true_eq]
  simp only [List.mem_cons, List.not_mem_nil, or_false]
  omega
def T__law_are_kinds (cl : Nat → Addr) : TF := fun ss μ P => ∃ (xs : List D) (first : Nat), ss = [.d (.lst xs), .d (.int (first : Int))] ∧ (first + xs.length ≤ 24 ∧ ∀ j x, xs[j]? = some x → errOf (.d x) = some (cl (first + j))) ∧ P (.bl true) μ
theorem mon__law_are_kinds (cl : Nat → Addr) : MonF (T__law_are_kinds cl) := fun ss μ P P' k ⟨a, b, e, h, q⟩ => ⟨a, b, e, h, k _ _ q⟩
theorem ok__law_are_kinds (t : Top K mg "_law_are_kinds" s__law_are_kinds ["faults", "first"]) (C__law_is_strange : DefOk P w K mg base "_law_is_strange" 1 1 (T__law_is_strange cl)) (C__law_kinds : DefOk P w K mg base "_law_kinds" 1 1 (T__law_kinds cl)) (m_len : mg "len" = none) (m_range : mg "range" = none) :
    DefOk P w K mg base "_law_are_kinds" 2 2 (T__law_are_kinds cl) := by
  have nd := (sc__law_are_kinds).nd
  refine ok_defD (k := 1) t sc__law_are_kinds (mon__law_are_kinds cl) (fun f cdv A outer s H E hr =>
    (pds_cons (pds_for PassesOwn.never rfl (pdi_range (by rfl) m_range (pda_cons (pd_B call_len_seq snd_len mon_gA (by rfl) m_len bt_len (pda_cons (pd_var (pv 0)) pda_nil)) pda_nil)) (pdg_name (pg_name (i := 2) nd rfl (by first | exact Or.inl rfl | exact Or.inr rfl))) (pds_one (pds_if (ptd_w (pdw_or (ptd_val (pd_callD C__law_is_strange (hr.mono (by decide)) (by rfl) (pda_cons (pd_ix ix_ok mon_gF snd_ix (fun _ _ => rfl) (pd_var (pv 0)) (pd_var (pv 2))) pda_nil))) (pdw_or1 (ptd_cmp (op_neD hr.units) mon_gF snd_neP (nomark _) (pd_callD C__law_kinds (hr.mono (by decide)) (by rfl) (pda_cons (pd_ix ix_ok mon_gF snd_ix (fun _ _ => rfl) (pd_var (pv 0)) (pd_var (pv 2))) pda_nil)) (pd_of_N (pdn_lc (own := [("k", 3)]) rfl nd (pdi_range (by rfl) m_range (pda_cons pd_int pda_nil)) (blkOk_by (N := N__law_are_kinds) (sc := defScope s__law_are_kinds) (by decide +kernel)) (fun _ _ _ _ _ => (pdg_name (pg_name (i := 3) nd rfl (by first | exact Or.inl rfl | exact Or.inr rfl)))) (fun _ _ _ _ _ => pdts_nil) (fun _ _ _ _ _ => (pd_cmp op_in_seq mon_gF snd_inI (by with_unfolding_all rfl) (pd_var (pv 3)) (pd_tup (pda_cons pd_int (pda_cons (pd_op addW_ok mon_gF snd_addW (pd_var (pv 1)) (pd_var (pv 2))) pda_nil))))) (by decide))))))) (pds_one (pd_ret pd_bl)) pds_nil)))
      (pds_one (pd_ret pd_bl)))) ?_
  intro ss μ Q hl h
  obtain ⟨xs, first, rfl, ⟨hf, hx⟩, q⟩ := h
  walk_at "dv"
  refine ⟨by omega, by omega, ?_⟩
  rw [rngD_nat]
  refine loop_inv (fun i : Nat => D.int (i : Int)) (fun i ρ μ' => μ' = μ ∧ ∃ s2, ρ = [some (.d (.lst xs)), some (.d (.int (first : Int))), s2, none]) _ 0 _ _ ?_ ?_ ⟨rfl, _, rfl⟩
  · rintro i x _ _ ex ⟨rfl, s2, rfl⟩
    obtain ⟨xl, rfl⟩ := (List.getElem?_eq_some_iff.mp ex)
    rw [List.length_range] at xl
    rw [List.getElem_range]
    refine ⟨trivial, fun k' _ hk => ?_⟩
    have h1 : (first + i) < 24 := by omega
    have e1 := List.getElem?_eq_getElem xl
    generalize xs[i] = x at e1
    have e2 := hx i x e1
    obtain ⟨ks, ke⟩ := kinds_sh h1
    walk_at "dv"
    rw [if_neg (by omega), Int.toNat_natCast]
    refine ⟨_, e1, _, _, rfl, ⟨h1, e2⟩, ?_⟩
    walk_at "dv"
    refine ⟨_, e1, _, _, rfl, ⟨h1, e2⟩, ?_⟩
    walk_at "dv"
    refine ⟨by decide, by decide, ?_⟩
    rw [show rngD 24 = (List.range 24).map (fun (i : Nat) => D.int (i : Int)) from rngD_nat 24]
    refine lc_pure (fun (a : Nat) => D.int (a : Int)) (fun a => some (.bl (decide (a = 0 ∨ first + i = a)))) (fun _ => trivial) (List.range 24) [] _ _ (fun a ha μ' P P2 h => ?_) (by decide) ?_
    · walk_at "dv"
      rw [show ([0, (first : Int) + (i : Int)] : List Int).contains (a : Int) = decide (a = 0 ∨ first + i = a) from by rw [← Int.natCast_add]; exact contains_two _ _]
      exact h
    · rw [show [] ++ List.filterMap (fun a => some (D.bl (decide (a = 0 ∨ first + i = a)))) (List.range 24) = kindsL (first + i) from by rw [List.nil_append]; exact congrFun (List.filterMap_eq_map (f := fun a => D.bl (decide (a = 0 ∨ first + i = a)))) _]
      refine ⟨fun d e => by subst e; exact ks, fun d e => by subst e; exact ks, ?_⟩
      rw [if_neg]
      · exact hk _ _ ⟨rfl, _, rfl⟩
      · rw [ke]
        decide
  · rintro _ _ ⟨rfl, s2, rfl⟩
    refine ⟨trivial, ?_⟩
    walk_at "dv"
    exact q
end K1

/-! part U10 -/
set_option Elab.async false
set_option linter.all false
set_option maxRecDepth 100000
set_option autoImplicit false
set_option exponentiation.threshold 4000
set_option maxHeartbeats 1000000
namespace K1
open PySem PySem.Spec L2 DV
open PyProof.Rows (envOfC)
variable {P : Program} {w : World} {K : PySem.W.Frag} {mg : Str → Option Value} {base : Heap} {cl : Nat → Addr}

local macro_rules | `(tactic| walk_at "dv") => `(tactic| simp only [startR, fAddW, fSubW, fGtW, fMul2, fModM, cAddW, cEqP, fEqP, fNeP, fInI, fIsiW, isBW, tyD, Option.bind_some, fRevT, fMk, fBare, fAtt, fIsX, fIsXT, fRaise, fRaise0, fTry, clD, suiteD, kNo, kBut, fXatt, fExprX, fCallX, kDX, gRepr2, cRepr2, datOf, kD, fin, fSeq, fNext, fDrop, fNRep, fNRg, fParN0, fPar3, fPar3N, fAsg, fRet, fIfS, fNever, fPar, fNew, fApp, fVar, fC, fOp, fTest, fTAnd, fTOr, fTNot, fVAnd, fVOr, fVNot, fNeg, fIf, fChain, fANil, fACons, fTup, fLst, fCB, fNLst, fOfN, fYes, fIsi, fONone, fOSome, fSl, sliceF,
  gF, gA, cI, fI, c0, cAdd, fAdd, fIx, cRepT, fRepT, fEq, fNe, fNotIn, intsOf, blsOf, allD, seqOf, tupOf, fLen, cA0, f1L, gSum, gAll, gAny, fTupleOf, fListOf, fA1, fA2, cDm, gN, gsNil_eq, gsCons_eq, gT_eq, gSb_eq, isB, itemsOf, fISeq, fIRng, fIEnum, fIZip, fIZipTL, fFor, fLc, wipeR, fCall, fCallK, fRetN, kN, fCallN, fCallOn, kwS, pick, gRepr, cRepr, List.filterMap_cons_some, List.filterMap_nil,
  List.map_cons, List.map_nil, List.length_cons, List.length_nil, List.replicate_succ, List.replicate_zero, List.cons_append, List.nil_append, List.append_nil, List.getElem?_cons_zero, List.getElem?_cons_succ, List.getElem?_nil, List.set_cons_zero, List.set_cons_succ, List.set_nil, List.take_succ_cons, List.take_zero, List.take_nil,
  Option.map_some, Option.map_none, Option.some.injEq, Option.get_some, exists_eq_left', exists_eq_left, exists_eq_right, true_and, and_true, if_true, if_false, reduceCtorEq, ite_true, ite_false, S.d.injEq, S.m.injEq, D.int.injEq, D.tup.injEq, D.lst.injEq, D.bl.injEq, D.str.injEq, List.cons.injEq, exists_and_left, exists_and_right,
  Nat.sub_zero, Nat.reduceSub, Nat.reduceAdd, Nat.zero_add, Nat.add_zero, Bool.not_true, Bool.not_false, Bool.false_eq_true, decide_eq_true_eq, Nat.reduceLT, Nat.reduceLeDiff, Nat.le_refl, List.take_length, Int.reduceLT, Int.reduceToNat, Nat.lt_irrefl, gt_iff_lt, Nat.not_lt_zero, Int.cast_ofNat_Int, decide_true, decide_false, and_assoc])

theorem rep_py (x : Str) : ∀ n, pyA (List.replicate n (D.str x)) = (List.replicate n x).map PyData.str
  | 0 => rfl
  | n + 1 => by rw [List.replicate_succ, List.replicate_succ, pyA, rep_py x n]; rfl
theorem rep_plain (x : Str) : ∀ n, plainA (List.replicate n (D.str x)) = true
  | 0 => rfl
  | n + 1 => by rw [List.replicate_succ, plainA, rep_plain x n]; rfl
theorem rep_sh {x : Str} (h : PyData.strOk x = true) (n : Nat) : shapedD (.lst (List.replicate n (.str x))) ∧ PyData.eqv (D.py (.lst (List.replicate n (.str x)))) (D.py (.lst (List.replicate n (.str x)))) = true := by
  have c : PyData.canLay0 (D.py (.lst (List.replicate n (.str x)))) = true := by
    simp only [D.py, rep_py, PyData.canLay0, PyProof.Rows.canLayAll_strs']
    rw [List.all_eq_true]
    intro y hy
    rw [(List.mem_replicate.mp hy).2]; exact h
  refine ⟨⟨rep_plain x n, ?_⟩, SeqAt.eqv_refl _ c⟩
  unfold SeqAt.shaped
  rw [c]
  simp only [D.py, rep_py, PyData.depth, PyProof.Rows.depthAll_strs', Bool.true_and]
  decide
theorem given_err {cl : Nat → Addr} {d x : D} {j : Nat} (h : (givenL cl d)[j]? = some x) : errOf (.d x) = some (cl (1 + j)) := by
  unfold givenL at h
  rw [List.getElem?_map] at h
  cases e : (List.range 15)[j]? with
  | none => rw [e] at h; cases h
  | some i =>
    rw [e] at h
    cases h
    obtain ⟨hl, rfl⟩ := List.getElem?_eq_some_iff.mp e
    rw [List.getElem_range, Nat.add_comm]
    rfl
theorem given_len (cl : Nat → Addr) (d : D) : (givenL cl d).length = 15 := by simp [givenL]
theorem one_err {cl : Nat → Addr} {d x : D} {f : Str} {n j : Nat} (h : [D.err (cl n) f d][j]? = some x) : errOf (.d x) = some (cl (n + j)) := by
  cases j with
  | zero => cases h; rfl
  | succ j => simp at h
def bareL (cl : Nat → Addr) : List D := (List.range 3).map fun j => D.erb (cl (j + 21))
theorem bare_err {cl : Nat → Addr} {x : D} {j : Nat} (h : (bareL cl)[j]? = some x) : errOf (.d x) = some (cl (21 + j)) := by
  unfold bareL at h
  rw [List.getElem?_map] at h
  cases e : (List.range 3)[j]? with
  | none => rw [e] at h; cases h
  | some i =>
    rw [e] at h
    cases h
    obtain ⟨hl, rfl⟩ := List.getElem?_eq_some_iff.mp e
    rw [List.getElem_range, Nat.add_comm]
    rfl
theorem kinds_zero : [] ++ List.filterMap (fun (a : Nat) => some (D.bl (decide ((a : Int) = 0)))) (List.range 24) = kindsL 0 := by
  rw [List.nil_append]
  refine (congrFun (List.filterMap_eq_map (f := fun (a : Nat) => D.bl (decide ((a : Int) = 0)))) _).trans ?_
  unfold kindsL
  refine List.map_congr_left fun a _ => ?_
  congr 1
  rw [decide_eq_decide]
  omega
def indexL (cl : Nat → Addr) (d : D) : List D := (List.range 4).map fun j => D.err (cl (j + 16)) "index" d
theorem index_err {cl : Nat → Addr} {d x : D} {j : Nat} (h : (indexL cl d)[j]? = some x) : errOf (.d x) = some (cl (16 + j)) := by
  unfold indexL at h
  rw [List.getElem?_map] at h
  cases e : (List.range 4)[j]? with
  | none => rw [e] at h; cases h
  | some i =>
    rw [e] at h
    cases h
    obtain ⟨hl, rfl⟩ := List.getElem?_eq_some_iff.mp e
    rw [List.getElem_range, Nat.add_comm]
    rfl

def T__law_right : TF := fun ss μ P => ∃ w ms, ss = [.m 0] ∧ μ = w :: ms ∧ IsW w ∧ ∀ w', P (.bl true) (w' :: ms)
theorem mon__law_right : MonF T__law_right := fun ss μ P P' k ⟨a, b, e, e2, h, q⟩ => ⟨a, b, e, e2, h, fun w' => k _ _ (q w')⟩
theorem ok__law_right (t : Top K mg "_law_right" s__law_right ["well"]) (C__law_are_kinds : DefOk P w K mg base "_law_are_kinds" 2 2 (T__law_are_kinds cl)) (C__law_bare : DefOk P w K mg base "_law_bare" 2 1 T__law_bare) (C__law_based : DefOk P w K mg base "_law_based" 3 2 T__law_based) (C__law_by_name : DefOk P w K mg base "_law_by_name" 2 1 (T__law_by_name cl)) (C__law_by_place : DefOk P w K mg base "_law_by_place" 2 1 (T__law_by_place cl)) (C__law_caught : DefOk P w K mg base "_law_caught" 3 2 T__law_caught) (C__law_draw : DefOk P w K mg base "_law_draw" 1 2 T__law_draw) (C__law_is_strange : DefOk P w K mg base "_law_is_strange" 1 1 (T__law_is_strange cl)) (C__law_kinds : DefOk P w K mg base "_law_kinds" 1 1 (T__law_kinds cl)) (C__law_thing : DefOk P w K mg base "_law_thing" 10 1 T__law_thing) (HW : Cls P K mg cl) (m_range : mg "range" = none) (m_repr : mg "repr" = none) :
    DefOkG P w K mg base "_law_right" 11 1 T__law_right := by
  have nd := (sc__law_right).nd
  refine ok_defDG (k := 10) t sc__law_right mon__law_right (fun f cdv A outer s H E hgd hr =>
    (pds_cons (pds_par (pda_cons (pd_callD C__law_thing (hr.mono (by decide)) (by rfl) (pda_cons (pd_var (pv 0)) pda_nil)) (pda_cons (pd_callD C__law_thing (hr.mono (by decide)) (by rfl) (pda_cons (pd_var (pv 0)) pda_nil)) pda_nil)) (fun _ h => ps_par (i := 1) (j := 2) rfl nd rfl rfl (by decide) rfl rfl h rfl))
      (pds_cons (pds_par (pda_cons (pd_B (call_repr2 hgd hr HW.sy) snd_repr2 mon_gA (by rfl) m_repr bt_repr (pda_cons (pd_var (pv 1)) pda_nil)) (pda_cons (pd_B (call_repr2 hgd hr HW.sy) snd_repr2 mon_gA (by rfl) m_repr bt_repr (pda_cons (pd_var (pv 2)) pda_nil)) pda_nil)) (fun _ h => ps_par (i := 3) (j := 4) rfl nd rfl rfl (by decide) rfl rfl h rfl))
      (pds_cons (pds_par (pda_cons (pd_callD C__law_by_place (hr.mono (by decide)) (by rfl) (pda_cons (pd_var (pv 1)) pda_nil)) (pda_cons (pd_callD C__law_by_name (hr.mono (by decide)) (by rfl) (pda_cons (pd_var (pv 2)) pda_nil)) pda_nil)) (fun _ h => ps_par (i := 5) (j := 6) rfl nd rfl rfl (by decide) rfl rfl h rfl))
      (pds_cons (pds_if (ptd_w (pdw_or (ptd_not (ptd_val (pd_callD C__law_are_kinds (hr.mono (by decide)) (by rfl) (pda_cons (pd_var (pv 5)) (pda_cons pd_int pda_nil))))) (pdw_or1 (ptd_not (ptd_val (pd_callD C__law_are_kinds (hr.mono (by decide)) (by rfl) (pda_cons (pd_var (pv 6)) (pda_cons pd_int pda_nil)))))))) (pds_one (pd_ret pd_bl)) pds_nil)
      (pds_cons (pds_if (ptd_w (pdw_or (ptd_cmp (op_neD hr.units) mon_gF snd_neP (nomark _) (pd_of_N (pdn_lc (own := [("each", 14)]) rfl nd (pdi_seq (pd_var (pv 5))) (blkOk_by (N := N__law_right) (sc := defScope s__law_right) (by decide +kernel)) (fun _ _ _ _ _ => (pdg_name (pg_name (i := 14) nd rfl (by first | exact Or.inl rfl | exact Or.inr rfl)))) (fun _ _ _ _ _ => pdts_nil) (fun _ _ _ _ _ => (pd_B (call_repr2 hgd hr HW.sy) snd_repr2 mon_gA (by rfl) m_repr bt_repr (pda_cons (kAtt (K := K) rfl (pd_att (pd_var (pv 14)))) pda_nil))) (by decide))) (pd_of_N (pdn_rep (pda_cons (pd_var (pv 3)) pda_nil) pd_int))) (pdw_or1 (ptd_cmp (op_neD hr.units) mon_gF snd_neP (nomark _) (pd_of_N (pdn_lc (own := [("each", 14)]) rfl nd (pdi_seq (pd_var (pv 6))) (blkOk_by (N := N__law_right) (sc := defScope s__law_right) (by decide +kernel)) (fun _ _ _ _ _ => (pdg_name (pg_name (i := 14) nd rfl (by first | exact Or.inl rfl | exact Or.inr rfl)))) (fun _ _ _ _ _ => pdts_nil) (fun _ _ _ _ _ => (pd_B (call_repr2 hgd hr HW.sy) snd_repr2 mon_gA (by rfl) m_repr bt_repr (pda_cons (kAtt (K := K) rfl (pd_att (pd_var (pv 14)))) pda_nil))) (by decide))) (pd_of_N (pdn_rep (pda_cons (pd_var (pv 4)) pda_nil) pd_int)))))) (pds_one (pd_ret pd_bl)) pds_nil)
      (pds_cons (pds_set (pd_lst (pda_cons (pd_mk (HW.ix 16 (by decide) (by decide)) (hr.mono (by decide)) (by rfl) (show mg "InvalidLot" = some (.ref (cl 16)) from HW.gl 16 (by decide)) (pda_cons (pd_var (pv 1)) pda_nil)) (pda_cons (pd_mk (HW.ix 17 (by decide) (by decide)) (hr.mono (by decide)) (by rfl) (show mg "InvalidWishes" = some (.ref (cl 17)) from HW.gl 17 (by decide)) (pda_cons (pd_var (pv 1)) pda_nil)) (pda_cons (pd_mk (HW.ix 18 (by decide) (by decide)) (hr.mono (by decide)) (by rfl) (show mg "InvalidBook" = some (.ref (cl 18)) from HW.gl 18 (by decide)) (pda_cons (pd_var (pv 1)) pda_nil)) (pda_cons (pd_mk (HW.ix 19 (by decide) (by decide)) (hr.mono (by decide)) (by rfl) (show mg "InvalidLines" = some (.ref (cl 19)) from HW.gl 19 (by decide)) (pda_cons (pd_var (pv 1)) pda_nil)) pda_nil))))) (fun _ h => ps_set (i := 7) nd rfl (by first | exact Or.inl rfl | exact Or.inr rfl) h))
      (pds_cons (pds_set (pd_lst (pda_cons (pd_mkK (HW.ix 16 (by decide) (by decide)) (hr.mono (by decide)) (by rfl) (show mg "InvalidLot" = some (.ref (cl 16)) from HW.gl 16 (by decide)) (pdk_cons (pd_var (pv 2)) pdk_nil)) (pda_cons (pd_mkK (HW.ix 17 (by decide) (by decide)) (hr.mono (by decide)) (by rfl) (show mg "InvalidWishes" = some (.ref (cl 17)) from HW.gl 17 (by decide)) (pdk_cons (pd_var (pv 2)) pdk_nil)) (pda_cons (pd_mkK (HW.ix 18 (by decide) (by decide)) (hr.mono (by decide)) (by rfl) (show mg "InvalidBook" = some (.ref (cl 18)) from HW.gl 18 (by decide)) (pdk_cons (pd_var (pv 2)) pdk_nil)) (pda_cons (pd_mkK (HW.ix 19 (by decide) (by decide)) (hr.mono (by decide)) (by rfl) (show mg "InvalidLines" = some (.ref (cl 19)) from HW.gl 19 (by decide)) (pdk_cons (pd_var (pv 2)) pdk_nil)) pda_nil))))) (fun _ h => ps_set (i := 8) nd rfl (by first | exact Or.inl rfl | exact Or.inr rfl) h))
      (pds_cons (pds_if (ptd_w (pdw_or (ptd_not (ptd_val (pd_callD C__law_are_kinds (hr.mono (by decide)) (by rfl) (pda_cons (pd_var (pv 7)) (pda_cons pd_int pda_nil))))) (pdw_or1 (ptd_not (ptd_val (pd_callD C__law_are_kinds (hr.mono (by decide)) (by rfl) (pda_cons (pd_var (pv 8)) (pda_cons pd_int pda_nil)))))))) (pds_one (pd_ret pd_bl)) pds_nil)
      (pds_cons (pds_if (ptd_w (pdw_or (ptd_cmp (op_neD hr.units) mon_gF snd_neP (nomark _) (pd_of_N (pdn_lc (own := [("each", 14)]) rfl nd (pdi_seq (pd_var (pv 7))) (blkOk_by (N := N__law_right) (sc := defScope s__law_right) (by decide +kernel)) (fun _ _ _ _ _ => (pdg_name (pg_name (i := 14) nd rfl (by first | exact Or.inl rfl | exact Or.inr rfl)))) (fun _ _ _ _ _ => pdts_nil) (fun _ _ _ _ _ => (pd_B (call_repr2 hgd hr HW.sy) snd_repr2 mon_gA (by rfl) m_repr bt_repr (pda_cons (kAtt (K := K) rfl (pd_att (pd_var (pv 14)))) pda_nil))) (by decide))) (pd_of_N (pdn_rep (pda_cons (pd_var (pv 3)) pda_nil) pd_int))) (pdw_or1 (ptd_cmp (op_neD hr.units) mon_gF snd_neP (nomark _) (pd_of_N (pdn_lc (own := [("each", 14)]) rfl nd (pdi_seq (pd_var (pv 8))) (blkOk_by (N := N__law_right) (sc := defScope s__law_right) (by decide +kernel)) (fun _ _ _ _ _ => (pdg_name (pg_name (i := 14) nd rfl (by first | exact Or.inl rfl | exact Or.inr rfl)))) (fun _ _ _ _ _ => pdts_nil) (fun _ _ _ _ _ => (pd_B (call_repr2 hgd hr HW.sy) snd_repr2 mon_gA (by rfl) m_repr bt_repr (pda_cons (kAtt (K := K) rfl (pd_att (pd_var (pv 14)))) pda_nil))) (by decide))) (pd_of_N (pdn_rep (pda_cons (pd_var (pv 4)) pda_nil) pd_int)))))) (pds_one (pd_ret pd_bl)) pds_nil)
      (pds_cons (pds_par (pda_cons (pd_mk HW.ln (hr.mono (by decide)) (by rfl) (show mg "InvalidText" = some (.ref (cl 20)) from HW.gl 20 (by decide)) (pda_cons (pd_var (pv 1)) pda_nil)) (pda_cons (pd_mkK HW.ln (hr.mono (by decide)) (by rfl) (show mg "InvalidText" = some (.ref (cl 20)) from HW.gl 20 (by decide)) (pdk_cons (pd_var (pv 2)) pdk_nil)) pda_nil)) (fun _ h => ps_par (i := 9) (j := 10) rfl nd rfl rfl (by decide) rfl rfl h rfl))
      (pds_cons (pds_if (ptd_w (pdw_or (ptd_not (ptd_val (pd_callD C__law_are_kinds (hr.mono (by decide)) (by rfl) (pda_cons (pd_lst (pda_cons (pd_var (pv 9)) pda_nil)) (pda_cons pd_int pda_nil))))) (pdw_or1 (ptd_not (ptd_val (pd_callD C__law_are_kinds (hr.mono (by decide)) (by rfl) (pda_cons (pd_lst (pda_cons (pd_var (pv 10)) pda_nil)) (pda_cons pd_int pda_nil)))))))) (pds_one (pd_ret pd_bl)) pds_nil)
      (pds_cons (pds_if (ptd_cmp op_ne mon_gF snd_ne (nomark _) (pd_B (call_repr2 hgd hr HW.sy) snd_repr2 mon_gA (by rfl) m_repr bt_repr (pda_cons (pd_lst (pda_cons (kAtt (K := K) rfl (pd_att (pd_var (pv 9)))) (pda_cons (kAtt (K := K) rfl (pd_att (pd_var (pv 10)))) pda_nil))) pda_nil)) (pd_B (call_repr2 hgd hr HW.sy) snd_repr2 mon_gA (by rfl) m_repr bt_repr (pda_cons (pd_lst (pda_cons (pd_var (pv 1)) (pda_cons (pd_var (pv 2)) pda_nil))) pda_nil))) (pds_one (pd_ret pd_bl)) pds_nil)
      (pds_cons (pds_if (ptd_not (ptd_val (pd_callD C__law_are_kinds (hr.mono (by decide)) (by rfl) (pda_cons (pd_lst (pda_cons (pd_bare (HW.br 21 (by decide) (by decide)) (by rfl) (show mg "NotTransparent" = some (.ref (cl 21)) from HW.gl 21 (by decide))) (pda_cons (pd_bare (HW.br 22 (by decide) (by decide)) (by rfl) (show mg "NothingToUndo" = some (.ref (cl 22)) from HW.gl 22 (by decide))) (pda_cons (pd_bare (HW.br 23 (by decide) (by decide)) (by rfl) (show mg "NothingToRedo" = some (.ref (cl 23)) from HW.gl 23 (by decide))) pda_nil)))) (pda_cons pd_int pda_nil))))) (pds_one (pd_ret pd_bl)) pds_nil)
      (pds_cons (pds_set (pd_bare (HW.br 0 (by decide) (by decide)) (by rfl) (show mg "PersuasionError" = some (.ref (cl 0)) from HW.gl 0 (by decide))) (fun _ h => ps_set (i := 11) nd rfl (by first | exact Or.inl rfl | exact Or.inr rfl) h))
      (pds_cons (pds_if (ptd_w (pdw_or (ptd_val (pd_callD C__law_is_strange (hr.mono (by decide)) (by rfl) (pda_cons (pd_var (pv 11)) pda_nil))) (pdw_or1 (ptd_cmp (op_neD hr.units) mon_gF snd_neP (nomark _) (pd_callD C__law_kinds (hr.mono (by decide)) (by rfl) (pda_cons (pd_var (pv 11)) pda_nil)) (pd_of_N (pdn_lc (own := [("k", 13)]) rfl nd (pdi_range (by rfl) m_range (pda_cons pd_int pda_nil)) (blkOk_by (N := N__law_right) (sc := defScope s__law_right) (by decide +kernel)) (fun _ _ _ _ _ => (pdg_name (pg_name (i := 13) nd rfl (by first | exact Or.inl rfl | exact Or.inr rfl)))) (fun _ _ _ _ _ => pdts_nil) (fun _ _ _ _ _ => (pd_cmp (eq_ok hr.units) mon_gF snd_eq (nomark _) (pd_var (pv 13)) pd_int)) (by decide))))))) (pds_one (pd_ret pd_bl)) pds_nil)
      (pds_cons (pds_set (pd_callD C__law_draw (hr.mono (by decide)) (by rfl) (pda_cons (pd_var (pv 0)) (pda_cons pd_int pda_nil))) (fun _ h => ps_set (i := 12) nd rfl (by first | exact Or.inl rfl | exact Or.inr rfl) h))
      (pds_cons (pds_if (ptd_w (pdw_or (ptd_cmp op_ne mon_gF snd_ne (nomark _) (pd_B (call_repr2 hgd hr HW.sy) snd_repr2 mon_gA (by rfl) m_repr bt_repr (pda_cons (pd_callD C__law_caught (hr.mono (by decide)) (by rfl) (pda_cons (pd_var (pv 12)) (pda_cons (pd_var (pv 1)) pda_nil))) pda_nil)) (pd_B (call_repr2 hgd hr HW.sy) snd_repr2 mon_gA (by rfl) m_repr bt_repr (pda_cons (pd_tup (pda_cons (pd_var (pv 12)) (pda_cons (pd_var (pv 1)) pda_nil))) pda_nil))) (pdw_or1 (ptd_not (ptd_val (pd_callD C__law_based (hr.mono (by decide)) (by rfl) (pda_cons (pd_var (pv 12)) (pda_cons (pd_var (pv 2)) pda_nil)))))))) (pds_one (pd_ret pd_bl)) pds_nil)
      (pds_one (pd_ret (pd_cmp (op_eqD hr.units) mon_gF snd_eqP (nomark _) (pd_of_N (pdn_lc (own := [("k", 13)]) rfl nd (pdi_range (by rfl) m_range (pda_cons pd_int pda_nil)) (blkOk_by (N := N__law_right) (sc := defScope s__law_right) (by decide +kernel)) (fun _ _ _ _ _ => (pdg_name (pg_name (i := 13) nd rfl (by first | exact Or.inl rfl | exact Or.inr rfl)))) (fun _ _ _ _ _ => pdts_nil) (fun _ _ _ _ _ => (pd_callD C__law_bare (hr.mono (by decide)) (by rfl) (pda_cons (pd_var (pv 13)) pda_nil))) (by decide))) (pd_lst (pda_cons pd_int (pda_cons pd_int (pda_cons pd_int (pda_cons pd_int pda_nil)))))))))))))))))))))))))) ?_
  intro ss μ Q hl h
  obtain ⟨w0, ms, rfl, rfl, hw, q⟩ := h
  walk_at "dv"
  refine ⟨w0, ms, rfl, rfl, hw, fun d1 w1 hw1 f1 => ?_⟩
  walk_at "dv"
  refine ⟨w1, ms, rfl, rfl, hw1, fun d2 w2 hw2 f2 => ?_⟩
  have s1 := f1.sho (by decide) (by decide)
  have s2 := f2.sho (by decide) (by decide)
  have r1 := rep_sh f1.tx
  have r2 := rep_sh f2.tx
  refine ⟨s1, s2, d1, rfl, trivial, ?_⟩
  walk_at "dv"
  refine ⟨d2, rfl, trivial, ?_⟩
  walk_at "dv"
  refine ⟨givenL cl d1, 1, rfl, ⟨by rw [given_len]; decide, fun j x => given_err⟩, ?_⟩
  walk_at "dv"
  refine ⟨givenL cl d2, 1, rfl, ⟨by rw [given_len]; decide, fun j x => given_err⟩, ?_⟩
  walk_at "dv"
  refine lc_pure (fun (j : Nat) => D.err (cl (j + 1)) "given" d1) (fun _ => some (.str d1.py.shown)) (fun _ => trivial) (List.range 15) [] _ _ (fun j hj μ' P P2 h => ?_) (by decide) ?_
  · have hj := List.mem_range.mp hj
    have ac := HW.attG (j + 1) (by omega) (by omega)
    walk_at "dv"
    exact ⟨_, _, rfl, ac, s1, h⟩
  rw [show [] ++ List.filterMap (fun _ => some (D.str d1.py.shown)) (List.range 15) = List.replicate 15 (D.str d1.py.shown) from rfl]
  refine ⟨by decide, by decide, fun d e => by subst e; exact (r1 15).1, fun d e => by subst e; exact (r1 15).1, ?_⟩
  rw [if_neg (by rw [show (D.lst (List.flatten [[D.str d1.py.shown], [D.str d1.py.shown], [D.str d1.py.shown], [D.str d1.py.shown], [D.str d1.py.shown], [D.str d1.py.shown], [D.str d1.py.shown], [D.str d1.py.shown], [D.str d1.py.shown], [D.str d1.py.shown], [D.str d1.py.shown], [D.str d1.py.shown], [D.str d1.py.shown], [D.str d1.py.shown], [D.str d1.py.shown]])) = D.lst (List.replicate 15 (D.str d1.py.shown)) from rfl, (r1 15).2]; decide)]
  refine lc_pure (fun (j : Nat) => D.err (cl (j + 1)) "given" d2) (fun _ => some (.str d2.py.shown)) (fun _ => trivial) (List.range 15) [] _ _ (fun j hj μ' P P2 h => ?_) (by decide) ?_
  · have hj := List.mem_range.mp hj
    have ac := HW.attG (j + 1) (by omega) (by omega)
    walk_at "dv"
    exact ⟨_, _, rfl, ac, s2, h⟩
  rw [show [] ++ List.filterMap (fun _ => some (D.str d2.py.shown)) (List.range 15) = List.replicate 15 (D.str d2.py.shown) from rfl]
  refine ⟨by decide, by decide, fun d e => by subst e; exact (r2 15).1, fun d e => by subst e; exact (r2 15).1, ?_⟩
  rw [if_neg (by rw [show (D.lst (List.flatten [[D.str d2.py.shown], [D.str d2.py.shown], [D.str d2.py.shown], [D.str d2.py.shown], [D.str d2.py.shown], [D.str d2.py.shown], [D.str d2.py.shown], [D.str d2.py.shown], [D.str d2.py.shown], [D.str d2.py.shown], [D.str d2.py.shown], [D.str d2.py.shown], [D.str d2.py.shown], [D.str d2.py.shown], [D.str d2.py.shown]])) = D.lst (List.replicate 15 (D.str d2.py.shown)) from rfl, (r2 15).2]; decide)]
  refine ⟨indexL cl d1, 16, rfl, ⟨(show 16 + 4 ≤ 24 by decide), fun j x => index_err⟩, ?_⟩
  walk_at "dv"
  refine ⟨indexL cl d2, 16, rfl, ⟨(show 16 + 4 ≤ 24 by decide), fun j x => index_err⟩, ?_⟩
  walk_at "dv"
  refine lc_pure (fun (j : Nat) => D.err (cl (j + 16)) "index" d1) (fun _ => some (.str d1.py.shown)) (fun _ => trivial) (List.range 4) [] _ _ (fun j hj μ' P P2 h => ?_) (by decide) ?_
  · have hj := List.mem_range.mp hj
    have ac := HW.attI (j + 16) (by omega) (by omega)
    walk_at "dv"
    exact ⟨_, _, rfl, ac, s1, h⟩
  rw [show [] ++ List.filterMap (fun _ => some (D.str d1.py.shown)) (List.range 4) = List.replicate 4 (D.str d1.py.shown) from rfl]
  refine ⟨by decide, by decide, fun d e => by subst e; exact (r1 4).1, fun d e => by subst e; exact (r1 4).1, ?_⟩
  rw [if_neg (by rw [show (D.lst (List.flatten [[D.str d1.py.shown], [D.str d1.py.shown], [D.str d1.py.shown], [D.str d1.py.shown]])) = D.lst (List.replicate 4 (D.str d1.py.shown)) from rfl, (r1 4).2]; decide)]
  refine lc_pure (fun (j : Nat) => D.err (cl (j + 16)) "index" d2) (fun _ => some (.str d2.py.shown)) (fun _ => trivial) (List.range 4) [] _ _ (fun j hj μ' P P2 h => ?_) (by decide) ?_
  · have hj := List.mem_range.mp hj
    have ac := HW.attI (j + 16) (by omega) (by omega)
    walk_at "dv"
    exact ⟨_, _, rfl, ac, s2, h⟩
  rw [show [] ++ List.filterMap (fun _ => some (D.str d2.py.shown)) (List.range 4) = List.replicate 4 (D.str d2.py.shown) from rfl]
  refine ⟨by decide, by decide, fun d e => by subst e; exact (r2 4).1, fun d e => by subst e; exact (r2 4).1, ?_⟩
  rw [if_neg (by rw [show (D.lst (List.flatten [[D.str d2.py.shown], [D.str d2.py.shown], [D.str d2.py.shown], [D.str d2.py.shown]])) = D.lst (List.replicate 4 (D.str d2.py.shown)) from rfl, (r2 4).2]; decide)]
  refine ⟨[.err (cl 20) "line" d1], 20, rfl, ⟨(show 20 + 1 ≤ 24 by decide), fun j x => one_err⟩, ?_⟩
  walk_at "dv"
  refine ⟨[.err (cl 20) "line" d2], 20, rfl, ⟨(show 20 + 1 ≤ 24 by decide), fun j x => one_err⟩, ?_⟩
  walk_at "dv"
  have s3 : Sw 60 1000000 (.lst [d1, d2]) := (fine_lst (fine_cons f1 (fine_cons f2 (fine_nil (n := 0))))).sho (by decide) (show 8000 + (8000 + 0) + 2 * 2 + 3 ≤ 1000000 by decide)
  refine ⟨_, _, rfl, HW.attL, _, _, rfl, HW.attL, s3, s3, ?_⟩
  rw [if_neg (by simp)]
  refine ⟨bareL cl, 21, rfl, ⟨(show 21 + 3 ≤ 24 by decide), fun j x => bare_err⟩, ?_⟩
  walk_at "dv"
  refine ⟨.d (.erb (cl 0)), 0, rfl, ⟨by decide, rfl⟩, ?_⟩
  walk_at "dv"
  refine ⟨.d (.erb (cl 0)), 0, rfl, ⟨by decide, rfl⟩, ?_⟩
  walk_at "dv"
  refine ⟨by decide, by decide, ?_⟩
  rw [show rngD 24 = (List.range 24).map (fun (i : Nat) => D.int (i : Int)) from rngD_nat 24]
  refine lc_pure (fun (a : Nat) => D.int (a : Int)) (fun a => some (.bl (decide ((a : Int) = 0)))) (fun _ => trivial) (List.range 24) [] _ _ (fun a ha μ' P P2 h => ?_) (by decide) ?_
  · walk_at "dv"
    exact h
  rw [show [] ++ List.filterMap (fun (a : Nat) => some (D.bl (decide ((a : Int) = 0)))) (List.range 24) = kindsL 0 from kinds_zero]
  obtain ⟨ks, ke⟩ := kinds_sh (i := 0) (by decide)
  refine ⟨fun d e => by subst e; exact ks, fun d e => by subst e; exact ks, ?_⟩
  rw [if_neg (by rw [ke]; decide)]
  refine ⟨w2, ms, 7, rfl, rfl, ⟨hw2, by decide, by decide⟩, fun way w3 hw3 y0 y1 => ?_⟩
  walk_at "dv"
  refine ⟨way, d1, rfl, ⟨y0, y1⟩, ?_⟩
  walk_at "dv"
  have fw : Fine 46 9000 (.tup [.int way, d1]) := by
    have h0 : Fine 45 2 (.int way) := (fine_small y0 (by omega)).mono (by decide) (by decide)
    exact ((fine_tup (fine_cons h0 (fine_cons f1 (fine_nil (n := 0))))).mono (by decide) (show 2 + (8000 + 0) + 2 * 2 + 3 ≤ 9000 by decide))
  have s4 := fw.sho (by decide) (by decide)
  refine ⟨s4, s4, ?_⟩
  refine ⟨way, d2, rfl, ⟨y0, y1⟩, ?_⟩
  walk_at "dv"
  refine ⟨by decide, by decide, ?_⟩
  rw [show rngD 4 = (List.range 4).map (fun (i : Nat) => D.int (i : Int)) from rngD_nat 4]
  refine lc_pure (fun (a : Nat) => D.int (a : Int)) (fun a => some (.int (a : Int))) (fun _ => trivial) (List.range 4) [] _ _ (fun a ha μ' P P2 h => ?_) (by decide) ?_
  · have ha := List.mem_range.mp ha
    walk_at "dv"
    refine ⟨(a : Int), rfl, ⟨by omega, by omega⟩, ?_⟩
    walk_at "dv"
    exact h
  rw [show [] ++ List.filterMap (fun (a : Nat) => some (D.int (a : Int))) (List.range 4) = [.int 0, .int 1, .int 2, .int 3] from rfl]
  have sh : shapedD (.lst [.int 0, .int 1, .int 2, .int 3]) := ⟨by decide +kernel, by decide +kernel⟩
  have se : PyData.eqv (D.py (.lst [.int 0, .int 1, .int 2, .int 3])) (D.py (.lst [.int 0, .int 1, .int 2, .int 3])) = true := by decide +kernel
  refine ⟨fun d e => by subst e; exact sh, fun d e => by subst e; exact sh, ?_⟩
  rw [se]
  show Q (D.bl true) (List.take (ms.length + 1) (w3 :: ms))
  rw [List.take_of_length_le (by simp)]
  exact q w3
end K1

/-! part U11 -/
set_option Elab.async false
set_option linter.all false
set_option maxRecDepth 100000
set_option autoImplicit false
set_option exponentiation.threshold 4000
set_option maxHeartbeats 1000000
namespace K1
open PySem PySem.Spec L2 DV
open PyProof.Rows (envOfC)
variable {P : Program} {w : World} {K : PySem.W.Frag} {mg : Str → Option Value} {base : Heap} {cl : Nat → Addr}

local macro_rules | `(tactic| walk_at "dv") => `(tactic| simp only [startR, fAddW, fSubW, fGtW, fMul2, fModM, cAddW, cEqP, fEqP, fNeP, fInI, fIsiW, isBW, tyD, Option.bind_some, fRevT, fMk, fBare, fAtt, fIsX, fIsXT, fRaise, fRaise0, fTry, clD, suiteD, kNo, kBut, fXatt, fExprX, fCallX, kDX, gRepr2, cRepr2, datOf, errOf, kD, fin, fSeq, fNext, fDrop, fNRep, fNRg, fParN0, fPar3, fPar3N, fAsg, fRet, fIfS, fNever, fPar, fNew, fApp, fVar, fC, fOp, fTest, fTAnd, fTOr, fTNot, fVAnd, fVOr, fVNot, fNeg, fIf, fChain, fANil, fACons, fTup, fLst, fCB, fNLst, fOfN, fYes, fIsi, fONone, fOSome, fSl, sliceF,
  gF, gA, cI, fI, c0, cAdd, fAdd, fIx, cRepT, fRepT, fEq, fNe, fNotIn, intsOf, blsOf, allD, seqOf, tupOf, fLen, cA0, f1L, gSum, gAll, gAny, fTupleOf, fListOf, fA1, fA2, cDm, gN, gsNil_eq, gsCons_eq, gT_eq, gSb_eq, isB, itemsOf, fISeq, fIRng, fIEnum, fIZip, fIZipTL, fFor, fLc, wipeR, fCall, fCallK, fRetN, kN, fCallN, fCallOn, kwS, pick, gRepr, cRepr, List.filterMap_cons_some, List.filterMap_nil,
  List.map_cons, List.map_nil, List.length_cons, List.length_nil, List.replicate_succ, List.replicate_zero, List.cons_append, List.nil_append, List.append_nil, List.getElem?_cons_zero, List.getElem?_cons_succ, List.getElem?_nil, List.set_cons_zero, List.set_cons_succ, List.set_nil, List.take_succ_cons, List.take_zero, List.take_nil,
  Option.map_some, Option.map_none, Option.some.injEq, Option.get_some, exists_eq_left', exists_eq_left, exists_eq_right, true_and, and_true, if_true, if_false, reduceCtorEq, ite_true, ite_false, S.d.injEq, S.m.injEq, D.int.injEq, D.tup.injEq, D.lst.injEq, D.bl.injEq, D.str.injEq, List.cons.injEq, exists_and_left, exists_and_right,
  Nat.sub_zero, Nat.reduceSub, Nat.reduceAdd, Nat.zero_add, Nat.add_zero, Bool.not_true, Bool.not_false, Bool.false_eq_true, decide_eq_true_eq, Nat.reduceLT, Nat.reduceLeDiff, Nat.le_refl, List.take_length, Int.reduceLT, Int.reduceToNat, Nat.lt_irrefl, gt_iff_lt, Nat.not_lt_zero, Int.cast_ofNat_Int, decide_true, decide_false, and_assoc])

def T_law : TF := fun ss μ P => ∃ (ns : List Int), ss = [.d (.lst (ns.map D.int))] ∧ (ns.length ≤ 1000) ∧ P (.bl true) μ
theorem mon_law : MonF T_law := fun ss μ P P' k ⟨a, e, h, q⟩ => ⟨a, e, h, k _ _ q⟩
theorem okF_law {f : Addr} {fd : FuncData} (F : Fun K "law" "law" s_law f fd) (C__law_right : DefOkG P w K mg base "_law_right" 11 1 T__law_right) (C__law_well : DefOkN P w K mg base "_law_well" 1 2 T__law_well) (m_all : mg "all" = none) (m_len : mg "len" = none) (m_max : mg "max" = none) (m_min : mg "min" = none) (m_range : mg "range" = none) :
    DG.GOk P w K mg base 12 f fd ["script"] (spT 1 K T_law) := by
  have nd := (sc_law).nd
  refine ok_defg (k := 11) F sc_law (fun cdv A outer s H E hgd hr =>
    (pds_one (pd_ret (pd_B (cr_all rfl) snd_all mon_gA (by rfl) m_all bt_all (pda_cons (pd_of_N (pdn_lc (own := [("lap", 1)]) rfl nd (pdi_range (by rfl) m_range (pda_cons (pd_B (call_max2 rfl) snd_max2 mon_gA (by rfl) m_max bt_max (pda_cons pd_int (pda_cons (pd_B (call_min2 rfl) snd_min2 mon_gA (by rfl) m_min bt_min (pda_cons (pd_B call_len_seq snd_len mon_gA (by rfl) m_len bt_len (pda_cons (pd_var (pv 0)) pda_nil)) (pda_cons pd_int pda_nil))) pda_nil))) pda_nil)) (blkOk_by (N := N_law) (sc := defScope s_law) (by decide +kernel)) (fun _ _ _ _ _ => (pdg_name (pg_name (i := 1) nd rfl (by first | exact Or.inl rfl | exact Or.inr rfl)))) (fun _ _ _ _ _ => pdts_nil) (fun _ _ _ _ _ => (pd_callOn C__law_right hgd (hr.mono (by decide)) (by rfl) (pdn_callN C__law_well (hr.mono (by decide)) (by rfl) (pda_cons (pd_var (pv 0)) (pda_cons (pd_var (pv 1)) pda_nil))))) (by decide))) pda_nil))))) ?_
  intro ss μ Q hl h
  obtain ⟨ns, rfl, hn, q⟩ := h
  have tail : ∀ L : Nat, L ≤ 1000 → lcLoop (gN 1) fYes (fCallOn T__law_right (fCallN 2 T__law_well (fACons (fVar 0) (fACons (fVar 1) fANil)))) (fun _ => True) [some (S.d (D.lst (ns.map D.int))), none] (rngD (L : Int)) [] μ (fun ds μ' => ∃ d, Option.map (fun bs => D.bl (bs.all id)) (blsOf ds) = some d ∧ Q d (List.take μ.length μ')) := by
    intro L hL
    rw [rngD_nat]
    refine lc_pure (fun (i : Nat) => D.int (i : Int)) (fun _ => some (.bl true)) (fun _ => trivial) (List.range L) [] μ _ (fun i hi μ' P P2 h => ?_) (by simp; omega) ?_
    · walk_at "dv"
      refine ⟨ns, i, rfl, hn, fun w' hw' => ?_⟩
      refine ⟨w', [], rfl, rfl, hw', fun w2 => ⟨true, rfl, h⟩⟩
    · have e : (List.range L).filterMap (fun _ => some (D.bl true)) = ((List.range L).map fun _ => true).map D.bl := by
        rw [List.map_map, List.filterMap_eq_map']
        rfl
      rw [e, List.nil_append, bls_some]
      refine ⟨_, rfl, ?_⟩
      have e2 : ((List.range L).map fun _ => true).all id = true := by simp
      show Q (.bl (((List.range L).map fun _ => true).all id)) (List.take μ.length μ)
      rw [e2, List.take_length]
      exact q
  walk_at "dv"
  rw [List.length_map]
  by_cases c : (5 : Int) < (ns.length : Int)
  · simp only [if_pos c]
    rw [if_pos (by decide)]
    exact ⟨by decide, by decide, tail 5 (by decide)⟩
  · simp only [if_neg c]
    by_cases c2 : (2 : Int) < (ns.length : Int)
    · simp only [if_pos c2]
      exact ⟨by omega, by omega, tail ns.length hn⟩
    · simp only [if_neg c2]
      exact ⟨by decide, by decide, tail 2 (by decide)⟩
end K1

/-! part U12 -/
set_option Elab.async false
set_option linter.all false
set_option maxRecDepth 100000
set_option autoImplicit false
set_option exponentiation.threshold 4000
set_option maxHeartbeats 1000000
namespace K1
open PySem PySem.Spec L2 DV
open PyProof.Rows (envOfC)
variable {P : Program} {w : World} {K : PySem.W.Frag} {mg : Str → Option Value} {base : Heap} {cl : Nat → Addr}

open PySem.W
/-! ### the classes, told by tests -/
def clsB (K : Frag) (C : Addr) : Bool :=
  keepIn K (.ref C) && decide (subIn K (.ref C) (.type "BaseException") = some true) && decide (typeIn K (.ref C) = some (.type "type")) &&
  decide (findIn K (.ref C) "__getattribute__" = some (some (.builtin "BaseException.__getattribute__"))) && decide (findIn K (.ref C) "__getattr__" = some none) && hasDictIn K C &&
  decide (findIn K (.ref C) "__class__" = some (some (.builtin "object.__class__"))) &&
  decide (kitOne K (.ref C) (.type "ValueError") = some true) && decide (kitOne K (.ref C) (.type "Exception") = some true) &&
  decide (kitAny K (.ref C) [.type "TypeError", .type "KeyError", .type "IndexError", .type "LookupError", .type "OverflowError", .type "ZeroDivisionError"] = some false) &&
  decide (kitAny K (.ref C) [.type "ArithmeticError", .type "RuntimeError", .type "NotImplementedError", .type "AttributeError"] = some false) && decide (mroIn K C (.type "object") = some true)
def mkB (P : Program) (K : Frag) (C fI cda : Addr) (f qual : Str) (vs : Array Value) (bm : Bool) (e1 e2 : Nat) : Bool :=
  decide (typeIn K (.ref fI) = some (.type "function")) && codeIn K (.ref cda) qual && decide (mroIn K C (.ref C) = some true) && decide (subIn K (.ref C) (.type "ValueError") = some true) &&
  decide (ks_superIn K C C "__init__" = some (some (.builtin "ValueError.__init__"))) && decide (findIn K (.ref C) "__setattr__" = some (some (.builtin "object.__setattr__"))) && decide (findIn K (.ref C) f = some none) &&
  (match vs[2]? with | some (Value.str file _) => ((P.main.file : Str) == file) | _ => false) && bm && (e1 == e2)
def pairB (K : Frag) (cs : List Addr) : Bool := (List.range 24).all fun i => (List.range 24).all fun j =>
  decide (kitOne K (.ref (cs.getD i 0)) (.ref (cs.getD j 0)) = some (decide (j = 0 ∨ i = j))) && decide (exmOne K (.ref (cs.getD i 0)) (.ref (cs.getD j 0)) = some (decide (j = 0 ∨ i = j)))
def someB (P : Program) (K : Frag) : Bool :=
  decide (specialIn K (.builtin "object.__class__") "__get__" = some (some (.builtin "getset_descriptor.__get__"))) && decide (nsIn K cStatics "thirdparty.any" = some none) && decide (nsIn K mainGlobals "super" = some none) &&
  !(P.main.scope.names.lookup ("super" : Str)).isSome && decide (takesIn K (.builtin "object.__class__") = some true)
structure ClsF (K : Frag) (C : Addr) : Prop where
  kp : keepIn K (.ref C) = true
  exB : subIn K (.ref C) (.type "BaseException") = some true
  tyC : typeIn K (.ref C) = some (.type "type")
  ga : findIn K (.ref C) "__getattribute__" = some (some (.builtin "BaseException.__getattribute__"))
  gg : findIn K (.ref C) "__getattr__" = some none
  hd : hasDictIn K C = true
  ha : findIn K (.ref C) "__class__" = some (some (.builtin "object.__class__"))
  kv : kitOne K (.ref C) (.type "ValueError") = some true
  ke : kitOne K (.ref C) (.type "Exception") = some true
  k1 : kitAny K (.ref C) [.type "TypeError", .type "KeyError", .type "IndexError", .type "LookupError", .type "OverflowError", .type "ZeroDivisionError"] = some false
  k2 : kitAny K (.ref C) [.type "ArithmeticError", .type "RuntimeError", .type "NotImplementedError", .type "AttributeError"] = some false
  hm : mroIn K C (.type "object") = some true
theorem cls_of {K : Frag} {C : Addr} (h : clsB K C = true) : ClsF K C := by
  simp only [clsB, Bool.and_eq_true, decide_eq_true_eq] at h
  obtain ⟨⟨⟨⟨⟨⟨⟨⟨⟨⟨⟨a, b⟩, c⟩, d⟩, e⟩, f⟩, g⟩, i⟩, j⟩, k⟩, l⟩, m⟩ := h
  exact ⟨a, b, c, d, e, f, g, i, j, k, l, m⟩
structure SomeF (P : Program) (K : Frag) : Prop where
  sp : specialIn K (.builtin "object.__class__") "__get__" = some (some (.builtin "getset_descriptor.__get__"))
  opq : nsIn K cStatics "thirdparty.any" = some none
  sgl : nsIn K mainGlobals "super" = some none
  top : (P.main.scope.names.lookup ("super" : Str)).isSome = false
  sy : SysOk K
  tk : takesIn K (.builtin "object.__class__") = some true
theorem some_of {P : Program} {K : Frag} (h : someB P K = true) : SomeF P K := by
  simp only [someB, Bool.and_eq_true, decide_eq_true_eq, Bool.not_eq_true'] at h
  obtain ⟨⟨⟨⟨a, b⟩, c⟩, d⟩, f⟩ := h
  exact ⟨a, b, c, d, trivial, f⟩
theorem mkc_of {P : Program} {K : Frag} {C fI cc cda : Addr} {m f qual : Str} {j : Nat} {p0 p1 p2 p3 p4 p5 q0 q1 q2 q3 a0 a1 : Pos} {kV doc pm ct oc ccl cl : Value} {an od cdd cld : Option Addr} {osl ccs csl : Array (Option Value)} {vs : Array Value} {nm q N bs bm sn sub ab col dd k0 k1 k2 k3 k5}
    (S : SomeF P K) (F : ClsF K C) (hf : EM.AttrN f)
    (h1 : findIn K (.ref C) "__init__" = some (some (.ref fI)))
    (h2 : K.lookup fI = some ⟨oc, od, .func (ksFn "__init__" qual (EM.iPar f a0 a1) (EM.iBody f m j p0 p1 p2 p3 p4 p5 q0 q1 q2 q3) (EM.iScope f) .none kV doc pm an (.ref cda) ct cc), osl⟩)
    (h3 : K.lookup cda = some ⟨ccl, cdd, .fields vs, ccs⟩) (h4 : K.lookup cc = some ⟨cl, cld, .cell (some (.ref C)), csl⟩)
    (h5 : K.lookup C = some (excClassObj nm q C N bs bm true sn sub ab col dd k0 k1 k2 k3 k5 "ValueError.__new__"))
    (hb : mkB P K C fI cda f qual vs (HandSPX.refsVE bm) p2.endLine p4.line = true) : EM.MkC P K C f := by
  simp only [mkB, Bool.and_eq_true, decide_eq_true_eq] at hb
  obtain ⟨⟨⟨⟨⟨⟨⟨⟨⟨b1, b2⟩, b3⟩, b4⟩, b5⟩, b6⟩, b7⟩, b8⟩, b9⟩, b10⟩ := hb
  have b8 : ∃ file tf, vs[2]? = some (.str file tf) ∧ ((P.main.file : Str) == file) = true := by
    split at b8
    · rename_i file tf e; exact ⟨file, tf, e, b8⟩
    · cases b8
  obtain ⟨file, tf, e1, e2⟩ := b8
  exact ⟨hf, ⟨fI, cc, cda, m, qual, j, p0, p1, p2, p3, p4, p5, q0, q1, q2, q3, a0, a1, kV, doc, pm, ct, oc, ccl, cl, an, od, cdd, cld, osl, ccs, csl, vs, file, tf, b10, h1, b1, h2, b2, h3, e1, e2, h4⟩, ⟨nm, q, N, bs, bm, sn, sub, ab, col, dd, k0, k1, k2, k3, k5, h5, b9⟩, b3, b4, b5, S.opq, S.sgl, S.top, b6, b7, F.kp, F.exB, F.tyC⟩

theorem cls_mk {c0 c1 c2 c3 c4 c5 c6 c7 c8 c9 c10 c11 c12 c13 c14 c15 c16 c17 c18 c19 c20 c21 c22 c23 : Addr} (S : SomeF P K)
    (g0 : mg "PersuasionError" = some (.ref c0))
    (g1 : mg "InvalidSetting" = some (.ref c1))
    (g2 : mg "InvalidBelief" = some (.ref c2))
    (g3 : mg "InvalidSplit" = some (.ref c3))
    (g4 : mg "InvalidExperiment" = some (.ref c4))
    (g5 : mg "InvalidPlane" = some (.ref c5))
    (g6 : mg "InvalidGame" = some (.ref c6))
    (g7 : mg "InvalidOutcome" = some (.ref c7))
    (g8 : mg "InvalidAnswers" = some (.ref c8))
    (g9 : mg "InvalidAction" = some (.ref c9))
    (g10 : mg "InvalidState" = some (.ref c10))
    (g11 : mg "InvalidNumber" = some (.ref c11))
    (g12 : mg "InvalidName" = some (.ref c12))
    (g13 : mg "InvalidDeed" = some (.ref c13))
    (g14 : mg "InvalidDrawing" = some (.ref c14))
    (g15 : mg "Unfit" = some (.ref c15))
    (g16 : mg "InvalidLot" = some (.ref c16))
    (g17 : mg "InvalidWishes" = some (.ref c17))
    (g18 : mg "InvalidBook" = some (.ref c18))
    (g19 : mg "InvalidLines" = some (.ref c19))
    (g20 : mg "InvalidText" = some (.ref c20))
    (g21 : mg "NotTransparent" = some (.ref c21))
    (g22 : mg "NothingToUndo" = some (.ref c22))
    (g23 : mg "NothingToRedo" = some (.ref c23))
    (m1 : EM.MkC P K c1 "given")
    (m2 : EM.MkC P K c2 "given")
    (m3 : EM.MkC P K c3 "given")
    (m4 : EM.MkC P K c4 "given")
    (m5 : EM.MkC P K c5 "given")
    (m6 : EM.MkC P K c6 "given")
    (m7 : EM.MkC P K c7 "given")
    (m8 : EM.MkC P K c8 "given")
    (m9 : EM.MkC P K c9 "given")
    (m10 : EM.MkC P K c10 "given")
    (m11 : EM.MkC P K c11 "given")
    (m12 : EM.MkC P K c12 "given")
    (m13 : EM.MkC P K c13 "given")
    (m14 : EM.MkC P K c14 "given")
    (m15 : EM.MkC P K c15 "given")
    (m16 : EM.MkC P K c16 "index")
    (m17 : EM.MkC P K c17 "index")
    (m18 : EM.MkC P K c18 "index")
    (m19 : EM.MkC P K c19 "index")
    (m20 : EM.MkC P K c20 "line")
    (b0 : excIn K c0 HandSPX.veTail "ValueError.__new__" = true)
    (b21 : excIn K c21 HandSPX.veTail "ValueError.__new__" = true)
    (b22 : excIn K c22 HandSPX.veTail "ValueError.__new__" = true)
    (b23 : excIn K c23 HandSPX.veTail "ValueError.__new__" = true)
    (F : ∀ i, i < 24 → ClsF K (([c0, c1, c2, c3, c4, c5, c6, c7, c8, c9, c10, c11, c12, c13, c14, c15, c16, c17, c18, c19, c20, c21, c22, c23] : List Addr).getD i 0)) (hp : pairB K [c0, c1, c2, c3, c4, c5, c6, c7, c8, c9, c10, c11, c12, c13, c14, c15, c16, c17, c18, c19, c20, c21, c22, c23] = true) : Cls P K mg (fun i => ([c0, c1, c2, c3, c4, c5, c6, c7, c8, c9, c10, c11, c12, c13, c14, c15, c16, c17, c18, c19, c20, c21, c22, c23] : List Addr).getD i 0) where
  gl i hi := match i, hi with | 0, _ => g0 | 1, _ => g1 | 2, _ => g2 | 3, _ => g3 | 4, _ => g4 | 5, _ => g5 | 6, _ => g6 | 7, _ => g7 | 8, _ => g8 | 9, _ => g9 | 10, _ => g10 | 11, _ => g11 | 12, _ => g12 | 13, _ => g13 | 14, _ => g14 | 15, _ => g15 | 16, _ => g16 | 17, _ => g17 | 18, _ => g18 | 19, _ => g19 | 20, _ => g20 | 21, _ => g21 | 22, _ => g22 | 23, _ => g23 | n + 24, h => absurd h (by omega)
  gv i h1 h2 := match i, h1, h2 with | 0, h, _ => absurd h (by decide) | 1, _, _ => m1 | 2, _, _ => m2 | 3, _, _ => m3 | 4, _, _ => m4 | 5, _, _ => m5 | 6, _, _ => m6 | 7, _, _ => m7 | 8, _, _ => m8 | 9, _, _ => m9 | 10, _, _ => m10 | 11, _, _ => m11 | 12, _, _ => m12 | 13, _, _ => m13 | 14, _, _ => m14 | 15, _, _ => m15 | n + 16, _, h => absurd h (by omega)
  ix i h1 h2 := by
    obtain rfl | rfl | rfl | rfl : i = 16 ∨ i = 17 ∨ i = 18 ∨ i = 19 := by omega
    · exact m16
    · exact m17
    · exact m18
    · exact m19
  ln := m20
  br i hi h := by
    have f := F i hi
    obtain rfl | rfl | rfl | rfl : i = 0 ∨ i = 21 ∨ i = 22 ∨ i = 23 := by omega
    · exact ⟨b0, f.kp, f.exB, f.tyC⟩
    · exact ⟨b21, f.kp, f.exB, f.tyC⟩
    · exact ⟨b22, f.kp, f.exB, f.tyC⟩
    · exact ⟨b23, f.kp, f.exB, f.tyC⟩
  ex i hi := ⟨(F i hi).ga, (F i hi).gg, (F i hi).exB, (F i hi).hd, (F i hi).ha, S.sp, S.tk, (F i hi).hm⟩
  xf i hi := ⟨(F i hi).ga, (F i hi).gg, (F i hi).exB, (F i hi).hd⟩
  kt i j hi hj := by
    have h := List.all_eq_true.mp (List.all_eq_true.mp hp i (List.mem_range.mpr hi)) j (List.mem_range.mpr hj)
    rw [Bool.and_eq_true] at h
    exact of_decide_eq_true h.1
  kv i hi := (F i hi).kv
  ke i hi := (F i hi).ke
  k1 i hi := (F i hi).k1
  k2 i hi := (F i hi).k2
  em i j hi hj := by
    have h := List.all_eq_true.mp (List.all_eq_true.mp hp i (List.mem_range.mpr hi)) j (List.mem_range.mpr hj)
    rw [Bool.and_eq_true] at h
    exact of_decide_eq_true h.2
  sy := S.sy
theorem clsF_all {c0 c1 c2 c3 c4 c5 c6 c7 c8 c9 c10 c11 c12 c13 c14 c15 c16 c17 c18 c19 c20 c21 c22 c23 : Addr} (h : ([c0, c1, c2, c3, c4, c5, c6, c7, c8, c9, c10, c11, c12, c13, c14, c15, c16, c17, c18, c19, c20, c21, c22, c23] : List Addr).all (clsB K) = true) (i : Nat) (hi : i < 24) : ClsF K (([c0, c1, c2, c3, c4, c5, c6, c7, c8, c9, c10, c11, c12, c13, c14, c15, c16, c17, c18, c19, c20, c21, c22, c23] : List Addr).getD i 0) := by
  refine cls_of (List.all_eq_true.mp h _ ?_)
  rw [List.getD_eq_getElem?_getD, List.getElem?_eq_getElem (show i < ([c0, c1, c2, c3, c4, c5, c6, c7, c8, c9, c10, c11, c12, c13, c14, c15, c16, c17, c18, c19, c20, c21, c22, c23] : List Addr).length from hi)]
  exact List.getElem_mem _

theorem law_ok {f : Addr} {fd : FuncData} (F : Fun K "law" "law" s_law f fd) (HW : Cls P K mg cl)
    (t__law_draw : Top K mg "_law_draw" s__law_draw ["well", "few"])
    (t__law_is_strange : Top K mg "_law_is_strange" s__law_is_strange ["fault"])
    (t__law_kinds : Top K mg "_law_kinds" s__law_kinds ["fault"])
    (t__law_well : Top K mg "_law_well" s__law_well ["script", "lap"])
    (t__law_are_kinds : Top K mg "_law_are_kinds" s__law_are_kinds ["faults", "first"])
    (t__law_bare : Top K mg "_law_bare" s__law_bare ["way"])
    (t__law_by_name : Top K mg "_law_by_name" s__law_by_name ["thing"])
    (t__law_by_place : Top K mg "_law_by_place" s__law_by_place ["thing"])
    (t__law_one : Top K mg "_law_one" s__law_one ["well", "some"])
    (t__law_throw : Top K mg "_law_throw" s__law_throw ["way", "thing"])
    (t__law_based : Top K mg "_law_based" s__law_based ["way", "thing"])
    (t__law_caught : Top K mg "_law_caught" s__law_caught ["way", "thing"])
    (t__law_odd : Top K mg "_law_odd" s__law_odd ["well"])
    (t__law_bent : Top K mg "_law_bent" s__law_bent ["well", "thing"])
    (t__law_thing : Top K mg "_law_thing" s__law_thing ["well"])
    (t__law_right : Top K mg "_law_right" s__law_right ["well"])
    (m_ArithmeticError : mg "ArithmeticError" = none)
    (m_AttributeError : mg "AttributeError" = none)
    (m_Exception : mg "Exception" = none)
    (m_IndexError : mg "IndexError" = none)
    (m_KeyError : mg "KeyError" = none)
    (m_LookupError : mg "LookupError" = none)
    (m_NotImplementedError : mg "NotImplementedError" = none)
    (m_OverflowError : mg "OverflowError" = none)
    (m_RuntimeError : mg "RuntimeError" = none)
    (m_TypeError : mg "TypeError" = none)
    (m_ValueError : mg "ValueError" = none)
    (m_ZeroDivisionError : mg "ZeroDivisionError" = none)
    (m_abs : mg "abs" = none)
    (m_all : mg "all" = none)
    (m_divmod : mg "divmod" = none)
    (m_int : mg "int" = none)
    (m_isinstance : mg "isinstance" = none)
    (m_len : mg "len" = none)
    (m_list : mg "list" = none)
    (m_max : mg "max" = none)
    (m_min : mg "min" = none)
    (m_range : mg "range" = none)
    (m_repr : mg "repr" = none)
    (m_str : mg "str" = none)
    (m_tuple : mg "tuple" = none)
    : DG.GOk P w K mg base 12 f fd ["script"] (spT 1 K T_law) := by
  have C__law_draw : DefOk P w K mg base "_law_draw" 1 2 T__law_draw := ok__law_draw t__law_draw m_divmod m_int
  have C__law_is_strange : DefOk P w K mg base "_law_is_strange" 1 1 (T__law_is_strange cl) := ok__law_is_strange t__law_is_strange HW m_ArithmeticError m_AttributeError m_Exception m_IndexError m_KeyError m_LookupError m_NotImplementedError m_OverflowError m_RuntimeError m_TypeError m_ValueError m_ZeroDivisionError m_isinstance
  have C__law_kinds : DefOk P w K mg base "_law_kinds" 1 1 (T__law_kinds cl) := ok__law_kinds t__law_kinds HW m_isinstance
  have C__law_well : DefOkN P w K mg base "_law_well" 1 2 T__law_well := ok__law_well t__law_well m_abs m_int m_len
  have C__law_are_kinds : DefOk P w K mg base "_law_are_kinds" 2 2 (T__law_are_kinds cl) := ok__law_are_kinds t__law_are_kinds C__law_is_strange C__law_kinds m_len m_range
  have C__law_bare : DefOk P w K mg base "_law_bare" 2 1 T__law_bare := ok__law_bare t__law_bare HW
  have C__law_by_name : DefOk P w K mg base "_law_by_name" 2 1 (T__law_by_name cl) := ok__law_by_name t__law_by_name HW
  have C__law_by_place : DefOk P w K mg base "_law_by_place" 2 1 (T__law_by_place cl) := ok__law_by_place t__law_by_place HW
  have C__law_one : DefOk P w K mg base "_law_one" 2 2 T__law_one := ok__law_one t__law_one C__law_draw m_len
  have C__law_throw : DefOkX P w K mg base "_law_throw" 2 2 (T__law_throw cl) := ok__law_throw t__law_throw HW
  have C__law_based : DefOk P w K mg base "_law_based" 3 2 T__law_based := ok__law_based t__law_based C__law_throw HW
  have C__law_caught : DefOk P w K mg base "_law_caught" 3 2 T__law_caught := ok__law_caught t__law_caught C__law_throw HW
  have C__law_odd : DefOk P w K mg base "_law_odd" 3 1 T__law_odd := ok__law_odd t__law_odd C__law_one
  have C__law_bent : DefOk P w K mg base "_law_bent" 9 2 (T__law_bent 6) := ok__law_bent t__law_bent C__law_draw C__law_odd m_int m_isinstance m_len m_list m_str m_tuple
  have C__law_thing : DefOk P w K mg base "_law_thing" 10 1 T__law_thing := ok__law_thing t__law_thing C__law_bent C__law_draw C__law_odd m_range
  have C__law_right : DefOkG P w K mg base "_law_right" 11 1 T__law_right := ok__law_right t__law_right C__law_are_kinds C__law_bare C__law_based C__law_by_name C__law_by_place C__law_caught C__law_draw C__law_is_strange C__law_kinds C__law_thing HW m_range m_repr
  exact okF_law F C__law_right C__law_well m_all m_len m_max m_min m_range
theorem top_mk {K : Frag} {h : Heap} {mg : Str → Option Value} {x : Str} {st : Stmt} {ps : List Str} {f : Addr} {od an : Option Addr} {sl : Array (Option Value)} {oc kV dc pm cd ct : Value} (inK : K.In h) (G : h.Ns mainGlobals mg)
    (hb : ∀ (kV doc pm : Value) (an : Option Addr) (cdv ct : Value) (us : List Value), us.length = ps.length → bindArgs (PySem.W.fnOf x x (defArgs st) (defBody st) (defScope st) .none kV doc pm an cdv ct) ⟨us, []⟩ = pure (ps.zip us))
    (a : PySem.W.nsIn K mainGlobals x = some (some (.ref f))) (l : K.lookup f = some ⟨oc, od, .func (PySem.W.fnOf x x (defArgs st) (defBody st) (defScope st) .none kV dc pm an cd ct), sl⟩) (c : PySem.W.codeIn K cd x = true) (k : PySem.W.keepIn K (.ref f) = true) : Top K mg x st ps :=
  ⟨f, _, fun_mk l c k, (fun_mk (K := K) l c k).binds hb, PySem.W.mg_of inK G a⟩
theorem rpA_ints {K : Frag} {T : Hp} : ∀ ns : List Int, RpA K T (ns.map V.int) (ns.map D.int)
  | [] => .nil
  | n :: r => .cons (.int n) (rpA_ints r)
theorem law_starts (K : Frag) (T : Hp) (a : Addr) (ns : List Int) (hl : ns.length ≤ 63) (_ : Only T) (h : SqL K T a (ns.map V.int)) : spT 1 K T_law [.ref a] T (fun v _ => v = .bl true) fun _ _ _ => False := by
  have sm : Same T (hide [] T) := fun b o e => by
    rw [hide_out (List.not_mem_nil)]
    exact e
  refine ⟨[], [.d (.lst (ns.map D.int))], [], .cons (.lst (sqL_same sm h) (rpA_ints ns)) .nil, ⟨rfl, List.nodup_nil, fun j ds e => by cases e⟩, rfl, ns, rfl, by omega, fun v H' _ _ r => ?_⟩
  cases r
  rfl
theorem all_mk {h : Heap} {fa : Addr} (inK : K.In h) (G : h.Ns mainGlobals mg) (hfa : mg "law" = some (.ref fa))
    {f0 : Addr} {od0 an0 : Option Addr} {sl0 : Array (Option Value)} {oc0 kV0 dc0 pm0 cd0 ct0 : Value}
    (a0 : nsIn K mainGlobals "_law_draw" = some (some (.ref f0))) (l0 : K.lookup f0 = some ⟨oc0, od0, .func (fnOf "_law_draw" "_law_draw" (defArgs s__law_draw) (defBody s__law_draw) (defScope s__law_draw) .none kV0 dc0 pm0 an0 cd0 ct0), sl0⟩) (c0 : codeIn K cd0 "_law_draw" = true) (k0 : keepIn K (.ref f0) = true)
    {f1 : Addr} {od1 an1 : Option Addr} {sl1 : Array (Option Value)} {oc1 kV1 dc1 pm1 cd1 ct1 : Value}
    (a1 : nsIn K mainGlobals "_law_is_strange" = some (some (.ref f1))) (l1 : K.lookup f1 = some ⟨oc1, od1, .func (fnOf "_law_is_strange" "_law_is_strange" (defArgs s__law_is_strange) (defBody s__law_is_strange) (defScope s__law_is_strange) .none kV1 dc1 pm1 an1 cd1 ct1), sl1⟩) (c1 : codeIn K cd1 "_law_is_strange" = true) (k1 : keepIn K (.ref f1) = true)
    {f2 : Addr} {od2 an2 : Option Addr} {sl2 : Array (Option Value)} {oc2 kV2 dc2 pm2 cd2 ct2 : Value}
    (a2 : nsIn K mainGlobals "_law_kinds" = some (some (.ref f2))) (l2 : K.lookup f2 = some ⟨oc2, od2, .func (fnOf "_law_kinds" "_law_kinds" (defArgs s__law_kinds) (defBody s__law_kinds) (defScope s__law_kinds) .none kV2 dc2 pm2 an2 cd2 ct2), sl2⟩) (c2 : codeIn K cd2 "_law_kinds" = true) (k2 : keepIn K (.ref f2) = true)
    {f3 : Addr} {od3 an3 : Option Addr} {sl3 : Array (Option Value)} {oc3 kV3 dc3 pm3 cd3 ct3 : Value}
    (a3 : nsIn K mainGlobals "_law_well" = some (some (.ref f3))) (l3 : K.lookup f3 = some ⟨oc3, od3, .func (fnOf "_law_well" "_law_well" (defArgs s__law_well) (defBody s__law_well) (defScope s__law_well) .none kV3 dc3 pm3 an3 cd3 ct3), sl3⟩) (c3 : codeIn K cd3 "_law_well" = true) (k3 : keepIn K (.ref f3) = true)
    {f4 : Addr} {od4 an4 : Option Addr} {sl4 : Array (Option Value)} {oc4 kV4 dc4 pm4 cd4 ct4 : Value}
    (a4 : nsIn K mainGlobals "_law_are_kinds" = some (some (.ref f4))) (l4 : K.lookup f4 = some ⟨oc4, od4, .func (fnOf "_law_are_kinds" "_law_are_kinds" (defArgs s__law_are_kinds) (defBody s__law_are_kinds) (defScope s__law_are_kinds) .none kV4 dc4 pm4 an4 cd4 ct4), sl4⟩) (c4 : codeIn K cd4 "_law_are_kinds" = true) (k4 : keepIn K (.ref f4) = true)
    {f5 : Addr} {od5 an5 : Option Addr} {sl5 : Array (Option Value)} {oc5 kV5 dc5 pm5 cd5 ct5 : Value}
    (a5 : nsIn K mainGlobals "_law_bare" = some (some (.ref f5))) (l5 : K.lookup f5 = some ⟨oc5, od5, .func (fnOf "_law_bare" "_law_bare" (defArgs s__law_bare) (defBody s__law_bare) (defScope s__law_bare) .none kV5 dc5 pm5 an5 cd5 ct5), sl5⟩) (c5 : codeIn K cd5 "_law_bare" = true) (k5 : keepIn K (.ref f5) = true)
    {f6 : Addr} {od6 an6 : Option Addr} {sl6 : Array (Option Value)} {oc6 kV6 dc6 pm6 cd6 ct6 : Value}
    (a6 : nsIn K mainGlobals "_law_by_name" = some (some (.ref f6))) (l6 : K.lookup f6 = some ⟨oc6, od6, .func (fnOf "_law_by_name" "_law_by_name" (defArgs s__law_by_name) (defBody s__law_by_name) (defScope s__law_by_name) .none kV6 dc6 pm6 an6 cd6 ct6), sl6⟩) (c6 : codeIn K cd6 "_law_by_name" = true) (k6 : keepIn K (.ref f6) = true)
    {f7 : Addr} {od7 an7 : Option Addr} {sl7 : Array (Option Value)} {oc7 kV7 dc7 pm7 cd7 ct7 : Value}
    (a7 : nsIn K mainGlobals "_law_by_place" = some (some (.ref f7))) (l7 : K.lookup f7 = some ⟨oc7, od7, .func (fnOf "_law_by_place" "_law_by_place" (defArgs s__law_by_place) (defBody s__law_by_place) (defScope s__law_by_place) .none kV7 dc7 pm7 an7 cd7 ct7), sl7⟩) (c7 : codeIn K cd7 "_law_by_place" = true) (k7 : keepIn K (.ref f7) = true)
    {f8 : Addr} {od8 an8 : Option Addr} {sl8 : Array (Option Value)} {oc8 kV8 dc8 pm8 cd8 ct8 : Value}
    (a8 : nsIn K mainGlobals "_law_one" = some (some (.ref f8))) (l8 : K.lookup f8 = some ⟨oc8, od8, .func (fnOf "_law_one" "_law_one" (defArgs s__law_one) (defBody s__law_one) (defScope s__law_one) .none kV8 dc8 pm8 an8 cd8 ct8), sl8⟩) (c8 : codeIn K cd8 "_law_one" = true) (k8 : keepIn K (.ref f8) = true)
    {f9 : Addr} {od9 an9 : Option Addr} {sl9 : Array (Option Value)} {oc9 kV9 dc9 pm9 cd9 ct9 : Value}
    (a9 : nsIn K mainGlobals "_law_throw" = some (some (.ref f9))) (l9 : K.lookup f9 = some ⟨oc9, od9, .func (fnOf "_law_throw" "_law_throw" (defArgs s__law_throw) (defBody s__law_throw) (defScope s__law_throw) .none kV9 dc9 pm9 an9 cd9 ct9), sl9⟩) (c9 : codeIn K cd9 "_law_throw" = true) (k9 : keepIn K (.ref f9) = true)
    {f10 : Addr} {od10 an10 : Option Addr} {sl10 : Array (Option Value)} {oc10 kV10 dc10 pm10 cd10 ct10 : Value}
    (a10 : nsIn K mainGlobals "_law_based" = some (some (.ref f10))) (l10 : K.lookup f10 = some ⟨oc10, od10, .func (fnOf "_law_based" "_law_based" (defArgs s__law_based) (defBody s__law_based) (defScope s__law_based) .none kV10 dc10 pm10 an10 cd10 ct10), sl10⟩) (c10 : codeIn K cd10 "_law_based" = true) (k10 : keepIn K (.ref f10) = true)
    {f11 : Addr} {od11 an11 : Option Addr} {sl11 : Array (Option Value)} {oc11 kV11 dc11 pm11 cd11 ct11 : Value}
    (a11 : nsIn K mainGlobals "_law_caught" = some (some (.ref f11))) (l11 : K.lookup f11 = some ⟨oc11, od11, .func (fnOf "_law_caught" "_law_caught" (defArgs s__law_caught) (defBody s__law_caught) (defScope s__law_caught) .none kV11 dc11 pm11 an11 cd11 ct11), sl11⟩) (c11 : codeIn K cd11 "_law_caught" = true) (k11 : keepIn K (.ref f11) = true)
    {f12 : Addr} {od12 an12 : Option Addr} {sl12 : Array (Option Value)} {oc12 kV12 dc12 pm12 cd12 ct12 : Value}
    (a12 : nsIn K mainGlobals "_law_odd" = some (some (.ref f12))) (l12 : K.lookup f12 = some ⟨oc12, od12, .func (fnOf "_law_odd" "_law_odd" (defArgs s__law_odd) (defBody s__law_odd) (defScope s__law_odd) .none kV12 dc12 pm12 an12 cd12 ct12), sl12⟩) (c12 : codeIn K cd12 "_law_odd" = true) (k12 : keepIn K (.ref f12) = true)
    {f13 : Addr} {od13 an13 : Option Addr} {sl13 : Array (Option Value)} {oc13 kV13 dc13 pm13 cd13 ct13 : Value}
    (a13 : nsIn K mainGlobals "_law_bent" = some (some (.ref f13))) (l13 : K.lookup f13 = some ⟨oc13, od13, .func (fnOf "_law_bent" "_law_bent" (defArgs s__law_bent) (defBody s__law_bent) (defScope s__law_bent) .none kV13 dc13 pm13 an13 cd13 ct13), sl13⟩) (c13 : codeIn K cd13 "_law_bent" = true) (k13 : keepIn K (.ref f13) = true)
    {f14 : Addr} {od14 an14 : Option Addr} {sl14 : Array (Option Value)} {oc14 kV14 dc14 pm14 cd14 ct14 : Value}
    (a14 : nsIn K mainGlobals "_law_thing" = some (some (.ref f14))) (l14 : K.lookup f14 = some ⟨oc14, od14, .func (fnOf "_law_thing" "_law_thing" (defArgs s__law_thing) (defBody s__law_thing) (defScope s__law_thing) .none kV14 dc14 pm14 an14 cd14 ct14), sl14⟩) (c14 : codeIn K cd14 "_law_thing" = true) (k14 : keepIn K (.ref f14) = true)
    {f15 : Addr} {od15 an15 : Option Addr} {sl15 : Array (Option Value)} {oc15 kV15 dc15 pm15 cd15 ct15 : Value}
    (a15 : nsIn K mainGlobals "_law_right" = some (some (.ref f15))) (l15 : K.lookup f15 = some ⟨oc15, od15, .func (fnOf "_law_right" "_law_right" (defArgs s__law_right) (defBody s__law_right) (defScope s__law_right) .none kV15 dc15 pm15 an15 cd15 ct15), sl15⟩) (c15 : codeIn K cd15 "_law_right" = true) (k15 : keepIn K (.ref f15) = true)
    {f16 : Addr} {od16 an16 : Option Addr} {sl16 : Array (Option Value)} {oc16 kV16 dc16 pm16 cd16 ct16 : Value}
    (a16 : nsIn K mainGlobals "law" = some (some (.ref f16))) (l16 : K.lookup f16 = some ⟨oc16, od16, .func (fnOf "law" "law" (defArgs s_law) (defBody s_law) (defScope s_law) .none kV16 dc16 pm16 an16 cd16 ct16), sl16⟩) (c16 : codeIn K cd16 "law" = true) (k16 : keepIn K (.ref f16) = true)
    (z0 : nsIn K mainGlobals "ArithmeticError" = some none)
    (z1 : nsIn K mainGlobals "AttributeError" = some none)
    (z2 : nsIn K mainGlobals "Exception" = some none)
    (z3 : nsIn K mainGlobals "IndexError" = some none)
    (z4 : nsIn K mainGlobals "KeyError" = some none)
    (z5 : nsIn K mainGlobals "LookupError" = some none)
    (z6 : nsIn K mainGlobals "NotImplementedError" = some none)
    (z7 : nsIn K mainGlobals "OverflowError" = some none)
    (z8 : nsIn K mainGlobals "RuntimeError" = some none)
    (z9 : nsIn K mainGlobals "TypeError" = some none)
    (z10 : nsIn K mainGlobals "ValueError" = some none)
    (z11 : nsIn K mainGlobals "ZeroDivisionError" = some none)
    (z12 : nsIn K mainGlobals "abs" = some none)
    (z13 : nsIn K mainGlobals "all" = some none)
    (z14 : nsIn K mainGlobals "divmod" = some none)
    (z15 : nsIn K mainGlobals "int" = some none)
    (z16 : nsIn K mainGlobals "isinstance" = some none)
    (z17 : nsIn K mainGlobals "len" = some none)
    (z18 : nsIn K mainGlobals "list" = some none)
    (z19 : nsIn K mainGlobals "max" = some none)
    (z20 : nsIn K mainGlobals "min" = some none)
    (z21 : nsIn K mainGlobals "range" = some none)
    (z22 : nsIn K mainGlobals "repr" = some none)
    (z23 : nsIn K mainGlobals "str" = some none)
    (z24 : nsIn K mainGlobals "tuple" = some none)
    {x0 : Addr} (xn0 : nsIn K mainGlobals "PersuasionError" = some (some (.ref x0)))
    {x1 : Addr} (xn1 : nsIn K mainGlobals "InvalidSetting" = some (some (.ref x1)))
    {x2 : Addr} (xn2 : nsIn K mainGlobals "InvalidBelief" = some (some (.ref x2)))
    {x3 : Addr} (xn3 : nsIn K mainGlobals "InvalidSplit" = some (some (.ref x3)))
    {x4 : Addr} (xn4 : nsIn K mainGlobals "InvalidExperiment" = some (some (.ref x4)))
    {x5 : Addr} (xn5 : nsIn K mainGlobals "InvalidPlane" = some (some (.ref x5)))
    {x6 : Addr} (xn6 : nsIn K mainGlobals "InvalidGame" = some (some (.ref x6)))
    {x7 : Addr} (xn7 : nsIn K mainGlobals "InvalidOutcome" = some (some (.ref x7)))
    {x8 : Addr} (xn8 : nsIn K mainGlobals "InvalidAnswers" = some (some (.ref x8)))
    {x9 : Addr} (xn9 : nsIn K mainGlobals "InvalidAction" = some (some (.ref x9)))
    {x10 : Addr} (xn10 : nsIn K mainGlobals "InvalidState" = some (some (.ref x10)))
    {x11 : Addr} (xn11 : nsIn K mainGlobals "InvalidNumber" = some (some (.ref x11)))
    {x12 : Addr} (xn12 : nsIn K mainGlobals "InvalidName" = some (some (.ref x12)))
    {x13 : Addr} (xn13 : nsIn K mainGlobals "InvalidDeed" = some (some (.ref x13)))
    {x14 : Addr} (xn14 : nsIn K mainGlobals "InvalidDrawing" = some (some (.ref x14)))
    {x15 : Addr} (xn15 : nsIn K mainGlobals "Unfit" = some (some (.ref x15)))
    {x16 : Addr} (xn16 : nsIn K mainGlobals "InvalidLot" = some (some (.ref x16)))
    {x17 : Addr} (xn17 : nsIn K mainGlobals "InvalidWishes" = some (some (.ref x17)))
    {x18 : Addr} (xn18 : nsIn K mainGlobals "InvalidBook" = some (some (.ref x18)))
    {x19 : Addr} (xn19 : nsIn K mainGlobals "InvalidLines" = some (some (.ref x19)))
    {x20 : Addr} (xn20 : nsIn K mainGlobals "InvalidText" = some (some (.ref x20)))
    {x21 : Addr} (xn21 : nsIn K mainGlobals "NotTransparent" = some (some (.ref x21)))
    {x22 : Addr} (xn22 : nsIn K mainGlobals "NothingToUndo" = some (some (.ref x22)))
    {x23 : Addr} (xn23 : nsIn K mainGlobals "NothingToRedo" = some (some (.ref x23)))
    (sb : someB P K = true) (cb : ([x0, x1, x2, x3, x4, x5, x6, x7, x8, x9, x10, x11, x12, x13, x14, x15, x16, x17, x18, x19, x20, x21, x22, x23] : List Addr).all (clsB K) = true) (pb : pairB K [x0, x1, x2, x3, x4, x5, x6, x7, x8, x9, x10, x11, x12, x13, x14, x15, x16, x17, x18, x19, x20, x21, x22, x23] = true)
    {fI_1 cc_1 cda_1 : Addr} {m_1 qual_1 : Str} {j_1 : Nat} {p0_1 p1_1 p2_1 p3_1 p4_1 p5_1 q0_1 q1_1 q2_1 q3_1 a0_1 a1_1 : Pos} {kV_1 doc_1 pm_1 ct_1 oc_1 ccl_1 cl_1 : Value} {an_1 od_1 cdd_1 cld_1 : Option Addr} {osl_1 ccs_1 csl_1 : Array (Option Value)} {vs_1 : Array Value} {nm_1 q_1 N_1 bs_1 bm_1 sn_1 sub_1 ab_1 col_1 dd_1 k0_1 k1_1 k2_1 k3_1 k5_1}
    (ha_1 : findIn K (.ref x1) "__init__" = some (some (.ref fI_1)))
    (hb_1 : K.lookup fI_1 = some ⟨oc_1, od_1, .func (ksFn "__init__" qual_1 (EM.iPar "given" a0_1 a1_1) (EM.iBody "given" m_1 j_1 p0_1 p1_1 p2_1 p3_1 p4_1 p5_1 q0_1 q1_1 q2_1 q3_1) (EM.iScope "given") .none kV_1 doc_1 pm_1 an_1 (.ref cda_1) ct_1 cc_1), osl_1⟩)
    (hc_1 : K.lookup cda_1 = some ⟨ccl_1, cdd_1, .fields vs_1, ccs_1⟩) (hd_1 : K.lookup cc_1 = some ⟨cl_1, cld_1, .cell (some (.ref x1)), csl_1⟩)
    (he_1 : K.lookup x1 = some (excClassObj nm_1 q_1 x1 N_1 bs_1 bm_1 true sn_1 sub_1 ab_1 col_1 dd_1 k0_1 k1_1 k2_1 k3_1 k5_1 "ValueError.__new__"))
    (hm_1 : mkB P K x1 fI_1 cda_1 "given" qual_1 vs_1 (HandSPX.refsVE bm_1) p2_1.endLine p4_1.line = true)
    {fI_2 cc_2 cda_2 : Addr} {m_2 qual_2 : Str} {j_2 : Nat} {p0_2 p1_2 p2_2 p3_2 p4_2 p5_2 q0_2 q1_2 q2_2 q3_2 a0_2 a1_2 : Pos} {kV_2 doc_2 pm_2 ct_2 oc_2 ccl_2 cl_2 : Value} {an_2 od_2 cdd_2 cld_2 : Option Addr} {osl_2 ccs_2 csl_2 : Array (Option Value)} {vs_2 : Array Value} {nm_2 q_2 N_2 bs_2 bm_2 sn_2 sub_2 ab_2 col_2 dd_2 k0_2 k1_2 k2_2 k3_2 k5_2}
    (ha_2 : findIn K (.ref x2) "__init__" = some (some (.ref fI_2)))
    (hb_2 : K.lookup fI_2 = some ⟨oc_2, od_2, .func (ksFn "__init__" qual_2 (EM.iPar "given" a0_2 a1_2) (EM.iBody "given" m_2 j_2 p0_2 p1_2 p2_2 p3_2 p4_2 p5_2 q0_2 q1_2 q2_2 q3_2) (EM.iScope "given") .none kV_2 doc_2 pm_2 an_2 (.ref cda_2) ct_2 cc_2), osl_2⟩)
    (hc_2 : K.lookup cda_2 = some ⟨ccl_2, cdd_2, .fields vs_2, ccs_2⟩) (hd_2 : K.lookup cc_2 = some ⟨cl_2, cld_2, .cell (some (.ref x2)), csl_2⟩)
    (he_2 : K.lookup x2 = some (excClassObj nm_2 q_2 x2 N_2 bs_2 bm_2 true sn_2 sub_2 ab_2 col_2 dd_2 k0_2 k1_2 k2_2 k3_2 k5_2 "ValueError.__new__"))
    (hm_2 : mkB P K x2 fI_2 cda_2 "given" qual_2 vs_2 (HandSPX.refsVE bm_2) p2_2.endLine p4_2.line = true)
    {fI_3 cc_3 cda_3 : Addr} {m_3 qual_3 : Str} {j_3 : Nat} {p0_3 p1_3 p2_3 p3_3 p4_3 p5_3 q0_3 q1_3 q2_3 q3_3 a0_3 a1_3 : Pos} {kV_3 doc_3 pm_3 ct_3 oc_3 ccl_3 cl_3 : Value} {an_3 od_3 cdd_3 cld_3 : Option Addr} {osl_3 ccs_3 csl_3 : Array (Option Value)} {vs_3 : Array Value} {nm_3 q_3 N_3 bs_3 bm_3 sn_3 sub_3 ab_3 col_3 dd_3 k0_3 k1_3 k2_3 k3_3 k5_3}
    (ha_3 : findIn K (.ref x3) "__init__" = some (some (.ref fI_3)))
    (hb_3 : K.lookup fI_3 = some ⟨oc_3, od_3, .func (ksFn "__init__" qual_3 (EM.iPar "given" a0_3 a1_3) (EM.iBody "given" m_3 j_3 p0_3 p1_3 p2_3 p3_3 p4_3 p5_3 q0_3 q1_3 q2_3 q3_3) (EM.iScope "given") .none kV_3 doc_3 pm_3 an_3 (.ref cda_3) ct_3 cc_3), osl_3⟩)
    (hc_3 : K.lookup cda_3 = some ⟨ccl_3, cdd_3, .fields vs_3, ccs_3⟩) (hd_3 : K.lookup cc_3 = some ⟨cl_3, cld_3, .cell (some (.ref x3)), csl_3⟩)
    (he_3 : K.lookup x3 = some (excClassObj nm_3 q_3 x3 N_3 bs_3 bm_3 true sn_3 sub_3 ab_3 col_3 dd_3 k0_3 k1_3 k2_3 k3_3 k5_3 "ValueError.__new__"))
    (hm_3 : mkB P K x3 fI_3 cda_3 "given" qual_3 vs_3 (HandSPX.refsVE bm_3) p2_3.endLine p4_3.line = true)
    {fI_4 cc_4 cda_4 : Addr} {m_4 qual_4 : Str} {j_4 : Nat} {p0_4 p1_4 p2_4 p3_4 p4_4 p5_4 q0_4 q1_4 q2_4 q3_4 a0_4 a1_4 : Pos} {kV_4 doc_4 pm_4 ct_4 oc_4 ccl_4 cl_4 : Value} {an_4 od_4 cdd_4 cld_4 : Option Addr} {osl_4 ccs_4 csl_4 : Array (Option Value)} {vs_4 : Array Value} {nm_4 q_4 N_4 bs_4 bm_4 sn_4 sub_4 ab_4 col_4 dd_4 k0_4 k1_4 k2_4 k3_4 k5_4}
    (ha_4 : findIn K (.ref x4) "__init__" = some (some (.ref fI_4)))
    (hb_4 : K.lookup fI_4 = some ⟨oc_4, od_4, .func (ksFn "__init__" qual_4 (EM.iPar "given" a0_4 a1_4) (EM.iBody "given" m_4 j_4 p0_4 p1_4 p2_4 p3_4 p4_4 p5_4 q0_4 q1_4 q2_4 q3_4) (EM.iScope "given") .none kV_4 doc_4 pm_4 an_4 (.ref cda_4) ct_4 cc_4), osl_4⟩)
    (hc_4 : K.lookup cda_4 = some ⟨ccl_4, cdd_4, .fields vs_4, ccs_4⟩) (hd_4 : K.lookup cc_4 = some ⟨cl_4, cld_4, .cell (some (.ref x4)), csl_4⟩)
    (he_4 : K.lookup x4 = some (excClassObj nm_4 q_4 x4 N_4 bs_4 bm_4 true sn_4 sub_4 ab_4 col_4 dd_4 k0_4 k1_4 k2_4 k3_4 k5_4 "ValueError.__new__"))
    (hm_4 : mkB P K x4 fI_4 cda_4 "given" qual_4 vs_4 (HandSPX.refsVE bm_4) p2_4.endLine p4_4.line = true)
    {fI_5 cc_5 cda_5 : Addr} {m_5 qual_5 : Str} {j_5 : Nat} {p0_5 p1_5 p2_5 p3_5 p4_5 p5_5 q0_5 q1_5 q2_5 q3_5 a0_5 a1_5 : Pos} {kV_5 doc_5 pm_5 ct_5 oc_5 ccl_5 cl_5 : Value} {an_5 od_5 cdd_5 cld_5 : Option Addr} {osl_5 ccs_5 csl_5 : Array (Option Value)} {vs_5 : Array Value} {nm_5 q_5 N_5 bs_5 bm_5 sn_5 sub_5 ab_5 col_5 dd_5 k0_5 k1_5 k2_5 k3_5 k5_5}
    (ha_5 : findIn K (.ref x5) "__init__" = some (some (.ref fI_5)))
    (hb_5 : K.lookup fI_5 = some ⟨oc_5, od_5, .func (ksFn "__init__" qual_5 (EM.iPar "given" a0_5 a1_5) (EM.iBody "given" m_5 j_5 p0_5 p1_5 p2_5 p3_5 p4_5 p5_5 q0_5 q1_5 q2_5 q3_5) (EM.iScope "given") .none kV_5 doc_5 pm_5 an_5 (.ref cda_5) ct_5 cc_5), osl_5⟩)
    (hc_5 : K.lookup cda_5 = some ⟨ccl_5, cdd_5, .fields vs_5, ccs_5⟩) (hd_5 : K.lookup cc_5 = some ⟨cl_5, cld_5, .cell (some (.ref x5)), csl_5⟩)
    (he_5 : K.lookup x5 = some (excClassObj nm_5 q_5 x5 N_5 bs_5 bm_5 true sn_5 sub_5 ab_5 col_5 dd_5 k0_5 k1_5 k2_5 k3_5 k5_5 "ValueError.__new__"))
    (hm_5 : mkB P K x5 fI_5 cda_5 "given" qual_5 vs_5 (HandSPX.refsVE bm_5) p2_5.endLine p4_5.line = true)
    {fI_6 cc_6 cda_6 : Addr} {m_6 qual_6 : Str} {j_6 : Nat} {p0_6 p1_6 p2_6 p3_6 p4_6 p5_6 q0_6 q1_6 q2_6 q3_6 a0_6 a1_6 : Pos} {kV_6 doc_6 pm_6 ct_6 oc_6 ccl_6 cl_6 : Value} {an_6 od_6 cdd_6 cld_6 : Option Addr} {osl_6 ccs_6 csl_6 : Array (Option Value)} {vs_6 : Array Value} {nm_6 q_6 N_6 bs_6 bm_6 sn_6 sub_6 ab_6 col_6 dd_6 k0_6 k1_6 k2_6 k3_6 k5_6}
    (ha_6 : findIn K (.ref x6) "__init__" = some (some (.ref fI_6)))
    (hb_6 : K.lookup fI_6 = some ⟨oc_6, od_6, .func (ksFn "__init__" qual_6 (EM.iPar "given" a0_6 a1_6) (EM.iBody "given" m_6 j_6 p0_6 p1_6 p2_6 p3_6 p4_6 p5_6 q0_6 q1_6 q2_6 q3_6) (EM.iScope "given") .none kV_6 doc_6 pm_6 an_6 (.ref cda_6) ct_6 cc_6), osl_6⟩)
    (hc_6 : K.lookup cda_6 = some ⟨ccl_6, cdd_6, .fields vs_6, ccs_6⟩) (hd_6 : K.lookup cc_6 = some ⟨cl_6, cld_6, .cell (some (.ref x6)), csl_6⟩)
    (he_6 : K.lookup x6 = some (excClassObj nm_6 q_6 x6 N_6 bs_6 bm_6 true sn_6 sub_6 ab_6 col_6 dd_6 k0_6 k1_6 k2_6 k3_6 k5_6 "ValueError.__new__"))
    (hm_6 : mkB P K x6 fI_6 cda_6 "given" qual_6 vs_6 (HandSPX.refsVE bm_6) p2_6.endLine p4_6.line = true)
    {fI_7 cc_7 cda_7 : Addr} {m_7 qual_7 : Str} {j_7 : Nat} {p0_7 p1_7 p2_7 p3_7 p4_7 p5_7 q0_7 q1_7 q2_7 q3_7 a0_7 a1_7 : Pos} {kV_7 doc_7 pm_7 ct_7 oc_7 ccl_7 cl_7 : Value} {an_7 od_7 cdd_7 cld_7 : Option Addr} {osl_7 ccs_7 csl_7 : Array (Option Value)} {vs_7 : Array Value} {nm_7 q_7 N_7 bs_7 bm_7 sn_7 sub_7 ab_7 col_7 dd_7 k0_7 k1_7 k2_7 k3_7 k5_7}
    (ha_7 : findIn K (.ref x7) "__init__" = some (some (.ref fI_7)))
    (hb_7 : K.lookup fI_7 = some ⟨oc_7, od_7, .func (ksFn "__init__" qual_7 (EM.iPar "given" a0_7 a1_7) (EM.iBody "given" m_7 j_7 p0_7 p1_7 p2_7 p3_7 p4_7 p5_7 q0_7 q1_7 q2_7 q3_7) (EM.iScope "given") .none kV_7 doc_7 pm_7 an_7 (.ref cda_7) ct_7 cc_7), osl_7⟩)
    (hc_7 : K.lookup cda_7 = some ⟨ccl_7, cdd_7, .fields vs_7, ccs_7⟩) (hd_7 : K.lookup cc_7 = some ⟨cl_7, cld_7, .cell (some (.ref x7)), csl_7⟩)
    (he_7 : K.lookup x7 = some (excClassObj nm_7 q_7 x7 N_7 bs_7 bm_7 true sn_7 sub_7 ab_7 col_7 dd_7 k0_7 k1_7 k2_7 k3_7 k5_7 "ValueError.__new__"))
    (hm_7 : mkB P K x7 fI_7 cda_7 "given" qual_7 vs_7 (HandSPX.refsVE bm_7) p2_7.endLine p4_7.line = true)
    {fI_8 cc_8 cda_8 : Addr} {m_8 qual_8 : Str} {j_8 : Nat} {p0_8 p1_8 p2_8 p3_8 p4_8 p5_8 q0_8 q1_8 q2_8 q3_8 a0_8 a1_8 : Pos} {kV_8 doc_8 pm_8 ct_8 oc_8 ccl_8 cl_8 : Value} {an_8 od_8 cdd_8 cld_8 : Option Addr} {osl_8 ccs_8 csl_8 : Array (Option Value)} {vs_8 : Array Value} {nm_8 q_8 N_8 bs_8 bm_8 sn_8 sub_8 ab_8 col_8 dd_8 k0_8 k1_8 k2_8 k3_8 k5_8}
    (ha_8 : findIn K (.ref x8) "__init__" = some (some (.ref fI_8)))
    (hb_8 : K.lookup fI_8 = some ⟨oc_8, od_8, .func (ksFn "__init__" qual_8 (EM.iPar "given" a0_8 a1_8) (EM.iBody "given" m_8 j_8 p0_8 p1_8 p2_8 p3_8 p4_8 p5_8 q0_8 q1_8 q2_8 q3_8) (EM.iScope "given") .none kV_8 doc_8 pm_8 an_8 (.ref cda_8) ct_8 cc_8), osl_8⟩)
    (hc_8 : K.lookup cda_8 = some ⟨ccl_8, cdd_8, .fields vs_8, ccs_8⟩) (hd_8 : K.lookup cc_8 = some ⟨cl_8, cld_8, .cell (some (.ref x8)), csl_8⟩)
    (he_8 : K.lookup x8 = some (excClassObj nm_8 q_8 x8 N_8 bs_8 bm_8 true sn_8 sub_8 ab_8 col_8 dd_8 k0_8 k1_8 k2_8 k3_8 k5_8 "ValueError.__new__"))
    (hm_8 : mkB P K x8 fI_8 cda_8 "given" qual_8 vs_8 (HandSPX.refsVE bm_8) p2_8.endLine p4_8.line = true)
    {fI_9 cc_9 cda_9 : Addr} {m_9 qual_9 : Str} {j_9 : Nat} {p0_9 p1_9 p2_9 p3_9 p4_9 p5_9 q0_9 q1_9 q2_9 q3_9 a0_9 a1_9 : Pos} {kV_9 doc_9 pm_9 ct_9 oc_9 ccl_9 cl_9 : Value} {an_9 od_9 cdd_9 cld_9 : Option Addr} {osl_9 ccs_9 csl_9 : Array (Option Value)} {vs_9 : Array Value} {nm_9 q_9 N_9 bs_9 bm_9 sn_9 sub_9 ab_9 col_9 dd_9 k0_9 k1_9 k2_9 k3_9 k5_9}
    (ha_9 : findIn K (.ref x9) "__init__" = some (some (.ref fI_9)))
    (hb_9 : K.lookup fI_9 = some ⟨oc_9, od_9, .func (ksFn "__init__" qual_9 (EM.iPar "given" a0_9 a1_9) (EM.iBody "given" m_9 j_9 p0_9 p1_9 p2_9 p3_9 p4_9 p5_9 q0_9 q1_9 q2_9 q3_9) (EM.iScope "given") .none kV_9 doc_9 pm_9 an_9 (.ref cda_9) ct_9 cc_9), osl_9⟩)
    (hc_9 : K.lookup cda_9 = some ⟨ccl_9, cdd_9, .fields vs_9, ccs_9⟩) (hd_9 : K.lookup cc_9 = some ⟨cl_9, cld_9, .cell (some (.ref x9)), csl_9⟩)
    (he_9 : K.lookup x9 = some (excClassObj nm_9 q_9 x9 N_9 bs_9 bm_9 true sn_9 sub_9 ab_9 col_9 dd_9 k0_9 k1_9 k2_9 k3_9 k5_9 "ValueError.__new__"))
    (hm_9 : mkB P K x9 fI_9 cda_9 "given" qual_9 vs_9 (HandSPX.refsVE bm_9) p2_9.endLine p4_9.line = true)
    {fI_10 cc_10 cda_10 : Addr} {m_10 qual_10 : Str} {j_10 : Nat} {p0_10 p1_10 p2_10 p3_10 p4_10 p5_10 q0_10 q1_10 q2_10 q3_10 a0_10 a1_10 : Pos} {kV_10 doc_10 pm_10 ct_10 oc_10 ccl_10 cl_10 : Value} {an_10 od_10 cdd_10 cld_10 : Option Addr} {osl_10 ccs_10 csl_10 : Array (Option Value)} {vs_10 : Array Value} {nm_10 q_10 N_10 bs_10 bm_10 sn_10 sub_10 ab_10 col_10 dd_10 k0_10 k1_10 k2_10 k3_10 k5_10}
    (ha_10 : findIn K (.ref x10) "__init__" = some (some (.ref fI_10)))
    (hb_10 : K.lookup fI_10 = some ⟨oc_10, od_10, .func (ksFn "__init__" qual_10 (EM.iPar "given" a0_10 a1_10) (EM.iBody "given" m_10 j_10 p0_10 p1_10 p2_10 p3_10 p4_10 p5_10 q0_10 q1_10 q2_10 q3_10) (EM.iScope "given") .none kV_10 doc_10 pm_10 an_10 (.ref cda_10) ct_10 cc_10), osl_10⟩)
    (hc_10 : K.lookup cda_10 = some ⟨ccl_10, cdd_10, .fields vs_10, ccs_10⟩) (hd_10 : K.lookup cc_10 = some ⟨cl_10, cld_10, .cell (some (.ref x10)), csl_10⟩)
    (he_10 : K.lookup x10 = some (excClassObj nm_10 q_10 x10 N_10 bs_10 bm_10 true sn_10 sub_10 ab_10 col_10 dd_10 k0_10 k1_10 k2_10 k3_10 k5_10 "ValueError.__new__"))
    (hm_10 : mkB P K x10 fI_10 cda_10 "given" qual_10 vs_10 (HandSPX.refsVE bm_10) p2_10.endLine p4_10.line = true)
    {fI_11 cc_11 cda_11 : Addr} {m_11 qual_11 : Str} {j_11 : Nat} {p0_11 p1_11 p2_11 p3_11 p4_11 p5_11 q0_11 q1_11 q2_11 q3_11 a0_11 a1_11 : Pos} {kV_11 doc_11 pm_11 ct_11 oc_11 ccl_11 cl_11 : Value} {an_11 od_11 cdd_11 cld_11 : Option Addr} {osl_11 ccs_11 csl_11 : Array (Option Value)} {vs_11 : Array Value} {nm_11 q_11 N_11 bs_11 bm_11 sn_11 sub_11 ab_11 col_11 dd_11 k0_11 k1_11 k2_11 k3_11 k5_11}
    (ha_11 : findIn K (.ref x11) "__init__" = some (some (.ref fI_11)))
    (hb_11 : K.lookup fI_11 = some ⟨oc_11, od_11, .func (ksFn "__init__" qual_11 (EM.iPar "given" a0_11 a1_11) (EM.iBody "given" m_11 j_11 p0_11 p1_11 p2_11 p3_11 p4_11 p5_11 q0_11 q1_11 q2_11 q3_11) (EM.iScope "given") .none kV_11 doc_11 pm_11 an_11 (.ref cda_11) ct_11 cc_11), osl_11⟩)
    (hc_11 : K.lookup cda_11 = some ⟨ccl_11, cdd_11, .fields vs_11, ccs_11⟩) (hd_11 : K.lookup cc_11 = some ⟨cl_11, cld_11, .cell (some (.ref x11)), csl_11⟩)
    (he_11 : K.lookup x11 = some (excClassObj nm_11 q_11 x11 N_11 bs_11 bm_11 true sn_11 sub_11 ab_11 col_11 dd_11 k0_11 k1_11 k2_11 k3_11 k5_11 "ValueError.__new__"))
    (hm_11 : mkB P K x11 fI_11 cda_11 "given" qual_11 vs_11 (HandSPX.refsVE bm_11) p2_11.endLine p4_11.line = true)
    {fI_12 cc_12 cda_12 : Addr} {m_12 qual_12 : Str} {j_12 : Nat} {p0_12 p1_12 p2_12 p3_12 p4_12 p5_12 q0_12 q1_12 q2_12 q3_12 a0_12 a1_12 : Pos} {kV_12 doc_12 pm_12 ct_12 oc_12 ccl_12 cl_12 : Value} {an_12 od_12 cdd_12 cld_12 : Option Addr} {osl_12 ccs_12 csl_12 : Array (Option Value)} {vs_12 : Array Value} {nm_12 q_12 N_12 bs_12 bm_12 sn_12 sub_12 ab_12 col_12 dd_12 k0_12 k1_12 k2_12 k3_12 k5_12}
    (ha_12 : findIn K (.ref x12) "__init__" = some (some (.ref fI_12)))
    (hb_12 : K.lookup fI_12 = some ⟨oc_12, od_12, .func (ksFn "__init__" qual_12 (EM.iPar "given" a0_12 a1_12) (EM.iBody "given" m_12 j_12 p0_12 p1_12 p2_12 p3_12 p4_12 p5_12 q0_12 q1_12 q2_12 q3_12) (EM.iScope "given") .none kV_12 doc_12 pm_12 an_12 (.ref cda_12) ct_12 cc_12), osl_12⟩)
    (hc_12 : K.lookup cda_12 = some ⟨ccl_12, cdd_12, .fields vs_12, ccs_12⟩) (hd_12 : K.lookup cc_12 = some ⟨cl_12, cld_12, .cell (some (.ref x12)), csl_12⟩)
    (he_12 : K.lookup x12 = some (excClassObj nm_12 q_12 x12 N_12 bs_12 bm_12 true sn_12 sub_12 ab_12 col_12 dd_12 k0_12 k1_12 k2_12 k3_12 k5_12 "ValueError.__new__"))
    (hm_12 : mkB P K x12 fI_12 cda_12 "given" qual_12 vs_12 (HandSPX.refsVE bm_12) p2_12.endLine p4_12.line = true)
    {fI_13 cc_13 cda_13 : Addr} {m_13 qual_13 : Str} {j_13 : Nat} {p0_13 p1_13 p2_13 p3_13 p4_13 p5_13 q0_13 q1_13 q2_13 q3_13 a0_13 a1_13 : Pos} {kV_13 doc_13 pm_13 ct_13 oc_13 ccl_13 cl_13 : Value} {an_13 od_13 cdd_13 cld_13 : Option Addr} {osl_13 ccs_13 csl_13 : Array (Option Value)} {vs_13 : Array Value} {nm_13 q_13 N_13 bs_13 bm_13 sn_13 sub_13 ab_13 col_13 dd_13 k0_13 k1_13 k2_13 k3_13 k5_13}
    (ha_13 : findIn K (.ref x13) "__init__" = some (some (.ref fI_13)))
    (hb_13 : K.lookup fI_13 = some ⟨oc_13, od_13, .func (ksFn "__init__" qual_13 (EM.iPar "given" a0_13 a1_13) (EM.iBody "given" m_13 j_13 p0_13 p1_13 p2_13 p3_13 p4_13 p5_13 q0_13 q1_13 q2_13 q3_13) (EM.iScope "given") .none kV_13 doc_13 pm_13 an_13 (.ref cda_13) ct_13 cc_13), osl_13⟩)
    (hc_13 : K.lookup cda_13 = some ⟨ccl_13, cdd_13, .fields vs_13, ccs_13⟩) (hd_13 : K.lookup cc_13 = some ⟨cl_13, cld_13, .cell (some (.ref x13)), csl_13⟩)
    (he_13 : K.lookup x13 = some (excClassObj nm_13 q_13 x13 N_13 bs_13 bm_13 true sn_13 sub_13 ab_13 col_13 dd_13 k0_13 k1_13 k2_13 k3_13 k5_13 "ValueError.__new__"))
    (hm_13 : mkB P K x13 fI_13 cda_13 "given" qual_13 vs_13 (HandSPX.refsVE bm_13) p2_13.endLine p4_13.line = true)
    {fI_14 cc_14 cda_14 : Addr} {m_14 qual_14 : Str} {j_14 : Nat} {p0_14 p1_14 p2_14 p3_14 p4_14 p5_14 q0_14 q1_14 q2_14 q3_14 a0_14 a1_14 : Pos} {kV_14 doc_14 pm_14 ct_14 oc_14 ccl_14 cl_14 : Value} {an_14 od_14 cdd_14 cld_14 : Option Addr} {osl_14 ccs_14 csl_14 : Array (Option Value)} {vs_14 : Array Value} {nm_14 q_14 N_14 bs_14 bm_14 sn_14 sub_14 ab_14 col_14 dd_14 k0_14 k1_14 k2_14 k3_14 k5_14}
    (ha_14 : findIn K (.ref x14) "__init__" = some (some (.ref fI_14)))
    (hb_14 : K.lookup fI_14 = some ⟨oc_14, od_14, .func (ksFn "__init__" qual_14 (EM.iPar "given" a0_14 a1_14) (EM.iBody "given" m_14 j_14 p0_14 p1_14 p2_14 p3_14 p4_14 p5_14 q0_14 q1_14 q2_14 q3_14) (EM.iScope "given") .none kV_14 doc_14 pm_14 an_14 (.ref cda_14) ct_14 cc_14), osl_14⟩)
    (hc_14 : K.lookup cda_14 = some ⟨ccl_14, cdd_14, .fields vs_14, ccs_14⟩) (hd_14 : K.lookup cc_14 = some ⟨cl_14, cld_14, .cell (some (.ref x14)), csl_14⟩)
    (he_14 : K.lookup x14 = some (excClassObj nm_14 q_14 x14 N_14 bs_14 bm_14 true sn_14 sub_14 ab_14 col_14 dd_14 k0_14 k1_14 k2_14 k3_14 k5_14 "ValueError.__new__"))
    (hm_14 : mkB P K x14 fI_14 cda_14 "given" qual_14 vs_14 (HandSPX.refsVE bm_14) p2_14.endLine p4_14.line = true)
    {fI_15 cc_15 cda_15 : Addr} {m_15 qual_15 : Str} {j_15 : Nat} {p0_15 p1_15 p2_15 p3_15 p4_15 p5_15 q0_15 q1_15 q2_15 q3_15 a0_15 a1_15 : Pos} {kV_15 doc_15 pm_15 ct_15 oc_15 ccl_15 cl_15 : Value} {an_15 od_15 cdd_15 cld_15 : Option Addr} {osl_15 ccs_15 csl_15 : Array (Option Value)} {vs_15 : Array Value} {nm_15 q_15 N_15 bs_15 bm_15 sn_15 sub_15 ab_15 col_15 dd_15 k0_15 k1_15 k2_15 k3_15 k5_15}
    (ha_15 : findIn K (.ref x15) "__init__" = some (some (.ref fI_15)))
    (hb_15 : K.lookup fI_15 = some ⟨oc_15, od_15, .func (ksFn "__init__" qual_15 (EM.iPar "given" a0_15 a1_15) (EM.iBody "given" m_15 j_15 p0_15 p1_15 p2_15 p3_15 p4_15 p5_15 q0_15 q1_15 q2_15 q3_15) (EM.iScope "given") .none kV_15 doc_15 pm_15 an_15 (.ref cda_15) ct_15 cc_15), osl_15⟩)
    (hc_15 : K.lookup cda_15 = some ⟨ccl_15, cdd_15, .fields vs_15, ccs_15⟩) (hd_15 : K.lookup cc_15 = some ⟨cl_15, cld_15, .cell (some (.ref x15)), csl_15⟩)
    (he_15 : K.lookup x15 = some (excClassObj nm_15 q_15 x15 N_15 bs_15 bm_15 true sn_15 sub_15 ab_15 col_15 dd_15 k0_15 k1_15 k2_15 k3_15 k5_15 "ValueError.__new__"))
    (hm_15 : mkB P K x15 fI_15 cda_15 "given" qual_15 vs_15 (HandSPX.refsVE bm_15) p2_15.endLine p4_15.line = true)
    {fI_16 cc_16 cda_16 : Addr} {m_16 qual_16 : Str} {j_16 : Nat} {p0_16 p1_16 p2_16 p3_16 p4_16 p5_16 q0_16 q1_16 q2_16 q3_16 a0_16 a1_16 : Pos} {kV_16 doc_16 pm_16 ct_16 oc_16 ccl_16 cl_16 : Value} {an_16 od_16 cdd_16 cld_16 : Option Addr} {osl_16 ccs_16 csl_16 : Array (Option Value)} {vs_16 : Array Value} {nm_16 q_16 N_16 bs_16 bm_16 sn_16 sub_16 ab_16 col_16 dd_16 k0_16 k1_16 k2_16 k3_16 k5_16}
    (ha_16 : findIn K (.ref x16) "__init__" = some (some (.ref fI_16)))
    (hb_16 : K.lookup fI_16 = some ⟨oc_16, od_16, .func (ksFn "__init__" qual_16 (EM.iPar "index" a0_16 a1_16) (EM.iBody "index" m_16 j_16 p0_16 p1_16 p2_16 p3_16 p4_16 p5_16 q0_16 q1_16 q2_16 q3_16) (EM.iScope "index") .none kV_16 doc_16 pm_16 an_16 (.ref cda_16) ct_16 cc_16), osl_16⟩)
    (hc_16 : K.lookup cda_16 = some ⟨ccl_16, cdd_16, .fields vs_16, ccs_16⟩) (hd_16 : K.lookup cc_16 = some ⟨cl_16, cld_16, .cell (some (.ref x16)), csl_16⟩)
    (he_16 : K.lookup x16 = some (excClassObj nm_16 q_16 x16 N_16 bs_16 bm_16 true sn_16 sub_16 ab_16 col_16 dd_16 k0_16 k1_16 k2_16 k3_16 k5_16 "ValueError.__new__"))
    (hm_16 : mkB P K x16 fI_16 cda_16 "index" qual_16 vs_16 (HandSPX.refsVE bm_16) p2_16.endLine p4_16.line = true)
    {fI_17 cc_17 cda_17 : Addr} {m_17 qual_17 : Str} {j_17 : Nat} {p0_17 p1_17 p2_17 p3_17 p4_17 p5_17 q0_17 q1_17 q2_17 q3_17 a0_17 a1_17 : Pos} {kV_17 doc_17 pm_17 ct_17 oc_17 ccl_17 cl_17 : Value} {an_17 od_17 cdd_17 cld_17 : Option Addr} {osl_17 ccs_17 csl_17 : Array (Option Value)} {vs_17 : Array Value} {nm_17 q_17 N_17 bs_17 bm_17 sn_17 sub_17 ab_17 col_17 dd_17 k0_17 k1_17 k2_17 k3_17 k5_17}
    (ha_17 : findIn K (.ref x17) "__init__" = some (some (.ref fI_17)))
    (hb_17 : K.lookup fI_17 = some ⟨oc_17, od_17, .func (ksFn "__init__" qual_17 (EM.iPar "index" a0_17 a1_17) (EM.iBody "index" m_17 j_17 p0_17 p1_17 p2_17 p3_17 p4_17 p5_17 q0_17 q1_17 q2_17 q3_17) (EM.iScope "index") .none kV_17 doc_17 pm_17 an_17 (.ref cda_17) ct_17 cc_17), osl_17⟩)
    (hc_17 : K.lookup cda_17 = some ⟨ccl_17, cdd_17, .fields vs_17, ccs_17⟩) (hd_17 : K.lookup cc_17 = some ⟨cl_17, cld_17, .cell (some (.ref x17)), csl_17⟩)
    (he_17 : K.lookup x17 = some (excClassObj nm_17 q_17 x17 N_17 bs_17 bm_17 true sn_17 sub_17 ab_17 col_17 dd_17 k0_17 k1_17 k2_17 k3_17 k5_17 "ValueError.__new__"))
    (hm_17 : mkB P K x17 fI_17 cda_17 "index" qual_17 vs_17 (HandSPX.refsVE bm_17) p2_17.endLine p4_17.line = true)
    {fI_18 cc_18 cda_18 : Addr} {m_18 qual_18 : Str} {j_18 : Nat} {p0_18 p1_18 p2_18 p3_18 p4_18 p5_18 q0_18 q1_18 q2_18 q3_18 a0_18 a1_18 : Pos} {kV_18 doc_18 pm_18 ct_18 oc_18 ccl_18 cl_18 : Value} {an_18 od_18 cdd_18 cld_18 : Option Addr} {osl_18 ccs_18 csl_18 : Array (Option Value)} {vs_18 : Array Value} {nm_18 q_18 N_18 bs_18 bm_18 sn_18 sub_18 ab_18 col_18 dd_18 k0_18 k1_18 k2_18 k3_18 k5_18}
    (ha_18 : findIn K (.ref x18) "__init__" = some (some (.ref fI_18)))
    (hb_18 : K.lookup fI_18 = some ⟨oc_18, od_18, .func (ksFn "__init__" qual_18 (EM.iPar "index" a0_18 a1_18) (EM.iBody "index" m_18 j_18 p0_18 p1_18 p2_18 p3_18 p4_18 p5_18 q0_18 q1_18 q2_18 q3_18) (EM.iScope "index") .none kV_18 doc_18 pm_18 an_18 (.ref cda_18) ct_18 cc_18), osl_18⟩)
    (hc_18 : K.lookup cda_18 = some ⟨ccl_18, cdd_18, .fields vs_18, ccs_18⟩) (hd_18 : K.lookup cc_18 = some ⟨cl_18, cld_18, .cell (some (.ref x18)), csl_18⟩)
    (he_18 : K.lookup x18 = some (excClassObj nm_18 q_18 x18 N_18 bs_18 bm_18 true sn_18 sub_18 ab_18 col_18 dd_18 k0_18 k1_18 k2_18 k3_18 k5_18 "ValueError.__new__"))
    (hm_18 : mkB P K x18 fI_18 cda_18 "index" qual_18 vs_18 (HandSPX.refsVE bm_18) p2_18.endLine p4_18.line = true)
    {fI_19 cc_19 cda_19 : Addr} {m_19 qual_19 : Str} {j_19 : Nat} {p0_19 p1_19 p2_19 p3_19 p4_19 p5_19 q0_19 q1_19 q2_19 q3_19 a0_19 a1_19 : Pos} {kV_19 doc_19 pm_19 ct_19 oc_19 ccl_19 cl_19 : Value} {an_19 od_19 cdd_19 cld_19 : Option Addr} {osl_19 ccs_19 csl_19 : Array (Option Value)} {vs_19 : Array Value} {nm_19 q_19 N_19 bs_19 bm_19 sn_19 sub_19 ab_19 col_19 dd_19 k0_19 k1_19 k2_19 k3_19 k5_19}
    (ha_19 : findIn K (.ref x19) "__init__" = some (some (.ref fI_19)))
    (hb_19 : K.lookup fI_19 = some ⟨oc_19, od_19, .func (ksFn "__init__" qual_19 (EM.iPar "index" a0_19 a1_19) (EM.iBody "index" m_19 j_19 p0_19 p1_19 p2_19 p3_19 p4_19 p5_19 q0_19 q1_19 q2_19 q3_19) (EM.iScope "index") .none kV_19 doc_19 pm_19 an_19 (.ref cda_19) ct_19 cc_19), osl_19⟩)
    (hc_19 : K.lookup cda_19 = some ⟨ccl_19, cdd_19, .fields vs_19, ccs_19⟩) (hd_19 : K.lookup cc_19 = some ⟨cl_19, cld_19, .cell (some (.ref x19)), csl_19⟩)
    (he_19 : K.lookup x19 = some (excClassObj nm_19 q_19 x19 N_19 bs_19 bm_19 true sn_19 sub_19 ab_19 col_19 dd_19 k0_19 k1_19 k2_19 k3_19 k5_19 "ValueError.__new__"))
    (hm_19 : mkB P K x19 fI_19 cda_19 "index" qual_19 vs_19 (HandSPX.refsVE bm_19) p2_19.endLine p4_19.line = true)
    {fI_20 cc_20 cda_20 : Addr} {m_20 qual_20 : Str} {j_20 : Nat} {p0_20 p1_20 p2_20 p3_20 p4_20 p5_20 q0_20 q1_20 q2_20 q3_20 a0_20 a1_20 : Pos} {kV_20 doc_20 pm_20 ct_20 oc_20 ccl_20 cl_20 : Value} {an_20 od_20 cdd_20 cld_20 : Option Addr} {osl_20 ccs_20 csl_20 : Array (Option Value)} {vs_20 : Array Value} {nm_20 q_20 N_20 bs_20 bm_20 sn_20 sub_20 ab_20 col_20 dd_20 k0_20 k1_20 k2_20 k3_20 k5_20}
    (ha_20 : findIn K (.ref x20) "__init__" = some (some (.ref fI_20)))
    (hb_20 : K.lookup fI_20 = some ⟨oc_20, od_20, .func (ksFn "__init__" qual_20 (EM.iPar "line" a0_20 a1_20) (EM.iBody "line" m_20 j_20 p0_20 p1_20 p2_20 p3_20 p4_20 p5_20 q0_20 q1_20 q2_20 q3_20) (EM.iScope "line") .none kV_20 doc_20 pm_20 an_20 (.ref cda_20) ct_20 cc_20), osl_20⟩)
    (hc_20 : K.lookup cda_20 = some ⟨ccl_20, cdd_20, .fields vs_20, ccs_20⟩) (hd_20 : K.lookup cc_20 = some ⟨cl_20, cld_20, .cell (some (.ref x20)), csl_20⟩)
    (he_20 : K.lookup x20 = some (excClassObj nm_20 q_20 x20 N_20 bs_20 bm_20 true sn_20 sub_20 ab_20 col_20 dd_20 k0_20 k1_20 k2_20 k3_20 k5_20 "ValueError.__new__"))
    (hm_20 : mkB P K x20 fI_20 cda_20 "line" qual_20 vs_20 (HandSPX.refsVE bm_20) p2_20.endLine p4_20.line = true)
    (hx_0 : excIn K x0 HandSPX.veTail "ValueError.__new__" = true)
    (hx_21 : excIn K x21 HandSPX.veTail "ValueError.__new__" = true)
    (hx_22 : excIn K x22 HandSPX.veTail "ValueError.__new__" = true)
    (hx_23 : excIn K x23 HandSPX.veTail "ValueError.__new__" = true)
    : ∃ fd : FuncData, (∀ (s : Shared) (v : Value), BindsTo s fd ⟨[v], []⟩ [("script", v)]) ∧ ∀ base : Heap, K.In base → base.Ns mainGlobals mg → DG.GOk P w K mg base 12 fa fd ["script"] (spT 1 K T_law) := by
  have e := hfa.symm.trans (mg_of inK G a16)
  cases e
  have S := some_of sb
  have CF := clsF_all cb
  have HW := cls_mk S (mg_of inK G xn0) (mg_of inK G xn1) (mg_of inK G xn2) (mg_of inK G xn3) (mg_of inK G xn4) (mg_of inK G xn5) (mg_of inK G xn6) (mg_of inK G xn7) (mg_of inK G xn8) (mg_of inK G xn9) (mg_of inK G xn10) (mg_of inK G xn11) (mg_of inK G xn12) (mg_of inK G xn13) (mg_of inK G xn14) (mg_of inK G xn15) (mg_of inK G xn16) (mg_of inK G xn17) (mg_of inK G xn18) (mg_of inK G xn19) (mg_of inK G xn20) (mg_of inK G xn21) (mg_of inK G xn22) (mg_of inK G xn23) (mkc_of S (CF 1 (by decide)) (by first | exact .inl rfl | exact .inr (.inl rfl) | exact .inr (.inr rfl)) ha_1 hb_1 hc_1 hd_1 he_1 hm_1) (mkc_of S (CF 2 (by decide)) (by first | exact .inl rfl | exact .inr (.inl rfl) | exact .inr (.inr rfl)) ha_2 hb_2 hc_2 hd_2 he_2 hm_2) (mkc_of S (CF 3 (by decide)) (by first | exact .inl rfl | exact .inr (.inl rfl) | exact .inr (.inr rfl)) ha_3 hb_3 hc_3 hd_3 he_3 hm_3) (mkc_of S (CF 4 (by decide)) (by first | exact .inl rfl | exact .inr (.inl rfl) | exact .inr (.inr rfl)) ha_4 hb_4 hc_4 hd_4 he_4 hm_4) (mkc_of S (CF 5 (by decide)) (by first | exact .inl rfl | exact .inr (.inl rfl) | exact .inr (.inr rfl)) ha_5 hb_5 hc_5 hd_5 he_5 hm_5) (mkc_of S (CF 6 (by decide)) (by first | exact .inl rfl | exact .inr (.inl rfl) | exact .inr (.inr rfl)) ha_6 hb_6 hc_6 hd_6 he_6 hm_6) (mkc_of S (CF 7 (by decide)) (by first | exact .inl rfl | exact .inr (.inl rfl) | exact .inr (.inr rfl)) ha_7 hb_7 hc_7 hd_7 he_7 hm_7) (mkc_of S (CF 8 (by decide)) (by first | exact .inl rfl | exact .inr (.inl rfl) | exact .inr (.inr rfl)) ha_8 hb_8 hc_8 hd_8 he_8 hm_8) (mkc_of S (CF 9 (by decide)) (by first | exact .inl rfl | exact .inr (.inl rfl) | exact .inr (.inr rfl)) ha_9 hb_9 hc_9 hd_9 he_9 hm_9) (mkc_of S (CF 10 (by decide)) (by first | exact .inl rfl | exact .inr (.inl rfl) | exact .inr (.inr rfl)) ha_10 hb_10 hc_10 hd_10 he_10 hm_10) (mkc_of S (CF 11 (by decide)) (by first | exact .inl rfl | exact .inr (.inl rfl) | exact .inr (.inr rfl)) ha_11 hb_11 hc_11 hd_11 he_11 hm_11) (mkc_of S (CF 12 (by decide)) (by first | exact .inl rfl | exact .inr (.inl rfl) | exact .inr (.inr rfl)) ha_12 hb_12 hc_12 hd_12 he_12 hm_12) (mkc_of S (CF 13 (by decide)) (by first | exact .inl rfl | exact .inr (.inl rfl) | exact .inr (.inr rfl)) ha_13 hb_13 hc_13 hd_13 he_13 hm_13) (mkc_of S (CF 14 (by decide)) (by first | exact .inl rfl | exact .inr (.inl rfl) | exact .inr (.inr rfl)) ha_14 hb_14 hc_14 hd_14 he_14 hm_14) (mkc_of S (CF 15 (by decide)) (by first | exact .inl rfl | exact .inr (.inl rfl) | exact .inr (.inr rfl)) ha_15 hb_15 hc_15 hd_15 he_15 hm_15) (mkc_of S (CF 16 (by decide)) (by first | exact .inl rfl | exact .inr (.inl rfl) | exact .inr (.inr rfl)) ha_16 hb_16 hc_16 hd_16 he_16 hm_16) (mkc_of S (CF 17 (by decide)) (by first | exact .inl rfl | exact .inr (.inl rfl) | exact .inr (.inr rfl)) ha_17 hb_17 hc_17 hd_17 he_17 hm_17) (mkc_of S (CF 18 (by decide)) (by first | exact .inl rfl | exact .inr (.inl rfl) | exact .inr (.inr rfl)) ha_18 hb_18 hc_18 hd_18 he_18 hm_18) (mkc_of S (CF 19 (by decide)) (by first | exact .inl rfl | exact .inr (.inl rfl) | exact .inr (.inr rfl)) ha_19 hb_19 hc_19 hd_19 he_19 hm_19) (mkc_of S (CF 20 (by decide)) (by first | exact .inl rfl | exact .inr (.inl rfl) | exact .inr (.inr rfl)) ha_20 hb_20 hc_20 hd_20 he_20 hm_20) hx_0 hx_21 hx_22 hx_23 CF pb
  have t__law_draw : Top K mg "_law_draw" s__law_draw ["well", "few"] := top_mk inK G (fun _ _ _ _ _ _ us hl => match us, hl with | [_, _], _ => rfl) a0 l0 c0 k0
  have t__law_is_strange : Top K mg "_law_is_strange" s__law_is_strange ["fault"] := top_mk inK G (fun _ _ _ _ _ _ us hl => match us, hl with | [_], _ => rfl) a1 l1 c1 k1
  have t__law_kinds : Top K mg "_law_kinds" s__law_kinds ["fault"] := top_mk inK G (fun _ _ _ _ _ _ us hl => match us, hl with | [_], _ => rfl) a2 l2 c2 k2
  have t__law_well : Top K mg "_law_well" s__law_well ["script", "lap"] := top_mk inK G (fun _ _ _ _ _ _ us hl => match us, hl with | [_, _], _ => rfl) a3 l3 c3 k3
  have t__law_are_kinds : Top K mg "_law_are_kinds" s__law_are_kinds ["faults", "first"] := top_mk inK G (fun _ _ _ _ _ _ us hl => match us, hl with | [_, _], _ => rfl) a4 l4 c4 k4
  have t__law_bare : Top K mg "_law_bare" s__law_bare ["way"] := top_mk inK G (fun _ _ _ _ _ _ us hl => match us, hl with | [_], _ => rfl) a5 l5 c5 k5
  have t__law_by_name : Top K mg "_law_by_name" s__law_by_name ["thing"] := top_mk inK G (fun _ _ _ _ _ _ us hl => match us, hl with | [_], _ => rfl) a6 l6 c6 k6
  have t__law_by_place : Top K mg "_law_by_place" s__law_by_place ["thing"] := top_mk inK G (fun _ _ _ _ _ _ us hl => match us, hl with | [_], _ => rfl) a7 l7 c7 k7
  have t__law_one : Top K mg "_law_one" s__law_one ["well", "some"] := top_mk inK G (fun _ _ _ _ _ _ us hl => match us, hl with | [_, _], _ => rfl) a8 l8 c8 k8
  have t__law_throw : Top K mg "_law_throw" s__law_throw ["way", "thing"] := top_mk inK G (fun _ _ _ _ _ _ us hl => match us, hl with | [_, _], _ => rfl) a9 l9 c9 k9
  have t__law_based : Top K mg "_law_based" s__law_based ["way", "thing"] := top_mk inK G (fun _ _ _ _ _ _ us hl => match us, hl with | [_, _], _ => rfl) a10 l10 c10 k10
  have t__law_caught : Top K mg "_law_caught" s__law_caught ["way", "thing"] := top_mk inK G (fun _ _ _ _ _ _ us hl => match us, hl with | [_, _], _ => rfl) a11 l11 c11 k11
  have t__law_odd : Top K mg "_law_odd" s__law_odd ["well"] := top_mk inK G (fun _ _ _ _ _ _ us hl => match us, hl with | [_], _ => rfl) a12 l12 c12 k12
  have t__law_bent : Top K mg "_law_bent" s__law_bent ["well", "thing"] := top_mk inK G (fun _ _ _ _ _ _ us hl => match us, hl with | [_, _], _ => rfl) a13 l13 c13 k13
  have t__law_thing : Top K mg "_law_thing" s__law_thing ["well"] := top_mk inK G (fun _ _ _ _ _ _ us hl => match us, hl with | [_], _ => rfl) a14 l14 c14 k14
  have t__law_right : Top K mg "_law_right" s__law_right ["well"] := top_mk inK G (fun _ _ _ _ _ _ us hl => match us, hl with | [_], _ => rfl) a15 l15 c15 k15
  have F : Fun K "law" "law" s_law fa (fnOf "law" "law" (defArgs s_law) (defBody s_law) (defScope s_law) .none kV16 dc16 pm16 an16 cd16 ct16) := fun_mk (st := s_law) l16 c16 k16
  have m_ArithmeticError : mg "ArithmeticError" = none := mg_none_of inK G z0
  have m_AttributeError : mg "AttributeError" = none := mg_none_of inK G z1
  have m_Exception : mg "Exception" = none := mg_none_of inK G z2
  have m_IndexError : mg "IndexError" = none := mg_none_of inK G z3
  have m_KeyError : mg "KeyError" = none := mg_none_of inK G z4
  have m_LookupError : mg "LookupError" = none := mg_none_of inK G z5
  have m_NotImplementedError : mg "NotImplementedError" = none := mg_none_of inK G z6
  have m_OverflowError : mg "OverflowError" = none := mg_none_of inK G z7
  have m_RuntimeError : mg "RuntimeError" = none := mg_none_of inK G z8
  have m_TypeError : mg "TypeError" = none := mg_none_of inK G z9
  have m_ValueError : mg "ValueError" = none := mg_none_of inK G z10
  have m_ZeroDivisionError : mg "ZeroDivisionError" = none := mg_none_of inK G z11
  have m_abs : mg "abs" = none := mg_none_of inK G z12
  have m_all : mg "all" = none := mg_none_of inK G z13
  have m_divmod : mg "divmod" = none := mg_none_of inK G z14
  have m_int : mg "int" = none := mg_none_of inK G z15
  have m_isinstance : mg "isinstance" = none := mg_none_of inK G z16
  have m_len : mg "len" = none := mg_none_of inK G z17
  have m_list : mg "list" = none := mg_none_of inK G z18
  have m_max : mg "max" = none := mg_none_of inK G z19
  have m_min : mg "min" = none := mg_none_of inK G z20
  have m_range : mg "range" = none := mg_none_of inK G z21
  have m_repr : mg "repr" = none := mg_none_of inK G z22
  have m_str : mg "str" = none := mg_none_of inK G z23
  have m_tuple : mg "tuple" = none := mg_none_of inK G z24
  refine ⟨fnOf "law" "law" (defArgs s_law) (defBody s_law) (defScope s_law) .none kV16 dc16 pm16 an16 cd16 ct16, fun s v => .of_eq ?_, fun base _ _ => ?_⟩
  · rfl
  · exact law_ok F HW t__law_draw t__law_is_strange t__law_kinds t__law_well t__law_are_kinds t__law_bare t__law_by_name t__law_by_place t__law_one t__law_throw t__law_based t__law_caught t__law_odd t__law_bent t__law_thing t__law_right m_ArithmeticError m_AttributeError m_Exception m_IndexError m_KeyError m_LookupError m_NotImplementedError m_OverflowError m_RuntimeError m_TypeError m_ValueError m_ZeroDivisionError m_abs m_all m_divmod m_int m_isinstance m_len m_list m_max m_min m_range m_repr m_str m_tuple
end K1

/-! part U13 -/
set_option Elab.async false
set_option linter.all false
set_option maxRecDepth 100000
open PySem PySem.W PyProof.Rows
set_option maxHeartbeats 0 in
theorem PySem.Challenge.cw_persuasion_k01_errors_each_of_its_own_holds : PySem.Challenge.rw_persuasion_k01_errors_each_of_its_own.Holds := by
  w_on; o_law; k_head; (case hw => w_witness2)
  k_fill
  refine DE.go_walk (l := PySem.Challenge.rw_persuasion_k01_errors_each_of_its_own) (n := 63) (k := 12) (x := "script") (sp := fun K => DV.spT 1 K K1.T_law) rfl (by decide) rfl ⟨rfl, by decide, by decide⟩ (fun w h Y => PySem.W.kIn_of Y) ?F (fun K T a ns hl ho hs => K1.law_starts K T a ns hl ho hs)
  case F =>
    intro w mg fa h KX G hmg
    refine' K1.all_mk KX G hmg ?a0 ?l0 ?c0 ?k0 ?a1 ?l1 ?c1 ?k1 ?a2 ?l2 ?c2 ?k2 ?a3 ?l3 ?c3 ?k3 ?a4 ?l4 ?c4 ?k4 ?a5 ?l5 ?c5 ?k5 ?a6 ?l6 ?c6 ?k6 ?a7 ?l7 ?c7 ?k7 ?a8 ?l8 ?c8 ?k8 ?a9 ?l9 ?c9 ?k9 ?a10 ?l10 ?c10 ?k10 ?a11 ?l11 ?c11 ?k11 ?a12 ?l12 ?c12 ?k12 ?a13 ?l13 ?c13 ?k13 ?a14 ?l14 ?c14 ?k14 ?a15 ?l15 ?c15 ?k15 ?a16 ?l16 ?c16 ?k16 ?z0 ?z1 ?z2 ?z3 ?z4 ?z5 ?z6 ?z7 ?z8 ?z9 ?z10 ?z11 ?z12 ?z13 ?z14 ?z15 ?z16 ?z17 ?z18 ?z19 ?z20 ?z21 ?z22 ?z23 ?z24 ?xn0 ?xn1 ?xn2 ?xn3 ?xn4 ?xn5 ?xn6 ?xn7 ?xn8 ?xn9 ?xn10 ?xn11 ?xn12 ?xn13 ?xn14 ?xn15 ?xn16 ?xn17 ?xn18 ?xn19 ?xn20 ?xn21 ?xn22 ?xn23 ?sb ?cb ?pb ?ha_1 ?hb_1 ?hc_1 ?hd_1 ?he_1 ?hm_1 ?ha_2 ?hb_2 ?hc_2 ?hd_2 ?he_2 ?hm_2 ?ha_3 ?hb_3 ?hc_3 ?hd_3 ?he_3 ?hm_3 ?ha_4 ?hb_4 ?hc_4 ?hd_4 ?he_4 ?hm_4 ?ha_5 ?hb_5 ?hc_5 ?hd_5 ?he_5 ?hm_5 ?ha_6 ?hb_6 ?hc_6 ?hd_6 ?he_6 ?hm_6 ?ha_7 ?hb_7 ?hc_7 ?hd_7 ?he_7 ?hm_7 ?ha_8 ?hb_8 ?hc_8 ?hd_8 ?he_8 ?hm_8 ?ha_9 ?hb_9 ?hc_9 ?hd_9 ?he_9 ?hm_9 ?ha_10 ?hb_10 ?hc_10 ?hd_10 ?he_10 ?hm_10 ?ha_11 ?hb_11 ?hc_11 ?hd_11 ?he_11 ?hm_11 ?ha_12 ?hb_12 ?hc_12 ?hd_12 ?he_12 ?hm_12 ?ha_13 ?hb_13 ?hc_13 ?hd_13 ?he_13 ?hm_13 ?ha_14 ?hb_14 ?hc_14 ?hd_14 ?he_14 ?hm_14 ?ha_15 ?hb_15 ?hc_15 ?hd_15 ?he_15 ?hm_15 ?ha_16 ?hb_16 ?hc_16 ?hd_16 ?he_16 ?hm_16 ?ha_17 ?hb_17 ?hc_17 ?hd_17 ?he_17 ?hm_17 ?ha_18 ?hb_18 ?hc_18 ?hd_18 ?he_18 ?hm_18 ?ha_19 ?hb_19 ?hc_19 ?hd_19 ?he_19 ?hm_19 ?ha_20 ?hb_20 ?hc_20 ?hd_20 ?he_20 ?hm_20 ?hx_0 ?hx_21 ?hx_22 ?hx_23
    (case a0 => k_is)
    (case l0 => k_is)
    (case c0 => k_is)
    (case k0 => k_is)
    (case a1 => k_is)
    (case l1 => k_is)
    (case c1 => k_is)
    (case k1 => k_is)
    (case a2 => k_is)
    (case l2 => k_is)
    (case c2 => k_is)
    (case k2 => k_is)
    (case a3 => k_is)
    (case l3 => k_is)
    (case c3 => k_is)
    (case k3 => k_is)
    (case a4 => k_is)
    (case l4 => k_is)
    (case c4 => k_is)
    (case k4 => k_is)
    (case a5 => k_is)
    (case l5 => k_is)
    (case c5 => k_is)
    (case k5 => k_is)
    (case a6 => k_is)
    (case l6 => k_is)
    (case c6 => k_is)
    (case k6 => k_is)
    (case a7 => k_is)
    (case l7 => k_is)
    (case c7 => k_is)
    (case k7 => k_is)
    (case a8 => k_is)
    (case l8 => k_is)
    (case c8 => k_is)
    (case k8 => k_is)
    (case a9 => k_is)
    (case l9 => k_is)
    (case c9 => k_is)
    (case k9 => k_is)
    (case a10 => k_is)
    (case l10 => k_is)
    (case c10 => k_is)
    (case k10 => k_is)
    (case a11 => k_is)
    (case l11 => k_is)
    (case c11 => k_is)
    (case k11 => k_is)
    (case a12 => k_is)
    (case l12 => k_is)
    (case c12 => k_is)
    (case k12 => k_is)
    (case a13 => k_is)
    (case l13 => k_is)
    (case c13 => k_is)
    (case k13 => k_is)
    (case a14 => k_is)
    (case l14 => k_is)
    (case c14 => k_is)
    (case k14 => k_is)
    (case a15 => k_is)
    (case l15 => k_is)
    (case c15 => k_is)
    (case k15 => k_is)
    (case a16 => k_is)
    (case l16 => k_is)
    (case c16 => k_is)
    (case k16 => k_is)
    (case z0 => k_is)
    (case z1 => k_is)
    (case z2 => k_is)
    (case z3 => k_is)
    (case z4 => k_is)
    (case z5 => k_is)
    (case z6 => k_is)
    (case z7 => k_is)
    (case z8 => k_is)
    (case z9 => k_is)
    (case z10 => k_is)
    (case z11 => k_is)
    (case z12 => k_is)
    (case z13 => k_is)
    (case z14 => k_is)
    (case z15 => k_is)
    (case z16 => k_is)
    (case z17 => k_is)
    (case z18 => k_is)
    (case z19 => k_is)
    (case z20 => k_is)
    (case z21 => k_is)
    (case z22 => k_is)
    (case z23 => k_is)
    (case z24 => k_is)
    (case xn0 => k_is)
    (case xn1 => k_is)
    (case xn2 => k_is)
    (case xn3 => k_is)
    (case xn4 => k_is)
    (case xn5 => k_is)
    (case xn6 => k_is)
    (case xn7 => k_is)
    (case xn8 => k_is)
    (case xn9 => k_is)
    (case xn10 => k_is)
    (case xn11 => k_is)
    (case xn12 => k_is)
    (case xn13 => k_is)
    (case xn14 => k_is)
    (case xn15 => k_is)
    (case xn16 => k_is)
    (case xn17 => k_is)
    (case xn18 => k_is)
    (case xn19 => k_is)
    (case xn20 => k_is)
    (case xn21 => k_is)
    (case xn22 => k_is)
    (case xn23 => k_is)
    (case sb => kernel_rfl)
    (case cb => kernel_rfl)
    (case pb => kernel_rfl)
    (case ha_1 => k_is)
    (case hb_1 => k_is)
    (case hc_1 => k_is)
    (case hd_1 => k_is)
    (case he_1 => k_is)
    (case hm_1 => kernel_rfl)
    (case ha_2 => k_is)
    (case hb_2 => k_is)
    (case hc_2 => k_is)
    (case hd_2 => k_is)
    (case he_2 => k_is)
    (case hm_2 => kernel_rfl)
    (case ha_3 => k_is)
    (case hb_3 => k_is)
    (case hc_3 => k_is)
    (case hd_3 => k_is)
    (case he_3 => k_is)
    (case hm_3 => kernel_rfl)
    (case ha_4 => k_is)
    (case hb_4 => k_is)
    (case hc_4 => k_is)
    (case hd_4 => k_is)
    (case he_4 => k_is)
    (case hm_4 => kernel_rfl)
    (case ha_5 => k_is)
    (case hb_5 => k_is)
    (case hc_5 => k_is)
    (case hd_5 => k_is)
    (case he_5 => k_is)
    (case hm_5 => kernel_rfl)
    (case ha_6 => k_is)
    (case hb_6 => k_is)
    (case hc_6 => k_is)
    (case hd_6 => k_is)
    (case he_6 => k_is)
    (case hm_6 => kernel_rfl)
    (case ha_7 => k_is)
    (case hb_7 => k_is)
    (case hc_7 => k_is)
    (case hd_7 => k_is)
    (case he_7 => k_is)
    (case hm_7 => kernel_rfl)
    (case ha_8 => k_is)
    (case hb_8 => k_is)
    (case hc_8 => k_is)
    (case hd_8 => k_is)
    (case he_8 => k_is)
    (case hm_8 => kernel_rfl)
    (case ha_9 => k_is)
    (case hb_9 => k_is)
    (case hc_9 => k_is)
    (case hd_9 => k_is)
    (case he_9 => k_is)
    (case hm_9 => kernel_rfl)
    (case ha_10 => k_is)
    (case hb_10 => k_is)
    (case hc_10 => k_is)
    (case hd_10 => k_is)
    (case he_10 => k_is)
    (case hm_10 => kernel_rfl)
    (case ha_11 => k_is)
    (case hb_11 => k_is)
    (case hc_11 => k_is)
    (case hd_11 => k_is)
    (case he_11 => k_is)
    (case hm_11 => kernel_rfl)
    (case ha_12 => k_is)
    (case hb_12 => k_is)
    (case hc_12 => k_is)
    (case hd_12 => k_is)
    (case he_12 => k_is)
    (case hm_12 => kernel_rfl)
    (case ha_13 => k_is)
    (case hb_13 => k_is)
    (case hc_13 => k_is)
    (case hd_13 => k_is)
    (case he_13 => k_is)
    (case hm_13 => kernel_rfl)
    (case ha_14 => k_is)
    (case hb_14 => k_is)
    (case hc_14 => k_is)
    (case hd_14 => k_is)
    (case he_14 => k_is)
    (case hm_14 => kernel_rfl)
    (case ha_15 => k_is)
    (case hb_15 => k_is)
    (case hc_15 => k_is)
    (case hd_15 => k_is)
    (case he_15 => k_is)
    (case hm_15 => kernel_rfl)
    (case ha_16 => k_is)
    (case hb_16 => k_is)
    (case hc_16 => k_is)
    (case hd_16 => k_is)
    (case he_16 => k_is)
    (case hm_16 => kernel_rfl)
    (case ha_17 => k_is)
    (case hb_17 => k_is)
    (case hc_17 => k_is)
    (case hd_17 => k_is)
    (case he_17 => k_is)
    (case hm_17 => kernel_rfl)
    (case ha_18 => k_is)
    (case hb_18 => k_is)
    (case hc_18 => k_is)
    (case hd_18 => k_is)
    (case he_18 => k_is)
    (case hm_18 => kernel_rfl)
    (case ha_19 => k_is)
    (case hb_19 => k_is)
    (case hc_19 => k_is)
    (case hd_19 => k_is)
    (case he_19 => k_is)
    (case hm_19 => kernel_rfl)
    (case ha_20 => k_is)
    (case hb_20 => k_is)
    (case hc_20 => k_is)
    (case hd_20 => k_is)
    (case he_20 => k_is)
    (case hm_20 => kernel_rfl)
    (case hx_0 => kernel_rfl)
    (case hx_21 => kernel_rfl)
    (case hx_22 => kernel_rfl)
    (case hx_23 => kernel_rfl)


import PyProof.Rows.All
import Wide.All
import OpenK.AllK
import Wide.FinOn
import HandS.Base
import HandS.Call
import HandS.Conv
import HandS.Deep
import HandS.Exc
import HandS.ExcField
import HandS.ExcInit
import HandS.ExcIs
import HandS.ExcValue
import HandS.ForMost
import HandS.Gcd
import HandS.IsInst
import HandS.More
import HandS.RaiseMore
import HandS.Star
import HandS.Style
import HandS.TryMany
import HandS.TupAny
import HandS.TupMul
import HandS.Walk
import HandS.Wide
import HandS.WideBits
import HandS.WordsExc
import HandS.Zip
import KE.GoesMore
import KE.KDictZip
import KE.KExcIs
import KE.KExcSuper
import KE.KRevSl
import PyProof.AutoIntG7
import PyProof.FactsAll.bool
import PyProof.FactsAll.int
import PyProof.ReprLen
import PyProof.ReprRoads
import PyProof.Rows.FloatCmp
import PyProof.Rows.RegStrFacts
import PyProof.Rows.SeqMore
import PyProof.TwoTypes
import PyProof.TwoTypesSub
import PySem.Challenge.RW_persuasion_k02_settings_beliefs_splits_e
/-! part EM -/
set_option Elab.async false
set_option linter.all false
set_option maxRecDepth 100000
set_option maxHeartbeats 2000000
set_option autoImplicit false
/-! own errors: a class over ValueError (through classes of one's own) whose __init__ is: super().__init__('..'); self.f = f -/
namespace EM
open PySem PySem.W PySem.Calls PyProof.Rows PySem.Spec
/-! ### type.__call__ with keywords, too -/
section
variable {M : Model} {A : Around} {E : Value → Shared → Prop} {h : Heap} {g : Array GenState} {d : Drawn} {t : Nat} {os : OsState}
variable {nm q : Str} {C N : Addr} {bs bm bmB : List Value} {hdct : Bool} {sn : List Str} {sub : List Value} {ab : Bool} {col : Option Bool} {dd : Option Addr} {k0 k1 k2 k3 k5 : Option Value} {B newId initId : String}
theorem chk_new (F : ExcBaseFacts B newId initId bmB) (hT : ∀ Y : String, bm.contains (.type Y) = bmB.contains (.type Y)) {us : List Value} {kw : List (Str × Value)} {Q : Unit → Shared → Prop}
    (hC : h.get? C = some (excClassObj nm q C N bs bm hdct sn sub ab col dd k0 k1 k2 k3 k5 newId)) (hq : Q () ⟨h, g, d, t, os⟩) : wpAny M A (checkBuiltinCall newId ⟨.ref C :: us, kw⟩) Q E ⟨h, g, d, t, os⟩ := by
  have c1 : (Value.ref C :: bm).contains (.type B) = true := by rw [List.contains_cons, hT, F.hasB]; exact Bool.or_true _
  have c2 := F.noStar
  simp only [checkBuiltinCall, F.newKind, F.newSplit, F.newRow]
  repeat (first
    | refine wpAny_loadPart_at hC ?_
    | (refine wpAny_isSubtype_exc hC ?_; rw [c1])
    | refine wpAny_staticBase_exc hC ?_
    | refine wpAny_madeBy_exc hC ?_
    | simp only [bne_self_eq_false, Bool.false_eq_true, if_false]
    | wp_step)
  all_goals exact hq
theorem chk_call {us : List Value} {kw : List (Str × Value)} {Q : Unit → Shared → Prop} (hC : h.get? C = some (excClassObj nm q C N bs bm hdct sn sub ab col dd k0 k1 k2 k3 k5 newId))
    (hq : Q () ⟨h, g, d, t, os⟩) : wpAny M A (checkBuiltinCall "type.__call__" ⟨.ref C :: us, kw⟩) Q E ⟨h, g, d, t, os⟩ := by
  have c1 := tc_sub
  have c2 : (⟨h, g, d, t, os⟩ : Shared).TypeIs (.ref C) "type" := ⟨_, hC, rfl⟩
  simp only [checkBuiltinCall, tc_kind, tc_split]
  repeat (any_goals (first
    | assumption
    | with_reducible refine wpAny_loadPart_at hC ?_
    | with_reducible refine wpAny_onRaise ?_
    | with_reducible refine wpAny_map ?_
    | wp_step))
end
section
variable {prog : Program} {w : World} {A : Around} {E : Value → Shared → Prop} {R : Result → Shared → Prop} {h : Heap} {g : Array GenState} {d : Drawn} {t : Nat} {os : OsState}
variable {nm q : Str} {C N : Addr} {bs bm bmB : List Value} {hdct : Bool} {sn : List Str} {sub : List Value} {ab : Bool} {col : Option Bool} {dd : Option Addr} {k0 k1 k2 k3 k5 : Option Value} {B newId initId : String}
abbrev two (h : Heap) (us : List Value) (C : Addr) : Heap := (h.push (kdv_tup us)).push (HandSPX.excO C h.objs.size)
theorem new_kw (F : ExcBaseFacts B newId initId bmB) (hT : ∀ Y : String, bm.contains (.type Y) = bmB.contains (.type Y)) {us : List Value} {kw : List (Str × Value)}
    (hC : h.get? C = some (excClassObj nm q C N bs bm hdct sn sub ab col dd k0 k1 k2 k3 k5 newId)) (hus : us.length ≤ sizeLine)
    (hq : R (.ok (.ret (.ref (h.objs.size + 1)))) ⟨two h us C, g, d, t, os⟩) : codeAny (model prog w) A (.builtin newId ⟨.ref C :: us, kw⟩) R ⟨h, g, d, t, os⟩ := by
  have c0 := F.ends
  have c1 : (Value.ref C :: bm).contains (.type B) = true := by rw [List.contains_cons, hT, F.hasB]; exact Bool.or_true _
  have c2 : (Value.ref C :: bm).contains (.type "AttributeError") = false := by rw [List.contains_cons, hT, F.noAttr]; exact Bool.or_false _
  have c3 : (Value.ref C :: bm).contains (.type "NameError") = false := by rw [List.contains_cons, hT, F.noName]; exact Bool.or_false _
  refine codeAny_builtinAt F.entry ?_
  unfold Builtin.«BaseException.__new__»
  refine _root_.PySem.wpAt_bind ?_
  show _root_.PySem.wpAt _ _ _ (stack >>= _) _ _ _
  refine _root_.PySem.wpAt_bind (_root_.PySem.wpAt_stack fun p below => _root_.PySem.wpAt_of_wpAny ?_)
  wp_walk
  refine _root_.PySem.wpAt_of_wpAny ?_
  rw [F.owner]
  repeat (first
    | with_reducible refine wpAny_madeHere_exc F.canon hC ?_
    | with_reducible refine wpAny_loadPart_at hC ?_
    | (with_reducible refine wpAny_isSubtype_exc hC ?_; first | rw [c1] | rw [c2] | rw [c3])
    | wp_step)
  show R _ _
  rw [Heap.size_push]
  exact hq
theorem typ_kw (F : ExcBaseFacts B newId initId bmB) (hT : ∀ Y : String, bm.contains (.type Y) = bmB.contains (.type Y)) {us : List Value} {kw : List (Str × Value)} {fI : Addr} {Q : PySem.Fin → Shared → Prop}
    (hC : h.get? C = some (excClassObj nm q C N bs bm hdct sn sub ab col dd k0 k1 k2 k3 k5 newId)) (hi : Looks (model prog w) h (typeLookup (.ref C) "__init__") (some (.ref fI)))
    (hb : ∀ self, Looks (model prog w) h (bindSpecial (.ref fI) self) (.ref fI, [self])) (hus : us.length ≤ sizeLine)
    (hq : codeAny (model prog w) A (.call (.ref fI) ⟨.ref (h.objs.size + 1) :: us, kw⟩)
      (fun r s' => match r with | .ok (.ret v) => v = .none ∧ Q (.done (.ret (.ref (h.objs.size + 1)))) s' | .ok _ => False | .error e => E e s') ⟨two h us C, g, d, t, os⟩) :
    wpAny (model prog w) A (Builtin.«type.__call__» ⟨.ref C :: us, kw⟩) Q E ⟨h, g, d, t, os⟩ := by
  repeat (first
    | with_reducible refine wpAny_loadPart_at hC ?_
    | with_reducible refine wpAny_madeBy_exc hC ?_
    | wp_step)
  refine codeAny_call_builtin_code (Code.quiet_builtin _ F.quiet) (chk_new F hT hC ?_)
  refine new_kw F hT hC hus ?_
  show wpAny _ _ _ _ _ _
  have up : ∀ b o, h.get? b = some o → (two h us C).get? b = some o := fun b o e => Heap.get?_push_of_some _ (Heap.get?_push_of_some _ e)
  have e1 := up _ _ hC
  have e2 : (two h us C).get? (h.objs.size + 1) = some (HandSPX.excO C h.objs.size) := by unfold two; heap_get
  have e3 : (Value.ref C :: bm).contains (.ref C) = true := by simp
  have e4 := hi.keeps up
  have e5 := (hb (.ref (h.objs.size + 1))).keeps up
  unfold isInstance
  repeat (first
    | with_reducible refine wpAny_loadPart_at e2 ?_
    | (with_reducible refine wpAny_isSubtype_exc e1 ?_; rw [e3])
    | wp_step)
  show wpAny _ _ (typeLookup (.ref C) _) _ _ _
  refine e4.at ?_
  refine wpAny_holding (wpAny_bind (e5.at ?_))
  refine wpAny_bind (wpAny_call (codeAny_mono hq fun r s' z => ?_))
  rcases r with e | (v | _ | _ | _) <;> first | exact z | exact z.elim | skip
  obtain ⟨rfl, z⟩ := z
  first
    | exact wpAny_pure (wpAny_pure z)
    | (wp_walk; exact z)
theorem call_kw (F : ExcBaseFacts B newId initId bmB) (hT : ∀ Y : String, bm.contains (.type Y) = bmB.contains (.type Y)) {us : List Value} {kw : List (Str × Value)} {fI : Addr}
    (hC : h.get? C = some (excClassObj nm q C N bs bm hdct sn sub ab col dd k0 k1 k2 k3 k5 newId)) (hi : Looks (model prog w) h (typeLookup (.ref C) "__init__") (some (.ref fI)))
    (hb : ∀ self, Looks (model prog w) h (bindSpecial (.ref fI) self) (.ref fI, [self])) (hus : us.length ≤ sizeLine)
    (hq : codeAny (model prog w) (A.under (.builtin "type.__call__" ⟨.ref C :: us, kw⟩)) (.call (.ref fI) ⟨.ref (h.objs.size + 1) :: us, kw⟩) (InitBack (h.objs.size + 1) R) ⟨two h us C, g, d, t, os⟩) :
    codeAny (model prog w) A (.call (.ref C) ⟨us, kw⟩) R ⟨h, g, d, t, os⟩ := by
  have c1 := tc_lookup
  have c2 := tc_bind (.ref C)
  have c3 : (⟨h, g, d, t, os⟩ : Shared).TypeIs (.ref C) "type" := ⟨_, hC, rfl⟩
  refine codeAny_of_tree ?_
  show wpAny _ _ (callAny (.ref C) _) _ _ _
  repeat (any_goals (first | assumption | with_reducible refine wpAny_loadPart_at hC ?_ | wp_step))
  refine ⟨rfl, ?_⟩
  refine codeAny_call_builtin_at (Code.quiet_builtin _ (by decide +kernel)) entry_typeCall ?_
  refine chk_call hC (typ_kw F hT hC hi hb hus ?_)
  refine codeAny_mono hq fun r s' z => ?_
  rcases r with e | (v | _ | _ | _) <;> exact z
end
end EM

/-! part EM2 -/
set_option Elab.async false
set_option linter.all false
set_option maxRecDepth 100000
set_option maxHeartbeats 2000000
set_option autoImplicit false
namespace EM
open PySem PySem.W PySem.Calls PyProof.Rows PySem.Spec
abbrev iBody (f m : Str) (j : Nat) (p0 p1 p2 p3 p4 p5 q0 q1 q2 q3 : Pos) : List Stmt :=
  [.Expr (.Call (.Attribute (.Call (.Name "super" p0) [] [] p1) "__init__" p2) [.Constant (.str m) j p3] [] p4) p5, .Assign [.Attribute (.Name "self" q0) f q1] (.Name f q2) q3]
abbrev iScope (f : Str) : Scope := { kind := .function, names := [("self", .local), (f, .local), ("__class__", .free), ("super", .globalImplicit)], isGenerator := false, isCoroutine := false, more := [] }
abbrev iPar (f : Str) (a0 a1 : Pos) : Arguments := { posonlyargs := [], args := [{ arg := "self", annotation := none, pos := a0 }, { arg := f, annotation := none, pos := a1 }], vararg := none, kwonlyargs := [], kw_defaults := [], kwarg := none, defaults := [] }
/-- the names of the attributes -/
def AttrN (f : Str) : Prop := f = "given" ∨ f = "index" ∨ f = "line"
theorem sc_no {f : Str} (hf : AttrN f) : ∀ x ∈ (iScope f).names, x.2 ≠ .cell := by rcases hf with rfl | rfl | rfl <;> decide
theorem sc_self {f : Str} (hf : AttrN f) : (iScope f).names.lookup ("self" : Str) = some NameKind.local := by rcases hf with rfl | rfl | rfl <;> decide
theorem sc_f {f : Str} (hf : AttrN f) : (iScope f).names.lookup f = some .local := by rcases hf with rfl | rfl | rfl <;> decide
theorem sc_cl {f : Str} (hf : AttrN f) : (iScope f).names.lookup ("__class__" : Str) = some .free := by rcases hf with rfl | rfl | rfl <;> decide
theorem sc_su {f : Str} (hf : AttrN f) : (iScope f).names.lookup ("super" : Str) = some .globalImplicit := by rcases hf with rfl | rfl | rfl <;> decide
theorem f_dbg {f : Str} (hf : AttrN f) : (f == ("__debug__" : Str)) = false := by rcases hf with rfl | rfl | rfl <;> decide
theorem f_self {f : Str} (hf : AttrN f) : (("self" : Str) == f) = false ∧ (f == ("self" : Str)) = false := by rcases hf with rfl | rfl | rfl <;> decide
theorem he_ok {env : Env} {m : Str} {j : Nat} {p0 p1 p2 p3 p4 : Pos} (hl : (p2.endLine == p4.line) = true) : eval (.Call (.Attribute (.Call (.Name "super" p0) [] [] p1) "__init__" p2) [.Constant (.str m) j p3] [] p4) env = (do
      let ov ← attributeBase (.Call (.Name "super" p0) [] [] p1) "__init__" env (eval (.Call (.Name "super" p0) [] [] p1) env)
      standAt p2.atName
      let (f, first) ← holding [ov] (getMethod ov "__init__" (do return (← importBound (.Call (.Name "super" p0) [] [] p1) env).getD true))
      callWith p4 f first (backTo p4 (starEach [.Constant (.str m) j p3] env)) []) := by
  have e : methodCallForm 1 (backTo p4 (starEach [.Constant (.str m) j p3] env)) [] = true := rfl
  have e2 : methodCallPos true (.Call (.Name "super" p0) [] [] p1) env p2 p4 = pure p4 := by
    unfold methodCallPos
    rw [hl]
    rfl
  show (do
    let ov ← attributeBase (.Call (.Name "super" p0) [] [] p1) "__init__" env (eval (.Call (.Name "super" p0) [] [] p1) env)
    standAt p2.atName
    methodCall (.Call (.Name "super" p0) [] [] p1) "__init__" p2 p4 env ov 1 (backTo p4 (starEach [.Constant (.str m) j p3] env)) []) = _
  unfold methodCall
  rw [e, e2]
  simp only [pure_bind]
  rfl
section
variable {prog : Program} {w : World} {A : Around} {E : Value → Shared → Prop} {h : Heap} {g : Array GenState} {d : Drawn} {t : Nat} {os : OsState}
theorem bound_init {C e t0 ua : Addr} {nm q : Str} {N : Addr} {bs bm : List Value} {sn : List Str} {sub : List Value} {ab : Bool} {col : Option Bool} {dd : Option Addr} {k0 k1 k2 k3 k5 : Option Value} {us : List Value} {Q : Value → Shared → Prop}
    (hC : h.get? C = some (excClassObj nm q C N bs bm true sn sub ab col dd k0 k1 k2 k3 k5 "ValueError.__new__")) (he : h.get? e = some (HandSPX.excO C t0)) (hu : h.get? ua = some (kxs_mw "ValueError.__init__" e)) (hz : us.length ≤ sizeLine)
    (hq : ∀ h', (∀ b o, b ≠ e → h.get? b = some o → h'.get? b = some o) → h'.get? e = some (HandSPX.excO C h.objs.size) → Q .none ⟨h', g, d, t, os⟩) : wpAny (model prog w) A (call (.ref ua) us) Q E ⟨h, g, d, t, os⟩ := by
  refine wpAny_call (codeAny_of_tree ?_)
  show wpAny _ A.in1 (callAny (.ref ua) ⟨us, []⟩) _ _ _
  simp only [callAny]
  refine wpAny_bind (wpAny_load hu ?_)
  have e1 : (Value.type "method-wrapper" == Value.type "method" || Value.type "method-wrapper" == Value.type "builtin_function_or_method" || Value.type "method-wrapper" == Value.type "method-wrapper") = true := by decide
  simp only [kxs_mw, e1, if_true]
  refine KFB.if_so (by decide) ?_
  refine wpAny_bind (check_bound_init F.excBase_ValueError.toExcCallFacts hC he rfl ?_)
  refine wpAny_bind (wpAny_pure (wpAny_pure ?_))
  refine ⟨plainId_quiet F.excBase_ValueError.init.plain _, codeAny_builtin F.excBase_ValueError.initEntry ?_⟩
  exact exc_init_tree (cls := .ref C) (t0 := t0) (dv := none) (c2 := .none) (c3 := .none) (b4 := .bool false) he hz fun h' k a _ => hq h' k a
end
section
variable {prog : Program} {w : World} {A : Around} {R : Result → Shared → Prop} {K : Frag} {mg mb : Str → Option Value}
theorem ns_keep {a : Addr} {m : Str → Option Value} {h h' : Heap} (n : h.Ns a m) (k : ∀ b o, h.get? b = some o → h'.get? b = some o) : h'.Ns a m := by
  obtain ⟨o, es, ep, e, r⟩ := n
  exact ⟨o, es, ep, k _ _ e, r⟩
theorem init_run {C fI cc cda e t0 : Addr} {f m qual : Str} {j : Nat} {p0 p1 p2 p3 p4 p5 q0 q1 q2 q3 a0 a1 : Pos} {kV doc pm ct u oc ccl cl : Value} {an od cdd cld : Option Addr} {osl ccs csl : Array (Option Value)} {vs : Array Value} {file : Str} {tf : Tok} {args : Args} {s : Shared}
    (hf : AttrN f) (hl : (p2.endLine == p4.line) = true) (X : K.In s.heap) (glob : s.heap.Ns mainGlobals mg) (bns : s.heap.Ns builtinsNs mb) (boot : ∀ y : Str, y ≠ "__name__" → mb y = bootBuiltins y) (lim : s.heap.NoLimit) (room : A.depth < recursionLimit)
    (lf : K.lookup fI = some ⟨oc, od, .func (ksFn "__init__" qual (iPar f a0 a1) (iBody f m j p0 p1 p2 p3 p4 p5 q0 q1 q2 q3) (iScope f) .none kV doc pm an (.ref cda) ct cc), osl⟩) (lc : codeIn K (.ref cda) qual = true)
    (lcd : K.lookup cda = some ⟨ccl, cdd, .fields vs, ccs⟩) (lvs : vs[2]? = some (.str file tf)) (lfile : ((prog.main.file : Str) == file) = true) (lcc : K.lookup cc = some ⟨cl, cld, .cell (some (.ref C)), csl⟩)
    (hsub : mroIn K C (.ref C) = some true) (hB : subIn K (.ref C) (.type "ValueError") = some true) (hsup : ks_superIn K C C "__init__" = some (some (.builtin "ValueError.__init__")))
    (hop : nsIn K cStatics "thirdparty.any" = some none) (hsn : nsIn K mainGlobals "super" = some none) (htop : (prog.main.scope.names.lookup ("super" : Str)).isSome = false)
    (hsa : findIn K (.ref C) "__setattr__" = some (some (.builtin "object.__setattr__"))) (hfa : findIn K (.ref C) f = some none) (hcls : ∃ nm q N bs bm sn sub ab col dd k0 k1 k2 k3 k5, K.lookup C = some (excClassObj nm q C N bs bm true sn sub ab col dd k0 k1 k2 k3 k5 "ValueError.__new__") ∧ HandSPX.refsVE bm = true)
    (he : s.heap.get? e = some (HandSPX.excO C t0)) (hKe : K.lookup e = none) (bind : BindsTo s (ksFn "__init__" qual (iPar f a0 a1) (iBody f m j p0 p1 p2 p3 p4 p5 q0 q1 q2 q3) (iScope f) .none kV doc pm an (.ref cda) ct cc) args [("self", .ref e), (f, u)])
    (hq : ∀ h' dx t1 tk', (∀ b o, b ≠ e → s.heap.get? b = some o → h'.get? b = some o) → dx ≠ e → s.heap.objs.size ≤ dx → h'.get? e = some ({ cls := .ref C, dict := some dx, data := .fields #[.ref t1, .none, .none, .none, .bool false, .none] } : Obj) →
      h'.Ns1 dx (fun y => if y = f then some u else none) → R (.ok (.ret .none)) { s with heap := h', toks := tk' }) : codeAny (model prog w) A (.call (.ref fI) args) R s := by
  obtain ⟨hp, g, d, t, os⟩ := s
  refine ks_codeAny_call_defAt (fd := ksFn "__init__" qual (iPar f a0 a1) (iBody f m j p0 p1 p2 p3 p4 p5 q0 q1 q2 q3) (iScope f) .none kV doc pm an (.ref cda) ct cc) (body := iBody f m j p0 p1 p2 p3 p4 p5 q0 q1 q2 q3) (binds := [("self", .ref e), (f, u)])
    room (X _ _ lf) rfl lim (codeRec_of X lc) rfl bind (sc_no hf) (fun x hx => ?_) (fun h0 hns hk => ?_)
  · rcases List.mem_cons.mp hx with rfl | hx
    · exact sc_self hf
    · obtain rfl := List.mem_singleton.mp hx
      exact sc_f hf
  · have he0 := hk _ _ he
    have X0 : K.In h0 := fun b o q => hk _ _ (X b o q)
    have mself : ([("self", Value.ref e), (f, u)] : List (Str × Value)).reverse.lookup ("self" : Str) = some (.ref e) := by
      simp [List.lookup, (f_self hf).1]
    have mf : ([("self", Value.ref e), (f, u)] : List (Str × Value)).reverse.lookup f = some u := by
      simp [List.lookup]
    obtain ⟨nm, q, N, bs, bm, sn, sub, ab, col, dd, k0, k1, k2, k3, k5, hC, hbm⟩ := hcls
    have hcd : clsIn K C = some { name := nm, bases := bs, mro := .ref C :: bm, ns := N, qualname := q, hasDict := true, slotNames := sn, subclasses := sub, abstract := ab, collection := col, hasDel := false } := by unfold clsIn; rw [hC] <;> rfl
    have hC1 := X0 _ _ hC
    refine ks_wpAt_execs_cons (ks_wpAt_Expr_any (ks_wpAt_MethodCall (he := he_ok hl) (ks_wpAt_super_base (sc_su hf) (sc_cl hf) (by decide) rfl (X0 _ _ lf) rfl rfl rfl (X0 _ _ lcd) rfl lvs lfile htop ?_)))
    refine ks_loadName_global rfl (sc_su hf) (loadGlobal_builtin (ns_keep glob hk) (mg_none_of X glob hsn) (ns_keep bns hk) ((boot _ (by decide)).trans (by decide +kernel : bootBuiltins "super" = some (.type "super"))) ⟨rfl, ?_⟩)
    refine wpAny_loadName_free rfl (sc_cl hf) rfl ⟨_, X0 _ _ lcc, rfl⟩ ?_
    refine wpAny_loadName_local rfl (sc_self hf) hns mself ?_
    refine ks_wpAny_isType_cls hC1 rfl ⟨rfl, ?_⟩
    refine ks_wpAny_call_super hC1 rfl he0 rfl (fun c z => by cases z) (looks_mroIn X0 hsub) (fun h1 hso k1' => ?_)
    have X1 : K.In h1 := fun b o q => k1' _ _ (X0 b o q)
    have he1 := k1' _ _ he0
    have hC2 := X1 _ _ hC
    have hxC : e ≠ C := fun z => by
      rw [z, hC2] at he1
      cases he1
    have LT : Looks (model prog w) h1 (typeOf (.ref e)) (.ref C) := fun A' Q' E' s' k q => wpAny_typeOf_ref (k _ _ he1) q
    have LI : Looks (model prog w) h1 (isInstance (.ref e) (.type "ValueError")) true := LT.andThen (looks_subIn X1 hB)
    have LM : Looks (model prog w) h1 (mroOf (.ref C)) (.ref C :: bm) := fun A' Q' E' s' k q => wpAny_bind ((looks_clsIn X1 hcd) A' _ E' s' k (wpAny_pure q))
    unfold ks_superIn at hsup
    rw [hcd] at hsup
    refine kxs_getMethod kxs_ValueError hso (looks_opaque X1 hop) LM rfl X1 hsup LI hxC (by decide) ?_
    have k2' : ∀ b o, h1.get? b = some o → (h1.push (kxs_mw "ValueError.__init__" e)).get? b = some o := fun b o z => Heap.get?_push_of_some _ z
    refine kxs_callWith (i := "ValueError.__init__") (x := e) rfl (evalArgs_plain (spliced_cons (wpAny_Constant_str (k := j) (pos := p3) (spliced_nil ⟨Heap.get?_push_size _ rfl, ?_⟩))))
    refine bound_init (k2' _ _ hC2) (k2' _ _ he1) (Heap.get?_push_size _ rfl) (by show 1 ≤ sizeLine; rw [sizeLine_eq]; omega) (fun h2 k3' he2 => ?_)
    have X2 : K.In h2 := fun b o q => k3' _ _ (fun z => by rw [z, hKe] at q; cases q) (k2' _ _ (X1 b o q))
    have up : ∀ b o, b ≠ e → hp.get? b = some o → h2.get? b = some o := fun b o z q => k3' _ _ z (k2' _ _ (k1' _ _ (hk _ _ q)))
    have ltE : e < hp.objs.size := Heap.lt_size he
    have hns2 : h2.Ns hp.objs.size (fun y => ([("self", Value.ref e), (f, u)] : List (Str × Value)).reverse.lookup y) := by
      obtain ⟨o, es, ep, z, r⟩ := hns
      exact ⟨o, es, ep, k3' _ _ (fun z => absurd ltE (by rw [← z]; exact Nat.lt_irrefl _)) (k2' _ _ (k1' _ _ z)), r⟩
    refine ks_wpAt_execs_cons (ks_wpAt_Assign_Attr (_root_.PySem.wpAt_of_wpAny (wpAny_Name (wpAny_loadName_local rfl (sc_f hf) hns2 mf ?_) (f_dbg hf))))
    refine wpAny_Name (wpAny_loadName_local rfl (sc_self hf) hns2 mself ?_) (by decide)
    refine set_plain X2 (ox := HandSPX.excO C (h1.push (kxs_mw "ValueError.__init__" e)).objs.size) (od := none) ⟨he2, rfl, rfl, trivial⟩ hsa ?_
    refine HandSPX.exc_osa X2 he2 hcd (show HandSPX.refsVE (.ref C :: bm) = true from hbm) rfl hfa (fun h3 tk' dx k4' hdx hne he3 hn3 => ?_)
    refine _root_.PySem.wpAt_of_wpAny (wpAny_execs_nil ?_)
    have hsz : hp.objs.size ≤ dx := by
      obtain ⟨o, es, ep, z, r⟩ := hns2
      exact Nat.le_of_lt (Nat.lt_of_lt_of_le (Heap.lt_size z) hdx)
    exact hq h3 dx _ tk' (fun b o z q => k4' _ _ z (up _ _ z q)) hne hsz he3 hn3
end
end EM

/-! part EM3 -/
set_option Elab.async false
set_option linter.all false
set_option maxRecDepth 100000
set_option maxHeartbeats 2000000
set_option autoImplicit false
namespace EM
open PySem PySem.W PySem.Calls PyProof.Rows PySem.Spec
/-- an own class of errors with the attribute f, told by the written part -/
structure MkC (P : Program) (K : Frag) (C : Addr) (f : Str) : Prop where
  nm : AttrN f
  ini : ∃ (fI cc cda : Addr) (m qual : Str) (j : Nat) (p0 p1 p2 p3 p4 p5 q0 q1 q2 q3 a0 a1 : Pos) (kV doc pm ct oc ccl cl : Value) (an od cdd cld : Option Addr) (osl ccs csl : Array (Option Value)) (vs : Array Value) (file : Str) (tf : Tok),
    (p2.endLine == p4.line) = true ∧ findIn K (.ref C) "__init__" = some (some (.ref fI)) ∧ typeIn K (.ref fI) = some (.type "function") ∧
    K.lookup fI = some ⟨oc, od, .func (ksFn "__init__" qual (iPar f a0 a1) (iBody f m j p0 p1 p2 p3 p4 p5 q0 q1 q2 q3) (iScope f) .none kV doc pm an (.ref cda) ct cc), osl⟩ ∧ codeIn K (.ref cda) qual = true ∧
    K.lookup cda = some ⟨ccl, cdd, .fields vs, ccs⟩ ∧ vs[2]? = some (.str file tf) ∧ ((P.main.file : Str) == file) = true ∧ K.lookup cc = some ⟨cl, cld, .cell (some (.ref C)), csl⟩
  cls : ∃ nm q N bs bm sn sub ab col dd k0 k1 k2 k3 k5, K.lookup C = some (excClassObj nm q C N bs bm true sn sub ab col dd k0 k1 k2 k3 k5 "ValueError.__new__") ∧ HandSPX.refsVE bm = true
  sub : mroIn K C (.ref C) = some true
  isV : subIn K (.ref C) (.type "ValueError") = some true
  sup : ks_superIn K C C "__init__" = some (some (.builtin "ValueError.__init__"))
  opq : nsIn K cStatics "thirdparty.any" = some none
  sgl : nsIn K mainGlobals "super" = some none
  top : (P.main.scope.names.lookup ("super" : Str)).isSome = false
  sa : findIn K (.ref C) "__setattr__" = some (some (.builtin "object.__setattr__"))
  fa : findIn K (.ref C) f = some none
  kp : keepIn K (.ref C) = true
  exB : subIn K (.ref C) (.type "BaseException") = some true
  tyC : typeIn K (.ref C) = some (.type "type")
section
variable {prog : Program} {w : World} {A : Around} {K : Frag} {mg mb : Str → Option Value} {C : Addr} {f : Str} {s : Shared}
theorem mk_raw {us : List Value} {kw : List (Str × Value)} {u : Value} {Q : Value → Shared → Prop} {E : Value → Shared → Prop} (T : MkC prog K C f) (X : K.In s.heap) (glob : s.heap.Ns mainGlobals mg) (bns : s.heap.Ns builtinsNs mb)
    (boot : ∀ y : Str, y ≠ "__name__" → mb y = bootBuiltins y) (lim : s.heap.NoLimit) (room : A.depth + 3 < recursionLimit) (hw : (us = [u] ∧ kw = []) ∨ (us = [] ∧ kw = [(f, u)]))
    (hq : ∀ h' e dx t1 tk', (∀ b o, s.heap.get? b = some o → h'.get? b = some o) → s.heap.objs.size ≤ e → s.heap.objs.size ≤ dx → dx ≠ e → h'.get? e = some ({ cls := .ref C, dict := some dx, data := .fields #[.ref t1, .none, .none, .none, .bool false, .none] } : Obj) →
      h'.Ns1 dx (fun y => if y = f then some u else none) → Q (.ref e) { s with heap := h', toks := tk' }) : wpAny (model prog w) A (call (.ref C) us kw) Q E s := by
  obtain ⟨fI, cc, cda, m, qual, j, p0, p1, p2, p3, p4, p5, q0, q1, q2, q3, a0, a1, kV, doc, pm, ct, oc, ccl, cl, an, od, cdd, cld, osl, ccs, csl, vs, file, tf, hl, hi, ht, lf, lc, lcd, lvs, lfile, lcc⟩ := T.ini
  obtain ⟨nm, q, N, bs, bm, sn, sub, ab, col, dd, k0, k1, k2, k3, k5, hC, hbm⟩ := T.cls
  obtain ⟨hp, g, d, t, os⟩ := s
  have hz : us.length ≤ sizeLine := by
    rcases hw with ⟨rfl, _⟩ | ⟨rfl, _⟩
    · show 1 ≤ sizeLine; rw [sizeLine_eq]; omega
    · exact Nat.zero_le _
  have up : ∀ b o, hp.get? b = some o → (two hp us C).get? b = some o := fun b o e => Heap.get?_push_of_some _ (Heap.get?_push_of_some _ e)
  have he : (two hp us C).get? (hp.objs.size + 1) = some (HandSPX.excO C hp.objs.size) := by unfold two; heap_get
  have Ke : K.lookup (hp.objs.size + 1) = none := by
    cases z : K.lookup (hp.objs.size + 1) with
    | none => rfl
    | some o => exact absurd (Heap.lt_size (X _ _ z)) (by show ¬ (hp.objs.size + 1 < hp.objs.size); omega)
  refine wpAny_call (call_kw F.excBase_ValueError (fun Y => HandSPX.refsVE_contains Y bm hbm) (X _ _ hC) (looks_findIn X hi) (fun self => bind_fn X self ht) hz ?_)
  refine init_run (e := hp.objs.size + 1) (t0 := hp.objs.size) (u := u) T.nm hl (fun b o z => up _ _ (X _ _ z)) (ns_keep glob up) (ns_keep bns up) boot (lim.keeps up) ?_ lf lc lcd lvs lfile lcc T.sub T.isV T.sup T.opq T.sgl T.top T.sa T.fa
    ⟨nm, q, N, bs, bm, sn, sub, ab, col, dd, k0, k1, k2, k3, k5, hC, hbm⟩ he Ke ?_ (fun h' dx t1 tk' k hne hdx he' hn => ?_)
  · rw [L2.make_depth]; omega
  · rcases hw with ⟨rfl, rfl⟩ | ⟨rfl, rfl⟩
    · refine .of_eq ?_
      rcases T.nm with rfl | rfl | rfl <;> rfl
    · refine .of_eq ?_
      rcases T.nm with rfl | rfl | rfl <;> rfl
  · have hs2 : hp.objs.size ≤ dx := Nat.le_trans (by unfold two; rw [Heap.size_push, Heap.size_push]; omega) hdx
    exact ⟨rfl, hq h' _ dx t1 tk' (fun b o z => k b o (fun w => absurd (Heap.lt_size z) (by rw [w]; show ¬ (hp.objs.size + 1 < hp.objs.size); omega)) (up _ _ z)) (Nat.le_succ _) hs2 hne he' hn⟩
end
section
open L2
variable {X : Cx} {pins : List (Addr × Obj)} {σ : L2.St} {H : Hp} {s : Shared} {C : Addr} {f : Str} {u : Value} {y : V} {us : List Value} {kw : List (Str × Value)}
theorem xd_ok {P : Program} {w : World} {H : Hp} {h : Heap} {dx : Addr} {fs : List (Str × V)} {mA : Str → Option Value} (hn : h.Ns1 dx mA) (r : ∀ g, RelO (fs.lookup g) (mA g)) : ObjOk P w H h dx (.xd fs) := ⟨mA, hn, r⟩
theorem rel1 {f : Str} {y : V} {u : Value} (ry : RelV y u) (g : Str) : RelO ([(f, y)].lookup g) (if g = f then some u else none) := relO_put (fs := []) (mA := fun _ => none) ry (fun _ => True.intro) g
theorem mk_two {h' : Heap} {e dx : Addr} {t1 : Addr} {tk' : Nat} {o1 o2 : HO} (I : Inv X pins σ H s) (k : ∀ b o, s.heap.get? b = some o → h'.get? b = some o) (he : s.heap.objs.size ≤ e) (hd : s.heap.objs.size ≤ dx) (hne : dx ≠ e)
    (hge : h'.get? e = some ({ cls := .ref C, dict := some dx, data := .fields #[.ref t1, .none, .none, .none, .bool false, .none] } : Obj)) (hn : h'.Ns1 dx (fun y => if y = f then some u else none)) (ry : RelV y u) :
    H e = none ∧ H dx = none ∧ Inv X pins σ (upd (upd H dx (exd dx [(f, y)])) e (exo e C (some dx))) { s with heap := h', toks := tk' } ∧
      ∃ G : Heap, Inv X pins σ (upd H dx (.xd [(f, y)])) { s with heap := G, toks := tk' } ∧ (∀ b o, G.get? b = some o → h'.get? b = some o) ∧ G.get? e = none ∧ upd H dx (.xd [(f, y)]) e = none := by
  have h1 : H e = none := I.hok.fresh he
  have h2 : H dx = none := I.hok.fresh hd
  obtain ⟨G, g1, g2⟩ := restrict h' fun b => decide (b ≠ e)
  have gk : ∀ b, b ≠ e → G.get? b = h'.get? b := fun b hb => g1 b (decide_eq_true hb)
  have ge : G.get? e = none := g2 e (by simp)
  have gs : ∀ b o, G.get? b = some o → h'.get? b = some o := fun b o z => by
    by_cases hb : b = e
    · rw [hb, ge] at z; cases z
    · rw [← gk b hb]; exact z
  have kG : ∀ b o, s.heap.get? b = some o → G.get? b = some o := fun b o z => by
    rw [gk b (fun w => absurd (Heap.lt_size z) (by rw [w]; exact Nat.not_lt.mpr he))]
    exact k b o z
  have hd0 : s.heap.get? dx = none := Heap.get?_none_of_le hd
  have nG : G.Ns1 dx (fun y => if y = f then some u else none) := hn.at fun o z => (gk dx hne).trans z
  have I1 : Inv X pins σ (upd H dx (exd dx [(f, y)])) { s with heap := G, toks := tk' } := I.laidN kG hd0 h2 (exd_ok nG (rel1 ry))
  have I1' : Inv X pins σ (upd H dx (.xd [(f, y)])) { s with heap := G, toks := tk' } := I.laidN kG hd0 h2 (xd_ok nG (rel1 ry))
  have n1 : upd H dx (exd dx [(f, y)]) e = none := by rw [upd_ne (Ne.symm hne)]; exact h1
  have n2 : upd H dx (.xd [(f, y)]) e = none := by rw [upd_ne (Ne.symm hne)]; exact h1
  exact ⟨h1, h2, I1.laidN (t' := tk') gs ge n1 (exo_ok hge), G, I1', gs, ge, n2⟩
/-- C(x), C(f=x): a new error -/
theorem mk_inv {Q : VK} (T : MkC X.prog X.K C f) (I : Inv X pins σ H s) (hr : Room 1 X.A) (ry : RelV y u) (hw : (us = [u] ∧ kw = []) ∨ (us = [] ∧ kw = [(f, u)]))
    (q : ∀ e dx, H e = none → H dx = none → dx ≠ e → Q (.ref e) (upd (upd H dx (exd dx [(f, y)])) e (exo e C (some dx)))) : wpAny (model X.prog X.w) X.A (call (.ref C) us kw) (EP X pins σ Q) X.xe s := by
  obtain ⟨mb, nb, boot⟩ := I.ok.mod.blt
  refine mk_raw T I.kIn (ns_keep I.ok.mod.glob I.bk) (ns_keep nb I.bk) boot I.nolimit (by have := hr.dp; omega) hw fun h' e dx t1 tk' k he hd hne hge hn => ?_
  obtain ⟨h1, h2, J, _⟩ := mk_two (o1 := .lst []) (o2 := .lst []) (tk' := tk') I k he hd hne hge hn ry
  exact ⟨.ref e, _, J, rfl, q e dx h1 h2 hne⟩
theorem mk_mkp {Q : XK} (T : MkC X.prog X.K C f) (I : Inv X pins σ H s) (hr : Room 1 X.A) (ry : RelV y u) (hw : (us = [u] ∧ kw = []) ∨ (us = [] ∧ kw = [(f, u)]))
    (q : ∀ dx, H dx = none → Q (.ref C) (some dx) (upd H dx (.xd [(f, y)]))) : wpAny (model X.prog X.w) X.A (call (.ref C) us kw) (MkP X pins σ Q) X.xe s := by
  obtain ⟨mb, nb, boot⟩ := I.ok.mod.blt
  refine mk_raw T I.kIn (ns_keep I.ok.mod.glob I.bk) (ns_keep nb I.bk) boot I.nolimit (by have := hr.dp; omega) hw fun h' e dx t1 tk' k he hd hne hge hn => ?_
  obtain ⟨h1, h2, _, G, J, gs, ge, n2⟩ := mk_two (o1 := .lst []) (o2 := .lst []) (tk' := tk') I k he hd hne hge hn ry
  exact ⟨e, _, _, { s with heap := G, toks := tk' }, _, .ref C, some dx, rfl, J, gs, ge, hge, ⟨rfl, rfl⟩, rfl, rfl, n2, rfl, I.bare, raises_own T.exB T.tyC, q dx h2⟩
end
end EM

/-! part DV -/
set_option Elab.async false
set_option linter.all false
set_option maxRecDepth 100000
set_option autoImplicit false
/-! Values as pure data over the hand layer: what an expression, a test, a statement comes to, without the heap. -/
namespace DV
open PySem PySem.Spec L2

/-- pure data -/
inductive D where
  | non | bl (b : Bool) | int (i : Int) | str (x : Str) | tup (ds : List D) | lst (ds : List D)
  /-- a dict with text or int keys; an own error of the class at C whose attribute f holds x; one without attributes -/
  | dct (ks : List Key) (ds : List D) | err (C : Addr) (f : Str) (x : D) | erb (C : Addr)
/-- what a slot holds: data, or the j-th of the lists that change -/
inductive S where
  | d (x : D) | m (j : Nat)
  /-- the caught error x, an object at a of the class cls with the dict d -/
  | ex (a : Addr) (cls : Value) (d : Option Addr) (x : D)

abbrev Mu := List (List D)
abbrev Rho := List (Option S)

def hide (ad : List Addr) (H : Hp) : Hp := fun a => if a ∈ ad then none else H a
theorem hide_in {ad : List Addr} {H : Hp} {a : Addr} (h : a ∈ ad) : hide ad H a = none := if_pos h
theorem hide_out {ad : List Addr} {H : Hp} {a : Addr} (h : a ∉ ad) : hide ad H a = H a := if_neg h
theorem hide_some {ad : List Addr} {H : Hp} {a : Addr} {o : HO} (h : hide ad H a = some o) : a ∉ ad ∧ H a = some o := by
  unfold hide at h
  by_cases q : a ∈ ad
  · rw [if_pos q] at h; cases h
  · rw [if_neg q] at h; exact ⟨q, h⟩

mutual
inductive Rp (K : PySem.W.Frag) (F : Hp) : V → D → Prop
  | non : Rp K F .non .non
  | bl (b : Bool) : Rp K F (.bl b) (.bl b)
  | int (i : Int) : Rp K F (.int i) (.int i)
  | str (x : Str) : Rp K F (.str x) (.str x)
  | tup {a : Addr} {xs : List V} {ds : List D} : SqT K F a xs → RpA K F xs ds → Rp K F (.ref a) (.tup ds)
  | lst {a : Addr} {xs : List V} {ds : List D} : SqL K F a xs → RpA K F xs ds → Rp K F (.ref a) (.lst ds)
  | dct {a : Addr} {kvs : List (Key × V)} {ds : List D} : F a = some (.dK kvs) → RpA K F (kvs.map (·.2)) ds → Rp K F (.ref a) (.dct (kvs.map (·.1)) ds)
  | err {a dx C : Addr} {f : Str} {v : V} {x : D} : F a = some (exo a C (some dx)) → F dx = some (exd dx [(f, v)]) → Rp K F v x → Rp K F (.ref a) (.err C f x)
  | erb {a C : Addr} : F a = some (ExO (.ref C) a) → Rp K F (.ref a) (.erb C)
inductive RpA (K : PySem.W.Frag) (F : Hp) : List V → List D → Prop
  | nil : RpA K F [] []
  | cons {v : V} {vs : List V} {d : D} {ds : List D} : Rp K F v d → RpA K F vs ds → RpA K F (v :: vs) (d :: ds)
end

theorem sqL_same {K : PySem.W.Frag} {H H' : Hp} {a : Addr} {xs : List V} (e : Same H H') (h : SqL K H a xs) : SqL K H' a xs := e.seq h
theorem sqT_same {K : PySem.W.Frag} {H H' : Hp} {a : Addr} {xs : List V} (e : Same H H') (h : SqT K H a xs) : SqT K H' a xs := by
  rcases h with (h | ⟨o, h⟩) | h
  · exact .inl (.inl (e _ _ h))
  · exact .inl (.inr ⟨o, e _ _ h⟩)
  · exact .inr h
mutual
theorem Rp.mono {K : PySem.W.Frag} {F F' : Hp} (e : Same F F') : ∀ {v : V} {d : D}, Rp K F v d → Rp K F' v d
  | _, _, .non => .non
  | _, _, .bl b => .bl b
  | _, _, .int i => .int i
  | _, _, .str x => .str x
  | _, _, .tup h r => .tup (sqT_same e h) (RpA.mono e r)
  | _, _, .lst h r => .lst (sqL_same e h) (RpA.mono e r)
  | _, _, .dct h r => .dct (e _ _ h) (RpA.mono e r)
  | _, _, .err h g r => .err (e _ _ h) (e _ _ g) (Rp.mono e r)
  | _, _, .erb h => .erb (e _ _ h)
theorem RpA.mono {K : PySem.W.Frag} {F F' : Hp} (e : Same F F') : ∀ {vs : List V} {ds : List D}, RpA K F vs ds → RpA K F' vs ds
  | _, _, .nil => .nil
  | _, _, .cons h r => .cons (Rp.mono e h) (RpA.mono e r)
end
theorem RpA.length {K : PySem.W.Frag} {F : Hp} : ∀ {vs : List V} {ds : List D}, RpA K F vs ds → vs.length = ds.length
  | _, _, .nil => rfl
  | _, _, .cons _ r => congrArg (· + 1) r.length
theorem RpA.get {K : PySem.W.Frag} {F : Hp} : ∀ {vs : List V} {ds : List D} {i : Nat} {d : D}, RpA K F vs ds → ds[i]? = some d → ∃ v, vs[i]? = some v ∧ Rp K F v d
  | _, _, _, _, .nil, e => by simp at e
  | _, _, 0, _, .cons h _, e => by simp at e; subst e; exact ⟨_, rfl, h⟩
  | _, _, i + 1, _, .cons _ r, e => by
    obtain ⟨v, h1, h2⟩ := RpA.get (i := i) r (by simpa using e)
    exact ⟨v, by simpa using h1, h2⟩
theorem RpA.append {K : PySem.W.Frag} {F : Hp} : ∀ {vs us : List V} {ds es : List D}, RpA K F vs ds → RpA K F us es → RpA K F (vs ++ us) (ds ++ es)
  | _, _, _, _, .nil, s => s
  | _, _, _, _, .cons h r, s => .cons h (RpA.append r s)
theorem RpA.take {K : PySem.W.Frag} {F : Hp} : ∀ {vs : List V} {ds : List D} (n : Nat), RpA K F vs ds → RpA K F (vs.take n) (ds.take n)
  | _, _, 0, _ => .nil
  | _, _, _ + 1, .nil => .nil
  | _, _, n + 1, .cons h r => .cons h (RpA.take n r)
theorem RpA.drop {K : PySem.W.Frag} {F : Hp} : ∀ {vs : List V} {ds : List D} (n : Nat), RpA K F vs ds → RpA K F (vs.drop n) (ds.drop n)
  | _, _, 0, r => r
  | _, _, _ + 1, .nil => .nil
  | _, _, n + 1, .cons _ r => RpA.drop n r
theorem RpA.set {K : PySem.W.Frag} {F : Hp} {v : V} {d : D} (h : Rp K F v d) : ∀ {vs : List V} {ds : List D} (n : Nat), RpA K F vs ds → RpA K F (vs.set n v) (ds.set n d)
  | _, _, _, .nil => .nil
  | _, _, 0, .cons _ r => .cons h r
  | _, _, n + 1, .cons q r => .cons q (RpA.set h n r)
theorem RpA.at {K : PySem.W.Frag} {F : Hp} : ∀ {vs : List V} {ds : List D} {i : Nat} {v : V}, RpA K F vs ds → vs[i]? = some v → ∃ d, ds[i]? = some d ∧ Rp K F v d
  | _, _, _, _, .nil, e => by simp at e
  | _, _, 0, _, .cons h _, e => by simp at e; subst e; exact ⟨_, rfl, h⟩
  | _, _, i + 1, _, .cons _ r, e => by
    obtain ⟨v, h1, h2⟩ := RpA.at (i := i) r (by simpa using e)
    exact ⟨v, by simpa using h1, h2⟩
theorem RpA.rep {K : PySem.W.Frag} {F : Hp} {vs : List V} {ds : List D} (r : RpA K F vs ds) : ∀ n : Nat, RpA K F (List.replicate n vs).flatten (List.replicate n ds).flatten
  | 0 => .nil
  | n + 1 => by
    rw [List.replicate_succ, List.replicate_succ, List.flatten_cons, List.flatten_cons]
    exact r.append (RpA.rep r n)
theorem RpA.ints {K : PySem.W.Frag} {F : Hp} : ∀ (ns : List Int), RpA K F (ns.map V.int) (ns.map D.int)
  | [] => .nil
  | n :: r => .cons (.int n) (RpA.ints r)

/-- an error that is raised: its class, its own dict -/
def RpX (K : PySem.W.Frag) (F : Hp) (cls : Value) (d : Option Addr) : D → Prop
  | .err C f x => cls = .ref C ∧ ∃ dd v, d = some dd ∧ F dd = some (.xd [(f, v)]) ∧ Rp K F v x
  | .erb C => cls = .ref C ∧ d = none
  | _ => False
theorem RpX.mono {K : PySem.W.Frag} {F F' : Hp} (e : Same F F') {cls : Value} {d : Option Addr} : ∀ {x : D}, RpX K F cls d x → RpX K F' cls d x
  | .err C f x, h => by
    obtain ⟨h1, dd, v, h2, h3, h4⟩ := h
    exact ⟨h1, dd, v, h2, e _ _ h3, Rp.mono e h4⟩
  | .erb C, h => h
  | .non, h => h.elim
  | .bl _, h => h.elim
  | .int _, h => h.elim
  | .str _, h => h.elim
  | .tup _, h => h.elim
  | .lst _, h => h.elim
  | .dct _ _, h => h.elim
def RpS (K : PySem.W.Frag) (F : Hp) (ad : List Addr) (v : V) : S → Prop
  | .d x => Rp K F v x
  | .m j => ∃ a, ad[j]? = some a ∧ v = .ref a
  | .ex a cls d x => v = .ref a ∧ RpX K F cls d x
inductive RpSA (K : PySem.W.Frag) (F : Hp) (ad : List Addr) : List V → List S → Prop
  | nil : RpSA K F ad [] []
  | cons {v : V} {vs : List V} {s : S} {ss : List S} : RpS K F ad v s → RpSA K F ad vs ss → RpSA K F ad (v :: vs) (s :: ss)

/-- from one heap to a later one: what does not change stands -/
structure Step (ad : List Addr) (H : Hp) (ad' : List Addr) (H' : Hp) : Prop where
  pre : ad <+: ad'
  keep : ∀ b o, b ∉ ad → H b = some o → b ∉ ad' ∧ H' b = some o
theorem Step.refl (ad : List Addr) (H : Hp) : Step ad H ad H := ⟨List.prefix_refl _, fun _ _ h e => ⟨h, e⟩⟩
theorem Step.trans {a1 a2 a3 : List Addr} {H1 H2 H3 : Hp} (s : Step a1 H1 a2 H2) (t : Step a2 H2 a3 H3) : Step a1 H1 a3 H3 :=
  ⟨s.pre.trans t.pre, fun b o h e => let ⟨h2, e2⟩ := s.keep b o h e; t.keep b o h2 e2⟩
theorem Step.same {a1 a2 : List Addr} {H1 H2 : Hp} (s : Step a1 H1 a2 H2) : Same (hide a1 H1) (hide a2 H2) := fun b o e => by
  obtain ⟨h, e1⟩ := hide_some e
  obtain ⟨h2, e2⟩ := s.keep b o h e1
  rw [hide_out h2]
  exact e2
theorem Step.new {ad : List Addr} {H : Hp} {p : Addr} {o : HO} (h : H p = none) : Step ad H ad (upd H p o) :=
  ⟨List.prefix_refl _, fun b u hb e => ⟨hb, by rw [upd_ne (ne_of_none e h)]; exact e⟩⟩
theorem Step.newM {ad : List Addr} {H : Hp} {p : Addr} {o : HO} (h : H p = none) : Step ad H (ad ++ [p]) (upd H p o) :=
  ⟨List.prefix_append _ _, fun b u hb e => ⟨by
    intro q
    rcases List.mem_append.mp q with q | q
    · exact hb q
    · rw [List.mem_singleton] at q
      exact ne_of_none e h q, by rw [upd_ne (ne_of_none e h)]; exact e⟩⟩
theorem Step.mut {ad : List Addr} {H : Hp} {p : Addr} {o : HO} (h : p ∈ ad) : Step ad H ad (upd H p o) :=
  ⟨List.prefix_refl _, fun b u hb e => ⟨hb, by rw [upd_ne (fun q : b = p => hb (by rw [q]; exact h))]; exact e⟩⟩
theorem Step.get {a1 a2 : List Addr} {H1 H2 : Hp} (s : Step a1 H1 a2 H2) {j : Nat} {a : Addr} (h : a1[j]? = some a) : a2[j]? = some a := by
  obtain ⟨t, rfl⟩ := s.pre
  rw [List.getElem?_append_left (List.getElem?_eq_some_iff.mp h).1]
  exact h
theorem RpS.step {K : PySem.W.Frag} {a1 a2 : List Addr} {H1 H2 : Hp} (s : Step a1 H1 a2 H2) {v : V} {x : S} (r : RpS K (hide a1 H1) a1 v x) : RpS K (hide a2 H2) a2 v x := by
  cases x with
  | d x => exact Rp.mono s.same r
  | m j => obtain ⟨a, h, e⟩ := r; exact ⟨a, s.get h, e⟩
  | ex a cls d x => exact ⟨r.1, r.2.mono s.same⟩
theorem RpSA.step {K : PySem.W.Frag} {a1 a2 : List Addr} {H1 H2 : Hp} (s : Step a1 H1 a2 H2) : ∀ {vs : List V} {ss : List S}, RpSA K (hide a1 H1) a1 vs ss → RpSA K (hide a2 H2) a2 vs ss
  | _, _, .nil => .nil
  | _, _, .cons r t => .cons (r.step s) (RpSA.step s t)

/-- the lists that change, as they stand -/
structure RpM (K : PySem.W.Frag) (H : Hp) (ad : List Addr) (μ : Mu) : Prop where
  len : ad.length = μ.length
  nd : ad.Nodup
  at_ : ∀ (j : Nat) (ds : List D), μ[j]? = some ds → ∃ (a : Addr) (xs : List V), ad[j]? = some a ∧ H a = some (.lst xs) ∧ RpA K (hide ad H) xs ds
theorem RpM.there {K : PySem.W.Frag} {H : Hp} {ad : List Addr} {μ : Mu} (m : RpM K H ad μ) {a : Addr} (h : a ∈ ad) : ∃ xs, H a = some (.lst xs) := by
  obtain ⟨j, hj, e⟩ := List.getElem_of_mem h
  have h1 : j < μ.length := by rw [← m.len]; exact hj
  obtain ⟨b, xs, q1, q2, _⟩ := m.at_ j μ[j] (List.getElem?_eq_getElem h1)
  rw [List.getElem?_eq_getElem hj, e] at q1
  cases q1
  exact ⟨xs, q2⟩
theorem RpM.fresh {K : PySem.W.Frag} {H : Hp} {ad : List Addr} {μ : Mu} (m : RpM K H ad μ) {p : Addr} (h : H p = none) : p ∉ ad := fun q => by
  obtain ⟨xs, e⟩ := m.there q
  rw [h] at e
  cases e
/-- a step that leaves the changing lists alone -/
theorem RpM.step {K : PySem.W.Frag} {H H' : Hp} {ad : List Addr} {μ : Mu} (m : RpM K H ad μ) (s : Step ad H ad H') (k : ∀ a ∈ ad, H' a = H a) : RpM K H' ad μ :=
  ⟨m.len, m.nd, fun j ds h => by
    obtain ⟨a, xs, q1, q2, q3⟩ := m.at_ j ds h
    exact ⟨a, xs, q1, by rw [k a (List.mem_of_getElem? q1)]; exact q2, q3.mono s.same⟩⟩
theorem RpM.new {K : PySem.W.Frag} {H : Hp} {ad : List Addr} {μ : Mu} (m : RpM K H ad μ) {p : Addr} {o : HO} (h : H p = none) : RpM K (upd H p o) ad μ :=
  m.step (Step.new h) fun a ha => upd_ne fun e => m.fresh h (e ▸ ha)
theorem RpM.newM {K : PySem.W.Frag} {H : Hp} {ad : List Addr} {μ : Mu} (m : RpM K H ad μ) {p : Addr} {xs : List V} {ds : List D} (h : H p = none) (r : RpA K (hide ad H) xs ds) : RpM K (upd H p (.lst xs)) (ad ++ [p]) (μ ++ [ds]) := by
  have hp := m.fresh h
  have st : Step ad H (ad ++ [p]) (upd H p (.lst xs)) := Step.newM h
  refine ⟨by rw [List.length_append, List.length_append, m.len]; rfl, ?_, fun j es q => ?_⟩
  · rw [List.nodup_append]
    exact ⟨m.nd, by simp, fun a ha b hb e => by rw [List.mem_singleton] at hb; subst hb; subst e; exact hp ha⟩
  · by_cases hj : j < μ.length
    · rw [List.getElem?_append_left hj] at q
      obtain ⟨a, ys, q1, q2, q3⟩ := m.at_ j es q
      exact ⟨a, ys, st.get q1, by rw [upd_ne (fun e : a = p => hp (by rw [← e]; exact List.mem_of_getElem? q1))]; exact q2, q3.mono st.same⟩
    · have hj2 : j = μ.length := by
        have := (List.getElem?_eq_some_iff.mp q).1
        rw [List.length_append] at this
        simp at this
        omega
      subst hj2
      rw [List.getElem?_append_right (Nat.le_refl _), Nat.sub_self] at q
      cases q
      refine ⟨p, xs, ?_, upd_same, r.mono st.same⟩
      rw [← m.len, List.getElem?_append_right (Nat.le_refl _), Nat.sub_self]
      rfl
/-- the j-th changed -/
theorem RpM.put {K : PySem.W.Frag} {H : Hp} {ad : List Addr} {μ : Mu} (m : RpM K H ad μ) {j : Nat} {a : Addr} {xs : List V} {ds : List D} (h : ad[j]? = some a) (r : RpA K (hide ad H) xs ds) : RpM K (upd H a (.lst xs)) ad (μ.set j ds) := by
  have ha := List.mem_of_getElem? h
  have st : Step ad H ad (upd H a (.lst xs)) := Step.mut ha
  refine ⟨by rw [List.length_set]; exact m.len, m.nd, fun i es q => ?_⟩
  by_cases e : j = i
  · subst e
    by_cases hl : j < μ.length
    · rw [List.getElem?_set_self hl] at q
      cases q
      exact ⟨a, xs, h, upd_same, r.mono st.same⟩
    · rw [List.getElem?_eq_none (by rw [List.length_set]; omega)] at q
      cases q
  · rw [List.getElem?_set_ne e] at q
    obtain ⟨b, ys, q1, q2, q3⟩ := m.at_ i es q
    refine ⟨b, ys, q1, ?_, q3.mono st.same⟩
    rw [upd_ne fun z => ?_]
    · exact q2
    · subst z
      obtain ⟨l1, e1⟩ := List.getElem?_eq_some_iff.mp h
      obtain ⟨l2, e2⟩ := List.getElem?_eq_some_iff.mp q1
      exact e ((List.getElem_inj m.nd).mp (e1.trans e2.symm))
/-- the last one does not change any more -/
theorem hide_less {ad : List Addr} {p : Addr} {H : Hp} : Same (hide (ad ++ [p]) H) (hide ad H) := fun b o e => by
  obtain ⟨h, e1⟩ := hide_some e
  rw [hide_out fun q => h (List.mem_append_left _ q)]
  exact e1
theorem RpM.last {K : PySem.W.Frag} {H : Hp} {ad : List Addr} {p : Addr} {μ : Mu} {ds : List D} (m : RpM K H (ad ++ [p]) (μ ++ [ds])) : RpM K H ad μ ∧ Rp K (hide ad H) (.ref p) (.lst ds) ∧ p ∉ ad := by
  have hl : ad.length = μ.length := by
    have := m.len
    rw [List.length_append, List.length_append] at this
    simpa using this
  have hp : p ∉ ad := fun q => by
    have := m.nd
    rw [List.nodup_append] at this
    exact this.2.2 p q p (by simp) rfl
  refine ⟨⟨hl, (List.nodup_append.mp m.nd).1, fun j es q => ?_⟩, ?_, hp⟩
  · have hj := (List.getElem?_eq_some_iff.mp q).1
    obtain ⟨a, xs, q1, q2, q3⟩ := m.at_ j es (by rw [List.getElem?_append_left hj]; exact q)
    rw [List.getElem?_append_left (by omega)] at q1
    exact ⟨a, xs, q1, q2, q3.mono hide_less⟩
  · obtain ⟨a, xs, q1, q2, q3⟩ := m.at_ μ.length ds (by rw [List.getElem?_append_right (Nat.le_refl _), Nat.sub_self]; rfl)
    rw [← hl, List.getElem?_append_right (Nat.le_refl _), Nat.sub_self] at q1
    cases q1
    refine .lst (xs := xs) (.inl (.inl ?_)) (q3.mono hide_less)
    rw [hide_out hp]
    exact q2

structure Sim (K : PySem.W.Frag) (H : Hp) (ad : List Addr) (ρ : Rho) (μ : Mu) (σ : St) : Prop where
  m : RpM K H ad μ
  len : ρ.length = σ.length
  e : ∀ (i : Nat) (x : S), ρ[i]? = some (some x) → ∃ v, σ[i]? = some (some v) ∧ RpS K (hide ad H) ad v x
theorem Sim.step {K : PySem.W.Frag} {H H' : Hp} {ad ad' : List Addr} {ρ : Rho} {μ μ' : Mu} {σ : St} (s : Sim K H ad ρ μ σ) (t : Step ad H ad' H') (m : RpM K H' ad' μ') : Sim K H' ad' ρ μ' σ :=
  ⟨m, s.len, fun i x h => let ⟨v, q, r⟩ := s.e i x h; ⟨v, q, r.step t⟩⟩
theorem Sim.set {K : PySem.W.Frag} {H : Hp} {ad : List Addr} {ρ : Rho} {μ : Mu} {σ : St} (s : Sim K H ad ρ μ σ) {i : Nat} {v : V} {x : S} (r : RpS K (hide ad H) ad v x) : Sim K H ad (ρ.set i (some x)) μ (σ.set i (some v)) := by
  refine ⟨s.m, by rw [List.length_set, List.length_set]; exact s.len, fun k y h => ?_⟩
  by_cases e : i = k
  · subst e
    by_cases hl : i < ρ.length
    · rw [List.getElem?_set_self hl] at h
      cases h
      exact ⟨v, by rw [List.getElem?_set_self (by rw [← s.len]; exact hl)], r⟩
    · rw [List.getElem?_eq_none (by rw [List.length_set]; omega)] at h
      cases h
  · rw [List.getElem?_set_ne e] at h
    obtain ⟨w, q, t⟩ := s.e k y h
    exact ⟨w, by rw [List.getElem?_set_ne e]; exact q, t⟩
def wipeR (ρ : Rho) : List Nat → Rho
  | [] => ρ
  | v :: vs => (wipeR ρ vs).set v none
theorem Sim.unset {K : PySem.W.Frag} {H : Hp} {ad : List Addr} {ρ : Rho} {μ : Mu} {σ : St} (s : Sim K H ad ρ μ σ) (i : Nat) : Sim K H ad (ρ.set i none) μ (σ.set i none) := by
  refine ⟨s.m, by rw [List.length_set, List.length_set]; exact s.len, fun k y h => ?_⟩
  by_cases e : i = k
  · subst e
    by_cases hl : i < ρ.length
    · rw [List.getElem?_set_self hl] at h
      cases h
    · rw [List.getElem?_eq_none (by rw [List.length_set]; omega)] at h
      cases h
  · rw [List.getElem?_set_ne e] at h
    obtain ⟨w, q, t⟩ := s.e k y h
    exact ⟨w, by rw [List.getElem?_set_ne e]; exact q, t⟩
theorem Sim.wipe {K : PySem.W.Frag} {H : Hp} {ad : List Addr} {ρ : Rho} {μ : Mu} {σ : St} (s : Sim K H ad ρ μ σ) : ∀ vs : List Nat, Sim K H ad (wipeR ρ vs) μ (L2.wipe σ vs)
  | [] => s
  | v :: vs => (Sim.wipe s vs).unset v

/-! ### judgements -/
abbrev SE := Rho → Mu → (S → Mu → Prop) → Prop
abbrev STe := Rho → Mu → (Bool → Mu → Prop) → Prop
abbrev SA := Rho → Mu → (List S → Mu → Prop) → Prop
structure K4 where
  nx : Rho → Mu → Prop
  rt : S → Mu → Prop
  bk : Rho → Mu → Prop
  ct : Rho → Mu → Prop
  er : D → Rho → Mu → Prop
structure K4.le (k k' : K4) : Prop where
  nx : ∀ ρ μ, k.nx ρ μ → k'.nx ρ μ
  rt : ∀ d μ, k.rt d μ → k'.rt d μ
  bk : ∀ ρ μ, k.bk ρ μ → k'.bk ρ μ
  ct : ∀ ρ μ, k.ct ρ μ → k'.ct ρ μ
  er : ∀ d ρ μ, k.er d ρ μ → k'.er d ρ μ
abbrev SS := Rho → Mu → K4 → Prop
def MonE {α : Type} (f : Rho → Mu → (α → Mu → Prop) → Prop) : Prop := ∀ ρ μ (P P' : α → Mu → Prop), (∀ d μ', P d μ' → P' d μ') → f ρ μ P → f ρ μ P'
def MonS (f : SS) : Prop := ∀ ρ μ k k', K4.le k k' → f ρ μ k → f ρ μ k'

def teOf (K : PySem.W.Frag) (f : SE) : TE := fun σ H Q => ∃ ad ρ μ, Sim K H ad ρ μ σ ∧ f ρ μ fun x μ' => ∀ v H', Step ad H ad H' → RpM K H' ad μ' → RpS K (hide ad H') ad v x → Q v H'
def ttOf (K : PySem.W.Frag) (f : STe) : TT := fun σ H Q => ∃ ad ρ μ, Sim K H ad ρ μ σ ∧ f ρ μ fun b μ' => ∀ H', Step ad H ad H' → RpM K H' ad μ' → Q b H'
def taOf (K : PySem.W.Frag) (f : SA) : TA := fun σ H Q => ∃ ad ρ μ, Sim K H ad ρ μ σ ∧ f ρ μ fun xs μ' => ∀ vs H', Step ad H ad H' → RpM K H' ad μ' → RpSA K (hide ad H') ad vs xs → Q vs H'
def kOf (K : PySem.W.Frag) (W : WX) (ad : List Addr) (H : Hp) (Dn : Ends) : K4 where
  nx := fun ρ' μ' => ∀ σ' H' ad', Step ad H ad' H' → Sim K H' ad' ρ' μ' σ' → Dn.nx σ' H'
  rt := fun x μ' => ∀ v H' ad', Step ad H ad' H' → RpM K H' ad' μ' → RpS K (hide ad' H') ad' v x → Dn.rt v H'
  bk := fun ρ' μ' => ∀ σ' H' ad', Step ad H ad' H' → Sim K H' ad' ρ' μ' σ' → Dn.bk σ' H'
  ct := fun ρ' μ' => ∀ σ' H' ad', Step ad H ad' H' → Sim K H' ad' ρ' μ' σ' → Dn.ct σ' H'
  er := fun x ρ' μ' => ∀ cls d σ' H' ad', Step ad H ad' H' → Sim K H' ad' ρ' μ' σ' → RpX K (hide ad' H') cls d x → W cls d σ' H'
def tsOf (K : PySem.W.Frag) (W : WX) (f : SS) : TS := fun Dn σ H => ∃ ad ρ μ, Sim K H ad ρ μ σ ∧ f ρ μ (kOf K W ad H Dn)

structure PD (X : Cx) (e : Expr) (f : SE) : Prop where
  mo : MonE f
  run : PE X e (teOf X.K f)
structure PDT (X : Cx) (e : Expr) (f : STe) : Prop where
  mo : MonE f
  run : PT X e (ttOf X.K f)
structure PDA (X : Cx) (es : List Expr) (f : SA) : Prop where
  mo : MonE f
  run : PA X es (taOf X.K f)
structure PDS (X : Cx) (W : WX) (st : Stmt) (f : SS) : Prop where
  mo : MonS f
  run : PS X st (tsOf X.K W f)
structure PDSs (X : Cx) (W : WX) (sts : List Stmt) (f : SS) : Prop where
  mo : MonS f
  run : PSs X sts (tsOf X.K W f)
theorem _root_.L2.PE.of {X : Cx} {e : Expr} {t t' : TE} (h : PE X e t) (i : ∀ σ H Q, t' σ H Q → t σ H Q) : PE X e t' := ⟨fun pins s σ H Q I q => h.run pins s σ H Q I (i σ H Q q)⟩
theorem _root_.L2.PT.of {X : Cx} {e : Expr} {t t' : TT} (h : PT X e t) (i : ∀ σ H Q, t' σ H Q → t σ H Q) : PT X e t' := ⟨fun pins s σ H Q I q => h.run pins s σ H Q I (i σ H Q q)⟩
theorem _root_.L2.PA.of {X : Cx} {es : List Expr} {t t' : TA} (h : PA X es t) (i : ∀ σ H Q, t' σ H Q → t σ H Q) : PA X es t' := ⟨fun pos pins s σ H Q I q => h.run pos pins s σ H Q I (i σ H Q q)⟩
theorem _root_.L2.PS.of {X : Cx} {st : Stmt} {t t' : TS} (h : PS X st t) (i : ∀ D σ H, t' D σ H → t D σ H) : PS X st t' := ⟨fun pins s σ H D I q => h.run pins s σ H D I (i D σ H q)⟩
theorem _root_.L2.PSs.of {X : Cx} {st : List Stmt} {t t' : TS} (h : PSs X st t) (i : ∀ D σ H, t' D σ H → t D σ H) : PSs X st t' := ⟨fun pins s σ H D I q => h.run pins s σ H D I (i D σ H q)⟩

/-! ### names, constants -/
section
variable {X : Cx}
def fVar (i : Nat) : SE := fun ρ μ P => match ρ[i]? with | some (some x) => P x μ | _ => False
theorem pd_var {i : Nat} {x : Str} {pos : Pos} (h : PE X (.Name x pos) (tVar i)) : PD X (.Name x pos) (fVar i) := by
  refine ⟨fun ρ μ P P' k h => ?_, h.of fun σ H Q q => ?_⟩
  · unfold fVar at h ⊢
    split at h
    · exact k _ _ h
    · exact h
  · obtain ⟨ad, ρ, μ, s, q⟩ := q
    unfold fVar at q
    split at q
    · rename_i x e
      obtain ⟨v, e1, r⟩ := s.e i x e
      exact ⟨v, e1, q v H (Step.refl _ _) s.m r⟩
    · exact q.elim
def fC (d : D) : SE := fun ρ μ P => P (.d d) μ
theorem pd_c {e : Expr} {v : V} {d : D} (h : PE X e (tC v)) (r : ∀ F, Rp X.K F v d) : PD X e (fC d) :=
  ⟨fun ρ μ P P' k h => k _ _ h, h.of fun σ H Q q => by
    obtain ⟨ad, ρ, μ, s, q⟩ := q
    exact q v H (Step.refl _ _) s.m (r _)⟩
theorem pd_int {i : Int} {j pos} : PD X (.Constant (.int i) j pos) (fC (.int i)) := pd_c pe_int fun _ => .int i
theorem pd_bl {b : Bool} {j pos} : PD X (.Constant (.bool b) j pos) (fC (.bl b)) := pd_c pe_bl fun _ => .bl b
theorem pd_non {j pos} : PD X (.Constant .none j pos) (fC .non) := pd_c pe_non fun _ => .non
theorem pd_str {x : Str} {j pos} : PD X (.Constant (.str x) j pos) (fC (.str x)) := pd_c pe_str fun _ => .str x

/-! ### two in a row -/
/-- an operation on values, as pure data; new tuples and lists may be made -/
abbrev G2 := S → S → Mu → (D → Prop) → Prop
def MonG (g : G2) : Prop := ∀ x y μ P P', (∀ d, P d → P' d) → g x y μ P → g x y μ P'
def Sound2 (K : PySem.W.Frag) (r : R2) (g : G2) : Prop := ∀ (v u : V) (x y : S) (H : Hp) (ad : List Addr) (μ : Mu) (Q : VK), RpM K H ad μ → RpS K (hide ad H) ad v x → RpS K (hide ad H) ad u y →
  g x y μ (fun d => ∀ w H', Step ad H ad H' → RpM K H' ad μ → Rp K (hide ad H') w d → Q w H') → r v u H Q
def fOp (g : G2) (fa fb : SE) : SE := fun ρ μ P => fa ρ μ fun x μ1 => fb ρ μ1 fun y μ2 => g x y μ2 fun d => P (.d d) μ2
theorem mon_op {g : G2} {fa fb : SE} (mg : MonG g) (ma : MonE fa) (mb : MonE fb) : MonE (fOp g fa fb) := fun ρ μ P P' k h =>
  ma ρ μ _ _ (fun x μ1 h1 => mb ρ μ1 _ _ (fun y μ2 h2 => mg x y μ2 _ _ (fun d hd => k _ _ hd) h2) h1) h
theorem op_imp {r : R2} {g : G2} {fa fb : SE} (mg : MonG g) (ma : MonE fa) (mb : MonE fb) (sd : Sound2 X.K r g) (σ : St) (H : Hp) (Q : VK) (q : teOf X.K (fOp g fa fb) σ H Q) : tOp r (teOf X.K fa) (teOf X.K fb) σ H Q := by
  obtain ⟨ad, ρ, μ, s, q⟩ := q
  refine ⟨ad, ρ, μ, s, ma ρ μ _ _ (fun x μ1 h1 v H1 t1 m1 r1 => ?_) q⟩
  refine ⟨ad, ρ, μ1, s.step t1 m1, mb ρ μ1 _ _ (fun y μ2 h2 u H2 t2 m2 r2 => ?_) h1⟩
  refine sd v u x y H2 ad μ2 Q m2 (r1.step t2) r2 (mg x y μ2 _ _ (fun d hd w H3 t3 m3 r3 => ?_) h2)
  exact hd w H3 ((t1.trans t2).trans t3) m3 r3
theorem pd_op {a b : Expr} {op : Operator} {pos : Pos} {r : R2} {g : G2} {fa fb : SE} (ho : OpR X (binaryOp op) r) (mg : MonG g) (sd : Sound2 X.K r g) (ha : PD X a fa) (hb : PD X b fb) : PD X (.BinOp a op b pos) (fOp g fa fb) :=
  ⟨mon_op mg ha.mo hb.mo, (pe_op ho ha.run hb.run).of (op_imp mg ha.mo hb.mo sd)⟩
theorem pd_cmp {a b : Expr} {op : CmpOp} {pos : Pos} {r : R2} {g : G2} {fa fb : SE} (ho : OpR X (compareOp op) r) (mg : MonG g) (sd : Sound2 X.K r g) (hm : behindInMarks op b = false) (ha : PD X a fa) (hb : PD X b fb) : PD X (.Compare a [op] [b] pos) (fOp g fa fb) :=
  ⟨mon_op mg ha.mo hb.mo, (pe_cmpR ho ha.run hb.run hm).of (op_imp mg ha.mo hb.mo sd)⟩
theorem pd_ix {a b : Expr} {pos : Pos} {r : R2} {g : G2} {fa fb : SE} (ho : IxR X r) (mg : MonG g) (sd : Sound2 X.K r g) (hs : PlainIx b) (ha : PD X a fa) (hb : PD X b fb) : PD X (.Subscript a b pos) (fOp g fa fb) :=
  ⟨mon_op mg ha.mo hb.mo, (pe_ix ho ha.run hb.run hs).of (op_imp mg ha.mo hb.mo sd)⟩
def fTest (f : SE) : STe := fun ρ μ P => f ρ μ fun x μ' => match x with | .d (.bl b) => P b μ' | _ => False
theorem mon_test {f : SE} (m : MonE f) : MonE (fTest f) := fun ρ μ P P' k h => m ρ μ _ _ (fun x μ' h => by
  revert h
  cases x with
  | d x => cases x <;> intro h <;> first | exact h | exact k _ _ h
  | m j => exact fun h => h
  | ex _ _ _ _ => exact fun h => h) h
theorem test_imp {f : SE} (m : MonE f) (σ : St) (H : Hp) (Q : Bool → Hp → Prop) (q : ttOf X.K (fTest f) σ H Q) : tTest (teOf X.K f) σ H Q := by
  obtain ⟨ad, ρ, μ, s, q⟩ := q
  refine ⟨ad, ρ, μ, s, m ρ μ _ _ (fun x μ1 h v H1 t1 m1 r1 => ?_) q⟩
  cases x with
  | m j => exact h.elim
  | ex _ _ _ _ => exact h.elim
  | d x =>
    cases x with
    | bl b => cases r1; exact ⟨b, rfl, h H1 t1 m1⟩
    | non => exact h.elim
    | int i => exact h.elim
    | str i => exact h.elim
    | tup i => exact h.elim
    | lst i => exact h.elim
    | dct i j => exact h.elim
    | err i j x => exact h.elim
    | erb i => exact h.elim
theorem test_imp' {f : SE} (m : MonE f) (σ : St) (H : Hp) (Q : Bool → Hp → Prop) (q : ttOf X.K (fTest f) σ H Q) : tB (teOf X.K f) σ H Q := test_imp m σ H Q q
theorem ptd_cmp {a b : Expr} {op : CmpOp} {pos : Pos} {r : R2} {g : G2} {fa fb : SE} (ho : OpR X (compareOp op) r) (mg : MonG g) (sd : Sound2 X.K r g) (hm : behindInMarks op b = false) (ha : PD X a fa) (hb : PD X b fb) : PDT X (.Compare a [op] [b] pos) (fTest (fOp g fa fb)) :=
  ⟨mon_test (mon_op mg ha.mo hb.mo), (pt_cmpR ho ha.run hb.run hm).of fun σ H Q q => by
    have q' := test_imp (mon_op mg ha.mo hb.mo) σ H Q q
    exact op_imp mg ha.mo hb.mo sd σ H _ q'⟩
end
end DV

/-! part DV2 -/
set_option Elab.async false
set_option linter.all false
set_option maxRecDepth 100000
set_option autoImplicit false
namespace DV
open PySem PySem.Spec L2

theorem hide_same {ad : List Addr} {H : Hp} : Same (hide ad H) H := fun b o e => (hide_some e).2
def seqOf (μ : Mu) : S → Option (List D)
  | .d (.lst ds) => some ds
  | .m j => μ[j]?
  | _ => none
def tupOf : S → Option (List D)
  | .d (.tup ds) => some ds
  | _ => none
section
variable {K : PySem.W.Frag} {H : Hp} {ad : List Addr} {μ : Mu} {v : V} {x : S} {ds : List D}
theorem seq_sq (m : RpM K H ad μ) (r : RpS K (hide ad H) ad v x) (h : seqOf μ x = some ds) : ∃ a xs, v = .ref a ∧ SqL K H a xs ∧ RpA K (hide ad H) xs ds := by
  cases x with
  | d x =>
    cases x with
    | lst es =>
      cases h
      cases r with
      | lst h1 h2 => exact ⟨_, _, rfl, sqL_same hide_same h1, h2⟩
    | non => cases h
    | bl => cases h
    | int => cases h
    | str => cases h
    | tup => cases h
    | dct => cases h
    | err => cases h
    | erb => cases h
  | ex _ _ _ _ => cases h
  | m j =>
    obtain ⟨a, h1, rfl⟩ := r
    obtain ⟨b, xs, q1, q2, q3⟩ := m.at_ j ds h
    rw [h1] at q1
    cases q1
    exact ⟨a, xs, rfl, .inl (.inl q2), q3⟩
theorem tup_sq (r : RpS K (hide ad H) ad v x) (h : tupOf x = some ds) : ∃ a xs, v = .ref a ∧ SqT K H a xs ∧ RpA K (hide ad H) xs ds := by
  cases x with
  | d x =>
    cases x with
    | tup es =>
      cases h
      cases r with
      | tup h1 h2 => exact ⟨_, _, rfl, sqT_same hide_same h1, h2⟩
    | non => cases h
    | bl => cases h
    | int => cases h
    | str => cases h
    | lst => cases h
    | dct => cases h
    | err => cases h
    | erb => cases h
  | ex _ _ _ _ => cases h
  | m j => cases h
/-- a new tuple, a new list that will not change -/
theorem new_tup {xs : List V} {Q : VK} (m : RpM K H ad μ) (r : RpA K (hide ad H) xs ds) (h : ∀ w H', Step ad H ad H' → RpM K H' ad μ → Rp K (hide ad H') w (.tup ds) → Q w H') : ∀ p, H p = none → Q (.ref p) (upd H p (.tup xs)) := fun p hp => by
  have st : Step ad H ad (upd H p (.tup xs)) := Step.new hp
  exact h _ _ st (m.new hp) (.tup (.inl (.inl (by rw [hide_out (m.fresh hp)]; exact upd_same))) (r.mono st.same))
theorem new_lst {xs : List V} {Q : VK} (m : RpM K H ad μ) (r : RpA K (hide ad H) xs ds) (h : ∀ w H', Step ad H ad H' → RpM K H' ad μ → Rp K (hide ad H') w (.lst ds) → Q w H') : ∀ p, H p = none → Q (.ref p) (upd H p (.lst xs)) := fun p hp => by
  have st : Step ad H ad (upd H p (.lst xs)) := Step.new hp
  exact h _ _ st (m.new hp) (.lst (.inl (.inl (by rw [hide_out (m.fresh hp)]; exact upd_same))) (r.mono st.same))
end

/-! ### operations on two values -/
def gF (c : S → S → Mu → Prop) (f : S → S → Mu → Option D) : G2 := fun x y μ P => c x y μ ∧ ∃ d, f x y μ = some d ∧ P d
theorem mon_gF {c : S → S → Mu → Prop} {f : S → S → Mu → Option D} : MonG (gF c f) := fun _ _ _ _ _ k ⟨h1, d, h2, h3⟩ => ⟨h1, d, h2, k d h3⟩
def cI (C : Int → Int → Prop) : S → S → Mu → Prop := fun x y _ => match x, y with
  | .d (.int i), .d (.int j) => C i j
  | _, _ => True
def fI (g : Int → Int → D) : S → S → Mu → Option D := fun x y _ => match x, y with
  | .d (.int i), .d (.int j) => some (g i j)
  | _, _ => none
def c0 : S → S → Mu → Prop := fun _ _ _ => True
theorem fI_some {g : Int → Int → D} {x y : S} {μ : Mu} {d : D} (h : fI g x y μ = some d) : ∃ i j, x = .d (.int i) ∧ y = .d (.int j) ∧ d = g i j := by
  unfold fI at h
  split at h
  · cases h; exact ⟨_, _, rfl, rfl, rfl⟩
  · cases h
section
variable {K : PySem.W.Frag}
theorem rp_int {F : Hp} {ad : List Addr} {v : V} {i : Int} (r : RpS K F ad v (.d (.int i))) : v = .int i := by cases r; rfl
theorem rp_bl {F : Hp} {ad : List Addr} {v : V} {i : Bool} (r : RpS K F ad v (.d (.bl i))) : v = .bl i := by cases r; rfl
theorem rp_str {F : Hp} {ad : List Addr} {v : V} {i : Str} (r : RpS K F ad v (.d (.str i))) : v = .str i := by cases r; rfl
theorem snd_I {C : Int → Int → Prop} {g : Int → Int → Int} : Sound2 K (rI C fun i j => .int (g i j)) (gF (cI C) (fI fun i j => .int (g i j))) := by
  intro v u x y H ad μ Q m rx ry h
  obtain ⟨h1, d, h2, h3⟩ := h
  obtain ⟨i, j, rfl, rfl, rfl⟩ := fI_some h2
  exact ⟨i, j, rp_int rx, rp_int ry, h1, h3 _ H (Step.refl _ _) m (.int _)⟩
theorem snd_I0 {g : Int → Int → Int} : Sound2 K (rI0 fun i j => .int (g i j)) (gF c0 (fI fun i j => .int (g i j))) := by
  intro v u x y H ad μ Q m rx ry h
  obtain ⟨h1, d, h2, h3⟩ := h
  obtain ⟨i, j, rfl, rfl, rfl⟩ := fI_some h2
  exact ⟨i, j, rp_int rx, rp_int ry, h3 _ H (Step.refl _ _) m (.int _)⟩
theorem snd_B0 {g : Int → Int → Bool} : Sound2 K (rI0 fun i j => .bl (g i j)) (gF c0 (fI fun i j => .bl (g i j))) := by
  intro v u x y H ad μ Q m rx ry h
  obtain ⟨h1, d, h2, h3⟩ := h
  obtain ⟨i, j, rfl, rfl, rfl⟩ := fI_some h2
  exact ⟨i, j, rp_int rx, rp_int ry, h3 _ H (Step.refl _ _) m (.bl _)⟩
theorem Sound2.or {r r' : R2} {g : G2} {g' : G2} (h : Sound2 K r g) (h' : Sound2 K r' g') : Sound2 K (fun x y H Q => r x y H Q ∨ r' x y H Q) (fun x y μ P => g x y μ P ∨ g' x y μ P) := by
  intro v u x y H ad μ Q m rx ry hh
  rcases hh with hh | hh
  · exact .inl (h v u x y H ad μ Q m rx ry hh)
  · exact .inr (h' v u x y H ad μ Q m rx ry hh)

/-- + : ints; tuples -/
def cAdd : S → S → Mu → Prop := fun x y _ => match x, y with
  | .d (.tup a), .d (.tup b) => a.length + b.length ≤ 100000
  | _, _ => True
def fAdd : S → S → Mu → Option D := fun x y _ => match x, y with
  | .d (.int i), .d (.int j) => some (.int (i + j))
  | .d (.tup a), .d (.tup b) => some (.tup (a ++ b))
  | _, _ => none
theorem sz {n : Nat} (h : n ≤ 100000) : n ≤ sizeLine := Nat.le_trans h (by decide)
theorem snd_add : Sound2 K (fun x y H Q => rI0 (fun i j => .int (i + j)) x y H Q ∨ rCatA K x y H Q) (gF cAdd fAdd) := by
  intro v u x y H ad μ Q m rx ry h
  obtain ⟨h1, d, h2, h3⟩ := h
  unfold fAdd at h2
  split at h2
  · cases h2
    exact .inl ⟨_, _, rp_int rx, rp_int ry, h3 _ H (Step.refl _ _) m (.int _)⟩
  · rename_i a b
    cases h2
    obtain ⟨p, xs, rfl, s1, r1⟩ := tup_sq rx rfl
    obtain ⟨q, ys, rfl, s2, r2⟩ := tup_sq ry rfl
    have l1 := r1.length
    have l2 := r2.length
    have hz : a.length + b.length ≤ 100000 := h1
    refine .inr ⟨p, q, xs, ys, rfl, rfl, s1, s2, sz (by omega), fun e => ?_, fun e e2 => ?_, fun _ _ => new_tup m (r1.append r2) h3⟩
    · subst e
      have e0 : a = [] := List.eq_nil_of_length_eq_zero l1.symm
      subst e0
      exact h3 _ H (Step.refl _ _) m ry
    · subst e2
      have e0 : b = [] := List.eq_nil_of_length_eq_zero l2.symm
      subst e0
      rw [List.append_nil] at h3
      exact h3 _ H (Step.refl _ _) m rx
  · cases h2
/-- an item -/
def fIx : S → S → Mu → Option D := fun x y μ => match y with
  | .d (.int i) => if i < 0 then none else match x with
    | .d (.tup ds) => ds[i.toNat]?
    | .d (.lst ds) => ds[i.toNat]?
    | .m j => match μ[j]? with
      | some ds => ds[i.toNat]?
      | none => none
    | _ => none
  | _ => none
theorem IxR.or {X : Cx} {r r' : R2} (h : IxR X r) (h' : IxR X r') : IxR X (fun x y H Q => r x y H Q ∨ r' x y H Q) := by
  intro value slice pins s σ H x y v u Q I rx ry q hs
  rcases q with q | q
  · exact h value slice pins s σ H x y v u Q I rx ry q hs
  · exact h' value slice pins s σ H x y v u Q I rx ry q hs
theorem snd_ix : Sound2 K (fun x y H Q => rIxL K x y H Q ∨ rIxT K x y H Q) (gF c0 fIx) := by
  intro v u x y H ad μ Q m rx ry h
  obtain ⟨h1, d, h2, h3⟩ := h
  unfold fIx at h2
  split at h2
  · rename_i i
    split at h2
    · cases h2
    · rename_i hi
      have e0 : i = (i.toNat : Int) := by omega
      obtain rfl := rp_int ry
      have L : ∀ es : List D, seqOf μ x = some es → es[i.toNat]? = some d → rIxL K v (.int i) H Q := fun es hs e => by
        obtain ⟨a, xs, rfl, s1, r1⟩ := seq_sq m rx hs
        obtain ⟨w, e1, rw'⟩ := r1.get e
        exact ⟨a, xs, i, w, rfl, rfl, s1, at_of e0 e1, h3 w H (Step.refl _ _) m rw'⟩
      split at h2
      · obtain ⟨a, xs, rfl, s1, r1⟩ := tup_sq rx rfl
        obtain ⟨w, e1, rw'⟩ := r1.get h2
        exact .inr ⟨a, xs, i, w, rfl, rfl, s1, at_of e0 e1, h3 w H (Step.refl _ _) m rw'⟩
      · exact .inl (L _ rfl h2)
      · split at h2
        · rename_i e
          exact .inl (L _ e h2)
        · cases h2
      · cases h2
  · cases h2
/-- tuple * int -/
def cRepT : S → S → Mu → Prop := fun x y _ => match x, y with
  | .d (.tup a), .d (.int k) => a ≠ [] ∧ 2 ≤ k ∧ k ≤ 1000 ∧ a.length ≤ 1000
  | _, _ => True
def fRepT : S → S → Mu → Option D := fun x y _ => match x, y with
  | .d (.tup a), .d (.int k) => some (.tup (List.replicate k.toNat a).flatten)
  | _, _ => none
theorem snd_repT : Sound2 K (rRepT K) (gF cRepT fRepT) := by
  intro v u x y H ad μ Q m rx ry h
  obtain ⟨h1, d, h2, h3⟩ := h
  unfold fRepT at h2
  split at h2
  · rename_i a k
    cases h2
    obtain ⟨p, xs, rfl, s1, r1⟩ := tup_sq rx rfl
    have l1 := r1.length
    have hz : a ≠ [] ∧ 2 ≤ k ∧ k ≤ 1000 ∧ a.length ≤ 1000 := h1
    refine ⟨p, k, xs, rfl, rp_int ry, s1, fun e => ?_, hz.2.1, hz.2.2.1, by omega, new_tup m (r1.rep _) h3⟩
    subst e
    exact hz.1 (List.eq_nil_of_length_eq_zero l1.symm)
  · cases h2

/-! ### data as the library tells it -/
def keyPy : Key → PyData
  | .inl i => .int i
  | .inr x => .str x
mutual
def D.py : D → PyData
  | .non => .none
  | .bl b => .bool b
  | .int i => .int i
  | .str x => .str x
  | .tup ds => .tuple (pyA ds)
  | .lst ds => .list (pyA ds)
  | .dct ks ds => .dict ((ks.map keyPy).zip (pyA ds))
  | .err _ _ _ => .dict []
  | .erb _ => .dict []
def pyA : List D → List PyData
  | [] => []
  | d :: r => d.py :: pyA r
end
mutual
/-- no dict, no error within -/
def D.plain : D → Bool
  | .tup ds => plainA ds
  | .lst ds => plainA ds
  | .dct _ _ => false
  | .err _ _ _ => false
  | .erb _ => false
  | _ => true
def plainA : List D → Bool
  | [] => true
  | d :: r => d.plain && plainA r
end
mutual
theorem plain_of : ∀ {d : D}, d.py.hasDict = false → d.plain = true
  | .non, _ => rfl
  | .bl _, _ => rfl
  | .int _, _ => rfl
  | .str _, _ => rfl
  | .tup ds, h => plainA_of (ds := ds) (by simpa only [D.py, PyData.hasDict] using h)
  | .lst ds, h => plainA_of (ds := ds) (by simpa only [D.py, PyData.hasDict] using h)
  | .dct _ _, h => by simp [D.py, PyData.hasDict] at h
  | .err _ _ _, h => by simp [D.py, PyData.hasDict] at h
  | .erb _, h => by simp [D.py, PyData.hasDict] at h
theorem plainA_of : ∀ {ds : List D}, PyData.hasDictAll (pyA ds) = false → plainA ds = true
  | [], _ => rfl
  | d :: r, h => by
    simp only [pyA, PyData.hasDictAll, Bool.or_eq_false_iff] at h
    simp only [plainA, Bool.and_eq_true]
    exact ⟨plain_of h.1, plainA_of h.2⟩
end
mutual
theorem Rp.dp {H : Hp} : ∀ {v : V} {d : D}, Rp K H v d → d.plain = true → Dp K H v d.py
  | _, _, .non, _ => .non
  | _, _, .bl b, _ => .bl b
  | _, _, .int i, _ => .int i
  | _, _, .str x, _ => .str x
  | _, _, .tup h r, p => .tup h (RpA.dp r p)
  | _, _, .lst h r, p => .lst h (RpA.dp r p)
  | _, _, .dct _ _, p => nomatch p
  | _, _, .err _ _ _, p => nomatch p
  | _, _, .erb _, p => nomatch p
theorem RpA.dp {H : Hp} : ∀ {vs : List V} {ds : List D}, RpA K H vs ds → plainA ds = true → DpAll K H vs (pyA ds)
  | _, _, .nil, _ => .nil
  | _, _, .cons h r, p => .cons (Rp.dp h (Bool.and_eq_true_iff.mp p).1) (RpA.dp r (Bool.and_eq_true_iff.mp p).2)
end
/-- == of ints, texts; of pairs of ints -/
def fEq : S → S → Mu → Option D := fun x y _ => match x, y with
  | .d (.int i), .d (.int j) => some (.bl (decide (i = j)))
  | .d (.str i), .d (.str j) => some (.bl (decide (i = j)))
  | .d (.bl i), .d (.bl j) => some (.bl (decide (i = j)))
  | .d (.tup [.int i, .int k]), .d (.tup [.int j, .int l]) => some (.bl (decide (i = j ∧ k = l)))
  | _, _ => none
def fNe : S → S → Mu → Option D := fun x y _ => match x, y with
  | .d (.int i), .d (.int j) => some (.bl (!decide (i = j)))
  | .d (.str i), .d (.str j) => some (.bl (!decide (i = j)))
  | .d (.bl i), .d (.bl j) => some (.bl (!decide (i = j)))
  | _, _ => none
theorem eqv_pair (i k j l : Int) : PyData.eqv (.tuple [.int i, .int k]) (.tuple [.int j, .int l]) = decide (i = j ∧ k = l) := by
  by_cases h1 : i = j <;> by_cases h2 : k = l <;> simp [PyData.eqv, PyData.eqvAll, h1, h2]
theorem snd_eq : Sound2 K (fun x y H Q => rEq x y H Q ∨ rEqD K x y H Q) (gF c0 fEq) := by
  intro v u x y H ad μ Q m rx ry h
  obtain ⟨h1, d, h2, h3⟩ := h
  unfold fEq at h2
  split at h2
  · cases h2
    obtain rfl := rp_int rx
    obtain rfl := rp_int ry
    refine .inl ⟨rfl, h3 _ H (Step.refl _ _) m ?_⟩
    simp only [V.int.injEq]
    exact .bl _
  · cases h2
    obtain rfl := rp_str rx
    obtain rfl := rp_str ry
    refine .inl ⟨rfl, h3 _ H (Step.refl _ _) m ?_⟩
    simp only [V.str.injEq]
    exact .bl _
  · cases h2
    obtain rfl := rp_bl rx
    obtain rfl := rp_bl ry
    refine .inl ⟨rfl, h3 _ H (Step.refl _ _) m ?_⟩
    simp only [V.bl.injEq]
    exact .bl _
  · rename_i i k j l
    cases h2
    refine .inr ⟨_, _, Rp.dp (Rp.mono hide_same rx) rfl, Rp.dp (Rp.mono hide_same ry) rfl, by rfl, by rfl, h3 _ H (Step.refl _ _) m ?_⟩
    simp only [D.py, pyA, eqv_pair]
    exact .bl _
  · cases h2
theorem snd_ne : Sound2 K rNe (gF c0 fNe) := by
  intro v u x y H ad μ Q m rx ry h
  obtain ⟨h1, d, h2, h3⟩ := h
  unfold fNe at h2
  split at h2
  · cases h2
    obtain rfl := rp_int rx
    obtain rfl := rp_int ry
    refine ⟨rfl, h3 _ H (Step.refl _ _) m ?_⟩
    simp only [V.int.injEq]
    exact .bl _
  · cases h2
    obtain rfl := rp_str rx
    obtain rfl := rp_str ry
    refine ⟨rfl, h3 _ H (Step.refl _ _) m ?_⟩
    simp only [V.str.injEq]
    exact .bl _
  · cases h2
    obtain rfl := rp_bl rx
    obtain rfl := rp_bl ry
    refine ⟨rfl, h3 _ H (Step.refl _ _) m ?_⟩
    simp only [V.bl.injEq]
    exact .bl _
  · cases h2
/-- not in a tuple of ints -/
def intsOf : List D → Option (List Int)
  | [] => some []
  | .int i :: r => (intsOf r).map (i :: ·)
  | _ => none
theorem intsOf_some : ∀ {ds : List D} {ns : List Int}, intsOf ds = some ns → ds = ns.map D.int
  | [], _, h => by cases h; rfl
  | .int i :: r, ns, h => by
    unfold intsOf at h
    cases e : intsOf r with
    | none => rw [e] at h; cases h
    | some ms => rw [e] at h; cases h; rw [intsOf_some e]; rfl
  | .non :: r, ns, h => by cases h
  | .bl _ :: r, ns, h => by cases h
  | .str _ :: r, ns, h => by cases h
  | .tup _ :: r, ns, h => by cases h
  | .lst _ :: r, ns, h => by cases h
  | .dct _ _ :: r, ns, h => by cases h
  | .err _ _ _ :: r, ns, h => by cases h
  | .erb _ :: r, ns, h => by cases h
theorem rpA_ints {F : Hp} : ∀ {vs : List V} {ns : List Int}, RpA K F vs (ns.map D.int) → vs = ns.map V.int
  | _, [], h => by cases h; rfl
  | _, n :: r, h => by
    cases h with
    | cons h1 h2 =>
      cases h1
      rw [rpA_ints h2]
      rfl
def fNotIn : S → S → Mu → Option D := fun x y μ => match x, y with
  | .d (.int i), .d (.tup ds) => match intsOf ds with
    | some ns => some (.bl (!ns.contains i))
    | none => none
  | _, _ => none
theorem inV_ints (i : Int) (ns : List Int) : inV (.int i) (ns.map V.int) = ns.contains i := by
  unfold inV
  induction ns with
  | nil => rfl
  | cons n r ih =>
    rw [List.map_cons, List.any_cons, ih, List.contains_cons]
    congr 1
    show (decide _) = _
    by_cases h : n = i
    · subst h; simp
    · have h' : ¬ i = n := fun e => h e.symm
      simp [h, h']
theorem snd_notIn : Sound2 K (rIn K true) (gF c0 fNotIn) := by
  intro v u x y H ad μ Q m rx ry h
  obtain ⟨h1, d, h2, h3⟩ := h
  unfold fNotIn at h2
  split at h2
  · split at h2
    · rename_i i ds ns e
      cases h2
      have e1 := intsOf_some e
      obtain ⟨p, xs, rfl, s1, r1⟩ := tup_sq ry rfl
      rw [e1] at r1
      have e2 := rpA_ints r1
      obtain rfl := rp_int rx
      refine ⟨p, xs, rfl, .inr s1, rfl, ?_, ?_⟩
      · rw [e2]; simp [List.all_eq_true, flatV]
      · rw [e2, inV_ints]
        exact h3 _ H (Step.refl _ _) m (.bl _)
    · cases h2
  · cases h2
end

/-! ### arguments, displays -/
section
variable {X : Cx}
def fANil : SA := fun ρ μ P => P [] μ
def fACons (f : SE) (g : SA) : SA := fun ρ μ P => f ρ μ fun x μ1 => g ρ μ1 fun xs μ2 => P (x :: xs) μ2
theorem pda_nil : PDA X [] fANil := ⟨fun ρ μ P P' k h => k _ _ h, pa_nil.of fun σ H Q ⟨ad, ρ, μ, s, q⟩ => q [] H (Step.refl _ _) s.m .nil⟩
theorem pda_cons {e : Expr} {es : List Expr} {f : SE} {g : SA} (h : PD X e f) (r : PDA X es g) (hs : starEach (e :: es) X.env = (false, eval e X.env) :: starEach es X.env := by rfl) : PDA X (e :: es) (fACons f g) := by
  refine ⟨fun ρ μ P P' k q => h.mo ρ μ _ _ (fun x μ1 q1 => r.mo ρ μ1 _ _ (fun xs μ2 q2 => k _ _ q2) q1) q, (pa_cons h.run r.run hs).of fun σ H Q q => ?_⟩
  obtain ⟨ad, ρ, μ, s, q⟩ := q
  refine ⟨ad, ρ, μ, s, h.mo ρ μ _ _ (fun x μ1 h1 v H1 t1 m1 r1 => ?_) q⟩
  refine ⟨ad, ρ, μ1, s.step t1 m1, r.mo ρ μ1 _ _ (fun xs μ2 h2 vs H2 t2 m2 r2 => ?_) h1⟩
  exact h2 (v :: vs) H2 (t1.trans t2) m2 (.cons (r1.step t2) r2)
def allD : List S → Option (List D)
  | [] => some []
  | .d x :: r => (allD r).map (x :: ·)
  | .m _ :: _ => none
  | .ex _ _ _ _ :: _ => none
theorem allD_rp {K : PySem.W.Frag} {F : Hp} {ad : List Addr} : ∀ {ss : List S} {vs : List V} {ds : List D}, RpSA K F ad vs ss → allD ss = some ds → RpA K F vs ds
  | [], _, _, r, h => by cases h; cases r; exact .nil
  | .d x :: ss, _, ds, r, h => by
    unfold allD at h
    cases e : allD ss with
    | none => rw [e] at h; cases h
    | some es =>
      rw [e] at h
      cases h
      cases r with
      | cons h1 h2 => exact .cons h1 (allD_rp h2 e)
  | .m j :: ss, _, _, _, h => by cases h
  | .ex _ _ _ _ :: ss, _, _, _, h => by cases h
theorem allD_len : ∀ {ss : List S} {ds : List D}, allD ss = some ds → ds.length = ss.length
  | [], _, h => by cases h; rfl
  | .d x :: ss, ds, h => by
    unfold allD at h
    cases e : allD ss with
    | none => rw [e] at h; cases h
    | some es => rw [e] at h; cases h; simp [allD_len e]
  | .m j :: ss, _, h => by cases h
  | .ex _ _ _ _ :: ss, _, h => by cases h
def fTup (f : SA) : SE := fun ρ μ P => f ρ μ fun ss μ' => ∃ ds, allD ss = some ds ∧ ds.length ≤ 100000 ∧ P (.d (.tup ds)) μ'
def fLst (f : SA) : SE := fun ρ μ P => f ρ μ fun ss μ' => ∃ ds, allD ss = some ds ∧ ds.length ≤ 100000 ∧ P (.d (.lst ds)) μ'
theorem pd_tup {es : List Expr} {k : Nat} {pos : Pos} {f : SA} (h : PDA X es f) : PD X (.Tuple es k pos) (fTup f) := by
  refine ⟨fun ρ μ P P' k q => h.mo ρ μ _ _ (fun x μ1 ⟨ds, h1, h2, h3⟩ => ⟨ds, h1, h2, k _ _ h3⟩) q, (pe_tup h.run).of fun σ H Q q => ?_⟩
  obtain ⟨ad, ρ, μ, s, q⟩ := q
  refine ⟨ad, ρ, μ, s, h.mo ρ μ _ _ (fun ss μ1 h1 vs H1 t1 m1 r1 => ?_) q⟩
  obtain ⟨ds, a1, a2, a3⟩ := h1
  have r2 := allD_rp r1 a1
  exact ⟨sz (by rw [r2.length]; exact a2), new_tup m1 r2 fun w H2 t2 m2 r3 => a3 w H2 (t1.trans t2) m2 r3⟩
theorem pd_lst {es : List Expr} {pos : Pos} {f : SA} (h : PDA X es f) : PD X (.List es pos) (fLst f) := by
  refine ⟨fun ρ μ P P' k q => h.mo ρ μ _ _ (fun x μ1 ⟨ds, h1, h2, h3⟩ => ⟨ds, h1, h2, k _ _ h3⟩) q, (pe_lst h.run).of fun σ H Q q => ?_⟩
  obtain ⟨ad, ρ, μ, s, q⟩ := q
  refine ⟨ad, ρ, μ, s, h.mo ρ μ _ _ (fun ss μ1 h1 vs H1 t1 m1 r1 => ?_) q⟩
  obtain ⟨ds, a1, a2, a3⟩ := h1
  have r2 := allD_rp r1 a1
  exact ⟨sz (by rw [r2.length]; exact a2), new_lst m1 r2 fun w H2 t2 m2 r3 => a3 w H2 (t1.trans t2) m2 r3⟩

/-! ### calls of built-ins, by values -/
abbrev GA := List S → Mu → (D → Prop) → Prop
def SoundA (K : PySem.W.Frag) (r : List V → Hp → VK → Prop) (g : GA) : Prop := ∀ (vs : List V) (ss : List S) (H : Hp) (ad : List Addr) (μ : Mu) (Q : VK), RpM K H ad μ → RpSA K (hide ad H) ad vs ss →
  g ss μ (fun d => ∀ w H', Step ad H ad H' → RpM K H' ad μ → Rp K (hide ad H') w d → Q w H') → r vs H Q
def gA (c : List S → Mu → Prop) (f : List S → Mu → Option D) : GA := fun ss μ P => c ss μ ∧ ∃ d, f ss μ = some d ∧ P d
def MonA (g : GA) : Prop := ∀ ss μ P P', (∀ d, P d → P' d) → g ss μ P → g ss μ P'
theorem mon_gA {c : List S → Mu → Prop} {f : List S → Mu → Option D} : MonA (gA c f) := fun _ _ _ _ k ⟨h1, d, h2, h3⟩ => ⟨h1, d, h2, k d h3⟩
def fCB (g : GA) (f : SA) : SE := fun ρ μ P => f ρ μ fun ss μ' => g ss μ' fun d => P (.d d) μ'
theorem mon_CB {g : GA} {f : SA} (mg : MonA g) (m : MonE f) : MonE (fCB g f) := fun ρ μ P P' k h => m ρ μ _ _ (fun ss μ1 h1 => mg ss μ1 _ _ (fun d hd => k _ _ hd) h1) h
theorem CB_imp {r : List V → Hp → VK → Prop} {g : GA} {f : SA} (mg : MonA g) (m : MonE f) (sd : SoundA X.K r g) (σ : L2.St) (H : Hp) (Q : VK) (q : teOf X.K (fCB g f) σ H Q) : tCB r (taOf X.K f) σ H Q := by
  obtain ⟨ad, ρ, μ, s, q⟩ := q
  refine ⟨ad, ρ, μ, s, m ρ μ _ _ (fun ss μ1 h1 vs H1 t1 m1 r1 => ?_) q⟩
  exact sd vs ss H1 ad μ1 Q m1 r1 (mg ss μ1 _ _ (fun d hd w H2 t2 m2 r2 => hd w H2 (t1.trans t2) m2 r2) h1)
theorem pd_of_CB {e : Expr} {r : List V → Hp → VK → Prop} {g : GA} {f : SA} (mg : MonA g) (m : MonE f) (sd : SoundA X.K r g) (h : PE X e (tCB r (taOf X.K f))) : PD X e (fCB g f) := ⟨mon_CB mg m, h.of (CB_imp mg m sd)⟩
end
section
variable {K : PySem.W.Frag}
theorem rsa1 {F : Hp} {ad : List Addr} {vs : List V} {x : S} (r : RpSA K F ad vs [x]) : ∃ v, vs = [v] ∧ RpS K F ad v x := by
  cases r with
  | cons h r => cases r; exact ⟨_, rfl, h⟩
theorem rsa2 {F : Hp} {ad : List Addr} {vs : List V} {x y : S} (r : RpSA K F ad vs [x, y]) : ∃ v u, vs = [v, u] ∧ RpS K F ad v x ∧ RpS K F ad u y := by
  cases r with
  | cons h r =>
    obtain ⟨u, rfl, h2⟩ := rsa1 r
    exact ⟨_, u, rfl, h, h2⟩
/-- len -/
def fLen : List S → Mu → Option D := fun ss μ => match ss with
  | [.d (.tup ds)] => some (.int ds.length)
  | [.d (.lst ds)] => some (.int ds.length)
  | [.m j] => (μ[j]?).map fun ds => .int ds.length
  | _ => none
def cA0 : List S → Mu → Prop := fun _ _ => True
theorem snd_len : SoundA K (fun xs H Q => ∃ p ys, xs = [.ref p] ∧ (SqL K H p ys ∨ SqT K H p ys) ∧ Q (.int ys.length) H) (gA cA0 fLen) := by
  intro vs ss H ad μ Q m r h
  obtain ⟨h1, d, h2, h3⟩ := h
  unfold fLen at h2
  have L : ∀ (x : S) (es : List D), ss = [x] → seqOf μ x = some es → d = .int es.length → ∃ p ys, vs = [.ref p] ∧ (SqL K H p ys ∨ SqT K H p ys) ∧ Q (.int ys.length) H := fun x es e1 e2 e3 => by
    subst e1
    obtain ⟨v, rfl, r1⟩ := rsa1 r
    obtain ⟨a, xs, rfl, s1, r2⟩ := seq_sq m r1 e2
    refine ⟨a, xs, rfl, .inl s1, ?_⟩
    rw [r2.length]
    exact h3 _ H (Step.refl _ _) m (by rw [e3]; exact .int _)
  split at h2
  · cases h2
    obtain ⟨v, rfl, r1⟩ := rsa1 r
    obtain ⟨a, xs, rfl, s1, r2⟩ := tup_sq r1 rfl
    refine ⟨a, xs, rfl, .inr s1, ?_⟩
    rw [r2.length]
    exact h3 _ H (Step.refl _ _) m (.int _)
  · cases h2
    exact L _ _ rfl rfl rfl
  · rename_i j
    cases e : μ[j]? with
    | none => rw [e] at h2; cases h2
    | some es => rw [e] at h2; cases h2; exact L _ es rfl e rfl
  · cases h2
/-- sum, all, any of a list -/
def blsOf : List D → Option (List Bool)
  | [] => some []
  | .bl i :: r => (blsOf r).map (i :: ·)
  | _ => none
theorem blsOf_some : ∀ {ds : List D} {ns : List Bool}, blsOf ds = some ns → ds = ns.map D.bl
  | [], _, h => by cases h; rfl
  | .bl i :: r, ns, h => by
    unfold blsOf at h
    cases e : blsOf r with
    | none => rw [e] at h; cases h
    | some ms => rw [e] at h; cases h; rw [blsOf_some e]; rfl
  | .non :: r, ns, h => by cases h
  | .int _ :: r, ns, h => by cases h
  | .str _ :: r, ns, h => by cases h
  | .tup _ :: r, ns, h => by cases h
  | .lst _ :: r, ns, h => by cases h
  | .dct _ _ :: r, ns, h => by cases h
  | .err _ _ _ :: r, ns, h => by cases h
  | .erb _ :: r, ns, h => by cases h
theorem rpA_bls {F : Hp} : ∀ {vs : List V} {ns : List Bool}, RpA K F vs (ns.map D.bl) → vs = ns.map V.bl
  | _, [], h => by cases h; rfl
  | _, n :: r, h => by
    cases h with
    | cons h1 h2 =>
      cases h1
      rw [rpA_bls h2]
      rfl
def f1L (g : List D → Option D) : List S → Mu → Option D := fun ss μ => match ss with
  | [x] => match seqOf μ x with
    | some ds => g ds
    | none => none
  | _ => none
theorem f1L_some {g : List D → Option D} {ss : List S} {μ : Mu} {d : D} (h : f1L g ss μ = some d) : ∃ x ds, ss = [x] ∧ seqOf μ x = some ds ∧ g ds = some d := by
  unfold f1L at h
  split at h
  · split at h
    · rename_i e
      exact ⟨_, _, rfl, e, h⟩
    · cases h
  · cases h
def gSum (ds : List D) : Option D := (intsOf ds).map fun ns => .int ns.sum
def gAll (ds : List D) : Option D := (blsOf ds).map fun bs => .bl (bs.all id)
def gAny (ds : List D) : Option D := (blsOf ds).map fun bs => .bl (bs.any id)
theorem snd_sum : SoundA K (rSum K) (gA cA0 (f1L gSum)) := by
  intro vs ss H ad μ Q m r h
  obtain ⟨h1, d, h2, h3⟩ := h
  obtain ⟨x, ds, rfl, e1, e2⟩ := f1L_some h2
  obtain ⟨v, rfl, r1⟩ := rsa1 r
  obtain ⟨a, xs, rfl, s1, r2⟩ := seq_sq m r1 e1
  unfold gSum at e2
  cases e : intsOf ds with
  | none => rw [e] at e2; cases e2
  | some ns =>
    rw [e] at e2
    cases e2
    rw [intsOf_some e] at r2
    exact ⟨a, ns, rfl, by rw [← rpA_ints r2]; exact s1, h3 _ H (Step.refl _ _) m (.int _)⟩
theorem snd_all : SoundA K (rAll K) (gA cA0 (f1L gAll)) := by
  intro vs ss H ad μ Q m r h
  obtain ⟨h1, d, h2, h3⟩ := h
  obtain ⟨x, ds, rfl, e1, e2⟩ := f1L_some h2
  obtain ⟨v, rfl, r1⟩ := rsa1 r
  obtain ⟨a, xs, rfl, s1, r2⟩ := seq_sq m r1 e1
  unfold gAll at e2
  cases e : blsOf ds with
  | none => rw [e] at e2; cases e2
  | some ns =>
    rw [e] at e2
    cases e2
    rw [blsOf_some e] at r2
    exact ⟨a, ns, rfl, by rw [← rpA_bls r2]; exact s1, h3 _ H (Step.refl _ _) m (.bl _)⟩
theorem snd_any : SoundA K (rAny K) (gA cA0 (f1L gAny)) := by
  intro vs ss H ad μ Q m r h
  obtain ⟨h1, d, h2, h3⟩ := h
  obtain ⟨x, ds, rfl, e1, e2⟩ := f1L_some h2
  obtain ⟨v, rfl, r1⟩ := rsa1 r
  obtain ⟨a, xs, rfl, s1, r2⟩ := seq_sq m r1 e1
  unfold gAny at e2
  cases e : blsOf ds with
  | none => rw [e] at e2; cases e2
  | some ns =>
    rw [e] at e2
    cases e2
    rw [blsOf_some e] at r2
    exact ⟨a, ns, rfl, by rw [← rpA_bls r2]; exact s1, h3 _ H (Step.refl _ _) m (.bl _)⟩
/-- tuple(list), tuple(tuple) -/
def fTupleOf : List S → Mu → Option D := fun ss μ => match ss with
  | [.d (.tup ds)] => some (.tup ds)
  | [x] => (seqOf μ x).map .tup
  | _ => none
theorem snd_tupleOf : SoundA K (fun xs H Q => ∃ p ys, xs = [.ref p] ∧ ((SqL K H p ys ∧ ∀ l, H l = none → Q (.ref l) (upd H l (.tup ys))) ∨ (SqT K H p ys ∧ Q (.ref p) H))) (gA cA0 fTupleOf) := by
  intro vs ss H ad μ Q m r h
  obtain ⟨h1, d, h2, h3⟩ := h
  unfold fTupleOf at h2
  split at h2
  · cases h2
    obtain ⟨v, rfl, r1⟩ := rsa1 r
    obtain ⟨a, xs, rfl, s1, r2⟩ := tup_sq r1 rfl
    exact ⟨a, xs, rfl, .inr ⟨s1, h3 _ H (Step.refl _ _) m r1⟩⟩
  · rename_i x _
    cases e : seqOf μ x with
    | none => rw [e] at h2; cases h2
    | some ds =>
      rw [e] at h2
      cases h2
      obtain ⟨v, rfl, r1⟩ := rsa1 r
      obtain ⟨a, xs, rfl, s1, r2⟩ := seq_sq m r1 e
      exact ⟨a, xs, rfl, .inl ⟨s1, new_tup m r2 h3⟩⟩
  · cases h2
/-- list(..) of a list or a tuple -/
def fListOf : List S → Mu → Option D := fun ss μ => match ss with
  | [.d (.tup ds)] => some (.lst ds)
  | [x] => (seqOf μ x).map .lst
  | _ => none
theorem snd_listOf : SoundA K (fun xs H Q => ∃ p ys, xs = [.ref p] ∧ (SqL K H p ys ∨ SqT K H p ys) ∧ ∀ l, H l = none → Q (.ref l) (upd H l (.lst ys))) (gA cA0 fListOf) := by
  intro vs ss H ad μ Q m r h
  obtain ⟨h1, d, h2, h3⟩ := h
  unfold fListOf at h2
  split at h2
  · cases h2
    obtain ⟨v, rfl, r1⟩ := rsa1 r
    obtain ⟨a, xs, rfl, s1, r2⟩ := tup_sq r1 rfl
    exact ⟨a, xs, rfl, .inr s1, new_lst m r2 h3⟩
  · rename_i x _
    cases e : seqOf μ x with
    | none => rw [e] at h2; cases h2
    | some ds =>
      rw [e] at h2
      cases h2
      obtain ⟨v, rfl, r1⟩ := rsa1 r
      obtain ⟨a, xs, rfl, s1, r2⟩ := seq_sq m r1 e
      exact ⟨a, xs, rfl, .inl s1, new_lst m r2 h3⟩
  · cases h2
/-- ints in -/
def fA1 (g : Int → D) : List S → Mu → Option D := fun ss _ => match ss with
  | [.d (.int i)] => some (g i)
  | _ => none
theorem fA1_some {g : Int → D} {ss : List S} {μ : Mu} {d : D} (h : fA1 g ss μ = some d) : ∃ i, ss = [.d (.int i)] ∧ d = g i := by
  unfold fA1 at h
  split at h
  · cases h; exact ⟨_, rfl, rfl⟩
  · cases h
def fA2 (g : Int → Int → D) : List S → Mu → Option D := fun ss _ => match ss with
  | [.d (.int i), .d (.int j)] => some (g i j)
  | _ => none
theorem fA2_some {g : Int → Int → D} {ss : List S} {μ : Mu} {d : D} (h : fA2 g ss μ = some d) : ∃ i j, ss = [.d (.int i), .d (.int j)] ∧ d = g i j := by
  unfold fA2 at h
  split at h
  · cases h; exact ⟨_, _, rfl, rfl⟩
  · cases h
theorem snd_abs : SoundA K (fun xs H Q => ∃ i, xs = [.int i] ∧ Q (.int (if i < 0 then -i else i)) H) (gA cA0 (fA1 fun i => .int (if i < 0 then -i else i))) := by
  intro vs ss H ad μ Q m r h
  obtain ⟨h1, d, h2, h3⟩ := h
  obtain ⟨i, rfl, rfl⟩ := fA1_some h2
  obtain ⟨v, rfl, r1⟩ := rsa1 r
  exact ⟨i, by rw [rp_int r1], h3 _ H (Step.refl _ _) m (.int _)⟩
theorem snd_int1 : SoundA K (fun xs H Q => (∃ i, xs = [.int i] ∧ Q (.int i) H) ∨ ∃ k, xs = [.bl k] ∧ Q (.int (if k then 1 else 0)) H) (gA cA0 (fA1 fun i => .int i)) := by
  intro vs ss H ad μ Q m r h
  obtain ⟨h1, d, h2, h3⟩ := h
  obtain ⟨i, rfl, rfl⟩ := fA1_some h2
  obtain ⟨v, rfl, r1⟩ := rsa1 r
  exact .inl ⟨i, by rw [rp_int r1], h3 _ H (Step.refl _ _) m (.int _)⟩
theorem snd_max2 : SoundA K (fun xs H Q => ∃ i j, xs = [.int i, .int j] ∧ Q (.int (if j > i then j else i)) H) (gA cA0 (fA2 fun i j => .int (if j > i then j else i))) := by
  intro vs ss H ad μ Q m r h
  obtain ⟨h1, d, h2, h3⟩ := h
  obtain ⟨i, j, rfl, rfl⟩ := fA2_some h2
  obtain ⟨v, u, rfl, r1, r2⟩ := rsa2 r
  exact ⟨i, j, by rw [rp_int r1, rp_int r2], h3 _ H (Step.refl _ _) m (.int _)⟩
theorem snd_min2 : SoundA K (fun xs H Q => ∃ i j, xs = [.int i, .int j] ∧ Q (.int (if j < i then j else i)) H) (gA cA0 (fA2 fun i j => .int (if j < i then j else i))) := by
  intro vs ss H ad μ Q m r h
  obtain ⟨h1, d, h2, h3⟩ := h
  obtain ⟨i, j, rfl, rfl⟩ := fA2_some h2
  obtain ⟨v, u, rfl, r1, r2⟩ := rsa2 r
  exact ⟨i, j, by rw [rp_int r1, rp_int r2], h3 _ H (Step.refl _ _) m (.int _)⟩
theorem snd_gcd : SoundA K rGcd (gA cA0 (fA2 fun i j => .int ((Nat.gcd i.natAbs j.natAbs : Nat) : Int))) := by
  intro vs ss H ad μ Q m r h
  obtain ⟨h1, d, h2, h3⟩ := h
  obtain ⟨i, j, rfl, rfl⟩ := fA2_some h2
  obtain ⟨v, u, rfl, r1, r2⟩ := rsa2 r
  exact ⟨i, j, by rw [rp_int r1, rp_int r2], h3 _ H (Step.refl _ _) m (.int _)⟩
/-- divmod by a positive divisor of few figures -/
def cDm : List S → Mu → Prop := fun ss _ => match ss with
  | [.d (.int i), .d (.int j)] => 0 < j ∧ j < 2 ^ 100
  | _ => True
theorem divp_small {i j : Int} (h : 0 < j) (h2 : j < 2 ^ 100) : CDivP i j := by
  refine ⟨h, ?_⟩
  unfold Builtin.divisionGoesByPylong
  have e : j.natAbs.log2 < 100 := by
    have h3 : j.natAbs < 2 ^ 100 := by omega
    exact (Nat.log2_lt (by omega)).mpr h3
  have e2 : (j == 0) = false := by simpa using (show j ≠ 0 by omega)
  simp only [e2]
  have e3 : decide (j.natAbs.log2 / 30 + 1 > 300) = false := by
    rw [decide_eq_false]
    omega
  simp [e3]
theorem snd_divmod : SoundA K (fun xs H Q => ∃ i j, xs = [.int i, .int j] ∧ CDivP i j ∧ ∀ p, H p = none → Q (.ref p) (upd H p (.tup [.int (i / j), .int (i % j)]))) (gA cDm (fA2 fun i j => .tup [.int (i / j), .int (i % j)])) := by
  intro vs ss H ad μ Q m r h
  obtain ⟨h1, d, h2, h3⟩ := h
  obtain ⟨i, j, rfl, rfl⟩ := fA2_some h2
  obtain ⟨v, u, rfl, r1, r2⟩ := rsa2 r
  have h1' : 0 < j ∧ j < 2 ^ 100 := h1
  exact ⟨i, j, by rw [rp_int r1, rp_int r2], divp_small h1'.1 h1'.2, new_tup m (.cons (.int _) (.cons (.int _) .nil)) h3⟩
end
end DV

/-! part DV3 -/
set_option Elab.async false
set_option linter.all false
set_option maxRecDepth 100000
set_option autoImplicit false
namespace DV
open PySem PySem.Spec L2
section
variable {X : Cx} {W : WX}
/-! ### tests and values of and, or, not, if -/
def fTAnd (f g : STe) : STe := fun ρ μ P => f ρ μ fun b μ1 => if b = true then g ρ μ1 P else P false μ1
def fTOr (f g : STe) : STe := fun ρ μ P => f ρ μ fun b μ1 => if b = true then P true μ1 else g ρ μ1 P
def fTNot (f : STe) : STe := fun ρ μ P => f ρ μ fun b μ1 => P (!b) μ1
theorem mon_TAnd {f g : STe} (mf : MonE f) (mg : MonE g) : MonE (fTAnd f g) := fun ρ μ P P' k h => mf ρ μ _ _ (fun b μ1 q => by
  cases b with
  | true => exact mg ρ μ1 _ _ k q
  | false => exact k _ _ q) h
theorem mon_TOr {f g : STe} (mf : MonE f) (mg : MonE g) : MonE (fTOr f g) := fun ρ μ P P' k h => mf ρ μ _ _ (fun b μ1 q => by
  cases b with
  | true => exact k _ _ q
  | false => exact mg ρ μ1 _ _ k q) h
structure PDW (X : Cx) (e : Expr) (f : STe) : Prop where
  mo : MonE f
  run : PW X e (ttOf X.K f)
theorem PW.of {e : Expr} {t t' : TT} (h : PW X e t) (i : ∀ σ H Q, t' σ H Q → t σ H Q) : PW X e t' := ⟨fun w pins s σ H Q I q => h.run w pins s σ H Q I (i σ H Q q)⟩
theorem tt_and {f g : STe} (mf : MonE f) (mg : MonE g) (σ : L2.St) (H : Hp) (Q : Bool → Hp → Prop) (q : ttOf X.K (fTAnd f g) σ H Q) : tAnd (ttOf X.K f) (ttOf X.K g) σ H Q := by
  obtain ⟨ad, ρ, μ, s, q⟩ := q
  refine ⟨ad, ρ, μ, s, mf ρ μ _ _ (fun b μ1 h H1 t1 m1 => ?_) q⟩
  cases b with
  | true => exact ⟨ad, ρ, μ1, s.step t1 m1, mg ρ μ1 _ _ (fun c μ2 h2 H2 t2 m2 => h2 H2 (t1.trans t2) m2) h⟩
  | false => exact h H1 t1 m1
theorem tt_or {f g : STe} (mf : MonE f) (mg : MonE g) (σ : L2.St) (H : Hp) (Q : Bool → Hp → Prop) (q : ttOf X.K (fTOr f g) σ H Q) : tOr (ttOf X.K f) (ttOf X.K g) σ H Q := by
  obtain ⟨ad, ρ, μ, s, q⟩ := q
  refine ⟨ad, ρ, μ, s, mf ρ μ _ _ (fun b μ1 h H1 t1 m1 => ?_) q⟩
  cases b with
  | false => exact ⟨ad, ρ, μ1, s.step t1 m1, mg ρ μ1 _ _ (fun c μ2 h2 H2 t2 m2 => h2 H2 (t1.trans t2) m2) h⟩
  | true => exact h H1 t1 m1
variable {a b c e : Expr} {rest : List Expr} {pos : Pos}
theorem pdw_and1 {f : STe} (h : PDT X a f) : PDW X (.BoolOp .And [a] pos) f := ⟨h.mo, pw_and1 h.run⟩
theorem pdw_or1 {f : STe} (h : PDT X a f) : PDW X (.BoolOp .Or [a] pos) f := ⟨h.mo, pw_or1 h.run⟩
theorem pdw_and {f g : STe} (h : PDT X a f) (r : PDW X (.BoolOp .And (b :: rest) pos) g) : PDW X (.BoolOp .And (a :: b :: rest) pos) (fTAnd f g) := ⟨mon_TAnd h.mo r.mo, PW.of (pw_and h.run r.run) (tt_and h.mo r.mo)⟩
theorem pdw_or {f g : STe} (h : PDT X a f) (r : PDW X (.BoolOp .Or (b :: rest) pos) g) : PDW X (.BoolOp .Or (a :: b :: rest) pos) (fTOr f g) := ⟨mon_TOr h.mo r.mo, PW.of (pw_or h.run r.run) (tt_or h.mo r.mo)⟩
theorem ptd_w {f : STe} (h : PDW X e f) : PDT X e f := ⟨h.mo, h.run.pt⟩
theorem ptd_not {f : STe} (h : PDT X a f) : PDT X (.UnaryOp .Not a pos) (fTNot f) := by
  refine ⟨fun ρ μ P P' k q => h.mo ρ μ _ _ (fun b μ1 q => k _ _ q) q, (pt_not h.run).of fun σ H Q q => ?_⟩
  obtain ⟨ad, ρ, μ, s, q⟩ := q
  exact ⟨ad, ρ, μ, s, q⟩
theorem ptd_val {f : SE} (h : PD X e f) (he : ∀ whole, isTrue e X.env whole = (do let v ← whole; standAt e.pos; holding [v] (truthy v)) := by intro _; rfl) : PDT X e (fTest f) :=
  ⟨mon_test h.mo, (pt_val h.run he).of (test_imp' h.mo)⟩
/-- values -/
def fVAnd (f g : SE) : SE := fun ρ μ P => fTest f ρ μ fun b μ1 => if b = true then g ρ μ1 P else P (.d (.bl false)) μ1
def fVOr (f g : SE) : SE := fun ρ μ P => fTest f ρ μ fun b μ1 => if b = true then P (.d (.bl true)) μ1 else g ρ μ1 P
def fVNot (f : SE) : SE := fun ρ μ P => fTest f ρ μ fun b μ1 => P (.d (.bl (!b))) μ1
theorem pd_one {op} {f : SE} (h : PD X a f) : PD X (.BoolOp op [a] pos) f := ⟨h.mo, pe_one h.run⟩
theorem of_test {K : PySem.W.Frag} {f : SE} (mf : MonE f) {σ : L2.St} {H : Hp} {ad : List Addr} {ρ : Rho} {μ : Mu} (s : Sim K H ad ρ μ σ) {P : Bool → Mu → Prop} {R : V → Hp → Prop} (q : fTest f ρ μ P)
    (k : ∀ b μ1 H1, P b μ1 → Step ad H ad H1 → RpM K H1 ad μ1 → R (.bl b) H1) : teOf K f σ H R := by
  refine ⟨ad, ρ, μ, s, mf ρ μ _ _ (fun x μ1 h v H1 t1 m1 r1 => ?_) q⟩
  cases x with
  | m j => exact h.elim
  | ex _ _ _ _ => exact h.elim
  | d x =>
    cases x with
    | bl b => cases r1; exact k b μ1 H1 h t1 m1
    | non => exact h.elim
    | int i => exact h.elim
    | str i => exact h.elim
    | tup i => exact h.elim
    | lst i => exact h.elim
    | dct i j => exact h.elim
    | err i j x => exact h.elim
    | erb i => exact h.elim
theorem pd_and {f g : SE} (h : PD X a f) (r : PD X (.BoolOp .And (b :: rest) pos) g) : PD X (.BoolOp .And (a :: b :: rest) pos) (fVAnd f g) := by
  refine ⟨fun ρ μ P P' k q => mon_test h.mo ρ μ _ _ (fun b μ1 q => ?_) q, (pe_and h.run r.run).of fun σ H Q q => ?_⟩
  · cases b with
    | true => exact r.mo ρ μ1 _ _ k q
    | false => exact k _ _ q
  · obtain ⟨ad, ρ, μ, s, q⟩ := q
    refine of_test h.mo s q fun b μ1 H1 h1 t1 m1 => ⟨b, rfl, ?_⟩
    cases b with
    | true => exact ⟨ad, ρ, μ1, s.step t1 m1, r.mo ρ μ1 _ _ (fun c μ2 h2 v H2 t2 m2 r2 => h2 v H2 (t1.trans t2) m2 r2) h1⟩
    | false => exact h1 _ H1 t1 m1 (.bl _)
theorem pd_or {f g : SE} (h : PD X a f) (r : PD X (.BoolOp .Or (b :: rest) pos) g) : PD X (.BoolOp .Or (a :: b :: rest) pos) (fVOr f g) := by
  refine ⟨fun ρ μ P P' k q => mon_test h.mo ρ μ _ _ (fun b μ1 q => ?_) q, (pe_or h.run r.run).of fun σ H Q q => ?_⟩
  · cases b with
    | false => exact r.mo ρ μ1 _ _ k q
    | true => exact k _ _ q
  · obtain ⟨ad, ρ, μ, s, q⟩ := q
    refine of_test h.mo s q fun b μ1 H1 h1 t1 m1 => ⟨b, rfl, ?_⟩
    cases b with
    | false => exact ⟨ad, ρ, μ1, s.step t1 m1, r.mo ρ μ1 _ _ (fun c μ2 h2 v H2 t2 m2 r2 => h2 v H2 (t1.trans t2) m2 r2) h1⟩
    | true => exact h1 _ H1 t1 m1 (.bl _)
theorem pd_not {f : SE} (h : PD X a f) : PD X (.UnaryOp .Not a pos) (fVNot f) := by
  refine ⟨fun ρ μ P P' k q => mon_test h.mo ρ μ _ _ (fun b μ1 q => k _ _ q) q, (pe_not h.run).of fun σ H Q q => ?_⟩
  obtain ⟨ad, ρ, μ, s, q⟩ := q
  exact of_test h.mo s q fun b μ1 H1 h1 t1 m1 => ⟨b, rfl, h1 _ H1 t1 m1 (.bl _)⟩
def fNeg (f : SE) : SE := fun ρ μ P => f ρ μ fun x μ1 => match x with | .d (.int i) => P (.d (.int (-i))) μ1 | _ => False
theorem pd_neg {f : SE} (h : PD X a f) : PD X (.UnaryOp .USub a pos) (fNeg f) := by
  refine ⟨fun ρ μ P P' k q => h.mo ρ μ _ _ (fun x μ1 q => ?_) q, (pe_un un_neg h.run).of fun σ H Q q => ?_⟩
  · revert q
    cases x with
    | m j => exact fun h => h
    | ex _ _ _ _ => exact fun h => h
    | d x => cases x <;> intro q <;> first | exact q | exact k _ _ q
  · obtain ⟨ad, ρ, μ, s, q⟩ := q
    refine ⟨ad, ρ, μ, s, h.mo ρ μ _ _ (fun x μ1 h v H1 t1 m1 r1 => ?_) q⟩
    cases x with
    | m j => exact h.elim
    | ex _ _ _ _ => exact h.elim
    | d x =>
      cases x with
      | int i => cases r1; exact ⟨i, rfl, h _ H1 t1 m1 (.int _)⟩
      | non => exact h.elim
      | bl i => exact h.elim
      | str i => exact h.elim
      | tup i => exact h.elim
      | lst i => exact h.elim
      | dct i j => exact h.elim
      | err i j x => exact h.elim
      | erb i => exact h.elim
def fIf (t : STe) (f g : SE) : SE := fun ρ μ P => t ρ μ fun b μ1 => if b = true then f ρ μ1 P else g ρ μ1 P
theorem pd_if {t : STe} {f g : SE} (hc : PDT X c t) (ha : PD X a f) (hb : PD X b g) : PD X (.IfExp c a b pos) (fIf t f g) := by
  refine ⟨fun ρ μ P P' k q => hc.mo ρ μ _ _ (fun b μ1 q => ?_) q, (pe_ifExp hc.run ha.run hb.run).of fun σ H Q q => ?_⟩
  · cases b with
    | true => exact ha.mo ρ μ1 _ _ k q
    | false => exact hb.mo ρ μ1 _ _ k q
  · obtain ⟨ad, ρ, μ, s, q⟩ := q
    refine ⟨ad, ρ, μ, s, hc.mo ρ μ _ _ (fun b μ1 h H1 t1 m1 => ?_) q⟩
    cases b with
    | true => exact ⟨ad, ρ, μ1, s.step t1 m1, ha.mo ρ μ1 _ _ (fun c μ2 h2 v H2 t2 m2 r2 => h2 v H2 (t1.trans t2) m2 r2) h⟩
    | false => exact ⟨ad, ρ, μ1, s.step t1 m1, hb.mo ρ μ1 _ _ (fun c μ2 h2 v H2 t2 m2 r2 => h2 v H2 (t1.trans t2) m2 r2) h⟩
/-- a op b op' c of ints -/
def fChain (g g' : G2) (fa fb fc : SE) : SE := fun ρ μ P => fa ρ μ fun x μ1 => fb ρ μ1 fun y μ2 => g x y μ2 fun d => match d with
  | .bl k => if k = true then fc ρ μ2 fun z μ3 => g' y z μ3 fun d => P (.d d) μ3 else P (.d (.bl false)) μ2
  | _ => False
theorem mon_chain {g g' : G2} {fa fb fc : SE} (mg : MonG g) (mg' : MonG g') (ma : MonE fa) (mb : MonE fb) (mc : MonE fc) : MonE (fChain g g' fa fb fc) := fun ρ μ P P' k h =>
  ma ρ μ _ _ (fun x μ1 h1 => mb ρ μ1 _ _ (fun y μ2 h2 => mg x y μ2 _ _ (fun d hd => by
    cases d with
    | bl k' =>
      cases k' with
      | true => exact mc ρ μ2 _ _ (fun z μ3 h3 => mg' y z μ3 _ _ (fun d hd => k _ _ hd) h3) hd
      | false => exact k _ _ hd
    | non => exact hd
    | int _ => exact hd
    | str _ => exact hd
    | tup _ => exact hd
    | lst _ => exact hd
    | dct _ _ => exact hd
    | err _ _ _ => exact hd
    | erb _ => exact hd) h2) h1) h
theorem chain_imp {r r' : R2} {g g' : G2} {fa fb fc : SE} (mg : MonG g) (mg' : MonG g') (ma : MonE fa) (mb : MonE fb) (mc : MonE fc) (sd : Sound2 X.K r g) (sd' : Sound2 X.K r' g') (σ : L2.St) (H : Hp) (Q : VK) (q : teOf X.K (fChain g g' fa fb fc) σ H Q) :
    tChain r r' (teOf X.K fa) (teOf X.K fb) (teOf X.K fc) σ H Q := by
  obtain ⟨ad, ρ, μ, s, q⟩ := q
  refine ⟨ad, ρ, μ, s, ma ρ μ _ _ (fun x μ1 h1 v H1 t1 m1 r1 => ?_) q⟩
  refine ⟨ad, ρ, μ1, s.step t1 m1, mb ρ μ1 _ _ (fun y μ2 h2 u H2 t2 m2 r2 => ?_) h1⟩
  refine sd v u x y H2 ad μ2 _ m2 (r1.step t2) r2 (mg x y μ2 _ _ (fun d hd w H3 t3 m3 r3 => ?_) h2)
  cases d with
  | bl k =>
    cases r3
    refine ⟨k, rfl, ?_⟩
    cases k with
    | true =>
      refine ⟨ad, ρ, μ2, s.step ((t1.trans t2).trans t3) m3, mc ρ μ2 _ _ (fun z μ3 h3 w' H4 t4 m4 r4 => ?_) hd⟩
      exact sd' u w' y z H4 ad μ3 Q m4 (r2.step (t3.trans t4)) r4 (mg' y z μ3 _ _ (fun d hd w H5 t5 m5 r5 => hd w H5 ((((t1.trans t2).trans t3).trans t4).trans t5) m5 r5) h3)
    | false => exact hd _ H3 ((t1.trans t2).trans t3) m3 (.bl _)
  | non => exact hd.elim
  | int _ => exact hd.elim
  | str _ => exact hd.elim
  | tup _ => exact hd.elim
  | lst _ => exact hd.elim
  | dct _ _ => exact hd.elim
  | err _ _ _ => exact hd.elim
  | erb _ => exact hd.elim
theorem pd_chain {op op' : CmpOp} {r r' : R2} {g g' : G2} {fa fb fc : SE} (ho : OpR X (compareOp op) r) (ho' : OpR X (compareOp op') r') (mg : MonG g) (mg' : MonG g') (sd : Sound2 X.K r g) (sd' : Sound2 X.K r' g')
    (hm : lastMarks [op, op'] [b, c] = false) (ha : PD X a fa) (hb : PD X b fb) (hc : PD X c fc) : PD X (.Compare a [op, op'] [b, c] pos) (fChain g g' fa fb fc) :=
  ⟨mon_chain mg mg' ha.mo hb.mo hc.mo, (pe_chain ho ho' ha.run hb.run hc.run hm).of (chain_imp mg mg' ha.mo hb.mo hc.mo sd sd')⟩
theorem ptd_chain {op op' : CmpOp} {r r' : R2} {g g' : G2} {fa fb fc : SE} (ho : OpR X (compareOp op) r) (ho' : OpR X (compareOp op') r') (mg : MonG g) (mg' : MonG g') (sd : Sound2 X.K r g) (sd' : Sound2 X.K r' g')
    (hm : lastMarks [op, op'] [b, c] = false) (ha : PD X a fa) (hb : PD X b fb) (hc : PD X c fc) : PDT X (.Compare a [op, op'] [b, c] pos) (fTest (fChain g g' fa fb fc)) :=
  ⟨mon_test (mon_chain mg mg' ha.mo hb.mo hc.mo), (pt_chain ho ho' ha.run hb.run hc.run hm).of fun σ H Q q =>
    chain_imp mg mg' ha.mo hb.mo hc.mo sd sd' σ H _ (test_imp (mon_chain mg mg' ha.mo hb.mo hc.mo) σ H Q q)⟩

/-! ### slices -/
abbrev SO := Rho → Mu → (Option Int → Mu → Prop) → Prop
def toOf (K : PySem.W.Frag) (f : SO) : TO := fun σ H Q => ∃ ad ρ μ, Sim K H ad ρ μ σ ∧ f ρ μ fun o μ' => ∀ H', Step ad H ad H' → RpM K H' ad μ' → Q o H'
structure PDO (X : Cx) (e : Option Expr) (f : SO) : Prop where
  mo : MonE f
  run : PO X e (toOf X.K f)
def fONone : SO := fun _ μ P => P none μ
def fOSome (f : SE) : SO := fun ρ μ P => f ρ μ fun x μ1 => match x with | .d (.int i) => P (some i) μ1 | _ => False
theorem pdo_none : PDO X none fONone := ⟨fun ρ μ P P' k h => k _ _ h, ⟨fun pins s σ H Q I q => po_none.run pins s σ H Q I (by
  obtain ⟨ad, ρ, μ, s, q⟩ := q
  exact q H (Step.refl _ _) s.m)⟩⟩
theorem pdo_some {f : SE} (h : PD X e f) : PDO X (some e) (fOSome f) := by
  refine ⟨fun ρ μ P P' k q => h.mo ρ μ _ _ (fun x μ1 q => ?_) q, ⟨fun pins s σ H Q I q => (po_some h.run).run pins s σ H Q I ?_⟩⟩
  · revert q
    cases x with
    | m j => exact fun h => h
    | ex _ _ _ _ => exact fun h => h
    | d x => cases x <;> intro q <;> first | exact q | exact k _ _ q
  · obtain ⟨ad, ρ, μ, s, q⟩ := q
    refine ⟨ad, ρ, μ, s, h.mo ρ μ _ _ (fun x μ1 h v H1 t1 m1 r1 => ?_) q⟩
    cases x with
    | m j => exact h.elim
    | ex _ _ _ _ => exact h.elim
    | d x =>
      cases x with
      | int i => cases r1; exact ⟨i, rfl, h H1 t1 m1⟩
      | non => exact h.elim
      | bl i => exact h.elim
      | str i => exact h.elim
      | tup i => exact h.elim
      | lst i => exact h.elim
      | dct i j => exact h.elim
      | err i j x => exact h.elim
      | erb i => exact h.elim
def cutD (xs : List D) (lo hi : Option Int) : List D := (xs.drop (HT.sIx xs.length 0 lo)).take (HT.sIx xs.length xs.length hi - HT.sIx xs.length 0 lo)
theorem cut_rp {K : PySem.W.Frag} {F : Hp} {vs : List V} {ds : List D} (r : RpA K F vs ds) (lo hi : Option Int) : RpA K F (cutV vs lo hi) (cutD ds lo hi) := by
  unfold cutV cutD
  rw [r.length]
  exact (r.drop _).take _
def sliceF : S → Option Int → Option Int → Mu → Option D := fun x lo hi μ => match x with
  | .d (.tup ds) => some (.tup (cutD ds lo hi))
  | .d (.lst ds) => some (.lst (cutD ds lo hi))
  | .m j => (μ[j]?).map fun ds => .lst (cutD ds lo hi)
  | _ => none
def fSl (f : SE) (fl fh : SO) : SE := fun ρ μ P => f ρ μ fun x μ1 => fl ρ μ1 fun lo μ2 => fh ρ μ2 fun hi μ3 => ∃ d, sliceF x lo hi μ3 = some d ∧ P (.d d) μ3
theorem pd_slice {lo hi : Option Expr} {p2 : Pos} {f : SE} {fl fh : SO} (h : PD X a f) (hl : PDO X lo fl) (hh : PDO X hi fh) : PD X (.Subscript a (.Slice lo hi none p2) pos) (fSl f fl fh) := by
  refine ⟨fun ρ μ P P' k q => h.mo ρ μ _ _ (fun x μ1 q => hl.mo ρ μ1 _ _ (fun l μ2 q => hh.mo ρ μ2 _ _ (fun u μ3 ⟨d, q1, q2⟩ => ⟨d, q1, k _ _ q2⟩) q) q) q,
    (pe_slice (sl_list.or sl_tupA) h.run hl.run hh.run).of fun σ H Q q => ?_⟩
  obtain ⟨ad, ρ, μ, s, q⟩ := q
  refine ⟨ad, ρ, μ, s, h.mo ρ μ _ _ (fun x μ1 h1 v H1 t1 m1 r1 => ?_) q⟩
  refine ⟨ad, ρ, μ1, s.step t1 m1, hl.mo ρ μ1 _ _ (fun l μ2 h2 H2 t2 m2 => ?_) h1⟩
  refine ⟨ad, ρ, μ2, s.step (t1.trans t2) m2, hh.mo ρ μ2 _ _ (fun u μ3 h3 H3 t3 m3 => ?_) h2⟩
  obtain ⟨d, e1, q⟩ := h3
  have t13 := (t1.trans t2).trans t3
  have r3 := r1.step (t2.trans t3)
  unfold sliceF at e1
  split at e1
  · rename_i ds
    cases e1
    obtain ⟨p, xs, rfl, s1, r2⟩ := tup_sq r3 rfl
    refine .inr ⟨p, xs, rfl, s1, fun w => ?_, fun _ => new_tup m3 (cut_rp r2 l u) fun w H4 t4 m4 r4 => q w H4 (t13.trans t4) m4 r4⟩
    have e : cutD ds l u = ds := by
      unfold cutD
      rw [r2.length] at w
      rw [w.1, w.2, List.drop_zero, Nat.sub_zero, List.take_length]
    rw [e] at q
    exact q _ H3 t13 m3 r3
  · cases e1
    obtain ⟨p, xs, rfl, s1, r2⟩ := seq_sq m3 r3 rfl
    exact .inl ⟨p, xs, rfl, s1, new_lst m3 (cut_rp r2 l u) fun w H4 t4 m4 r4 => q w H4 (t13.trans t4) m4 r4⟩
  · rename_i j
    cases e2 : μ3[j]? with
    | none => rw [e2] at e1; cases e1
    | some ds =>
      rw [e2] at e1
      cases e1
      obtain ⟨p, xs, rfl, s1, r2⟩ := seq_sq (x := .m j) m3 r3 e2
      exact .inl ⟨p, xs, rfl, s1, new_lst m3 (cut_rp r2 l u) fun w H4 t4 m4 r4 => q w H4 (t13.trans t4) m4 r4⟩
  · cases e1

/-! ### targets -/
abbrev SG := S → Rho → Mu → (Rho → Mu → Prop) → Prop
abbrev SGs := List S → Rho → Mu → (Rho → Mu → Prop) → Prop
/-- is: the slots that it may set -/
def tgOf (K : PySem.W.Frag) (is : List Nat) (g : SG) : TG := fun v σ H Q => ∃ ad ρ μ x, Sim K H ad ρ μ σ ∧ RpS K (hide ad H) ad v x ∧ g x ρ μ fun ρ' μ' => ∀ σ' H', (∀ vs, (∀ i ∈ is, i ∈ vs) → L2.wipe σ' vs = L2.wipe σ vs) → Step ad H ad H' → Sim K H' ad ρ' μ' σ' → Q σ' H'
def tgsOf (K : PySem.W.Frag) (is : List Nat) (g : SGs) : TGs := fun vs σ H Q => ∃ ad ρ μ xs, Sim K H ad ρ μ σ ∧ RpSA K (hide ad H) ad vs xs ∧ g xs ρ μ fun ρ' μ' => ∀ σ' H', (∀ vs, (∀ i ∈ is, i ∈ vs) → L2.wipe σ' vs = L2.wipe σ vs) → Step ad H ad H' → Sim K H' ad ρ' μ' σ' → Q σ' H'
def MonT {α : Type} (g : α → Rho → Mu → (Rho → Mu → Prop) → Prop) : Prop := ∀ x ρ μ (P P' : Rho → Mu → Prop), (∀ ρ' μ', P ρ' μ' → P' ρ' μ') → g x ρ μ P → g x ρ μ P'
structure PDG (X : Cx) (e : Expr) (is : List Nat) (g : SG) : Prop where
  mo : MonT g
  run : PG X e (tgOf X.K is g)
structure PDGs (X : Cx) (es : List Expr) (is : List Nat) (g : SGs) : Prop where
  mo : MonT g
  run : PGs X es (tgsOf X.K is g)
def gN (i : Nat) : SG := fun x ρ μ P => P (ρ.set i (some x)) μ
theorem wipe_set {σ : L2.St} {i : Nat} {v : Option V} : ∀ {vs : List Nat}, i ∈ vs → L2.wipe (σ.set i v) vs = L2.wipe σ vs
  | [], h => by cases h
  | w :: vs, h => by
    unfold L2.wipe
    by_cases e : i ∈ vs
    · rw [wipe_set e]
    · have e2 : i = w := by simpa [e] using h
      subst e2
      have : ∀ {us : List Nat}, L2.wipe (σ.set i v) us = (L2.wipe σ us).set i v ∨ i ∈ us := fun {us} => by
        induction us with
        | nil => exact .inl rfl
        | cons u us ih =>
          rcases ih with ih | ih
          · by_cases q : i = u
            · exact .inr (q ▸ List.mem_cons_self)
            · refine .inl ?_
              unfold L2.wipe
              rw [ih, List.set_comm _ _ q]
          · exact .inr (List.mem_cons_of_mem _ ih)
      rcases @this vs with q | q
      · rw [q, List.set_set]
      · exact absurd q e
theorem pdg_name {i : Nat} {x : Str} {p : Pos} (h : PG X (.Name x p) (gName i)) : PDG X (.Name x p) [i] (gN i) := by
  refine ⟨fun x ρ μ P P' k q => k _ _ q, ⟨fun pins s σ H v u Q I r q => h.run pins s σ H v u Q I r ?_⟩⟩
  obtain ⟨ad, ρ, μ, x, s, rx, q⟩ := q
  exact q _ H (fun vs hv => wipe_set (hv i (by simp))) (Step.refl _ _) (s.set rx)
def gsNil : SGs := fun xs ρ μ P => xs = [] ∧ P ρ μ
def gsCons (g : SG) (gs : SGs) : SGs := fun xs ρ μ P => ∃ x r, xs = x :: r ∧ g x ρ μ fun ρ' μ' => gs r ρ' μ' P
theorem pdgs_nil : PDGs X [] [] gsNil := by
  refine ⟨fun x ρ μ P P' k q => ⟨q.1, k _ _ q.2⟩, ⟨fun pins s σ H vs us Q I r q => pgs_nil.run pins s σ H vs us Q I r ?_⟩⟩
  obtain ⟨ad, ρ, μ, xs, s, rx, e, q⟩ := q
  subst e
  cases rx
  exact ⟨rfl, q σ H (fun _ _ => rfl) (Step.refl _ _) s⟩
theorem pdgs_cons {es : List Expr} {is js : List Nat} {g : SG} {gs : SGs} (h : PDG X e is g) (r : PDGs X es js gs) (hs : (assignEach (e :: es) X.env).map (·.2) = assign e X.env :: (assignEach es X.env).map (·.2) := by rfl) : PDGs X (e :: es) (is ++ js) (gsCons g gs) := by
  refine ⟨fun xs ρ μ P P' k ⟨x, rr, e, q⟩ => ⟨x, rr, e, h.mo x ρ μ _ _ (fun ρ' μ' q => r.mo rr ρ' μ' _ _ k q) q⟩, ⟨fun pins s σ H vs us Q I rv q => (pgs_cons h.run r.run hs).run pins s σ H vs us Q I rv ?_⟩⟩
  obtain ⟨ad, ρ, μ, xs, s, rx, x, rr, e, q⟩ := q
  subst e
  cases rx with
  | cons r1 r2 =>
    refine ⟨_, _, rfl, ad, ρ, μ, x, s, r1, h.mo x ρ μ _ _ (fun ρ' μ' q σ' H' w1 t1 s1 => ?_) q⟩
    refine ⟨ad, ρ', μ', rr, s1, r2.step t1, r.mo rr ρ' μ' _ _ (fun ρ2 μ2 q σ2 H2 w2 t2 s2 => ?_) q⟩
    exact q σ2 H2 (fun vs hv => (w2 vs fun i hi => hv i (List.mem_append_right _ hi)).trans (w1 vs fun i hi => hv i (List.mem_append_left _ hi))) (t1.trans t2) s2
def gT (n : Nat) (gs : SGs) : SG := fun x ρ μ P => ∃ ds, tupOf x = some ds ∧ ds.length = n ∧ gs (ds.map S.d) ρ μ P
theorem rpA_sa {K : PySem.W.Frag} {F : Hp} {ad : List Addr} : ∀ {vs : List V} {ds : List D}, RpA K F vs ds → RpSA K F ad vs (ds.map S.d)
  | _, _, .nil => .nil
  | _, _, .cons h r => .cons h (rpA_sa r)
theorem pdg_tup {es : List Expr} {k : Nat} {is : List Nat} {gs : SGs} {n : Nat} (hc : X.calm = true) (h : PDGs X es is gs) (hn : (assignEach es X.env).length = n := by rfl) (hst : (assignEach es X.env).findIdx? (·.1) = none := by rfl) : PDG X (.Tuple es k pos) is (gT n gs) := by
  refine ⟨fun x ρ μ P P' k ⟨ds, e, l, q⟩ => ⟨ds, e, l, h.mo _ ρ μ _ _ k q⟩, ⟨fun pins s σ H v u Q I rv q => (pg_tup hc h.run hn hst).run pins s σ H v u Q I rv ?_⟩⟩
  obtain ⟨ad, ρ, μ, x, s, rx, ds, e, l, q⟩ := q
  obtain ⟨a, xs, rfl, s1, r1⟩ := tup_sq rx e
  exact ⟨a, xs, rfl, s1, by rw [r1.length]; exact l, ad, ρ, μ, _, s, rpA_sa r1, q⟩
/-- m[i] = v, m a list that changes -/
def gSb (fo fi : SE) : SG := fun v ρ μ P => fo ρ μ fun o μ1 => fi ρ μ1 fun i μ2 => ∃ j k ds d, o = .m j ∧ i = .d (.int k) ∧ v = .d d ∧ μ2[j]? = some ds ∧ 0 ≤ k ∧ k < ds.length ∧ P ρ (μ2.set j (ds.set k.toNat d))
theorem pdg_sub {o i : Expr} {fo fi : SE} (ho : PD X o fo) (hi : PD X i fi) (ha : ∀ v, assign (.Subscript o i pos) X.env v = (do
      let ov ← holding [v] (eval o X.env)
      let iv ← holding [v, ov] (eval i X.env)
      standAt pos
      holding [v, ov, iv] (setItem ov iv v)
      release [v, ov, iv] []) := by intro _; rfl) : PDG X (.Subscript o i pos) [] (gSb fo fi) := by
  refine ⟨fun x ρ μ P P' k q => ho.mo ρ μ _ _ (fun o μ1 q => hi.mo ρ μ1 _ _ (fun i μ2 ⟨j, kk, ds, d, e1, e2, e3, e4, e5, e6, q⟩ => ⟨j, kk, ds, d, e1, e2, e3, e4, e5, e6, k _ _ q⟩) q) q,
    ⟨fun pins s σ H v u Q I rv q => (pg_sub ho.run hi.run set_list ha).run pins s σ H v u Q I rv ?_⟩⟩
  obtain ⟨ad, ρ, μ, x, s, rx, q⟩ := q
  refine ⟨ad, ρ, μ, s, ho.mo ρ μ _ _ (fun o μ1 q ov H1 t1 m1 r1 => ?_) q⟩
  refine ⟨ad, ρ, μ1, s.step t1 m1, hi.mo ρ μ1 _ _ (fun i μ2 q iv H2 t2 m2 r2 => ?_) q⟩
  obtain ⟨j, k, ds, d, rfl, rfl, rfl, e4, e5, e6, q⟩ := q
  obtain ⟨aa, h1, rfl⟩ := r1
  obtain ⟨b, xs, q1, q2, q3⟩ := m2.at_ j ds e4
  rw [h1] at q1
  cases q1
  obtain rfl := rp_int r2
  have hl := q3.length
  have rx2 : Rp X.K (hide ad H2) v d := RpS.step (x := .d d) (t1.trans t2) rx
  have m3 := m2.put h1 (q3.set rx2 k.toNat)
  have st : Step ad H ad (upd H2 aa (.lst (xs.set k.toNat v))) := (t1.trans t2).trans (Step.mut (List.mem_of_getElem? h1))
  have ix : ixN xs.length k = some k.toNat := by
    unfold ixN
    rw [if_pos e5, if_pos (by omega)]
  exact ⟨aa, xs, k, k.toNat, rfl, rfl, q2, ix, q σ _ (fun _ _ => rfl) st (s.step st m3)⟩

/-! ### statements -/
def fNext : SS := fun ρ μ k => k.nx ρ μ
def fSeq (f g : SS) : SS := fun ρ μ k => f ρ μ { k with nx := fun ρ' μ' => g ρ' μ' k }
theorem K4.le_refl (k : K4) : K4.le k k := ⟨fun _ _ h => h, fun _ _ h => h, fun _ _ h => h, fun _ _ h => h, fun _ _ _ h => h⟩
theorem mon_next : MonS fNext := fun ρ μ k k' l h => l.nx _ _ h
theorem mon_seq {f g : SS} (mf : MonS f) (mg : MonS g) : MonS (fSeq f g) := fun ρ μ k k' l h => mf ρ μ { k with nx := fun ρ' μ' => g ρ' μ' k } { k' with nx := fun ρ' μ' => g ρ' μ' k' } ⟨fun ρ' μ' q => mg ρ' μ' k k' l q, l.rt, l.bk, l.ct, l.er⟩ h
theorem kOf_step {K : PySem.W.Frag} {ad ad' : List Addr} {H H' : Hp} {Dn : Ends} (t : Step ad H ad' H') : K4.le (kOf K W ad H Dn) (kOf K W ad' H' Dn) :=
  ⟨fun _ _ h σ' H2 a2 t2 s2 => h σ' H2 a2 (t.trans t2) s2, fun _ _ h v H2 a2 t2 s2 => h v H2 a2 (t.trans t2) s2, fun _ _ h σ' H2 a2 t2 s2 => h σ' H2 a2 (t.trans t2) s2, fun _ _ h σ' H2 a2 t2 s2 => h σ' H2 a2 (t.trans t2) s2, fun _ _ _ h cls d σ' H2 a2 t2 m2 x2 => h cls d σ' H2 a2 (t.trans t2) m2 x2⟩
theorem seq_imp {f g : SS} (mf : MonS f) (mg : MonS g) (Dn : Ends) (σ : L2.St) (H : Hp) (q : tsOf X.K W (fSeq f g) Dn σ H) : tSeq (tsOf X.K W f) (tsOf X.K W g) Dn σ H := by
  obtain ⟨ad, ρ, μ, s, q⟩ := q
  refine ⟨ad, ρ, μ, s, mf ρ μ { kOf X.K W ad H Dn with nx := fun ρ' μ' => g ρ' μ' (kOf X.K W ad H Dn) } _ ⟨fun ρ' μ' q σ' H' ad' t1 s1 => ?_, fun _ _ h => h, fun _ _ h => h, fun _ _ h => h, fun _ _ _ h => h⟩ q⟩
  exact ⟨ad', ρ', μ', s1, mg ρ' μ' _ _ (kOf_step t1) q⟩
variable {st : Stmt} {sts : List Stmt}
theorem pds_nil : PDSs X W [] fNext := ⟨mon_next, pss_nil.of fun D σ H ⟨ad, ρ, μ, s, q⟩ => q σ H ad (Step.refl _ _) s⟩
theorem pds_cons {f g : SS} (h : PDS X W st f) (r : PDSs X W sts g) : PDSs X W (st :: sts) (fSeq f g) := ⟨mon_seq h.mo r.mo, (pss_cons h.run r.run).of (seq_imp h.mo r.mo)⟩
theorem pds_one {f : SS} (h : PDS X W st f) : PDSs X W [st] f := ⟨h.mo, pss_one h.run⟩
def fRet (f : SE) : SS := fun ρ μ k => f ρ μ k.rt
theorem pd_ret {f : SE} (h : PD X e f) : PDS X W (.Return (some e) pos) (fRet f) := by
  refine ⟨fun ρ μ k k' l q => h.mo ρ μ _ _ l.rt q, (ps_ret h.run).of fun Dn σ H q => ?_⟩
  obtain ⟨ad, ρ, μ, s, q⟩ := q
  exact ⟨ad, ρ, μ, s, h.mo ρ μ _ _ (fun x μ1 q v H1 t1 m1 r1 => q v H1 ad t1 m1 r1) q⟩
def fIfS (t : STe) (f g : SS) : SS := fun ρ μ k => t ρ μ fun b μ1 => if b = true then f ρ μ1 k else g ρ μ1 k
theorem pds_if {as bs : List Stmt} {t : STe} {f g : SS} (hc : PDT X c t) (ha : PDSs X W as f) (hb : PDSs X W bs g) : PDS X W (.If c as bs pos) (fIfS t f g) := by
  refine ⟨fun ρ μ k k' l q => hc.mo ρ μ _ _ (fun b μ1 q => ?_) q, (ps_if hc.run ha.run hb.run).of fun Dn σ H q => ?_⟩
  · cases b with
    | true => exact ha.mo ρ μ1 _ _ l q
    | false => exact hb.mo ρ μ1 _ _ l q
  · obtain ⟨ad, ρ, μ, s, q⟩ := q
    refine ⟨ad, ρ, μ, s, hc.mo ρ μ _ _ (fun b μ1 q H1 t1 m1 => ?_) q⟩
    cases b with
    | true => exact ⟨ad, ρ, μ1, s.step t1 m1, ha.mo ρ μ1 _ _ (kOf_step t1) q⟩
    | false => exact ⟨ad, ρ, μ1, s.step t1 m1, hb.mo ρ μ1 _ _ (kOf_step t1) q⟩
def fNever : SS := fun _ _ _ => False
theorem pds_never : PDS X W st fNever := ⟨fun _ _ _ _ _ h => h, ps_never.of fun D σ H ⟨_, _, _, _, q⟩ => q⟩
def fAsg (f : SE) (g : SG) : SS := fun ρ μ k => f ρ μ fun x μ1 => g x ρ μ1 k.nx
theorem mon_asg {f : SE} {g : SG} (mf : MonE f) (mg : MonT g) : MonS (fAsg f g) := fun ρ μ k k' l q => mf ρ μ _ _ (fun x μ1 q => mg x ρ μ1 _ _ l.nx q) q
theorem asg_imp {f : SE} {is : List Nat} {g : SG} (mf : MonE f) (mg : MonT g) (Dn : Ends) (σ : L2.St) (H : Hp) (q : tsOf X.K W (fAsg f g) Dn σ H) : tAsg (teOf X.K f) (tgOf X.K is g) Dn σ H := by
  obtain ⟨ad, ρ, μ, s, q⟩ := q
  refine ⟨ad, ρ, μ, s, mf ρ μ _ _ (fun x μ1 q v H1 t1 m1 r1 => ?_) q⟩
  exact ⟨ad, ρ, μ1, x, s.step t1 m1, r1, mg x ρ μ1 _ _ (fun ρ' μ' q σ' H' _ t2 s2 => q σ' H' ad (t1.trans t2) s2) q⟩
theorem pds_asg {tg : Expr} {is : List Nat} {f : SE} {g : SG} (h : PD X e f) (hg : PDG X tg is g) (hs : swapsWithSole [tg] e pos.line X.env = pure false := by rfl) (hw : swappedStores [tg] e X.env = pure none := by rfl)
    (h1 : (assignEach [tg] X.env).map (·.2) = [assign tg X.env] := by rfl) : PDS X W (.Assign [tg] e pos) (fAsg f g) := ⟨mon_asg h.mo hg.mo, (ps_asg h.run hg.run hs hw h1).of (asg_imp h.mo hg.mo)⟩
theorem pds_set {i : Nat} {x : Str} {p : Pos} {f : SE} (h : PD X e f) (hp : ∀ te, PE X e te → PS X (.Assign [.Name x p] e pos) (tAsg te (gName i))) : PDS X W (.Assign [.Name x p] e pos) (fAsg f (gN i)) := by
  refine ⟨mon_asg h.mo fun x ρ μ P P' k q => k _ _ q, (hp _ h.run).of fun Dn σ H q => ?_⟩
  obtain ⟨ad, ρ, μ, s, q⟩ := q
  exact ⟨ad, ρ, μ, s, h.mo ρ μ _ _ (fun x μ1 q v H1 t1 m1 r1 => q _ H1 ad t1 ((s.step t1 m1).set r1)) q⟩
/-- a, b = x, y -/
def fPar (i j : Nat) (f : SA) : SS := fun ρ μ k => f ρ μ fun xs μ1 => ∃ x y, xs = [x, y] ∧ k.nx ((ρ.set i (some x)).set j (some y)) μ1
theorem pds_par {i j : Nat} {es : List Expr} {f : SA} (h : PDA X es f) (hp : ∀ ta, PA X es ta → PS X st (tPar i j ta)) : PDS X W st (fPar i j f) := by
  refine ⟨fun ρ μ k k' l q => h.mo ρ μ _ _ (fun xs μ1 ⟨x, y, e, q⟩ => ⟨x, y, e, l.nx _ _ q⟩) q, (hp _ h.run).of fun Dn σ H q => ?_⟩
  obtain ⟨ad, ρ, μ, s, q⟩ := q
  refine ⟨ad, ρ, μ, s, h.mo ρ μ _ _ (fun xs μ1 q vs H1 t1 m1 r1 => ?_) q⟩
  obtain ⟨x, y, rfl, q⟩ := q
  obtain ⟨v, u, rfl, r2, r3⟩ := rsa2 r1
  exact ⟨v, u, rfl, q _ H1 ad t1 (((s.step t1 m1).set r2).set r3)⟩
end
end DV

/-! part DV4 -/
set_option Elab.async false
set_option linter.all false
set_option maxRecDepth 100000
set_option autoImplicit false
namespace DV
open PySem PySem.Spec L2
/-! ### what is walked -/
def DWalk (K : PySem.W.Frag) (ad : List Addr) (J : It) (items : List D) (ok : Mu → Prop) (H0 : Hp) : Prop := ∀ H2 ad2 μ2, Step ad H0 ad2 H2 → RpM K H2 ad2 μ2 → ok μ2 →
  (∀ i, i < items.length → J.go i H2) ∧ J.stop items.length H2 ∧ ∀ i d x H3, items[i]? = some d → J.yld i H2 x H3 → Step ad2 H2 ad2 H3 ∧ RpM K H3 ad2 μ2 ∧ Rp K (hide ad2 H3) x d
abbrev SI := Rho → Mu → (List D → (Mu → Prop) → Mu → Prop) → Prop
def MonI (f : SI) : Prop := ∀ ρ μ (P P' : List D → (Mu → Prop) → Mu → Prop), (∀ ds ok μ', P ds ok μ' → P' ds ok μ') → f ρ μ P → f ρ μ P'
def tiOf (K : PySem.W.Frag) (f : SI) : TI := fun σ H R => ∃ ad ρ μ, Sim K H ad ρ μ σ ∧ f ρ μ fun items ok μ' => ∀ J H', Step ad H ad H' → RpM K H' ad μ' → DWalk K ad J items ok H' → R J H'
structure PDI (X : Cx) (tg e : Expr) (f : SI) : Prop where
  mo : MonI f
  run : PI X tg e (tiOf X.K f)
theorem _root_.L2.PI.of {X : Cx} {tg e : Expr} {t t' : TI} (h : PI X tg e t) (i : ∀ σ H R, t' σ H R → t σ H R) : PI X tg e t' := ⟨fun pins s σ H R I q => h.run pins s σ H R I (i σ H R q)⟩
section
variable {X : Cx} {W : WX}
/-- a list or a tuple -/
def iSeq (K : PySem.W.Frag) (tl : TE) : TI := fun σ H R => tl σ H fun x H1 => ∃ a, x = .ref a ∧ (((∃ xs, SqL K H1 a xs) ∧ R (Itl K a) H1) ∨ ((∃ xs, SqT K H1 a xs) ∧ R (Itt K a) H1))
theorem pi_seq {tg l : Expr} {tl : TE} (hl : PE X l tl) : PI X tg l (iSeq X.K tl) := by
  refine ⟨fun pins s σ H R I h => ?_⟩
  refine thn (hl.run pins s σ H _ I h) fun v s1 ⟨x, H1, I1, r1, q1⟩ => ?_
  obtain ⟨a, e, q1⟩ := q1
  subst e
  cases r1
  have fr : ∀ b, b ∈ [s1.heap.objs.size] → FpOk X pins H1 b := fun b hb => by
    have e : b = s1.heap.objs.size := by simpa using hb
    subst e
    exact I1.fpOk (Nat.le_refl _) (I1.hok.fresh (Nat.le_refl _))
  rcases q1 with ⟨⟨xs, hq⟩, q⟩ | ⟨⟨xs, hq⟩, q⟩
  · obtain ⟨its, rv, p, hz⟩ := I1.list hq
    refine wpAny_pyIter_list p.isList ?_
    exact ⟨s1.heap.objs.size, [s1.heap.objs.size], _, _, H1, rfl, I1.kept (t' := s1.toks) fun b o e => Heap.get?_push_of_some _ e, turn_list a _, ⟨_, Heap.get?_push_size _ rfl, rfl, rfl⟩, fr, q⟩
  · obtain ⟨its, rv, p, hz⟩ := I1.tuple hq
    refine wpAny_pyIter_tuple (show s1.heap.IsTuple a its.toArray from p) ?_
    exact ⟨s1.heap.objs.size, [s1.heap.objs.size], _, _, H1, rfl, I1.kept (t' := s1.toks) fun b o e => Heap.get?_push_of_some _ e, turn_tuple a _, ⟨_, Heap.get?_push_size _ rfl, rfl, rfl⟩, fr, q⟩
def itemsOf (μ : Mu) (x : S) : Option (List D × (Mu → Prop)) := match x with
  | .d (.tup ds) => some (ds, fun _ => True)
  | .d (.lst ds) => some (ds, fun _ => True)
  | .m j => (μ[j]?).map fun ds => (ds, fun μ' => μ'[j]? = some ds)
  | _ => none
def fISeq (f : SE) : SI := fun ρ μ P => f ρ μ fun x μ1 => ∃ w, itemsOf μ1 x = some w ∧ P w.1 w.2 μ1
theorem rpA_inj {K : PySem.W.Frag} {H : Hp} : True := True.intro
theorem sqL_det {K : PySem.W.Frag} {H : Hp} {a : Addr} {xs : List V} {i : Nat} {x : V} (h : SqL K H a xs) (f : ∀ ys, SqL K H a ys → ys[i]? = some x) : xs[i]? = some x := f xs h
theorem walk_frz_list {K : PySem.W.Frag} {ad : List Addr} {H0 : Hp} {a : Addr} {xs : List V} {ds : List D} (h : SqL K (hide ad H0) a xs) (r : RpA K (hide ad H0) xs ds) : DWalk K ad (Itl K a) ds (fun _ => True) H0 := by
  intro H2 ad2 μ2 st m _
  have h2 : SqL K H2 a xs := sqL_same hide_same (sqL_same st.same h)
  have hl := r.length
  refine ⟨fun i hi => ⟨xs, xs[i]'(by omega), h2, by simp [show i < xs.length by omega]⟩, ⟨xs, h2, by omega⟩, fun i d x H3 e y => ?_⟩
  obtain ⟨rfl, f⟩ := y
  obtain ⟨v, q1, q2⟩ := r.get e
  have := f xs h2
  rw [q1] at this
  cases this
  exact ⟨Step.refl _ _, m, q2.mono st.same⟩
theorem walk_frz_tup {K : PySem.W.Frag} {ad : List Addr} {H0 : Hp} {a : Addr} {xs : List V} {ds : List D} (h : SqT K (hide ad H0) a xs) (r : RpA K (hide ad H0) xs ds) : DWalk K ad (Itt K a) ds (fun _ => True) H0 := by
  intro H2 ad2 μ2 st m _
  have h2 : SqT K H2 a xs := sqT_same hide_same (sqT_same st.same h)
  have hl := r.length
  refine ⟨fun i hi => ⟨xs, xs[i]'(by omega), h2, by simp [show i < xs.length by omega]⟩, ⟨xs, h2, by omega⟩, fun i d x H3 e y => ?_⟩
  obtain ⟨rfl, f⟩ := y
  obtain ⟨v, q1, q2⟩ := r.get e
  have := f xs h2
  rw [q1] at this
  cases this
  exact ⟨Step.refl _ _, m, q2.mono st.same⟩
theorem walk_mut_list {K : PySem.W.Frag} {ad : List Addr} {H0 : Hp} {a : Addr} {j : Nat} {ds : List D} (h : ad[j]? = some a) : DWalk K ad (Itl K a) ds (fun μ' => μ'[j]? = some ds) H0 := by
  intro H2 ad2 μ2 st m ok
  obtain ⟨b, xs, q1, q2, q3⟩ := m.at_ j ds ok
  rw [st.get h] at q1
  cases q1
  have h2 : SqL K H2 a xs := .inl (.inl q2)
  have hl := q3.length
  refine ⟨fun i hi => ⟨xs, xs[i]'(by omega), h2, by simp [show i < xs.length by omega]⟩, ⟨xs, h2, by omega⟩, fun i d x H3 e y => ?_⟩
  obtain ⟨rfl, f⟩ := y
  obtain ⟨v, q4, q5⟩ := q3.get e
  have := f xs h2
  rw [q4] at this
  cases this
  exact ⟨Step.refl _ _, m, q5⟩
theorem pdi_seq {tg l : Expr} {f : SE} (h : PD X l f) : PDI X tg l (fISeq f) := by
  refine ⟨fun ρ μ P P' k q => h.mo ρ μ _ _ (fun x μ1 ⟨w, e, q⟩ => ⟨w, e, k _ _ _ q⟩) q, (pi_seq h.run).of fun σ H R q => ?_⟩
  obtain ⟨ad, ρ, μ, s, q⟩ := q
  refine ⟨ad, ρ, μ, s, h.mo ρ μ _ _ (fun x μ1 ⟨w, e, q⟩ v H1 t1 m1 r1 => ?_) q⟩
  unfold itemsOf at e
  split at e
  · cases e
    cases r1 with
    | tup h1 h2 => exact ⟨_, rfl, .inr ⟨⟨_, sqT_same hide_same h1⟩, q _ H1 t1 m1 (walk_frz_tup h1 h2)⟩⟩
  · cases e
    cases r1 with
    | lst h1 h2 => exact ⟨_, rfl, .inl ⟨⟨_, sqL_same hide_same h1⟩, q _ H1 t1 m1 (walk_frz_list h1 h2)⟩⟩
  · rename_i jj _
    cases e2 : μ1[jj]? with
    | none => rw [e2] at e; cases e
    | some ds =>
      rw [e2] at e
      cases e
      obtain ⟨a, h1, rfl⟩ := r1
      obtain ⟨b, xs, q1, q2, q3⟩ := m1.at_ jj ds e2
      rw [h1] at q1
      cases q1
      exact ⟨a, rfl, .inl ⟨⟨xs, .inl (.inl q2)⟩, q _ H1 t1 m1 (walk_mut_list h1)⟩⟩
  · cases e
def rngD (n : Int) : List D := (List.range n.toNat).map fun (i : Nat) => D.int (i : Int)
def fIRng (f : SA) : SI := fun ρ μ P => f ρ μ fun xs μ1 => ∃ n : Int, xs = [.d (.int n)] ∧ -1000000 ≤ n ∧ n ≤ 1000000 ∧ P (rngD n) (fun _ => True) μ1
theorem pdi_range {tg : Expr} {a : Expr} {f : SA} {p pos : Pos} (hg : Gl X "range") (hm : X.mg "range" = none) (h : PDA X [a] f) (hs : starEach [a] X.env = [(false, eval a X.env)] := by rfl) : PDI X tg (.Call (.Name "range" p) [a] [] pos) (fIRng f) := by
  refine ⟨fun ρ μ P P' k q => h.mo ρ μ _ _ (fun x μ1 ⟨n, e, l1, l2, q⟩ => ⟨n, e, l1, l2, k _ _ _ q⟩) q, (pi_range1 hg hm h.run hs).of fun σ H R q => ?_⟩
  obtain ⟨ad, ρ, μ, s, q⟩ := q
  refine ⟨ad, ρ, μ, s, h.mo ρ μ _ _ (fun xs μ1 ⟨n, e, l1, l2, q⟩ vs H1 t1 m1 r1 => ?_) q⟩
  subst e
  obtain ⟨v, rfl, r2⟩ := rsa1 r1
  obtain rfl := rp_int r2
  refine ⟨n, rfl, by omega, by omega, q _ H1 t1 m1 fun H2 ad2 μ2 st m _ => ?_⟩
  have hl : (rngD n).length = n.toNat := by unfold rngD; rw [List.length_map, List.length_range]
  refine ⟨fun i hi => by rw [hl] at hi; exact hi, by rw [hl]; exact Nat.le_refl _, fun i d x H3 e y => ?_⟩
  obtain ⟨rfl, rfl⟩ := y
  refine ⟨Step.refl _ _, m, ?_⟩
  unfold rngD at e
  rw [List.getElem?_map] at e
  cases e2 : (List.range n.toNat)[i]? with
  | none => rw [e2] at e; cases e
  | some k =>
    rw [e2] at e
    cases e
    have : k = i := by
      rw [List.getElem?_eq_some_iff] at e2
      obtain ⟨_, e3⟩ := e2
      simpa using e3.symm
    subst this
    rw [Int.zero_add]
    exact .int _
/-- enumerate(list) -/
def enumD (ds : List D) : List D := ds.mapIdx fun i d => .tup [.int (i : Int), d]
def fIEnum (f : SA) : SI := fun ρ μ P => f ρ μ fun xs μ1 => ∃ ds, xs = [.d (.lst ds)] ∧ P (enumD ds) (fun _ => True) μ1
theorem pdi_enum {e : Expr} {elts : List Expr} {kk : Nat} {f : SA} {p pos tpos : Pos} (hg : Gl X "enumerate") (hm : X.mg "enumerate" = none) (h : PDA X [e] f) (hs : starEach [e] X.env = [(false, eval e X.env)] := by rfl) :
    PDI X (.Tuple elts kk tpos) (.Call (.Name "enumerate" p) [e] [] pos) (fIEnum f) := by
  refine ⟨fun ρ μ P P' k q => h.mo ρ μ _ _ (fun x μ1 ⟨n, e, q⟩ => ⟨n, e, k _ _ _ q⟩) q, (pi_enum hg hm h.run hs).of fun σ H R q => ?_⟩
  obtain ⟨ad, ρ, μ, s, q⟩ := q
  refine ⟨ad, ρ, μ, s, h.mo ρ μ _ _ (fun xs μ1 ⟨ds, e, q⟩ vs H1 t1 m1 r1 => ?_) q⟩
  subst e
  obtain ⟨v, rfl, r2⟩ := rsa1 r1
  cases r2 with
  | @lst a ws _ h1 h2 =>
    refine ⟨a, ws, rfl, sqL_same hide_same h1, q _ H1 t1 m1 fun H2 ad2 μ2 st m _ => ?_⟩
    have h3 : SqL X.K H2 a ws := sqL_same hide_same (sqL_same st.same h1)
    have hl := h2.length
    have hz : (enumD ds).length = ds.length := by unfold enumD; rw [List.length_mapIdx]
    refine ⟨fun i hi => ⟨ws, ws[i]'(by omega), h3, by simp [show i < ws.length by omega]⟩, ⟨ws, h3, by omega⟩, fun i d x H3 e y => ?_⟩
    obtain ⟨T, x', rfl, hT, rfl, f⟩ := y
    unfold enumD at e
    rw [List.getElem?_mapIdx] at e
    cases e2 : ds[i]? with
    | none => rw [e2] at e; cases e
    | some d' =>
      rw [e2] at e
      cases e
      obtain ⟨v, q4, q5⟩ := h2.get e2
      have := f ws h3
      rw [q4] at this
      cases this
      have st2 : Step ad2 H2 ad2 (upd H2 T (.tup [.int (i : Int), x'])) := Step.new hT
      exact ⟨st2, m.new hT, .tup (.inl (.inl (by rw [hide_out (m.fresh hT)]; exact upd_same))) (.cons (.int _) (.cons (q5.mono (st.trans st2).same) .nil))⟩
/-- zip of two frozen ones, both lists or both tuples -/
def zipD : List D → List D → List D
  | a :: as, b :: bs => .tup [a, b] :: zipD as bs
  | _, _ => []
theorem zipD_length : ∀ (as bs : List D), (zipD as bs).length = min as.length bs.length
  | [], _ => by simp [zipD]
  | _ :: _, [] => by simp [zipD]
  | a :: as, b :: bs => by simp only [zipD, List.length_cons, zipD_length as bs]; omega
theorem zipD_get : ∀ {as bs : List D} {i : Nat} {d : D}, (zipD as bs)[i]? = some d → ∃ a b, as[i]? = some a ∧ bs[i]? = some b ∧ d = .tup [a, b]
  | [], _, _, _, h => by simp [zipD] at h
  | _ :: _, [], _, _, h => by simp [zipD] at h
  | a :: as, b :: bs, 0, d, h => by simp [zipD] at h; exact ⟨a, b, rfl, rfl, h.symm⟩
  | a :: as, b :: bs, i + 1, d, h => by
    obtain ⟨x, y, q1, q2, q3⟩ := zipD_get (as := as) (bs := bs) (i := i) (d := d) (by simpa [zipD] using h)
    exact ⟨x, y, by simpa using q1, by simpa using q2, q3⟩
def fIZip (f : SA) : SI := fun ρ μ P => f ρ μ fun xs μ1 => ∃ ds es, (xs = [.d (.lst ds), .d (.lst es)] ∨ xs = [.d (.tup ds), .d (.tup es)]) ∧ P (zipD ds es) (fun _ => True) μ1
theorem pdi_zip {e e2 : Expr} {elts : List Expr} {kk : Nat} {f : SA} {p pos tpos : Pos} (hg : Gl X "zip") (hm : X.mg "zip" = none) (h : PDA X [e, e2] f)
    (hs : starEach [e, e2] X.env = (false, eval e X.env) :: starEach [e2] X.env := by rfl) (hpl : (backTo pos (starEach [e2] X.env)).any (·.1) = false := by rfl) :
    PDI X (.Tuple elts kk tpos) (.Call (.Name "zip" p) [e, e2] [] pos) (fIZip f) := by
  refine ⟨fun ρ μ P P' k q => h.mo ρ μ _ _ (fun x μ1 ⟨n, n2, e, q⟩ => ⟨n, n2, e, k _ _ _ q⟩) q, (RZ.pi_zipA hg hm h.run hs hpl).of fun σ H R q => ?_⟩
  obtain ⟨ad, ρ, μ, s, q⟩ := q
  refine ⟨ad, ρ, μ, s, h.mo ρ μ _ _ (fun xs μ1 ⟨ds, es, e, q⟩ vs H1 t1 m1 r1 => ?_) q⟩
  rcases e with e | e
  · subst e
    obtain ⟨v, u, rfl, r2, r3⟩ := rsa2 r1
    cases r2 with
    | @lst a ws _ h1 h2 =>
      cases r3 with
      | @lst b us _ k1 k2 =>
        refine ⟨a, b, ws, us, rfl, .inl ⟨sqL_same hide_same h1, sqL_same hide_same k1, q _ H1 t1 m1 fun H2 ad2 μ2 st m _ => ?_⟩⟩
        have h3 : SqL X.K H2 a ws := sqL_same hide_same (sqL_same st.same h1)
        have k3 : SqL X.K H2 b us := sqL_same hide_same (sqL_same st.same k1)
        have hl := h2.length
        have kl := k2.length
        have hz := zipD_length ds es
        refine ⟨fun i hi => ⟨ws, us, ws[i]'(by omega), us[i]'(by omega), h3, k3, by simp [show i < ws.length by omega], by simp [show i < us.length by omega]⟩, ⟨ws, us, h3, k3, by omega⟩, fun i d x H3 e y => ?_⟩
        obtain ⟨T, x', y', rfl, hT, rfl, f, g⟩ := y
        obtain ⟨d1, d2, g1, g2, rfl⟩ := zipD_get e
        obtain ⟨v, q4, q5⟩ := h2.get g1
        obtain ⟨v', q4', q5'⟩ := k2.get g2
        have z1 := f ws h3
        have z2 := g us k3
        rw [q4] at z1
        rw [q4'] at z2
        cases z1
        cases z2
        have st2 : Step ad2 H2 ad2 (upd H2 T (.tup [x', y'])) := Step.new hT
        exact ⟨st2, m.new hT, .tup (.inl (.inl (by rw [hide_out (m.fresh hT)]; exact upd_same))) (.cons (q5.mono (st.trans st2).same) (.cons (q5'.mono (st.trans st2).same) .nil))⟩
  · subst e
    obtain ⟨v, u, rfl, r2, r3⟩ := rsa2 r1
    cases r2 with
    | @tup a ws _ h1 h2 =>
      cases r3 with
      | @tup b us _ k1 k2 =>
        refine ⟨a, b, ws, us, rfl, .inr ⟨sqT_same hide_same h1, sqT_same hide_same k1, q _ H1 t1 m1 fun H2 ad2 μ2 st m _ => ?_⟩⟩
        have h3 : SqT X.K H2 a ws := sqT_same hide_same (sqT_same st.same h1)
        have k3 : SqT X.K H2 b us := sqT_same hide_same (sqT_same st.same k1)
        have hl := h2.length
        have kl := k2.length
        have hz := zipD_length ds es
        refine ⟨fun i hi => ⟨ws, us, ws[i]'(by omega), us[i]'(by omega), h3, k3, by simp [show i < ws.length by omega], by simp [show i < us.length by omega]⟩, ⟨ws, us, h3, k3, by omega⟩, fun i d x H3 e y => ?_⟩
        obtain ⟨T, x', y', rfl, hT, rfl, f, g⟩ := y
        obtain ⟨d1, d2, g1, g2, rfl⟩ := zipD_get e
        obtain ⟨v, q4, q5⟩ := h2.get g1
        obtain ⟨v', q4', q5'⟩ := k2.get g2
        have z1 := f ws h3
        have z2 := g us k3
        rw [q4] at z1
        rw [q4'] at z2
        cases z1
        cases z2
        have st2 : Step ad2 H2 ad2 (upd H2 T (.tup [x', y'])) := Step.new hT
        exact ⟨st2, m.new hT, .tup (.inl (.inl (by rw [hide_out (m.fresh hT)]; exact upd_same))) (.cons (q5.mono (st.trans st2).same) (.cons (q5'.mono (st.trans st2).same) .nil))⟩

/-! ### for -/
def loopS (g : SG) (body : SS) (ok : Mu → Prop) : List D → SS
  | [], ρ, μ, k => ok μ ∧ k.nx ρ μ
  | d :: r, ρ, μ, k => ok μ ∧ g (.d d) ρ μ fun ρ1 μ1 => body ρ1 μ1 { nx := fun ρ2 μ2 => loopS g body ok r ρ2 μ2 k, rt := k.rt, bk := k.nx, ct := fun ρ2 μ2 => loopS g body ok r ρ2 μ2 k, er := k.er }
theorem mon_loop {g : SG} {body : SS} {ok : Mu → Prop} (mg : MonT g) (mb : MonS body) : ∀ ds, MonS (loopS g body ok ds)
  | [] => fun ρ μ k k' l q => ⟨q.1, l.nx _ _ q.2⟩
  | d :: r => fun ρ μ k k' l q => ⟨q.1, mg _ ρ μ _ _ (fun ρ1 μ1 q => mb ρ1 μ1 { nx := fun ρ2 μ2 => loopS g body ok r ρ2 μ2 k, rt := k.rt, bk := k.nx, ct := fun ρ2 μ2 => loopS g body ok r ρ2 μ2 k, er := k.er } { nx := fun ρ2 μ2 => loopS g body ok r ρ2 μ2 k', rt := k'.rt, bk := k'.nx, ct := fun ρ2 μ2 => loopS g body ok r ρ2 μ2 k', er := k'.er }
      ⟨fun _ _ q => mon_loop mg mb r _ _ _ _ l q, l.rt, l.nx, fun _ _ q => mon_loop mg mb r _ _ _ _ l q, l.er⟩ q) q.2⟩
def fFor (fi : SI) (g : SG) (body : SS) : SS := fun ρ μ k => fi ρ μ fun items ok μ1 => loopS g body ok items ρ μ1 k
theorem for_imp {fi : SI} {is : List Nat} {g : SG} {body : SS} (mi : MonI fi) (mg : MonT g) (mb : MonS body) (Dn : Ends) (σ : L2.St) (H : Hp) (q : tsOf X.K W (fFor fi g body) Dn σ H) : tFor (tiOf X.K fi) (tgOf X.K is g) (tsOf X.K W body) Dn σ H := by
  obtain ⟨ad, ρ, μ, s, q⟩ := q
  refine ⟨ad, ρ, μ, s, mi ρ μ _ _ (fun items ok μ1 q J H1 t1 m1 dw => ?_) q⟩
  refine ⟨fun i m σ' H' => ∃ ad' ρ' μ', m = items.length - i ∧ i ≤ items.length ∧ Step ad H1 ad' H' ∧ Sim X.K H' ad' ρ' μ' σ' ∧ loopS g body ok (items.drop i) ρ' μ' (kOf X.K W ad H Dn), ⟨items.length, ad, ρ, μ1, rfl, Nat.zero_le _, Step.refl _ _, s.step t1 m1, q⟩, ?_⟩
  rintro i m σ' H' ⟨ad', ρ', μ', rfl, hi, st, s', q⟩
  by_cases hlt : i < items.length
  · have ed : items.drop i = items[i] :: items.drop (i + 1) := List.drop_eq_getElem_cons hlt
    rw [ed] at q
    obtain ⟨ok1, q⟩ := q
    obtain ⟨d1, d2, d3⟩ := dw H' ad' μ' st s'.m ok1
    refine .inr ⟨d1 i hlt, fun σ'' H'' => ∃ ad'' ρ'' μ'', Step ad H1 ad'' H'' ∧ Sim X.K H'' ad'' ρ'' μ'' σ'' ∧ loopS g body ok (items.drop (i + 1)) ρ'' μ'' (kOf X.K W ad H Dn),
      fun σ'' H'' ⟨ad'', ρ'', μ'', st2, s2, q2⟩ => ⟨items.length - (i + 1), by omega, ad'', ρ'', μ'', rfl, hlt, st2, s2, q2⟩, fun x H3 y => ?_⟩
    obtain ⟨st3, m3, r3⟩ := d3 i _ x H3 (List.getElem?_eq_getElem hlt) y
    refine ⟨ad', ρ', μ', .d items[i], s'.step st3 m3, r3, mg _ ρ' μ' _ _ (fun ρ1 μ1 q σ2 H4 _ st4 s4 => ?_) q⟩
    have t4 := (st.trans st3).trans st4
    refine ⟨ad', ρ1, μ1, s4, mb ρ1 μ1 { nx := fun ρ2 μ2 => loopS g body ok (items.drop (i + 1)) ρ2 μ2 (kOf X.K W ad H Dn), rt := (kOf X.K W ad H Dn).rt, bk := (kOf X.K W ad H Dn).nx, ct := fun ρ2 μ2 => loopS g body ok (items.drop (i + 1)) ρ2 μ2 (kOf X.K W ad H Dn), er := (kOf X.K W ad H Dn).er } _ ⟨fun ρ2 μ2 q σ5 H5 ad5 st5 s5 => ⟨ad5, ρ2, μ2, t4.trans st5, s5, q⟩, fun x μ2 q v H5 ad5 st5 m5 r5 => q v H5 ad5 ((t1.trans t4).trans st5) m5 r5,
      fun ρ2 μ2 q σ5 H5 ad5 st5 s5 => q σ5 H5 ad5 ((t1.trans t4).trans st5) s5, fun ρ2 μ2 q σ5 H5 ad5 st5 s5 => ⟨ad5, ρ2, μ2, t4.trans st5, s5, q⟩,
      fun x ρ2 μ2 q cls d σ5 H5 ad5 st5 m5 x5 => q cls d σ5 H5 ad5 ((t1.trans t4).trans st5) m5 x5⟩ q⟩
  · have e : i = items.length := by omega
    subst e
    rw [List.drop_length] at q
    obtain ⟨ok1, q⟩ := q
    obtain ⟨d1, d2, d3⟩ := dw H' ad' μ' st s'.m ok1
    exact .inl ⟨d2, q σ' H' ad' (t1.trans st) s'⟩
theorem pds_for {tg iter : Expr} {body : List Stmt} {pos : Pos} {fi : SI} {is : List Nat} {g : SG} {fb : SS} (hp : PassesOwn (model X.prog X.w) X.A X.env X.xe) (hc : X.calm = true) (hi : PDI X tg iter fi) (hg : PDG X tg is g) (hb : PDSs X W body fb)
    (hs : ∀ x, foldedSetIterable iter X.env x = pure x := by intro _; rfl) : PDS X W (.For tg iter body [] pos) (fFor fi g fb) :=
  ⟨fun ρ μ k k' l q => hi.mo ρ μ _ _ (fun items ok μ1 q => mon_loop hg.mo hb.mo items _ _ _ _ l q) q, (ps_for hp hc hi.run hg.run hb.run hs).of (for_imp hi.mo hg.mo hb.mo)⟩
/-! ### while -/
def whileN (t : STe) (body : SS) : Nat → SS
  | 0, _, _, _ => False
  | n + 1, ρ, μ, k => t ρ μ fun b μ1 => if b = true then body ρ μ1 { nx := fun ρ2 μ2 => whileN t body n ρ2 μ2 k, rt := k.rt, bk := k.nx, ct := fun ρ2 μ2 => whileN t body n ρ2 μ2 k, er := k.er } else k.nx ρ μ1
theorem mon_whileN {t : STe} {body : SS} (mt : MonE t) (mb : MonS body) : ∀ n, MonS (whileN t body n)
  | 0 => fun _ _ _ _ _ q => q
  | n + 1 => fun ρ μ k k' l q => mt ρ μ _ _ (fun b μ1 q => by
    cases b with
    | true => exact mb ρ μ1 { nx := fun ρ2 μ2 => whileN t body n ρ2 μ2 k, rt := k.rt, bk := k.nx, ct := fun ρ2 μ2 => whileN t body n ρ2 μ2 k, er := k.er } { nx := fun ρ2 μ2 => whileN t body n ρ2 μ2 k', rt := k'.rt, bk := k'.nx, ct := fun ρ2 μ2 => whileN t body n ρ2 μ2 k', er := k'.er } ⟨fun _ _ q => mon_whileN mt mb n _ _ _ _ l q, l.rt, l.nx, fun _ _ q => mon_whileN mt mb n _ _ _ _ l q, l.er⟩ q
    | false => exact l.nx _ _ q) q
def fWhile (t : STe) (body : SS) : SS := fun ρ μ k => ∃ n, whileN t body n ρ μ k
theorem while_imp {t : STe} {body : SS} (mt : MonE t) (mb : MonS body) (Dn : Ends) (σ : L2.St) (H : Hp) (q : tsOf X.K W (fWhile t body) Dn σ H) : tWhile (ttOf X.K t) (tsOf X.K W body) Dn σ H := by
  obtain ⟨ad, ρ, μ, s, n, q⟩ := q
  refine ⟨fun m σ' H' => ∃ ad' ρ' μ', Step ad H ad' H' ∧ Sim X.K H' ad' ρ' μ' σ' ∧ whileN t body m ρ' μ' (kOf X.K W ad H Dn), ⟨n, ad, ρ, μ, Step.refl _ _, s, q⟩, ?_⟩
  rintro m σ' H' ⟨ad', ρ', μ', st, s', q⟩
  cases m with
  | zero => exact q.elim
  | succ m =>
    refine ⟨ad', ρ', μ', s', mt ρ' μ' _ _ (fun b μ1 q H1 t1 m1 => ?_) q⟩
    cases b with
    | false => exact q σ' H1 ad' (st.trans t1) (s'.step t1 m1)
    | true =>
      refine ⟨fun σ'' H'' => ∃ ad'' ρ'' μ'', Step ad H ad'' H'' ∧ Sim X.K H'' ad'' ρ'' μ'' σ'' ∧ whileN t body m ρ'' μ'' (kOf X.K W ad H Dn), fun σ'' H'' w => ⟨m, Nat.lt_succ_self m, w⟩, ?_⟩
      have t4 := st.trans t1
      exact ⟨ad', ρ', μ1, s'.step t1 m1, mb ρ' μ1 { nx := fun ρ2 μ2 => whileN t body m ρ2 μ2 (kOf X.K W ad H Dn), rt := (kOf X.K W ad H Dn).rt, bk := (kOf X.K W ad H Dn).nx, ct := fun ρ2 μ2 => whileN t body m ρ2 μ2 (kOf X.K W ad H Dn), er := (kOf X.K W ad H Dn).er } _ ⟨fun ρ2 μ2 q σ5 H5 ad5 st5 s5 => ⟨ad5, ρ2, μ2, t4.trans st5, s5, q⟩, fun x μ2 q v H5 ad5 st5 m5 r5 => q v H5 ad5 (t4.trans st5) m5 r5,
        fun ρ2 μ2 q σ5 H5 ad5 st5 s5 => q σ5 H5 ad5 (t4.trans st5) s5, fun ρ2 μ2 q σ5 H5 ad5 st5 s5 => ⟨ad5, ρ2, μ2, t4.trans st5, s5, q⟩,
        fun x ρ2 μ2 q cls d σ5 H5 ad5 st5 m5 x5 => q cls d σ5 H5 ad5 (t4.trans st5) m5 x5⟩ q⟩
theorem pds_while {c : Expr} {body : List Stmt} {pos : Pos} {t : STe} {fb : SS} (hp : PassesOwn (model X.prog X.w) X.A X.env X.xe) (hc : PDT X c t) (hb : PDSs X W body fb) : PDS X W (.While c body [] pos) (fWhile t fb) :=
  ⟨fun ρ μ k k' l ⟨n, q⟩ => ⟨n, mon_whileN hc.mo hb.mo n _ _ _ _ l q⟩, (ps_while hp hc.run hb.run).of (while_imp hc.mo hb.mo)⟩

/-! ### new lists -/
abbrev SN := Rho → Mu → (List D → Mu → Prop) → Prop
def tnOf (K : PySem.W.Frag) (f : SN) : TE := fun σ H Q => ∃ ad ρ μ, Sim K H ad ρ μ σ ∧ f ρ μ fun ds μ' => ∀ p H', H p = none → Step ad H (ad ++ [p]) H' → RpM K H' (ad ++ [p]) (μ' ++ [ds]) → Q (.ref p) H'
structure PDN (X : Cx) (e : Expr) (f : SN) : Prop where
  mo : MonE f
  run : PE X e (tnOf X.K f)
def fOfN (f : SN) : SE := fun ρ μ P => f ρ μ fun ds μ' => P (.d (.lst ds)) μ'
theorem step_less {ad : List Addr} {p : Addr} {H H' : Hp} (t : Step ad H (ad ++ [p]) H') : Step ad H ad H' := ⟨List.prefix_refl _, fun b o h e => ⟨h, (t.keep b o h e).2⟩⟩
theorem pd_of_N {e : Expr} {f : SN} (h : PDN X e f) : PD X e (fOfN f) := by
  refine ⟨fun ρ μ P P' k q => h.mo ρ μ _ _ (fun ds μ1 q => k _ _ q) q, h.run.of fun σ H Q q => ?_⟩
  obtain ⟨ad, ρ, μ, s, q⟩ := q
  refine ⟨ad, ρ, μ, s, h.mo ρ μ _ _ (fun ds μ1 q p H' hp t m => ?_) q⟩
  obtain ⟨m1, r1, _⟩ := m.last
  exact q _ H' (step_less t) m1 r1
theorem new_N {K : PySem.W.Frag} {H H1 : Hp} {ad : List Addr} {μ : Mu} {xs : List V} {ds : List D} {Q : VK} (t : Step ad H ad H1) (m : RpM K H1 ad μ) (r : RpA K (hide ad H1) xs ds) (hf : ∀ p, H1 p = none → H p = none)
    (q : ∀ p H', H p = none → Step ad H (ad ++ [p]) H' → RpM K H' (ad ++ [p]) (μ ++ [ds]) → Q (.ref p) H') : ∀ p, H1 p = none → Q (.ref p) (upd H1 p (.lst xs)) := fun p hp =>
  q p _ (hf p hp) (t.trans (Step.newM hp)) (m.newM hp r)
theorem free_back {ad : List Addr} {H H1 : Hp} {K : PySem.W.Frag} {μ μ1 : Mu} (m0 : RpM K H ad μ) (t : Step ad H ad H1) (m : RpM K H1 ad μ1) : ∀ p, H1 p = none → H p = none := fun p hp => by
  cases e : H p with
  | none => rfl
  | some o =>
    by_cases q : p ∈ ad
    · obtain ⟨xs, e2⟩ := m.there q
      rw [hp] at e2
      cases e2
    · have := (t.keep p o q e).2
      rw [hp] at this
      cases this
def fNLst (f : SA) : SN := fun ρ μ P => f ρ μ fun ss μ' => ∃ ds, allD ss = some ds ∧ ds.length ≤ 100000 ∧ P ds μ'
theorem pdn_lst {es : List Expr} {pos : Pos} {f : SA} (h : PDA X es f) : PDN X (.List es pos) (fNLst f) := by
  refine ⟨fun ρ μ P P' k q => h.mo ρ μ _ _ (fun x μ1 ⟨ds, h1, h2, h3⟩ => ⟨ds, h1, h2, k _ _ h3⟩) q, (pe_lst h.run).of fun σ H Q q => ?_⟩
  obtain ⟨ad, ρ, μ, s, q⟩ := q
  refine ⟨ad, ρ, μ, s, h.mo ρ μ _ _ (fun ss μ1 h1 vs H1 t1 m1 r1 => ?_) q⟩
  obtain ⟨ds, a1, a2, a3⟩ := h1
  have r2 := allD_rp r1 a1
  exact ⟨sz (by rw [r2.length]; exact a2), new_N t1 m1 r2 (free_back s.m t1 m1) a3⟩
/-- x = a new list that will change -/
def fNew (i : Nat) (f : SN) : SS := fun ρ μ k => f ρ μ fun ds μ1 => k.nx (ρ.set i (some (.m μ1.length))) (μ1 ++ [ds])
theorem mon_new {i : Nat} {f : SN} (m : MonE f) : MonS (fNew i f) := fun ρ μ k k' l q => m ρ μ _ _ (fun ds μ1 q => l.nx _ _ q) q
theorem new_imp {i : Nat} {f : SN} (m : MonE f) (Dn : Ends) (σ : L2.St) (H : Hp) (q : tsOf X.K W (fNew i f) Dn σ H) : tAsg (tnOf X.K f) (gName i) Dn σ H := by
  obtain ⟨ad, ρ, μ, s, q⟩ := q
  refine ⟨ad, ρ, μ, s, m ρ μ _ _ (fun ds μ1 q p H' hp t m1 => ?_) q⟩
  refine q _ H' (ad ++ [p]) t ((s.step t m1).set ⟨p, ?_, rfl⟩)
  have hl := m1.len
  rw [List.length_append, List.length_append] at hl
  have hl2 : ad.length = μ1.length := by simpa using hl
  rw [← hl2, List.getElem?_append_right (Nat.le_refl _), Nat.sub_self]
  rfl
theorem pds_new {i : Nat} {x : Str} {p pos : Pos} {e : Expr} {f : SN} (h : PDN X e f) (hp : ∀ te, PE X e te → PS X (.Assign [.Name x p] e pos) (tAsg te (gName i))) : PDS X W (.Assign [.Name x p] e pos) (fNew i f) :=
  ⟨mon_new h.mo, (hp _ h.run).of (new_imp h.mo)⟩
/-- x.append(e) -/
def fApp (fo f : SE) : SS := fun ρ μ k => fo ρ μ fun o μ1 => ∃ j, o = .m j ∧ f ρ μ1 fun y μ2 => ∃ d ds, y = .d d ∧ μ2[j]? = some ds ∧ ds.length < 50000 ∧ k.nx ρ (μ2.set j (ds ++ [d]))
theorem szl {n : Nat} (h : n < 50000) : n < sizeLine := Nat.lt_of_lt_of_le h (by decide)
theorem pds_app {o e : Expr} {apos cpos pos : Pos} {fo f : SE} (ho : PD X o fo) (h : PD X e f) (hp : ∀ to ta, PE X o to → PA X [e] ta → PS X (.Expr (.Call (.Attribute o "append" apos) [e] [] cpos) pos) (tDrop (tBM X.K "list" rAppend to ta)))
    (hs : starEach [e] X.env = (false, eval e X.env) :: starEach [] X.env := by rfl) : PDS X W (.Expr (.Call (.Attribute o "append" apos) [e] [] cpos) pos) (fApp fo f) := by
  refine ⟨fun ρ μ k k' l q => ho.mo ρ μ _ _ (fun o μ1 ⟨j, e1, q⟩ => ⟨j, e1, h.mo ρ μ1 _ _ (fun y μ2 ⟨d, ds, e2, e3, e4, q⟩ => ⟨d, ds, e2, e3, e4, l.nx _ _ q⟩) q⟩) q, (hp _ _ ho.run (pa_cons h.run pa_nil hs)).of fun Dn σ H q => ?_⟩
  obtain ⟨ad, ρ, μ, s, q⟩ := q
  refine ⟨ad, ρ, μ, s, ho.mo ρ μ _ _ (fun x μ1 ⟨j, e1, q⟩ v H1 t1 m1 r1 => ?_) q⟩
  subst e1
  obtain ⟨a, h1, rfl⟩ := r1
  refine ⟨?_, ad, ρ, μ1, s.step t1 m1, h.mo ρ μ1 _ _ (fun y μ2 q u H2 t2 m2 r2 => ?_) q⟩
  · obtain ⟨xs, h2⟩ := m1.there (List.mem_of_getElem? h1)
    exact .inl ⟨rfl, xs, .inl (.inl h2)⟩
  · obtain ⟨d, ds, rfl, e3, e4, q⟩ := q
    obtain ⟨b, xs, q1, q2, q3⟩ := m2.at_ j ds e3
    rw [h1] at q1
    cases q1
    have hl := q3.length
    have m3 := m2.put h1 (q3.append (.cons r2 .nil))
    have st : Step ad H ad (upd H2 a (.lst (xs ++ [u]))) := (t1.trans t2).trans (Step.mut (List.mem_of_getElem? h1))
    exact ⟨a, xs, u, rfl, rfl, q2, szl (by omega), q σ _ ad st (s.step st m3)⟩
end
end DV

/-! part DV5 -/
set_option Elab.async false
set_option linter.all false
set_option maxRecDepth 100000
set_option autoImplicit false
namespace DV
open PySem PySem.Spec L2
open PyProof.Rows (envOfC)
section
variable {X : Cx} {W : WX}
/-! ### list comprehensions -/
def fYes : STe := fun _ μ P => P true μ
structure PDTs (X : Cx) (ifs : List Expr) (f : STe) : Prop where
  mo : MonE f
  run : PTs X ifs (ttOf X.K f)
theorem PTs.of {X : Cx} {ifs : List Expr} {t t' : TT} (h : PTs X ifs t) (i : ∀ σ H Q, t' σ H Q → t σ H Q) : PTs X ifs t' := ⟨fun pins s σ H Q I q => h.run pins s σ H Q I (i σ H Q q)⟩
theorem pdts_nil : PDTs X [] fYes := ⟨fun ρ μ P P' k q => k _ _ q, PTs.of pts_nil fun σ H Q ⟨ad, ρ, μ, s, q⟩ => q H (Step.refl _ _) s.m⟩
theorem pdts_one {c : Expr} {f : STe} (h : PDT X c f) : PDTs X [c] f := ⟨h.mo, pts_one h.run⟩
def lcLoop (g : SG) (tt : STe) (fe : SE) (ok : Mu → Prop) (ρ : Rho) : List D → List D → Mu → (List D → Mu → Prop) → Prop
  | [], acc, μ, P => ok (μ ++ [acc]) ∧ P acc μ
  | d :: r, acc, μ, P => ok (μ ++ [acc]) ∧ acc.length < 50000 ∧ g (.d d) ρ (μ ++ [acc]) fun ρ1 μ1 => tt ρ1 μ1 fun b μ2 =>
    if b = true then fe ρ1 μ2 fun y μ3 => ∃ yd, y = .d yd ∧ μ3.getLast? = some acc ∧ lcLoop g tt fe ok ρ r (acc ++ [yd]) μ3.dropLast P
    else μ2.getLast? = some acc ∧ lcLoop g tt fe ok ρ r acc μ2.dropLast P
theorem mon_lcLoop {g : SG} {tt : STe} {fe : SE} {ok : Mu → Prop} {ρ : Rho} (mg : MonT g) (mt : MonE tt) (me : MonE fe) : ∀ (ds acc : List D) (μ : Mu) (P P' : List D → Mu → Prop), (∀ ds μ', P ds μ' → P' ds μ') → lcLoop g tt fe ok ρ ds acc μ P → lcLoop g tt fe ok ρ ds acc μ P'
  | [], _, _, _, _, k, q => ⟨q.1, k _ _ q.2⟩
  | d :: r, acc, μ, P, P', k, q => ⟨q.1, q.2.1, mg _ _ _ _ _ (fun ρ1 μ1 q => mt _ _ _ _ (fun b μ2 q => by
    cases b with
    | true => exact me _ _ _ _ (fun y μ3 ⟨yd, e1, e2, q⟩ => ⟨yd, e1, e2, mon_lcLoop mg mt me r _ _ P P' k q⟩) q
    | false => exact ⟨q.1, mon_lcLoop mg mt me r _ _ P P' k q.2⟩) q) q.2.2⟩
def fLc (fi : SI) (g : SG) (tt : STe) (fe : SE) (vs : List Nat) : SN := fun ρ μ P => fi ρ μ fun items ok μ1 => lcLoop g tt fe ok (wipeR ρ vs) items [] μ1 P
theorem mon_lc {fi : SI} {g : SG} {tt : STe} {fe : SE} {vs : List Nat} (mi : MonI fi) (mg : MonT g) (mt : MonE tt) (me : MonE fe) : MonE (fLc fi g tt fe vs) := fun ρ μ P P' k q => mi ρ μ _ _ (fun items ok μ1 q => mon_lcLoop mg mt me items [] μ1 P P' k q) q
theorem unsnoc {μ : Mu} {acc : List D} (h : μ.getLast? = some acc) : μ = μ.dropLast ++ [acc] := by
  obtain ⟨ys, rfl⟩ := List.getLast?_eq_some_iff.mp h
  rw [List.dropLast_concat]
theorem lc_imp {fi : SI} {is vs : List Nat} {g : SG} {tt : STe} {fe : SE} (mi : MonI fi) (mg : MonT g) (mt : MonE tt) (me : MonE fe) (hv : ∀ i ∈ is, i ∈ vs) (σ : L2.St) (H : Hp) (Q : VK) (q : tnOf X.K (fLc fi g tt fe vs) σ H Q) :
    tLc (tiOf X.K fi) (tgOf X.K is g) (ttOf X.K tt) (teOf X.K fe) vs σ H Q := by
  obtain ⟨ad, ρ, μ, s, q⟩ := q
  refine ⟨ad, ρ, μ, s, mi ρ μ _ _ (fun items ok μ1 q J H1 t1 m1 dw Da hD => ?_) q⟩
  have hD0 : H Da = none := free_back s.m t1 m1 Da hD
  have st0 : Step ad H1 (ad ++ [Da]) (upd H1 Da (.lst [])) := Step.newM hD
  have m0 : RpM X.K (upd H1 Da (.lst [])) (ad ++ [Da]) (μ1 ++ [[]]) := m1.newM hD .nil
  refine ⟨fun i m H' => ∃ acc μ', m = items.length - i ∧ i ≤ items.length ∧ Step ad H1 (ad ++ [Da]) H' ∧ RpM X.K H' (ad ++ [Da]) (μ' ++ [acc]) ∧ lcLoop g tt fe ok (wipeR ρ vs) (items.drop i) acc μ' (fun ds μ' => ∀ p H', H p = none → Step ad H (ad ++ [p]) H' → RpM X.K H' (ad ++ [p]) (μ' ++ [ds]) → Q (.ref p) H'),
    ⟨items.length, [], μ1, rfl, Nat.zero_le _, st0, m0, q⟩, ?_⟩
  rintro i m H' ⟨acc, μ', rfl, hi, st, m', q⟩
  by_cases hlt : i < items.length
  · have ed : items.drop i = items[i] :: items.drop (i + 1) := List.drop_eq_getElem_cons hlt
    rw [ed] at q
    obtain ⟨ok1, hz, q⟩ := q
    obtain ⟨d1, d2, d3⟩ := dw H' (ad ++ [Da]) _ st m' ok1
    refine .inr ⟨d1 i hlt, fun H'' => ∃ acc μ'', Step ad H1 (ad ++ [Da]) H'' ∧ RpM X.K H'' (ad ++ [Da]) (μ'' ++ [acc]) ∧ lcLoop g tt fe ok (wipeR ρ vs) (items.drop (i + 1)) acc μ'' (fun ds μ' => ∀ p H', H p = none → Step ad H (ad ++ [p]) H' → RpM X.K H' (ad ++ [p]) (μ' ++ [ds]) → Q (.ref p) H'),
      fun H'' ⟨acc, μ'', st2, m2, q2⟩ => ⟨items.length - (i + 1), by omega, acc, μ'', rfl, hlt, st2, m2, q2⟩, fun x H3 y => ?_⟩
    obtain ⟨st3, m3, r3⟩ := d3 i _ x H3 (List.getElem?_eq_getElem hlt) y
    have s3 : Sim X.K H3 (ad ++ [Da]) (wipeR ρ vs) (μ' ++ [acc]) (L2.wipe σ vs) := ((s.step ((t1.trans st).trans st3) m3).wipe vs)
    refine ⟨ad ++ [Da], wipeR ρ vs, μ' ++ [acc], .d items[i], s3, r3, mg _ _ _ _ _ (fun ρ1 μ1 q σ2 H4 w4 st4 s4 => ?_) q⟩
    refine ⟨(w4 vs hv).trans (wipe_wipe σ vs), ad ++ [Da], ρ1, μ1, s4, mt _ _ _ _ (fun b μ2 q H5 st5 m5 => ?_) q⟩
    have t35 := (st3.trans st4).trans st5
    cases b with
    | false =>
      obtain ⟨e1, q⟩ := q
      have e2 := unsnoc e1
      show ∃ acc μ'', _
      exact ⟨acc, _, st.trans t35, by rw [← e2]; exact m5, q⟩
    | true =>
      refine ⟨ad ++ [Da], ρ1, μ2, s4.step st5 m5, me _ _ _ _ (fun y μ3 q u H6 st6 m6 r6 => ?_) q⟩
      obtain ⟨yd, rfl, e1, q⟩ := q
      have e2 := unsnoc e1
      have hl := m6.len
      rw [e2] at m6 hl
      rw [List.length_append, List.length_append] at hl
      have hl2 : ad.length = μ3.dropLast.length := by simpa using hl
      have hget : (ad ++ [Da])[μ3.dropLast.length]? = some Da := by
        rw [← hl2, List.getElem?_append_right (Nat.le_refl _), Nat.sub_self]
        rfl
      obtain ⟨b, xs, q1, q2, q3⟩ := m6.at_ μ3.dropLast.length acc (by rw [List.getElem?_append_right (Nat.le_refl _), Nat.sub_self]; rfl)
      rw [hget] at q1
      cases q1
      have hla := q3.length
      have m7 := m6.put hget (q3.append (.cons r6 .nil))
      have e3 : (μ3.dropLast ++ [acc]).set μ3.dropLast.length (acc ++ [yd]) = μ3.dropLast ++ [acc ++ [yd]] := by
        rw [List.set_append_right _ _ (Nat.le_refl _), Nat.sub_self]
        rfl
      rw [e3] at m7
      refine ⟨xs, q2, szl (by omega), acc ++ [yd], μ3.dropLast, (st.trans (t35.trans st6)).trans (Step.mut (by simp)), m7, q⟩
  · have e : i = items.length := by omega
    subst e
    rw [List.drop_length] at q
    obtain ⟨ok1, q⟩ := q
    obtain ⟨d1, d2, d3⟩ := dw H' (ad ++ [Da]) _ st m' ok1
    exact .inl ⟨d2, q Da H' hD0 (t1.trans st) m'⟩
where
  wipe_wipe (σ : L2.St) (vs : List Nat) : L2.wipe (L2.wipe σ vs) vs = L2.wipe σ vs := by
    have key : ∀ (us ws : List Nat), (∀ i ∈ us, i ∈ ws) → ∀ τ : L2.St, L2.wipe (L2.wipe τ us) ws = L2.wipe τ ws := by
      intro us
      induction us with
      | nil => intro ws _ τ; rfl
      | cons u us ih =>
        intro ws hw τ
        show L2.wipe ((L2.wipe τ us).set u none) ws = _
        rw [wipe_set (hw u (by simp)), ih ws (fun i hi => hw i (List.mem_cons_of_mem _ hi)) τ]
    exact key vs vs (fun _ h => h) σ
theorem pdn_lc {elt tg iter : Expr} {ifs : List Expr} {scope : Scope} {own : List (Str × Nat)} {pos : Pos} {fi : SI} {is : List Nat} {g : SG} {tt : STe} {fe : SE} (hc : X.calm = true) (hN : X.N.Nodup) (hi : PDI X tg iter fi) (ok : BlkOk X.N X.env.scope scope own)
    (hg : ∀ (s : Shared) (H : Hp) (C : Addr) (cl : List (Str × Addr)) (fp : List Addr), PDG (X.blk s H scope (compEnvC scope cl C X.env) fp) tg is g) (ht : ∀ (s : Shared) (H : Hp) (C : Addr) (cl : List (Str × Addr)) (fp : List Addr), PDTs (X.blk s H scope (compEnvC scope cl C X.env) fp) ifs tt)
    (he : ∀ (s : Shared) (H : Hp) (C : Addr) (cl : List (Str × Addr)) (fp : List Addr), PD (X.blk s H scope (compEnvC scope cl C X.env) fp) elt fe) (hv : ∀ i ∈ is, i ∈ own.map (·.2)) (hs : ∀ x, foldedSetIterable iter X.env x = pure x := by intro _; rfl) :
    PDN X (.ListComp elt [⟨tg, iter, ifs, 0⟩] scope pos) (fLc fi g tt fe (own.map (·.2))) := by
  have d : Shared × Hp × Addr := ⟨X.s_0, fun _ => none, 0⟩
  have mg := (hg d.1 d.2.1 d.2.2 [] []).mo
  have mt := (ht d.1 d.2.1 d.2.2 [] []).mo
  have me := (he d.1 d.2.1 d.2.2 [] []).mo
  exact ⟨mon_lc hi.mo mg mt me, (pe_lc hc hN hi.run ok (fun s H C cl fp => (hg s H C cl fp).run) (fun s H C cl fp => (ht s H C cl fp).run) (fun s H C cl fp => (he s H C cl fp).run) hs).of (lc_imp hi.mo mg mt me hv)⟩
/-- name = [..], the name a local of the def -/
theorem pds_setLc {i : Nat} {y : Str} {py : Pos} {elt tg iter : Expr} {ifs : List Expr} {scope : Scope} {own : List (Str × Nat)} {pos spos : Pos} {fi : SI} {is : List Nat} {g : SG} {tt : STe} {fe : SE} (hc : X.calm = true) (hN : X.N.Nodup) (hy : X.N[i]? = some y) (hyl : X.env.scope.names.lookup y = some .local)
    (hsw : swapsWith (.ListComp elt [⟨tg, iter, ifs, 0⟩] scope pos) (some (.Name y py)) spos.line X.env = pure true) (hi : PDI X tg iter fi) (ok : BlkOk X.N X.env.scope scope own)
    (hg : ∀ (s : Shared) (H : Hp) (C : Addr) (cl : List (Str × Addr)) (fp : List Addr), PDG (X.blk s H scope (compEnvC scope cl C X.env) fp) tg is g) (ht : ∀ (s : Shared) (H : Hp) (C : Addr) (cl : List (Str × Addr)) (fp : List Addr), PDTs (X.blk s H scope (compEnvC scope cl C X.env) fp) ifs tt)
    (he : ∀ (s : Shared) (H : Hp) (C : Addr) (cl : List (Str × Addr)) (fp : List Addr), PD (X.blk s H scope (compEnvC scope cl C X.env) fp) elt fe) (hv : ∀ i ∈ is, i ∈ own.map (·.2)) (hs : ∀ x, foldedSetIterable iter X.env x = pure x := by intro _; rfl) :
    PDS X W (.Assign [.Name y py] (.ListComp elt [⟨tg, iter, ifs, 0⟩] scope pos) spos) (fAsg (fOfN (fLc fi g tt fe (own.map (·.2)))) (gN i)) := by
  have d : Shared × Hp × Addr := ⟨X.s_0, fun _ => none, 0⟩
  have mg := (hg d.1 d.2.1 d.2.2 [] []).mo
  have mt := (ht d.1 d.2.1 d.2.2 [] []).mo
  have me := (he d.1 d.2.1 d.2.2 [] []).mo
  have mo := mon_lc (vs := own.map (·.2)) hi.mo mg mt me
  refine ⟨mon_asg (fun ρ μ P P' k q => mo ρ μ _ _ (fun ds μ1 q => k _ _ q) q) fun x ρ μ P P' k q => k _ _ q,
    (ps_setLc hc hN hy hyl hsw hi.run ok (fun s H C cl fp => (hg s H C cl fp).run) (fun s H C cl fp => (ht s H C cl fp).run) (fun s H C cl fp => (he s H C cl fp).run) hs).of fun Dn σ H q => lc_imp hi.mo mg mt me hv σ H _ ?_⟩
  obtain ⟨ad, ρ, μ, s, q⟩ := q
  refine ⟨ad, ρ, μ, s, mo ρ μ _ _ (fun ds μ1 q p H' hp t m => ?_) q⟩
  obtain ⟨m1, r1, _⟩ := m.last
  exact q _ H' ad (step_less t) ((s.step (step_less t) m1).set r1)

/-! ### calls of own defs -/
abbrev TF := List S → Mu → (D → Mu → Prop) → Prop
def MonF (T : TF) : Prop := ∀ ss μ (P P' : D → Mu → Prop), (∀ d μ', P d μ' → P' d μ') → T ss μ P → T ss μ P'
def spT (n : Nat) (K : PySem.W.Frag) (T : TF) : Sp := fun vs H Q _ => ∃ ad ss μ, RpSA K (hide ad H) ad vs ss ∧ RpM K H ad μ ∧ ss.length = n ∧ T ss μ fun d μ' => ∀ v H', Step ad H ad H' → RpM K H' ad μ' → Rp K (hide ad H') v d → Q v H'
theorem rpSA_len {K : PySem.W.Frag} {F : Hp} {ad : List Addr} : ∀ {vs : List V} {ss : List S}, RpSA K F ad vs ss → vs.length = ss.length
  | _, _, .nil => rfl
  | _, _, .cons _ r => congrArg (· + 1) (rpSA_len r)
def fCall (n : Nat) (T : TF) (f : SA) : SE := fun ρ μ P => f ρ μ fun ss μ1 => ss.length = n ∧ T ss μ1 fun d μ2 => P (.d d) μ2
theorem mon_call {n : Nat} {T : TF} {f : SA} (mT : MonF T) (m : MonE f) : MonE (fCall n T f) := fun ρ μ P P' k q => m ρ μ _ _ (fun ss μ1 q => ⟨q.1, mT ss μ1 _ _ (fun d μ2 q => k _ _ q) q.2⟩) q
theorem pd_call {e : Expr} {n : Nat} {T : TF} {f : SA} {E : XK} (mT : MonF T) (m : MonE f) (h : PE X e (tCall (spT n X.K T) [] E (taOf X.K f))) : PD X e (fCall n T f) := by
  refine ⟨mon_call mT m, h.of fun σ H Q q => ?_⟩
  obtain ⟨ad, ρ, μ, s, q⟩ := q
  refine ⟨ad, ρ, μ, s, m ρ μ _ _ (fun ss μ1 q vs H1 t1 m1 r1 => ?_) q⟩
  show spT n X.K T (vs ++ []) H1 Q E
  rw [List.append_nil]
  exact ⟨ad, ss, μ1, r1, m1, q.1, mT ss μ1 _ _ (fun d μ2 q v H2 t2 m2 r2 => q v H2 (t1.trans t2) m2 r2) q.2⟩
/-- a call with keywords alone -/
structure PDK (X : Cx) (kws : List Keyword) (f : SA) : Prop where
  mo : MonE f
  run : PK X kws (taOf X.K f)
theorem _root_.L2.PK.of {kws : List Keyword} {t t' : TA} (h : PK X kws t) (i : ∀ σ H Q, t' σ H Q → t σ H Q) : PK X kws t' := ⟨fun pos pins s σ H Q I q => h.run pos pins s σ H Q I (i σ H Q q)⟩
theorem pdk_nil : PDK X [] fANil := ⟨fun ρ μ P P' k h => k _ _ h, pk_nil.of fun σ H Q ⟨ad, ρ, μ, s, q⟩ => q [] H (Step.refl _ _) s.m .nil⟩
theorem pdk_cons {e : Expr} {nm : Option Str} {kpos : Pos} {kws : List Keyword} {f : SE} {g : SA} (h : PD X e f) (r : PDK X kws g) : PDK X (⟨nm, e, kpos⟩ :: kws) (fACons f g) := by
  refine ⟨fun ρ μ P P' k q => h.mo ρ μ _ _ (fun x μ1 q1 => r.mo ρ μ1 _ _ (fun xs μ2 q2 => k _ _ q2) q1) q, (pk_cons h.run r.run).of fun σ H Q q => ?_⟩
  obtain ⟨ad, ρ, μ, s, q⟩ := q
  refine ⟨ad, ρ, μ, s, h.mo ρ μ _ _ (fun x μ1 h1 v H1 t1 m1 r1 => ?_) q⟩
  refine ⟨ad, ρ, μ1, s.step t1 m1, r.mo ρ μ1 _ _ (fun xs μ2 h2 vs H2 t2 m2 r2 => ?_) h1⟩
  exact h2 (v :: vs) H2 (t1.trans t2) m2 (.cons (r1.step t2) r2)
theorem pe_callK0 {CX : CXT} {k : Nat} {f : Addr} {fd : FuncData} {ps ks : List Str} {sp : Sp} {E : XK} {x : Str} {p pos : Pos} {kws : List Keyword} {tk : TA} {g : List Value → List Value → List Value} {gV : List V → List V → List V}
    (F : FnOk X.prog X.w X.K X.mg X.base CX k f fd ps sp) (hr : Room k X.A) (hg : Gl X x) (hm : X.mg x = some (.ref f)) (hk : PySem.W.keepIn X.K (.ref f) = true) (hb : KBinds X.K fd ps ks g gV) (hx : Passes CX X E)
    (hkw : PK X kws tk) (hall : (backToKw pos (keywordEach kws X.env)).all (·.1.isSome) = true := by rfl) (hks : (backToKw pos (keywordEach kws X.env)).filterMap (·.1) = ks := by rfl)
    (hdb : (x == ("__debug__" : Str)) = false := by decide)
    (hpl : ((backTo pos (starEach [] X.env)).any (·.1) || (backToKw pos (keywordEach kws X.env)).any (·.1.isNone)) = false := by rfl) :
    PE X (.Call (.Name x p) [] kws pos) (tCallK sp gV E tNil tk) := by
  refine ⟨fun pins s σ H Q I h => ?_⟩
  refine wpAny_Call_Name_kw (ld_glob I hg hm ?_ hdb)
  refine PySem.W.callWith_KW0 (h₀ := X.base) I.ok.mod.kin hk hall ?_ hpl
  refine thn (hkw.run pos pins s σ H _ I h) fun ws s2 ⟨zs, H2, I2, rz, q2⟩ => ⟨I2.kIn, ?_⟩
  rw [hks]
  exact run_fnk (us := []) (vs := []) F hr hb hx I2 .nil rz q2
def fCallK (n : Nat) (T : TF) (π : List S → List S) (f : SA) : SE := fun ρ μ P => f ρ μ fun ss μ1 => (π ss).length = n ∧ T (π ss) μ1 fun d μ2 => P (.d d) μ2
theorem pd_callK {e : Expr} {n : Nat} {T : TF} {π : List S → List S} {gV : List V → List V → List V} {f : SA} {E : XK} (mT : MonF T) (m : MonE f) (hπ : ∀ (F : Hp) (ad : List Addr) (vs : List V) (ss : List S), RpSA X.K F ad vs ss → RpSA X.K F ad (gV [] vs) (π ss))
    (h : PE X e (tCallK (spT n X.K T) gV E tNil (taOf X.K f))) : PD X e (fCallK n T π f) := by
  refine ⟨fun ρ μ P P' k q => m ρ μ _ _ (fun ss μ1 q => ⟨q.1, mT _ μ1 _ _ (fun d μ2 q => k _ _ q) q.2⟩) q, h.of fun σ H Q q => ?_⟩
  obtain ⟨ad, ρ, μ, s, q⟩ := q
  refine ⟨ad, ρ, μ, s, m ρ μ _ _ (fun ss μ1 q vs H1 t1 m1 r1 => ?_) q⟩
  exact ⟨ad, _, μ1, hπ _ _ _ _ r1, m1, q.1, mT _ μ1 _ _ (fun d μ2 q v H2 t2 m2 r2 => q v H2 (t1.trans t2) m2 r2) q.2⟩
end

/-! ### a def keeps its promise -/
def startR (N : List Str) (ss : List S) : Rho := ss.map some ++ List.replicate (N.length - ss.length) none
theorem sim_start {K : PySem.W.Frag} {H : Hp} {ad : List Addr} {μ : Mu} {N : List Str} {vs : List V} {ss : List S} (m : RpM K H ad μ) (r : RpSA K (hide ad H) ad vs ss) : Sim K H ad (startR N ss) μ (L2.start N vs) := by
  have hl := rpSA_len r
  refine ⟨m, by unfold startR L2.start; simp [hl], fun i x h => ?_⟩
  have key : ∀ {vs : List V} {ss : List S} (i : Nat), RpSA K (hide ad H) ad vs ss → ss[i]? = some x → ∃ v, vs[i]? = some v ∧ RpS K (hide ad H) ad v x := by
    intro vs ss i r
    induction r generalizing i with
    | nil => intro h; simp at h
    | cons h1 h2 ih =>
      intro h
      cases i with
      | zero => simp at h; subst h; exact ⟨_, rfl, h1⟩
      | succ i => obtain ⟨v, q1, q2⟩ := ih i (by simpa using h); exact ⟨v, by simpa using q1, q2⟩
  unfold startR at h
  by_cases hi : i < ss.length
  · rw [List.getElem?_append_left (by simpa using hi), List.getElem?_map] at h
    cases e : ss[i]? with
    | none => rw [e] at h; cases h
    | some y =>
      rw [e] at h
      cases h
      obtain ⟨v, q1, q2⟩ := key i r e
      refine ⟨v, ?_, q2⟩
      unfold L2.start
      rw [List.getElem?_append_left (by simp; omega), List.getElem?_map, q1]
      rfl
  · rw [List.getElem?_append_right (by simpa using hi), List.getElem?_replicate] at h
    split at h <;> cases h
/-- nothing is raised -/
abbrev WZ : WX := fun _ _ _ _ => False
def fin (n : Nat) (μ : Mu) : S → Option D
  | .d x => some x
  | .m j => if j < n then none else (μ[j]?).map .lst
  | .ex _ _ _ _ => none
def kD (n : Nat) (P : D → Mu → Prop) : K4 where
  nx := fun _ μ' => P .non (μ'.take n)
  rt := fun x μ' => ∃ d, fin n μ' x = some d ∧ P d (μ'.take n)
  bk := fun _ _ => False
  ct := fun _ _ => False
  er := fun _ _ _ => False
theorem RpM.take {K : PySem.W.Frag} {H : Hp} {ad ad' : List Addr} {μ' : Mu} (m : RpM K H ad' μ') (p : ad <+: ad') : RpM K H ad (μ'.take ad.length) ∧ Same (hide ad' H) (hide ad H) := by
  obtain ⟨t, rfl⟩ := p
  have sm : Same (hide (ad ++ t) H) (hide ad H) := fun b o e => by
    obtain ⟨h, e1⟩ := hide_some e
    rw [hide_out fun q => h (List.mem_append_left _ q)]
    exact e1
  have hl := m.len
  rw [List.length_append] at hl
  refine ⟨⟨by rw [List.length_take]; omega, (List.nodup_append.mp m.nd).1, fun j ds h => ?_⟩, sm⟩
  rw [List.getElem?_take] at h
  split at h
  · rename_i hj
    obtain ⟨a, xs, q1, q2, q3⟩ := m.at_ j ds h
    rw [List.getElem?_append_left hj] at q1
    exact ⟨a, xs, q1, q2, q3.mono sm⟩
  · cases h
theorem ok_def {P : Program} {w : World} {K : PySem.W.Frag} {mg : Str → Option Value} {base : Heap} {x qual : Str} {st : Stmt} {f : Addr} {fd : FuncData} {N ps : List Str} {k : Nat} {T : TF} {fb : SS} (F : Fun K x qual st f fd) (S : FnScope N ps (defScope st))
    (hb : ∀ (cdv : Value) (A : Around) (outer : List Env) (s : Shared) (H : Hp) (E : XK), Room k (A.deeper (envOfC qual (defScope st) s.heap.objs.size f cdv)) → PDSs (cxOf CX0 P w K mg base N qual (defScope st) f cdv A outer s H E).nox WZ (defBody st) fb)
    (hT : ∀ ss μ (Q : D → Mu → Prop), ss.length = ps.length → T ss μ Q → fb (startR N ss) μ (kD μ.length Q)) : FnOk P w K mg base CX0 (k + 1) f fd ps (spT ps.length K T) := by
  refine F.ok S (fun vs H Q E h => ?_) (fun cdv A outer s H vs Q E hr h => ?_)
  · obtain ⟨ad, ss, μ, r, m, l, _⟩ := h
    rw [rpSA_len r]
    exact l
  · obtain ⟨ad, ss, μ, r, m, l, q⟩ := h
    have B := hb cdv A outer s H E hr
    refine ⟨_, B.run, ad, startR N ss, μ, sim_start m r, B.mo _ _ _ _ ?_ (hT ss μ _ l q)⟩
    have hl := m.len
    have less : ∀ {ad' : List Addr} {H' : Hp}, Step ad H ad' H' → Step ad H ad H' := fun t => ⟨List.prefix_refl _, fun b o h e => ⟨h, (t.keep b o h e).2⟩⟩
    refine ⟨fun ρ' μ' q σ' H' ad' t s' => ?_, fun y μ' q v H' ad' t m' rv => ?_, fun _ _ q => q.elim, fun _ _ q => q.elim, fun _ _ _ q => q.elim⟩
    · obtain ⟨m2, sm⟩ := s'.m.take t.pre
      rw [hl] at m2
      exact q .non H' (less t) m2 .non
    · obtain ⟨d, e, q⟩ := q
      obtain ⟨m2, sm⟩ := m'.take t.pre
      rw [hl] at m2
      refine q v H' (less t) m2 ?_
      cases y with
      | d y => cases e; exact Rp.mono sm rv
      | ex _ _ _ _ => cases e
      | m j =>
        unfold fin at e
        simp only at e
        split at e
        · cases e
        · cases e2 : μ'[j]? with
          | none => rw [e2] at e; cases e
          | some ds =>
            rw [e2] at e
            cases e
            obtain ⟨a, h1, rfl⟩ := rv
            obtain ⟨b, xs, q1, q2, q3⟩ := m'.at_ j ds e2
            rw [h1] at q1
            cases q1
            refine .lst (xs := xs) (.inl (.inl ?_)) (q3.mono sm)
            rw [hide_out fun z => ?_]
            · exact q2
            · rename_i hj
              obtain ⟨t', e3⟩ := t.pre
              subst e3
              have hnd := m'.nd
              obtain ⟨l1, e4⟩ := List.getElem?_eq_some_iff.mp h1
              obtain ⟨i, hi, e5⟩ := List.getElem_of_mem z
              have : (ad ++ t')[i]'(by rw [List.length_append]; omega) = a := by rw [List.getElem_append_left hi]; exact e5
              have hij := (List.getElem_inj hnd).mp (this.trans e4.symm)
              omega
/-! ### isinstance -/
section
variable {X : Cx} {W : WX}
def isB (x : S) (T : String) : Option Bool := match x with
  | .d (.tup _) => kitB "tuple" T
  | .d (.int _) => kitB "int" T
  | _ => none
def fIsi (T : String) (f : SE) : SE := fun ρ μ P => f ρ μ fun x μ1 => ∃ b, isB x T = some b ∧ P (.d (.bl b)) μ1
theorem pd_isi {e : Expr} {T : String} {n : Str} {p p2 pos : Pos} {f : SE} (h : PD X e f) (hg : Gl X "isinstance") (hm : X.mg "isinstance" = none) (hg2 : Gl X n) (hm2 : X.mg n = none) (hb2 : bootBuiltins n = some (.type T)) (hn2 : n ≠ "__name__") (hd2 : (n == ("__debug__" : Str)) = false)
    (hv : bootBuiltins "isinstance" = some (.builtin "isinstance")) (hs : starEach [e, .Name n p2] X.env = (false, eval e X.env) :: starEach [.Name n p2] X.env := by rfl) (hs2 : starEach [.Name n p2] X.env = (false, eval (.Name n p2) X.env) :: starEach [] X.env := by rfl)
    (hpl : (backTo pos (starEach [.Name n p2] X.env)).any (·.1) = false := by rfl) : PD X (.Call (.Name "isinstance" p) [e, .Name n p2] [] pos) (fIsi T f) := by
  have h0 : PE X (.Call (.Name "isinstance" p) [e, .Name n p2] [] pos) (tCB (rIsi X.K) (tCons (teOf X.K f) (tCons (tC (.ty T)) tNil))) :=
    pe_callB call_isi hg hm hv (pa_cons h.run (pa_cons (pe_bltn hg2 hm2 hb2 rfl hn2 hd2) pa_nil hs2) hs) (by decide) (by decide) hs hpl
  refine ⟨fun ρ μ P P' k q => h.mo ρ μ _ _ (fun x μ1 ⟨b, e, q⟩ => ⟨b, e, k _ _ q⟩) q, h0.of fun σ H Q q => ?_⟩
  obtain ⟨ad, ρ, μ, s, q⟩ := q
  refine ⟨ad, ρ, μ, s, h.mo ρ μ _ _ (fun x μ1 ⟨b, e, q⟩ v H1 t1 m1 r1 => ?_) q⟩
  unfold isB at e
  split at e
  · cases r1 with
    | tup h1 h2 =>
      refine ⟨_, _, .type "tuple", .type T, b, rfl, .ty T, ?_, kit_ty e, q _ H1 t1 m1 (.bl b)⟩
      rcases sqT_same hide_same h1 with (z | ⟨o, z⟩) | ⟨o, its, n, z1, z2, _⟩
      · exact .base (.tup z)
      · exact .fTuple z
      · exact .kTuple z1 z2
  · cases r1
    exact ⟨_, _, .type "int", .type T, b, rfl, .ty T, .base (.int _), kit_ty e, q _ H1 t1 m1 (.bl b)⟩
  · cases e
end
end DV

/-! part DV6 -/
set_option Elab.async false
set_option linter.all false
set_option maxRecDepth 100000
set_option autoImplicit false
namespace DV
open PySem PySem.Spec L2
open PyProof.Rows (envOfC)
/-- a def of the text's top -/
def Top (K : PySem.W.Frag) (mg : Str → Option Value) (x : Str) (st : Stmt) (ps : List Str) : Prop := ∃ f fd, Fun K x x st f fd ∧ Binds K fd ps [] ∧ mg x = some (.ref f)
/-- a def that keeps its promise -/
def DefOk (P : Program) (w : World) (K : PySem.W.Frag) (mg : Str → Option Value) (base : Heap) (x : Str) (k n : Nat) (T : TF) : Prop :=
  MonF T ∧ ∃ f fd ps, mg x = some (.ref f) ∧ PySem.W.keepIn K (.ref f) = true ∧ Binds K fd ps [] ∧ FnOk P w K mg base CX0 k f fd ps (spT n K T)
theorem ok_defD {P : Program} {w : World} {K : PySem.W.Frag} {mg : Str → Option Value} {base : Heap} {x : Str} {st : Stmt} {N ps : List Str} {k : Nat} {T : TF} {fb : SS} (t : Top K mg x st ps) (S : FnScope N ps (defScope st)) (mT : MonF T)
    (hb : ∀ (f : Addr) (cdv : Value) (A : Around) (outer : List Env) (s : Shared) (H : Hp) (E : XK), Room k (A.deeper (envOfC x (defScope st) s.heap.objs.size f cdv)) → PDSs (cxOf CX0 P w K mg base N x (defScope st) f cdv A outer s H E).nox WZ (defBody st) fb)
    (hT : ∀ ss μ (Q : D → Mu → Prop), ss.length = ps.length → T ss μ Q → fb (startR N ss) μ (kD μ.length Q)) : DefOk P w K mg base x (k + 1) ps.length T := by
  obtain ⟨f, fd, F, b, g⟩ := t
  exact ⟨mT, f, fd, ps, g, F.kp, b, ok_def F S (fun cdv A outer s H E hr => hb f cdv A outer s H E hr) hT⟩
section
variable {X : Cx} {W : WX}
theorem pd_callD {x : Str} {k n : Nat} {T : TF} {p pos : Pos} {e : Expr} {es : List Expr} {f : SA} (C : DefOk X.prog X.w X.K X.mg X.base x k n T) (hr : Room k X.A) (hg : Gl X x) (h : PDA X (e :: es) f)
    (hdb : (x == ("__debug__" : Str)) = false := by decide) (he : starEach (e :: es) X.env = (false, eval e X.env) :: starEach es X.env := by rfl) (hpl : (backTo pos (starEach es X.env)).any (·.1) = false := by rfl) :
    PD X (.Call (.Name x p) (e :: es) [] pos) (fCall n T f) := by
  obtain ⟨mT, fa, fd, ps, g, kp, b, F⟩ := C
  exact pd_call mT h.mo (pe_call (E := E0) F hr hg g kp b .nil pass0 h.run hdb he hpl)
/-- a module's constant -/
def ConstOk (K : PySem.W.Frag) (mg : Str → Option Value) (x : Str) (d : D) : Prop := ∃ v u, mg x = some u ∧ RelV v u ∧ ∀ F, Rp K F v d
theorem pd_glob {x : Str} {d : D} {pos : Pos} (C : ConstOk X.K X.mg x d) (hg : Gl X x) (hdb : (x == ("__debug__" : Str)) = false := by decide) : PD X (.Name x pos) (fC d) := by
  obtain ⟨v, u, g, r, rp⟩ := C
  exact pd_c (pe_glob hg g r hdb) rp
theorem pd_B {x : Str} {id : String} {r : List V → Hp → VK → Prop} {g : GA} {p pos : Pos} {e : Expr} {es : List Expr} {f : SA} (hc : CallR X (.builtin id) r) (sd : SoundA X.K r g) (mg : MonA g) (hg : Gl X x) (hm : X.mg x = none) (hv : bootBuiltins x = some (.builtin id)) (h : PDA X (e :: es) f)
    (hn : x ≠ "__name__" := by decide) (hdb : (x == ("__debug__" : Str)) = false := by decide) (he : starEach (e :: es) X.env = (false, eval e X.env) :: starEach es X.env := by rfl) (hpl : (backTo pos (starEach es X.env)).any (·.1) = false := by rfl) :
    PD X (.Call (.Name x p) (e :: es) [] pos) (fCB g f) := pd_of_CB mg h.mo sd (pe_callB hc hg hm hv h.run hn hdb he hpl)
theorem pd_Ty {x : Str} {T : String} {r : List V → Hp → VK → Prop} {g : GA} {p pos : Pos} {e : Expr} {es : List Expr} {f : SA} (hc : CallR X (.type T) r) (sd : SoundA X.K r g) (mg : MonA g) (hg : Gl X x) (hm : X.mg x = none) (hv : bootBuiltins x = some (.type T)) (h : PDA X (e :: es) f)
    (hn : x ≠ "__name__" := by decide) (hdb : (x == ("__debug__" : Str)) = false := by decide) (he : starEach (e :: es) X.env = (false, eval e X.env) :: starEach es X.env := by rfl) (hpl : (backTo pos (starEach es X.env)).any (·.1) = false := by rfl) :
    PD X (.Call (.Name x p) (e :: es) [] pos) (fCB g f) := pd_of_CB mg h.mo sd (pe_callTy hc hg hm hv h.run hn hdb he hpl)
theorem pd_Bf {x : Str} {id : String} {r : List V → Hp → VK → Prop} {g : GA} {p pos : Pos} {e : Expr} {es : List Expr} {f : SA} (hc : CallR X (.builtin id) r) (sd : SoundA X.K r g) (mg : MonA g) (hg : Gl X x) (hm : X.mg x = some (.builtin id)) (h : PDA X (e :: es) f)
    (hdb : (x == ("__debug__" : Str)) = false := by decide) (he : starEach (e :: es) X.env = (false, eval e X.env) :: starEach es X.env := by rfl) (hpl : (backTo pos (starEach es X.env)).any (·.1) = false := by rfl) :
    PD X (.Call (.Name x p) (e :: es) [] pos) (fCB g f) := pd_of_CB mg h.mo sd (pe_callBfun hc hg hm h.run hdb he hpl)
theorem bt_len : bootBuiltins "len" = some (.builtin "len") := by decide +kernel
theorem bt_isi : bootBuiltins "isinstance" = some (.builtin "isinstance") := by decide +kernel
theorem bt_sum : bootBuiltins "sum" = some (.builtin "sum") := by decide +kernel
theorem bt_all : bootBuiltins "all" = some (.builtin "all") := by decide +kernel
theorem bt_any : bootBuiltins "any" = some (.builtin "any") := by decide +kernel
theorem bt_abs : bootBuiltins "abs" = some (.builtin "abs") := by decide +kernel
theorem bt_max : bootBuiltins "max" = some (.builtin "max") := by decide +kernel
theorem bt_min : bootBuiltins "min" = some (.builtin "min") := by decide +kernel
theorem bt_divmod : bootBuiltins "divmod" = some (.builtin "divmod") := by decide +kernel
theorem bt_repr : bootBuiltins "repr" = some (.builtin "repr") := by decide +kernel
theorem bt_int : bootBuiltins "int" = some (.type "int") := by decide +kernel
theorem bt_bool : bootBuiltins "bool" = some (.type "bool") := by decide +kernel
theorem bt_tuple : bootBuiltins "tuple" = some (.type "tuple") := by decide +kernel
theorem bt_list : bootBuiltins "list" = some (.type "list") := by decide +kernel
/-- the same, for what may be used in a def's body -/
theorem add_ok : OpR X (binaryOp .Add) (fun x y H Q => rI0 (fun i j => .int (i + j)) x y H Q ∨ rCatA X.K x y H Q) := op_add.or op_catA
theorem eq_ok (hu : X.A.units + 64 < cLine) : OpR X (compareOp .Eq) (fun x y H Q => rEq x y H Q ∨ rEqD X.K x y H Q) := op_eq.or (op_eqD hu)
theorem ix_ok : IxR X (fun x y H Q => rIxL X.K x y H Q ∨ rIxT X.K x y H Q) := IxR.or ix_list ix_tup
end
theorem gsNil_eq {ρ : Rho} {μ : Mu} {P : Rho → Mu → Prop} : gsNil [] ρ μ P = P ρ μ := propext ⟨fun h => h.2, fun h => ⟨rfl, h⟩⟩
theorem gsCons_eq {g : SG} {gs : SGs} {x : S} {r : List S} {ρ : Rho} {μ : Mu} {P : Rho → Mu → Prop} : gsCons g gs (x :: r) ρ μ P = g x ρ μ fun ρ' μ' => gs r ρ' μ' P :=
  propext ⟨fun ⟨y, s, e, h⟩ => by cases e; exact h, fun h => ⟨x, r, rfl, h⟩⟩
theorem gT_eq {n : Nat} {gs : SGs} {ds : List D} {ρ : Rho} {μ : Mu} {P : Rho → Mu → Prop} : gT n gs (.d (.tup ds)) ρ μ P = (ds.length = n ∧ gs (ds.map S.d) ρ μ P) :=
  propext ⟨fun ⟨es, e, h⟩ => by cases e; exact h, fun h => ⟨ds, rfl, h⟩⟩
theorem gSb_eq {fo fi : SE} {v : D} {ρ : Rho} {μ : Mu} {P : Rho → Mu → Prop} : gSb fo fi (.d v) ρ μ P = fo ρ μ fun o μ1 => fi ρ μ1 fun i μ2 => ∃ j k ds, o = .m j ∧ i = .d (.int k) ∧ μ2[j]? = some ds ∧ 0 ≤ k ∧ k < ds.length ∧ P ρ (μ2.set j (ds.set k.toNat v)) := by
  unfold gSb
  congr 1
  funext o μ1
  congr 1
  funext i μ2
  exact propext ⟨fun ⟨j, k, ds, d, e1, e2, e3, e4, e5, e6, h⟩ => by cases e3; exact ⟨j, k, ds, e1, e2, e4, e5, e6, h⟩, fun ⟨j, k, ds, e1, e2, e4, e5, e6, h⟩ => ⟨j, k, ds, v, e1, e2, rfl, e4, e5, e6, h⟩⟩
end DV

/-! part DV7 -/
set_option Elab.async false
set_option linter.all false
set_option maxRecDepth 100000
set_option autoImplicit false
namespace DV
open PySem PySem.Spec L2
open PyProof.Rows (envOfC)
theorem deeper_guards (A : Around) (env : Env) : (A.deeper env).guards = A.guards := rfl
section
variable {X : Cx} {W : WX}
def fDrop (f : SE) : SS := fun ρ μ k => f ρ μ fun _ μ1 => k.nx ρ μ1
theorem pds_expr {e : Expr} {pos : Pos} {f : SE} (h : PD X e f) (hs : swapsWith e none pos.line X.env = pure false := by rfl) : PDS X W (.Expr e pos) (fDrop f) := by
  refine ⟨fun ρ μ k k' l q => h.mo ρ μ _ _ (fun x μ1 q => l.nx _ _ q) q, (ps_expr h.run hs).of fun Dn σ H q => ?_⟩
  obtain ⟨ad, ρ, μ, s, q⟩ := q
  exact ⟨ad, ρ, μ, s, h.mo ρ μ _ _ (fun x μ1 q v H1 t1 m1 r1 => q σ H1 ad t1 (s.step t1 m1)) q⟩
theorem pdi_enumerate {e : Expr} {elts : List Expr} {kk : Nat} {f : SA} {p pos tpos : Pos} (hg : Gl X "enumerate") (hm : X.mg "enumerate" = none) (h : PDA X [e] f) (hs : starEach [e] X.env = [(false, eval e X.env)] := by rfl) :
    PDI X (.Tuple elts kk tpos) (.Call (.Name "enumerate" p) [e] [] pos) (fIEnum f) := pdi_enum hg hm h hs
/-- [x] * n -/
def fNRep (f : SA) (fb : SE) : SN := fun ρ μ P => f ρ μ fun ss μ1 => ∃ ds, allD ss = some ds ∧ ds.length ≤ 1000 ∧ fb ρ μ1 fun y μ2 => ∃ k : Int, y = .d (.int k) ∧ 0 ≤ k ∧ k ≤ 1000 ∧ P (List.replicate k.toNat ds).flatten μ2
theorem pdn_rep {es : List Expr} {p1 pos : Pos} {b : Expr} {f : SA} {fb : SE} (h : PDA X es f) (hb : PD X b fb) : PDN X (.BinOp (.List es p1) .Mult b pos) (fNRep f fb) := by
  refine ⟨fun ρ μ P P' k q => h.mo ρ μ _ _ (fun ss μ1 ⟨ds, e1, e2, q⟩ => ⟨ds, e1, e2, hb.mo ρ μ1 _ _ (fun y μ2 ⟨n, e3, e4, e5, q⟩ => ⟨n, e3, e4, e5, k _ _ q⟩) q⟩) q, (pe_op op_rep (pe_lst h.run) hb.run).of fun σ H Q q => ?_⟩
  obtain ⟨ad, ρ, μ, s, q⟩ := q
  refine ⟨ad, ρ, μ, s, h.mo ρ μ _ _ (fun ss μ1 ⟨ds, e1, e2, q⟩ vs H1 t1 m1 r1 => ?_) q⟩
  have r2 := allD_rp r1 e1
  have l2 := r2.length
  refine ⟨sz (by omega), fun p hp => ?_⟩
  have hpa := m1.fresh hp
  have st : Step ad H1 ad (upd H1 p (.lst vs)) := Step.new hp
  refine ⟨ad, ρ, μ1, s.step (t1.trans st) (m1.new hp), hb.mo ρ μ1 _ _ (fun y μ2 ⟨n, e3, e4, e5, q⟩ v H2 t2 m2 r3 => ?_) q⟩
  subst e3
  obtain rfl := rp_int r3
  have hp2 := (t2.keep p _ hpa upd_same).2
  have hz : vs.length * n.toNat ≤ 100000000 := by
    have a1 : vs.length ≤ 1000 := by omega
    have a2 : n.toNat ≤ 1000 := by omega
    have := Nat.mul_le_mul a1 a2
    omega
  refine ⟨p, n, vs, rfl, rfl, hp2, by omega, by omega, ?_, ?_⟩
  · have a1 : vs.length ≤ 1000 := by omega
    have a2 : n.toNat ≤ 1000 := by omega
    have := Nat.mul_le_mul a1 a2
    exact Nat.le_trans this (by decide)
  · have t3 := (t1.trans st).trans t2
    exact new_N t3 m2 ((r2.mono (st.trans t2).same).rep _) (free_back s.m t3 m2) q
/-- list(range(n)) -/
def fNRg (f : SE) : SN := fun ρ μ P => f ρ μ fun x μ1 => ∃ n : Int, x = .d (.int n) ∧ 0 ≤ n ∧ n ≤ 100000 ∧ P (rngD n) μ1
theorem pdn_listRg {a : Expr} {p p2 pos pos2 : Pos} {f : SE} (hc : X.calm = true) (hg : Gl X "list") (hm : X.mg "list" = none) (hg2 : Gl X "range") (hm2 : X.mg "range" = none) (h : PD X a f)
    (na : starEach [a] X.env = (false, eval a X.env) :: starEach [] X.env := by rfl) (na2 : starEach [.Call (.Name "range" p2) [a] [] pos2] X.env = (false, eval (.Call (.Name "range" p2) [a] [] pos2) X.env) :: starEach [] X.env := by rfl) :
    PDN X (.Call (.Name "list" p) [.Call (.Name "range" p2) [a] [] pos2] [] pos) (fNRg f) := by
  refine ⟨fun ρ μ P P' k q => h.mo ρ μ _ _ (fun x μ1 ⟨n, e1, e2, e3, q⟩ => ⟨n, e1, e2, e3, k _ _ q⟩) q, (pe_listRg hc hg hm (prg_1 hg2 hm2 h.run na) na2).of fun σ H Q q => ?_⟩
  obtain ⟨ad, ρ, μ, s, q⟩ := q
  refine ⟨ad, ρ, μ, s, h.mo ρ μ _ _ (fun x μ1 ⟨n, e1, e2, e3, q⟩ v H1 t1 m1 r1 => ?_) q⟩
  subst e1
  obtain rfl := rp_int r1
  refine ⟨n, rfl, RgOk.of_le (by omega) (by omega) (by omega) (by omega), ?_⟩
  have e : RpA X.K (hide ad H1) (rgV 0 n) (rngD n) := by
    unfold rgV rngD
    rw [Int.sub_zero]
    induction List.range n.toNat with
    | nil => exact .nil
    | cons i l ih =>
      rw [List.map_cons, List.map_cons, Int.zero_add]
      exact .cons (.int _) ih
  exact new_N t1 m1 e (free_back s.m t1 m1) q
/-- a, b = [], y -/
def fParN0 (i j : Nat) (fa : SN) (fb : SE) : SS := fun ρ μ k => fa ρ μ fun ds μ1 => fb ρ (μ1 ++ [ds]) fun y μ2 => k.nx ((ρ.set i (some (.m μ1.length))).set j (some y)) μ2
theorem last_ad {K : PySem.W.Frag} {H : Hp} {ad : List Addr} {p : Addr} {μ : Mu} {ds : List D} (m : RpM K H (ad ++ [p]) (μ ++ [ds])) : (ad ++ [p])[μ.length]? = some p := by
  have hl := m.len
  rw [List.length_append, List.length_append] at hl
  have hl2 : ad.length = μ.length := by simpa using hl
  rw [← hl2, List.getElem?_append_right (Nat.le_refl _), Nat.sub_self]
  rfl
theorem pds_parN0 {st : Stmt} {i j : Nat} {a b : Expr} {fa : SN} {fb : SE} (ha : PDN X a fa) (hb : PD X b fb) (hp : ∀ ta, PA X [a, b] ta → PS X st (tPar i j ta))
    (hs : starEach [a, b] X.env = (false, eval a X.env) :: starEach [b] X.env := by rfl) (hs2 : starEach [b] X.env = (false, eval b X.env) :: starEach [] X.env := by rfl) : PDS X W st (fParN0 i j fa fb) := by
  refine ⟨fun ρ μ k k' l q => ha.mo ρ μ _ _ (fun ds μ1 q => hb.mo ρ _ _ _ (fun y μ2 q => l.nx _ _ q) q) q, (hp _ (pa_cons ha.run (pa_cons hb.run pa_nil hs2) hs)).of fun Dn σ H q => ?_⟩
  obtain ⟨ad, ρ, μ, s, q⟩ := q
  refine ⟨ad, ρ, μ, s, ha.mo ρ μ _ _ (fun ds μ1 q p H1 hp t1 m1 => ?_) q⟩
  have hg := last_ad m1
  refine ⟨ad ++ [p], ρ, μ1 ++ [ds], s.step t1 m1, hb.mo ρ _ _ _ (fun y μ2 q v H2 t2 m2 r2 => ?_) q⟩
  have rp : RpS X.K (hide (ad ++ [p]) H2) (ad ++ [p]) (.ref p) (.m μ1.length) := ⟨p, hg, rfl⟩
  exact ⟨.ref p, v, rfl, q _ H2 (ad ++ [p]) (t1.trans t2) (((s.step (t1.trans t2) m2).set rp).set r2)⟩
/-- a, b, c = x, y, z -/
def fPar3 (i j l : Nat) (f : SA) : SS := fun ρ μ k => f ρ μ fun xs μ1 => ∃ x y z, xs = [x, y, z] ∧ k.nx (((ρ.set i (some x)).set j (some y)).set l (some z)) μ1
theorem rsa3 {K : PySem.W.Frag} {F : Hp} {ad : List Addr} {vs : List V} {x y z : S} (r : RpSA K F ad vs [x, y, z]) : ∃ v u w, vs = [v, u, w] ∧ RpS K F ad v x ∧ RpS K F ad u y ∧ RpS K F ad w z := by
  cases r with
  | cons h r =>
    obtain ⟨u, w, rfl, h2, h3⟩ := rsa2 r
    exact ⟨_, u, w, rfl, h, h2, h3⟩
theorem pds_par3 {st : Stmt} {i j l : Nat} {es : List Expr} {f : SA} (h : PDA X es f) (hp : ∀ ta, PA X es ta → PS X st (tPar3 i j l ta)) : PDS X W st (fPar3 i j l f) := by
  refine ⟨fun ρ μ k k' l q => h.mo ρ μ _ _ (fun xs μ1 ⟨x, y, z, e, q⟩ => ⟨x, y, z, e, l.nx _ _ q⟩) q, (hp _ h.run).of fun Dn σ H q => ?_⟩
  obtain ⟨ad, ρ, μ, s, q⟩ := q
  refine ⟨ad, ρ, μ, s, h.mo ρ μ _ _ (fun xs μ1 q vs H1 t1 m1 r1 => ?_) q⟩
  obtain ⟨x, y, z, rfl, q⟩ := q
  obtain ⟨v, u, w, rfl, r2, r3, r4⟩ := rsa3 r1
  exact ⟨v, u, w, rfl, q _ H1 ad t1 ((((s.step t1 m1).set r2).set r3).set r4)⟩
def fPar3N (i j l : Nat) (fa fb : SE) (fc : SN) : SS := fun ρ μ k => fa ρ μ fun x μ1 => fb ρ μ1 fun y μ2 => fc ρ μ2 fun ds μ3 => k.nx (((ρ.set i (some x)).set j (some y)).set l (some (.m μ3.length))) (μ3 ++ [ds])
theorem pds_par3N {st : Stmt} {i j l : Nat} {a b c : Expr} {fa fb : SE} {fc : SN} (ha : PD X a fa) (hb : PD X b fb) (hc : PDN X c fc) (hp : ∀ ta, PA X [a, b, c] ta → PS X st (tPar3 i j l ta))
    (hs : starEach [a, b, c] X.env = (false, eval a X.env) :: starEach [b, c] X.env := by rfl) (hs2 : starEach [b, c] X.env = (false, eval b X.env) :: starEach [c] X.env := by rfl) (hs3 : starEach [c] X.env = (false, eval c X.env) :: starEach [] X.env := by rfl) : PDS X W st (fPar3N i j l fa fb fc) := by
  refine ⟨fun ρ μ k k' l q => ha.mo ρ μ _ _ (fun x μ1 q => hb.mo ρ _ _ _ (fun y μ2 q => hc.mo ρ _ _ _ (fun ds μ3 q => l.nx _ _ q) q) q) q, (hp _ (pa_cons ha.run (pa_cons hb.run (pa_cons hc.run pa_nil hs3) hs2) hs)).of fun Dn σ H q => ?_⟩
  obtain ⟨ad, ρ, μ, s, q⟩ := q
  refine ⟨ad, ρ, μ, s, ha.mo ρ μ _ _ (fun x μ1 q v H1 t1 m1 r1 => ?_) q⟩
  refine ⟨ad, ρ, μ1, s.step t1 m1, hb.mo ρ μ1 _ _ (fun y μ2 q u H2 t2 m2 r2 => ?_) q⟩
  refine ⟨ad, ρ, μ2, s.step (t1.trans t2) m2, hc.mo ρ μ2 _ _ (fun ds μ3 q p H3 hp t3 m3 => ?_) q⟩
  have hg := last_ad m3
  have t := (t1.trans t2).trans t3
  have rp : RpS X.K (hide (ad ++ [p]) H3) (ad ++ [p]) (.ref p) (.m μ3.length) := ⟨p, hg, rfl⟩
  exact ⟨v, u, .ref p, rfl, q _ H3 (ad ++ [p]) t ((((s.step t m3).set (r1.step (t2.trans t3))).set (r2.step t3)).set rp)⟩
end
end DV

/-! part DV8 -/
set_option Elab.async false
set_option linter.all false
set_option autoImplicit false
namespace DV
open PySem PySem.Spec L2
theorem look_rel {p : Str → NameKind → Bool} (hp : ∀ n k, p n k = true → k = .free) : ∀ {names : List (Str × NameKind)} {x : Str}, (names.lookup x = some .cell ∨ names.lookup x = some .free) →
    ((names.map fun (n, k) => if p n k = true then (n, NameKind.cell) else (n, k)).lookup x = some .cell ∨ (names.map fun (n, k) => if p n k = true then (n, NameKind.cell) else (n, k)).lookup x = some .free)
  | [], _, h => by simp at h
  | (n, k) :: r, x, h => by
    have ih := @look_rel p hp r x
    rw [List.map_cons]
    cases hx : x == n with
    | true =>
      have e : List.lookup x ((n, k) :: r) = some k := by rw [List.lookup_cons, hx]
      rw [e] at h
      by_cases c : p n k = true
      · refine .inl ?_
        simp only [c, if_true, List.lookup_cons, hx]
      · simp only [c, if_false, Bool.false_eq_true, List.lookup_cons, hx]
        exact h
    | false =>
      have e : List.lookup x ((n, k) :: r) = List.lookup x r := by rw [List.lookup_cons, hx]
      rw [e] at h
      have q := ih h
      by_cases c : p n k = true
      · simp only [c, if_true, List.lookup_cons, hx] at q ⊢
        exact q
      · simp only [c, if_false, Bool.false_eq_true, List.lookup_cons, hx] at q ⊢
        exact q
/-- a block in a block -/
theorem blkOk_in {X : Cx} {N : List Str} {s : Shared} {H : Hp} {sc0 scope : Scope} {C : Addr} {cl : List (Str × Addr)} {E : Env} {fp : List Addr} {own : List (Str × Nat)} (hN : X.N = N) (h : blkC N sc0 scope own = true) :
    BlkOk (X.blk s H sc0 (compEnvC sc0 cl C E) fp).N (X.blk s H sc0 (compEnvC sc0 cl C E) fp).env.scope scope own := by
  subst hN
  have b := blkOk_by h
  exact ⟨b.kind, b.uniq, b.ix, fun y hy e => look_rel (p := fun n k => (k == .free && E.scope.kind == .function && E.kindOf n == some .cell)) (fun n k h => by
    simp only [Bool.and_eq_true, beq_iff_eq] at h
    exact h.1.1) (b.free y hy e), b.own⟩
end DV

/-! part DZ -/
set_option Elab.async false
set_option linter.all false
set_option maxRecDepth 100000
set_option maxHeartbeats 1000000
set_option autoImplicit false
namespace DZ
open PySem PySem.Spec PyProof.Rows L2 RZ
/-- an iterator it over the thing at l, of n values: what one more step of it gives -/
structure Src (prog : Program) (w : World) (it l : Addr) (n : Nat) (p : Nat → Value → Prop) (St : Nat → Heap → Prop) : Prop where
  fr : ∀ i h h', St i h → (∀ o, h.get? it = some o → h'.get? it = some o) → (∀ o, h.get? l = some o → h'.get? l = some o) → St i h'
  one : ∀ (A : Around) i (s : Shared) (Q E : Value → Shared → Prop), i < n → St i s.heap → (∀ x h', p i x → St (i + 1) h' → Heap.SameBut it s.heap h' → Q x { s with heap := h' }) →
    wpAny (model prog w) A (Builtin.SmallTypes.nextOf (.ref it)) Q E s
  no : ∀ (A : Around), A.handled = none → ∀ i (s : Shared) (Q E : Value → Shared → Prop), n ≤ i → St i s.heap → (∀ h' e, Heap.ExtBut it s.heap h' → (∃ o, h'.get? e = some o ∧ o.cls = .type "StopIteration") → E (.ref e) { s with heap := h' }) →
    wpAny (model prog w) A (Builtin.SmallTypes.nextOf (.ref it)) Q E s
theorem Src.tup {prog : Program} {w : World} (it l : Addr) (hne : l ≠ it) (vs : Array Value) : Src prog w it l vs.size (fun i v => vs[i]? = some v) fun i h => h.IsTupleIter it l i ∧ h.IsTuple l vs :=
  ⟨fun i h h' st k1 k2 => ⟨st.1.at k1, st.2.at k2⟩, fun A i s Q E hi st q => nextOf_tuple_item st.1 st.2 (x := vs[i]) (by simp [hi]) fun h' t sb => q _ h' (by simp [hi]) ⟨t, st.2.extBut sb.extBut hne⟩ sb,
    fun A hh i s Q E hi st q => nextOf_tuple_end hh st.1 st.2 (by simp [hi]) q⟩
theorem Src.lst {prog : Program} {w : World} (it l : Addr) (hne : l ≠ it) (vs : Array Value) : Src prog w it l vs.size (fun i v => vs[i]? = some v) fun i h => h.IsListIter it l i ∧ h.IsList l vs :=
  ⟨fun i h h' st k1 k2 => ⟨st.1.at k1, st.2.at k2⟩, fun A i s Q E hi st q => wpAny_nextOf_list_item st.1 st.2 (x := vs[i]) (by simp [hi]) fun h' t sb => q _ h' (by simp [hi]) ⟨t, st.2.extBut sb.extBut hne⟩ sb,
    fun A hh i s Q E hi st q => wpAny_nextOf_list_end hh st.1 st.2 (by simp [hi]) q⟩
section
variable {prog : Program} {w : World} {A : Around} {E : Value → Shared → Prop} {s : Shared} {z TI TO i1 i2 l1 l2 : Addr} {n1 n2 i : Nat} {p1 p2 : Nat → Value → Prop} {St1 St2 : Nat → Heap → Prop} {a b : Value}
/-- an iterator's state stands when another thing is written -/
theorem Src.by {it l c : Addr} {n : Nat} {p : Nat → Value → Prop} {St : Nat → Heap → Prop} (S : Src prog w it l n p St) {j : Nat} {h h' : Heap} (st : St j h) (sb : Heap.SameBut c h h') (d1 : it ≠ c) (d2 : l ≠ c) : St j h' :=
  S.fr j h h' st (fun o q => sb.extBut _ _ d1 q) fun o q => sb.extBut _ _ d2 q
theorem zip_more {Q : Value → Shared → Prop} (D : ZipApart z TI TO i1 i2 l1 l2) (S1 : Src prog w i1 l1 n1 p1 St1) (S2 : Src prog w i2 l2 n2 p2 St2)
    (hz : IsZip s.heap z TI TO .none) (hI : IsPair s.heap TI (.ref i1) (.ref i2)) (hO : IsPair s.heap TO a b) (t1 : St1 i s.heap) (t2 : St2 i s.heap) (k1 : i < n1) (k2 : i < n2)
    (hQ : ∀ x y h', p1 i x → p2 i y → IsZip h' z TI TO (rawInt s.heap.objs.size) → IsPair h' TO x y → St1 (i + 1) h' → St2 (i + 1) h' → IsPair h' s.heap.objs.size x y → h'.objs.size = s.heap.objs.size + 1 →
      (∀ c o, c ≠ z → c ≠ TO → c ≠ i1 → c ≠ i2 → s.heap.get? c = some o → h'.get? c = some o) → Q (.ref s.heap.objs.size) { s with heap := h' }) :
    wpAny (model prog w) A (Builtin.«zip.__next__» ⟨[.ref z], []⟩) (fun fin s' => ∃ v, fin = .done (.ret v) ∧ Q v s') E s := by
  show wpAny _ _ (field (.ref z) 2 >>= _) _ _ _; refine wpAny_bind (wpAny_field hz rfl (x := .bool false) rfl ?_)
  show wpAny _ _ (field (.ref z) 3 >>= _) _ _ _; refine wpAny_bind (wpAny_field hz rfl (x := .ref TI) rfl ?_)
  refine wpAny_bind (wpAny_seqItems hI rfl ?_); show wpAny _ _ (Builtin.SmallTypes.ownedTupleIsFree (.ref z) >>= _) _ _ _
  refine wpAny_bind ?_; unfold Builtin.SmallTypes.ownedTupleIsFree
  refine wpAny_bind (wpAny_field hz rfl (x := .none) rfl (wpAny_pure ?_)); rw [if_pos (by rfl)]
  refine wpAny_bind (wpAny_rule ?_); refine wpAny_bind (wpAny_field hz rfl (x := .ref TO) rfl ?_)
  refine wpAny_bind (wpAny_setField_rec hz (by simp) fun hA zA sA => ?_); replace zA : IsZip hA z TI TO .ellipsis := zA
  refine wpAny_bind ?_; simp only [List.zipIdx_cons, List.zipIdx_nil, List.forIn_cons, List.forIn_nil]
  refine wpAny_bind (wpAny_bind (wpAny_onRaise ?_)); show wpAny _ _ (Builtin.SmallTypes.nextOf (.ref i1) >>= _) _ _ _
  refine wpAny_bind (S1.one _ i _ _ _ k1 (S1.by t1 sA D.i1z D.l1z) fun x hB px uB sB => wpAny_pure ?_)
  have oB : IsPair hB TO a b := sB.extBut _ _ D.TOi1 (sA.extBut _ _ D.TOz hO)
  refine wpAny_bind (wpAny_seqItems oB rfl ?_); refine wpAny_bind (wpAny_updateSeq_pair oB fun hC oC sC => ?_)
  replace oC : IsPair hC TO x b := oC; refine wpAny_bind (wpAny_letGo (wpAny_pure ?_))
  refine wpAny_bind (wpAny_bind (wpAny_onRaise ?_)); show wpAny _ _ (Builtin.SmallTypes.nextOf (.ref i2) >>= _) _ _ _
  refine wpAny_bind (S2.one _ i _ _ _ k2 (S2.by (S2.by (S2.by t2 sA D.i2z D.l2z) sB D.i12.symm D.l2i1) sC D.TOi2.symm D.l2TO) fun y hD py uD sD => wpAny_pure ?_)
  have oD : IsPair hD TO x b := sD.extBut _ _ D.TOi2 oC
  refine wpAny_bind (wpAny_seqItems oD rfl ?_); refine wpAny_bind (wpAny_updateSeq_pair oD fun hE oE sE => ?_)
  replace oE : IsPair hE TO x y := oE; refine wpAny_bind (wpAny_letGo (wpAny_pure (wpAny_pure ?_)))
  refine wpAny_bind (wpAny_seqItems oE rfl ?_); refine wpAny_bind (wpAny_newTuple ?_)
  have size : hE.objs.size = s.heap.objs.size := by rw [sE.1, sD.1, sC.1, sB.1, sA.1]
  have zE : IsZip hE z TI TO .ellipsis := sE.extBut _ _ D.TOz.symm (sD.extBut _ _ D.i2z.symm (sC.extBut _ _ D.TOz.symm (sB.extBut _ _ D.i1z.symm zA)))
  have keep : ∀ c o, c ≠ z → c ≠ TO → c ≠ i1 → c ≠ i2 → s.heap.get? c = some o → hE.get? c = some o := fun c o c1 c2 c3 c4 q => sE.extBut _ _ c2 (sD.extBut _ _ c4 (sC.extBut _ _ c2 (sB.extBut _ _ c3 (sA.extBut _ _ c1 q))))
  have u1 : St1 (i + 1) hE := S1.by (S1.by (S1.by uB sC D.TOi1.symm D.l1TO) sD D.i12 D.l1i2) sE D.TOi1.symm D.l1TO
  have u2 : St2 (i + 1) hE := S2.by uD sE D.TOi2.symm D.l2TO
  have below : z < hE.objs.size := Heap.lt_size zE
  show wpAny _ _ (Builtin.SmallTypes.ownedTupleHandOut (.ref z) (.ref hE.objs.size) >>= _) _ _ _; refine wpAny_bind ?_
  unfold Builtin.SmallTypes.ownedTupleHandOut; have zF : IsZip (hE.push { cls := .type "tuple", data := .seq #[x, y] }) z TI TO .ellipsis := Heap.get?_push_of_some _ zE
  refine wpAny_bind (wpAny_setField_rec zF (by simp) fun hG zG sG => ?_); replace zG : IsZip hG z TI TO (rawInt hE.objs.size) := zG
  refine wpAny_setField_rec zG (by simp) fun hH zH sH => ?_; replace zH : IsZip hH z TI TO (rawInt hE.objs.size) := zH
  have rise : ∀ c o, c ≠ z → hE.get? c = some o → hH.get? c = some o := fun c o c1 q => sH.extBut _ _ c1 (sG.extBut _ _ c1 (Heap.get?_push_of_some _ q))
  have tH : IsPair hH hE.objs.size x y := sH.extBut _ _ (Nat.ne_of_gt below) (sG.extBut _ _ (Nat.ne_of_gt below) (Heap.get?_push_size _ rfl))
  have size2 : hH.objs.size = hE.objs.size + 1 := by rw [sH.1, sG.1, Heap.size_push]
  rw [size] at zH tH size2; refine wpAny_pure ⟨_, rfl, ?_⟩; show Q (.ref hE.objs.size) _; rw [size]
  exact hQ x y hH px py zH (rise _ _ D.TOz oE) (S1.fr _ _ _ u1 (fun o q => rise _ o D.i1z q) fun o q => rise _ o D.l1z q) (S2.fr _ _ _ u2 (fun o q => rise _ o D.i2z q) fun o q => rise _ o D.l2z q) tH size2 fun c o c1 c2 c3 c4 q => rise c o c1 (keep c o c1 c2 c3 c4 q)
theorem zip_over {Q : Fin → Shared → Prop} (hh : A.handled = none) (D : ZipApart z TI TO i1 i2 l1 l2) (S1 : Src prog w i1 l1 n1 p1 St1) (S2 : Src prog w i2 l2 n2 p2 St2)
    (hz : IsZip s.heap z TI TO .none) (hI : IsPair s.heap TI (.ref i1) (.ref i2)) (hO : IsPair s.heap TO a b) (t1 : St1 i s.heap) (t2 : St2 i s.heap) (k : n1 ≤ i ∨ n2 ≤ i)
    (hE : ∀ h' e, (∀ c o, c ≠ z → c ≠ TO → c ≠ i1 → c ≠ i2 → s.heap.get? c = some o → h'.get? c = some o) → (∃ o, h'.get? e = some o ∧ o.cls = .type "StopIteration") → E (.ref e) { s with heap := h' }) :
    wpAny (model prog w) A (Builtin.«zip.__next__» ⟨[.ref z], []⟩) Q E s := by
  show wpAny _ _ (field (.ref z) 2 >>= _) _ _ _; refine wpAny_bind (wpAny_field hz rfl (x := .bool false) rfl ?_)
  show wpAny _ _ (field (.ref z) 3 >>= _) _ _ _; refine wpAny_bind (wpAny_field hz rfl (x := .ref TI) rfl ?_)
  refine wpAny_bind (wpAny_seqItems hI rfl ?_); show wpAny _ _ (Builtin.SmallTypes.ownedTupleIsFree (.ref z) >>= _) _ _ _
  refine wpAny_bind ?_; unfold Builtin.SmallTypes.ownedTupleIsFree
  refine wpAny_bind (wpAny_field hz rfl (x := .none) rfl (wpAny_pure ?_)); rw [if_pos (by rfl)]
  refine wpAny_bind (wpAny_rule ?_); refine wpAny_bind (wpAny_field hz rfl (x := .ref TO) rfl ?_)
  refine wpAny_bind (wpAny_setField_rec hz (by simp) fun hA zA sA => ?_); replace zA : IsZip hA z TI TO .ellipsis := zA
  refine wpAny_bind ?_; simp only [List.zipIdx_cons, List.zipIdx_nil, List.forIn_cons, List.forIn_nil]
  refine wpAny_bind (wpAny_bind (wpAny_onRaise ?_)); show wpAny _ _ (Builtin.SmallTypes.nextOf (.ref i1) >>= _) _ _ _
  by_cases k1 : n1 ≤ i
  · refine wpAny_bind (S1.no _ hh i _ _ _ k1 (S1.by t1 sA D.i1z D.l1z) fun hB e sB st => ?_)
    obtain ⟨oe, ge, ce⟩ := st
    have zB : IsZip hB z TI TO .ellipsis := sB _ _ D.i1z.symm zA
    have ne : e ≠ z := fun q => by subst q; rw [zB] at ge; cases ge; simp at ce
    exact wpAny_setField_rec zB (by simp) fun hC _ sC => hE hC e (fun c o c1 _ c3 _ q => sC.extBut _ _ c1 (sB _ _ c3 (sA.extBut _ _ c1 q))) ⟨oe, sC.extBut _ _ ne ge, ce⟩
  · have k2 : n2 ≤ i := by rcases k with k | k <;> omega
    refine wpAny_bind (S1.one _ i _ _ _ (by omega) (S1.by t1 sA D.i1z D.l1z) fun x hB px uB sB => wpAny_pure ?_)
    have oB : IsPair hB TO a b := sB.extBut _ _ D.TOi1 (sA.extBut _ _ D.TOz hO)
    refine wpAny_bind (wpAny_seqItems oB rfl ?_); refine wpAny_bind (wpAny_updateSeq_pair oB fun hC oC sC => ?_)
    refine wpAny_bind (wpAny_letGo (wpAny_pure ?_)); refine wpAny_bind (wpAny_bind (wpAny_onRaise ?_))
    show wpAny _ _ (Builtin.SmallTypes.nextOf (.ref i2) >>= _) _ _ _
    refine wpAny_bind (S2.no _ hh i _ _ _ k2 (S2.by (S2.by (S2.by t2 sA D.i2z D.l2z) sB D.i12.symm D.l2i1) sC D.TOi2.symm D.l2TO) fun hD e sD st => ?_)
    obtain ⟨oe, ge, ce⟩ := st
    have zD : IsZip hD z TI TO .ellipsis := sD _ _ D.i2z.symm (sC.extBut _ _ D.TOz.symm (sB.extBut _ _ D.i1z.symm zA))
    have ne : e ≠ z := fun q => by subst q; rw [zD] at ge; cases ge; simp at ce
    exact wpAny_setField_rec zD (by simp) fun hF _ sF => hE hF e (fun c o c1 c2 c3 c4 q => sF.extBut _ _ c1 (sD _ _ c4 (sC.extBut _ _ c2 (sB.extBut _ _ c3 (sA.extBut _ _ c1 q))))) ⟨oe, sF.extBut _ _ ne ge, ce⟩
theorem next_more {Q : Option Value → Shared → Prop} (D : ZipApart z TI TO i1 i2 l1 l2) (S1 : Src prog w i1 l1 n1 p1 St1) (S2 : Src prog w i2 l2 n2 p2 St2)
    (hz : IsZip s.heap z TI TO .none) (hI : IsPair s.heap TI (.ref i1) (.ref i2)) (hO : IsPair s.heap TO a b) (t1 : St1 i s.heap) (t2 : St2 i s.heap) (k1 : i < n1) (k2 : i < n2)
    (hQ : ∀ x y h', p1 i x → p2 i y → IsZip h' z TI TO (rawInt s.heap.objs.size) → IsPair h' TO x y → St1 (i + 1) h' → St2 (i + 1) h' → IsPair h' s.heap.objs.size x y → h'.objs.size = s.heap.objs.size + 1 →
      (∀ c o, c ≠ z → c ≠ TO → c ≠ i1 → c ≠ i2 → s.heap.get? c = some o → h'.get? c = some o) → Q (some (.ref s.heap.objs.size)) { s with heap := h' }) : wpAny (model prog w) A (pyNext (.ref z)) Q E s := by
  have ty : s.TypeIs (.ref z) "zip" := ⟨_, hz, rfl⟩
  unfold pyNext
  refine wpAny_bind (wpAny_attempt (wpAny_callSpecial?_slot (name := Str.ofString "__next__") ty F.slot_zip_next (wpAny_call_entry F.slot_zip_next ty F.entry_zip_next ?_ (F.args_zip_next_1 _))))
  exact zip_more D S1 S2 hz hI hO t1 t2 k1 k2 fun x y h' a1 a2 a3 a4 a5 a6 a7 a8 a9 => wpAny_pure (hQ x y h' a1 a2 a3 a4 a5 a6 a7 a8 a9)
theorem next_over {Q : Option Value → Shared → Prop} (hh : A.handled = none) (D : ZipApart z TI TO i1 i2 l1 l2) (S1 : Src prog w i1 l1 n1 p1 St1) (S2 : Src prog w i2 l2 n2 p2 St2)
    (hz : IsZip s.heap z TI TO .none) (hI : IsPair s.heap TI (.ref i1) (.ref i2)) (hO : IsPair s.heap TO a b) (t1 : St1 i s.heap) (t2 : St2 i s.heap) (k : n1 ≤ i ∨ n2 ≤ i)
    (hQ : ∀ h', (∀ c o, c ≠ z → c ≠ TO → c ≠ i1 → c ≠ i2 → s.heap.get? c = some o → h'.get? c = some o) → Q none { s with heap := h' }) : wpAny (model prog w) A (pyNext (.ref z)) Q E s := by
  have ty : s.TypeIs (.ref z) "zip" := ⟨_, hz, rfl⟩
  unfold pyNext
  refine wpAny_bind (wpAny_attempt (wpAny_callSpecial?_slot (name := Str.ofString "__next__") ty F.slot_zip_next (wpAny_call_entry F.slot_zip_next ty F.entry_zip_next ?_ (F.args_zip_next_1 _))))
  refine zip_over hh D S1 S2 hz hI hO t1 t2 k fun h' e keep st => ?_
  obtain ⟨o, ge, ce⟩ := st
  exact wpAny_bind (wpAny_isInstance (T := "StopIteration") (b := true) ⟨o, ge, ce⟩ isSubtype_stop (wpAny_pure (hQ _ keep)))
end
/-- a tuple at a and a list at b, as they stand at each turn -/
def ItTL (K : PySem.W.Frag) (a b : Addr) : It :=
  ⟨fun i H => ∃ xs ys : List V, SqT K H a xs ∧ SqL K H b ys ∧ i < xs.length ∧ i < ys.length,
    fun i H v H' => ∃ T x y, v = .ref T ∧ H T = none ∧ H' = upd H T (.tup [x, y]) ∧ (∀ xs, SqT K H a xs → xs[i]? = some x) ∧ ∀ ys, SqL K H b ys → ys[i]? = some y,
    fun i H => ∃ xs ys : List V, SqT K H a xs ∧ SqL K H b ys ∧ (xs.length ≤ i ∨ ys.length ≤ i)⟩
theorem turn_TL {P : Program} {w : World} {K : PySem.W.Frag} {elts : List Expr} {kk : Nat} {tpos : Pos} {a b z TI TO i1 i2 : Addr} (D : ZipApart z TI TO i1 i2 a b) :
    Turn P w K (.Tuple elts kk tpos) (ItTL K a b) [z, TI, TO, i1, i2] z (fun i h => IsZip h z TI TO .none ∧ IsPair h TI (.ref i1) (.ref i2) ∧ (∃ x y, IsPair h TO x y) ∧ h.IsTupleIter i1 a i ∧ h.IsListIter i2 b i) where
  mem := .head _
  obj := fun i h st c hc => by
    obtain ⟨g0, g1, ⟨_, _, g2⟩, ⟨o3, g3, _, d3⟩, ⟨o4, g4, _, d4⟩⟩ := st
    simp only [List.mem_cons, List.not_mem_nil, or_false] at hc
    rcases hc with rfl | rfl | rfl | rfl | rfl
    · exact ⟨_, g0, fun _ q => nomatch q⟩
    · exact ⟨_, g1, fun _ q => nomatch q⟩
    · exact ⟨_, g2, fun _ q => nomatch q⟩
    · exact ⟨o3, g3, fun _ q => nomatch d3.symm.trans q⟩
    · exact ⟨o4, g4, fun _ q => nomatch d4.symm.trans q⟩
  keep := fun i h h' ⟨g0, g1, ⟨x, y, g2⟩, g3, g4⟩ k => ⟨k z (by simp) _ g0, k TI (by simp) _ g1, ⟨x, y, k TO (by simp) _ g2⟩, g3.at fun o q => k i1 (by simp) o q, g4.at fun o q => k i2 (by simp) o q⟩
  item := by
    intro X hP hw hK hc i pins s σ H E I hf ⟨g0, g1, ⟨x0, y0, g2⟩, g3, g4⟩ ⟨xs, ys, qx, qy, lx, ly⟩
    subst hP hw hK
    obtain ⟨vs, rv, p, _⟩ := I.tuple qx
    obtain ⟨us, ru, p', _⟩ := I.list qy
    have low : z < s.heap.objs.size := Heap.lt_size g0
    have l1 := rv.length
    have l2 := ru.length
    refine next_more D (Src.tup i1 a D.l1i1 vs.toArray) (Src.lst i2 b D.l2i2 us.toArray) g0 g1 g2 ⟨g3, p⟩ ⟨g4, p'.isList⟩ (by simp; omega) (by simp; omega) fun x y h' ex ey z' o' ⟨t1, _⟩ ⟨t2, _⟩ hT _ hk => ?_
    refine ⟨_, rfl, wpAny_letOwnedTupleGo_zip (s := { s with heap := h' }) z' fun h2 z2 sb => ?_⟩
    have hT2 : h2.get? s.heap.objs.size = some { cls := .type "tuple", data := .seq #[x, y] } := (sb.2 _ (Nat.ne_of_gt low)).trans hT
    obtain ⟨v, hv, r1⟩ : ∃ v, xs[i]? = some v ∧ RelV v x := by
      obtain ⟨u, hu, r⟩ := rv.get (List.getElem?_eq_getElem lx)
      have ex : vs[i]? = some x := by simpa using ex
      rw [hu] at ex
      cases ex
      exact ⟨_, List.getElem?_eq_getElem lx, r⟩
    obtain ⟨v', hv', r2⟩ : ∃ v, ys[i]? = some v ∧ RelV v y := by
      obtain ⟨u, hu, r⟩ := ru.get (List.getElem?_eq_getElem ly)
      have ey : us[i]? = some y := by simpa using ey
      rw [hu] at ey
      cases ey
      exact ⟨_, List.getElem?_eq_getElem ly, r⟩
    have new : ObjOk X.prog X.w (upd H s.heap.objs.size (.tup [v, v'])) h2 s.heap.objs.size (.tup [v, v']) := ⟨by show 2 ≤ sizeLine; decide, [x, y], .cons r1 (.cons r2 .nil), ⟨_, hT2, rfl, _, rfl⟩⟩
    have out : ∀ c, c ∉ [z, TI, TO, i1, i2] → c ≠ z ∧ c ≠ TO ∧ c ≠ i1 ∧ c ≠ i2 := fun c hc => ⟨fun q => hc (by simp [q]), fun q => hc (by simp [q]), fun q => hc (by simp [q]), fun q => hc (by simp [q])⟩
    have I1 : Inv X pins σ (upd H s.heap.objs.size (.tup [v, v'])) { s with heap := h2 } :=
      I.turnedNew (t' := s.toks) (ch := [z, TI, TO, i1, i2]) (fun c o hb q => (sb.2 c (out c hb).1).trans (hk c o (out c hb).1 (out c hb).2.1 (out c hb).2.2.1 (out c hb).2.2.2 q)) hf (Nat.le_refl _) new
    refine ⟨.ref s.heap.objs.size, _, I1, rfl, ⟨_, v, v', rfl, I.hok.fresh (Nat.le_refl _), rfl, fun l hl => by rw [I.tuple_inj hl qx]; exact hv, fun l hl => by rw [I.list_inj hl qy]; exact hv'⟩,
      ⟨z2, (sb.2 _ D.TIz).trans (hk _ _ D.TIz D.TITO D.TIi1 D.TIi2 g1), ⟨x, y, (sb.2 _ D.TOz).trans o'⟩, t1.at fun o q => (sb.2 _ D.i1z).trans q, t2.at fun o q => (sb.2 _ D.i2z).trans q⟩, fun c hcm => ?_⟩
    have lt : c < s.heap.objs.size := by
      simp only [List.mem_cons, List.not_mem_nil, or_false] at hcm
      rcases hcm with rfl | rfl | rfl | rfl | rfl
      · exact low
      · exact Heap.lt_size g1
      · exact Heap.lt_size g2
      · exact Heap.lt_size g3.choose_spec.1
      · exact Heap.lt_size g4.choose_spec.1
    rw [upd_ne (Nat.ne_of_lt lt)]
    exact (hf c hcm).1
  done := by
    intro X hP hw hK hc i pins s σ H E I hf ⟨g0, g1, ⟨x0, y0, g2⟩, g3, g4⟩ ⟨xs, ys, qx, qy, hend⟩
    subst hP hw hK
    obtain ⟨vs, rv, p, _⟩ := I.tuple qx
    obtain ⟨us, ru, p', _⟩ := I.list qy
    have l1 := rv.length
    have l2 := ru.length
    refine next_over (I.ok.hd hc) D (Src.tup i1 a D.l1i1 vs.toArray) (Src.lst i2 b D.l2i2 us.toArray) g0 g1 g2 ⟨g3, p⟩ ⟨g4, p'.isList⟩ (by simp; omega) fun h' hk => ⟨rfl, ?_⟩
    exact I.turnedL (t' := s.toks) (ch := [z, TI, TO, i1, i2]) (fun c o hb q => hk c o (fun q' => hb (by simp [q'])) (fun q' => hb (by simp [q'])) (fun q' => hb (by simp [q'])) (fun q' => hb (by simp [q'])) q) hf
  self := fun A i s Q E st h => wpAny_pyIter_zip st.1 h
end DZ

/-! part DZN -/
set_option Elab.async false
set_option linter.all false
set_option maxRecDepth 100000
set_option maxHeartbeats 1000000
set_option autoImplicit false
/-! zip over any number of tuples: one step -/
namespace DZ
open PySem PySem.Spec PyProof.Rows L2 RZ
theorem forIn_walk {M : Model} {A : Around} {E : Value → Shared → Prop} {β : Type} (f : Value × Nat → β → Sem (ForInStep β)) (I : Nat → β → Shared → Prop) : ∀ (l : List Value) (k : Nat) (b : β) (s : Shared) (Q : β → Shared → Prop), I k b s →
    (∀ j x b s, l[j]? = some x → I (k + j) b s → wpAny M A (f (x, k + j) b) (fun r s' => ∃ b', r = .yield b' ∧ I (k + j + 1) b' s') E s) → (∀ b s, I (k + l.length) b s → Q b s) → wpAny M A (forIn (l.zipIdx k) b f) Q E s
  | [], k, b, s, Q, h, _, q => by
    rw [List.zipIdx_nil, List.forIn_nil]
    exact wpAny_pure (q b s h)
  | x :: l, k, b, s, Q, h, st, q => by
    rw [List.zipIdx_cons, List.forIn_cons]
    refine wpAny_bind (wpAny_mono (st 0 x b s rfl h) (fun r s' ⟨b', e, h'⟩ => ?_) fun _ _ e => e)
    subst e
    refine forIn_walk f I l (k + 1) b' s' Q h' (fun j y b2 s2 hj h2 => ?_) fun b2 s2 h2 => q b2 s2 ?_
    · have e : k + 1 + j = k + (j + 1) := by omega
      rw [e] at h2 ⊢
      exact st (j + 1) y b2 s2 hj h2
    · rw [List.length_cons, show k + (l.length + 1) = k + 1 + l.length by omega]
      exact h2
/-- a tuple of values, as it is made -/
abbrev IsTupN (h : Heap) (T : Addr) (vs : Array Value) : Prop := h.get? T = some { cls := .type "tuple", data := .seq vs }
/-- a source: its iterator, the tuple, what stands in it -/
abbrev SrcN := Addr × Addr × Array Value
/-- a zip with any marks of its own tuple -/
abbrev IsZG (h : Heap) (z TI TO : Addr) (f0 f1 : Value) : Prop := h.get? z = some { cls := .type "zip", dict := none, data := .fields #[f0, f1, .bool false, .ref TI, .ref TO], slots := #[] }
structure ApartN (z TI TO : Addr) (ss : List SrcN) : Prop where
  zO : TO ≠ z
  zI : TI ≠ z
  OI : TI ≠ TO
  nd : (ss.map (·.1)).Nodup
  iz : ∀ p ∈ ss, p.1 ≠ z ∧ p.1 ≠ TO ∧ TI ≠ p.1
  lz : ∀ p ∈ ss, p.2.1 ≠ z ∧ p.2.1 ≠ TO
  li : ∀ p ∈ ss, ∀ q ∈ ss, p.2.1 ≠ q.1
def StN (p : SrcN) (i : Nat) (h : Heap) : Prop := h.IsTupleIter p.1 p.2.1 i ∧ h.IsTuple p.2.1 p.2.2
section
variable {prog : Program} {w : World} {A : Around} {E : Value → Shared → Prop} {s : Shared} {z TI TO : Addr} {ss : List SrcN} {i : Nat} {old : Array Value} {f0 f1 : Value}
theorem StN.at_ {p : SrcN} {h h' : Heap} {c : Addr} (st : StN p i h) (sb : Heap.SameBut c h h') (d1 : p.1 ≠ c) (d2 : p.2.1 ≠ c) : StN p i h' :=
  ⟨st.1.at fun o q => sb.extBut _ _ d1 q, st.2.extBut sb.extBut d2⟩
theorem updateSeq_N {T : Addr} {vs : Array Value} {x : Value} {k : Nat} {Q : Unit → Shared → Prop} (hT : IsTupN s.heap T vs) (hl : vs.size ≤ sizeLine) (h : ∀ h', IsTupN h' T (vs.setIfInBounds k x) → Heap.SameBut T s.heap h' → Q () { s with heap := h' }) :
    wpAny (model prog w) A (updateSeq T (·.setIfInBounds k x)) Q E s := by
  have hl2 : (vs.setIfInBounds k x).size ≤ sizeLine + 1 := by rw [Array.size_setIfInBounds]; omega
  refine wpAny_updateSeq hT rfl (h _ ?_ (Heap.SameBut.update ..)) hl hl2
  show (Heap.update _ T _).get? T = _
  rw [Heap.get?_update_self _ hT rfl]
  simp [Obj.mapSeq]
/-- after k of the sources were asked -/
structure Mid (z TI TO : Addr) (f1 : Value) (ss : List SrcN) (i k : Nat) (h0 h : Heap) : Prop where
  zp : IsZG h z TI TO .ellipsis f1
  own : ∃ ys, IsTupN h TO ys ∧ ys.size = ss.length ∧ ∀ j p, ss[j]? = some p → j < k → ys[j]? = p.2.2[i]?
  st1 : ∀ (j : Nat) (p : SrcN), ss[j]? = some p → j < k → StN p (i + 1) h
  st2 : ∀ (j : Nat) (p : SrcN), ss[j]? = some p → k ≤ j → StN p i h
  keep : ∀ c o, c ≠ z → c ≠ TO → (∀ p ∈ ss, c ≠ p.1) → h0.get? c = some o → h.get? c = some o
  size : h.objs.size = h0.objs.size
theorem zipN_more {Q : Value → Shared → Prop} (D : ApartN z TI TO ss) (hz : IsZG s.heap z TI TO f0 f1) (hfr : ∀ (A : Around) (E : Value → Shared → Prop) (R : Bool → Shared → Prop), R true s → wpAny (model prog w) A (Builtin.SmallTypes.ownedTupleIsFree (.ref z)) R E s) (hI : IsTupN s.heap TI (ss.map fun p => Value.ref p.1).toArray) (hO : IsTupN s.heap TO old) (ho : old.size = ss.length) (hne : ss ≠ []) (hl : ss.length ≤ sizeLine)
    (st : ∀ p ∈ ss, StN p i s.heap) (hi : ∀ p ∈ ss, i < p.2.2.size)
    (hQ : ∀ ys h', ys.size = ss.length → (∀ (j : Nat) (p : SrcN), ss[j]? = some p → ys[j]? = p.2.2[i]?) → IsZip h' z TI TO (rawInt s.heap.objs.size) → IsTupN h' TO ys → (∀ p ∈ ss, StN p (i + 1) h') → IsTupN h' s.heap.objs.size ys → h'.objs.size = s.heap.objs.size + 1 →
      (∀ c o, c ≠ z → c ≠ TO → (∀ p ∈ ss, c ≠ p.1) → s.heap.get? c = some o → h'.get? c = some o) → Q (.ref s.heap.objs.size) { s with heap := h' }) :
    wpAny (model prog w) A (Builtin.«zip.__next__» ⟨[.ref z], []⟩) (fun fin s' => ∃ v, fin = .done (.ret v) ∧ Q v s') E s := by
  have ne2 : (ss.map fun p => Value.ref p.1).toArray.isEmpty = false := by cases ss with | nil => exact absurd rfl hne | cons _ _ => rfl
  show wpAny _ _ (field (.ref z) 2 >>= _) _ _ _; refine wpAny_bind (wpAny_field hz rfl (x := .bool false) rfl ?_)
  show wpAny _ _ (field (.ref z) 3 >>= _) _ _ _; refine wpAny_bind (wpAny_field hz rfl (x := .ref TI) rfl ?_)
  refine wpAny_bind (wpAny_seqItems hI rfl ?_)
  dsimp only
  rw [if_neg (by rw [ne2]; decide)]
  show wpAny _ _ (Builtin.SmallTypes.ownedTupleIsFree (.ref z) >>= _) _ _ _
  refine wpAny_bind (hfr _ _ _ ?_); rw [if_pos (by rfl)]
  refine wpAny_bind (wpAny_rule ?_); refine wpAny_bind (wpAny_field hz rfl (x := .ref TO) rfl ?_)
  refine wpAny_bind (wpAny_setField_rec hz (by simp) fun hA zA sA => ?_); replace zA : IsZG hA z TI TO .ellipsis f1 := zA
  have m0 : Mid z TI TO f1 ss i 0 s.heap hA := ⟨zA, ⟨old, sA.extBut _ _ D.zO hO, ho, fun _ _ _ h => absurd h (Nat.not_lt_zero _)⟩, fun _ _ _ h => absurd h (Nat.not_lt_zero _),
    fun j p hj _ => (st p (List.mem_of_getElem? hj)).at_ sA (D.iz p (List.mem_of_getElem? hj)).1 (D.lz p (List.mem_of_getElem? hj)).1, fun c o c1 _ _ q => sA.extBut _ _ c1 q, sA.1⟩
  refine wpAny_bind (forIn_walk _ (fun k b s' => b = (none, ()) ∧ ∃ h', s' = { s with heap := h' } ∧ Mid z TI TO f1 ss i k s.heap h') _ 0 _ _ _ ⟨rfl, hA, rfl, m0⟩ ?_ ?_)
  · rintro j x _ _ hj ⟨rfl, h1, rfl, m⟩
    rw [Nat.zero_add] at m ⊢
    rw [List.getElem?_map] at hj
    cases hp : ss[j]? with
    | none => rw [hp] at hj; cases hj
    | some p =>
    rw [hp] at hj
    cases hj
    have pm := List.mem_of_getElem? hp
    obtain ⟨ys, oy, sy, ey⟩ := m.own
    refine wpAny_bind (wpAny_onRaise ?_); show wpAny _ _ (Builtin.SmallTypes.nextOf (.ref p.1) >>= _) _ _ _
    refine wpAny_bind ((Src.tup p.1 p.2.1 (D.li p pm p pm) p.2.2).one _ i _ _ _ (hi p pm) (m.st2 j p hp (Nat.le_refl _)) fun y hB py uB sB => wpAny_pure ?_)
    have oB : IsTupN hB TO ys := sB.extBut _ _ (D.iz p pm).2.1.symm oy
    refine wpAny_bind (wpAny_seqItems oB rfl ?_); refine wpAny_bind (updateSeq_N oB (by omega) fun hC oC sC => ?_)
    refine wpAny_bind (wpAny_letGo (wpAny_pure ⟨_, rfl, rfl, hC, rfl, ?_⟩))
    have lt := (List.getElem?_eq_some_iff.mp hp).1
    have other : ∀ (k : Nat) (q : SrcN), ss[k]? = some q → k ≠ j → q.1 ≠ p.1 := fun k q hq hk e => by
      have l1 := (List.getElem?_eq_some_iff.mp hq).1
      refine hk ((List.getElem?_inj (l := ss.map (·.1)) (by rw [List.length_map]; exact l1) D.nd).mp ?_)
      rw [List.getElem?_map, List.getElem?_map, hq, hp]
      exact congrArg some e
    refine ⟨sC.extBut _ _ D.zO.symm (sB.extBut _ _ (D.iz p pm).1.symm m.zp), ⟨_, oC, by rw [Array.size_setIfInBounds]; exact sy, fun k q hq hk => ?_⟩, fun k q hq hk => ?_, fun k q hq hk => ?_, fun c o c1 c2 c3 g => sC.extBut _ _ c2 (sB.extBut _ _ (c3 p pm) (m.keep c o c1 c2 c3 g)), by rw [sC.1, sB.1]; exact m.size⟩
    · rw [Array.getElem?_setIfInBounds]
      by_cases e : j = k
      · subst e
        rw [hp] at hq
        cases hq
        rw [if_pos rfl, if_pos (by omega)]
        exact py.symm
      · rw [if_neg e]
        exact ey k q hq (by omega)
    · have qm := List.mem_of_getElem? hq
      by_cases e : k = j
      · subst e
        rw [hp] at hq
        cases hq
        exact StN.at_ uB sC (D.iz p pm).2.1 (D.lz p pm).2
      · exact ((m.st1 k q hq (by omega)).at_ sB (other k q hq e) (D.li q qm p pm)).at_ sC (D.iz q qm).2.1 (D.lz q qm).2
    · have qm := List.mem_of_getElem? hq
      exact ((m.st2 k q hq (by omega)).at_ sB (other k q hq (by omega)) (D.li q qm p pm)).at_ sC (D.iz q qm).2.1 (D.lz q qm).2
  · rintro _ _ ⟨rfl, hE, rfl, m⟩
    rw [Nat.zero_add, List.length_map] at m
    obtain ⟨ys, oE, sy, ey⟩ := m.own
    show wpAny _ _ (seqItems? (.ref TO) >>= _) _ _ _
    refine wpAny_bind (wpAny_seqItems oE rfl ?_); refine wpAny_bind (wpAny_newTuple ?_ (by rw [Array.length_toList]; omega))
    have zE := m.zp
    have below : z < hE.objs.size := Heap.lt_size zE
    have size := m.size
    show wpAny _ _ (Builtin.SmallTypes.ownedTupleHandOut (.ref z) (.ref hE.objs.size) >>= _) _ _ _; refine wpAny_bind ?_
    unfold Builtin.SmallTypes.ownedTupleHandOut; have zF : IsZG (hE.push { cls := .type "tuple", data := .seq ys.toList.toArray }) z TI TO .ellipsis f1 := Heap.get?_push_of_some _ zE
    refine wpAny_bind (wpAny_setField_rec zF (by simp) fun hG zG sG => ?_); replace zG : IsZG hG z TI TO (rawInt hE.objs.size) f1 := zG
    refine wpAny_setField_rec zG (by simp) fun hH zH sH => ?_; replace zH : IsZip hH z TI TO (rawInt hE.objs.size) := zH
    have rise : ∀ c o, c ≠ z → hE.get? c = some o → hH.get? c = some o := fun c o c1 q => sH.extBut _ _ c1 (sG.extBut _ _ c1 (Heap.get?_push_of_some _ q))
    have tH : IsTupN hH hE.objs.size ys := sH.extBut _ _ (Nat.ne_of_gt below) (sG.extBut _ _ (Nat.ne_of_gt below) (Heap.get?_push_size _ rfl))
    have size2 : hH.objs.size = hE.objs.size + 1 := by rw [sH.1, sG.1, Heap.size_push]
    rw [size] at zH tH size2; refine wpAny_pure ⟨_, rfl, ?_⟩; show Q (.ref hE.objs.size) _; rw [size]
    refine hQ ys hH sy (fun k q hq => ey k q hq (List.getElem?_eq_some_iff.mp hq).1) zH (rise _ _ D.zO oE) (fun p pm => ?_) tH size2 fun c o c1 c2 c3 q => rise c o c1 (m.keep c o c1 c2 c3 q)
    obtain ⟨k, hk, rfl⟩ := List.getElem_of_mem pm
    have st := m.st1 k _ (List.getElem?_eq_getElem hk) hk
    exact ⟨st.1.at fun o q => rise _ o (D.iz _ pm).1 q, st.2.at fun o q => rise _ o (D.lz _ pm).1 q⟩
theorem zipN_over {p : SrcN} {rs : List SrcN} {Q : Fin → Shared → Prop} (hh : A.handled = none) (D : ApartN z TI TO (p :: rs)) (hz : IsZG s.heap z TI TO f0 f1) (hfr : ∀ (A : Around) (E : Value → Shared → Prop) (R : Bool → Shared → Prop), R true s → wpAny (model prog w) A (Builtin.SmallTypes.ownedTupleIsFree (.ref z)) R E s) (hI : IsTupN s.heap TI ((p :: rs).map fun p => Value.ref p.1).toArray) (hO : IsTupN s.heap TO old)
    (st : StN p i s.heap) (hi : p.2.2.size ≤ i)
    (hE : ∀ h' e, (∀ c o, c ≠ z → c ≠ TO → c ≠ p.1 → s.heap.get? c = some o → h'.get? c = some o) → (∃ o, h'.get? e = some o ∧ o.cls = .type "StopIteration") → E (.ref e) { s with heap := h' }) :
    wpAny (model prog w) A (Builtin.«zip.__next__» ⟨[.ref z], []⟩) Q E s := by
  have pm : p ∈ p :: rs := List.mem_cons_self ..
  show wpAny _ _ (field (.ref z) 2 >>= _) _ _ _; refine wpAny_bind (wpAny_field hz rfl (x := .bool false) rfl ?_)
  show wpAny _ _ (field (.ref z) 3 >>= _) _ _ _; refine wpAny_bind (wpAny_field hz rfl (x := .ref TI) rfl ?_)
  refine wpAny_bind (wpAny_seqItems hI rfl ?_)
  dsimp only
  rw [if_neg (by simp)]
  show wpAny _ _ (Builtin.SmallTypes.ownedTupleIsFree (.ref z) >>= _) _ _ _
  refine wpAny_bind (hfr _ _ _ ?_); rw [if_pos (by rfl)]
  refine wpAny_bind (wpAny_rule ?_); refine wpAny_bind (wpAny_field hz rfl (x := .ref TO) rfl ?_)
  refine wpAny_bind (wpAny_setField_rec hz (by simp) fun hA zA sA => ?_); replace zA : IsZG hA z TI TO .ellipsis f1 := zA
  refine wpAny_bind ?_; simp only [List.map_cons, List.zipIdx_cons, List.forIn_cons]
  refine wpAny_bind (wpAny_bind (wpAny_onRaise ?_)); show wpAny _ _ (Builtin.SmallTypes.nextOf (.ref p.1) >>= _) _ _ _
  refine wpAny_bind ((Src.tup p.1 p.2.1 (D.li p pm p pm) p.2.2).no _ hh i _ _ _ hi (st.at_ sA (D.iz p pm).1 (D.lz p pm).1) fun hB e sB se => ?_)
  obtain ⟨oe, ge, ce⟩ := se
  have zB : IsZG hB z TI TO .ellipsis f1 := sB _ _ (D.iz p pm).1.symm zA
  have ne : e ≠ z := fun q => by subst q; rw [zB] at ge; cases ge; simp at ce
  exact wpAny_setField_rec zB (by simp) fun hC _ sC => hE hC e (fun c o c1 _ c3 q => sC.extBut _ _ c1 (sB _ _ c3 (sA.extBut _ _ c1 q))) ⟨oe, sC.extBut _ _ ne ge, ce⟩
theorem nextN_more {Q : Option Value → Shared → Prop} (D : ApartN z TI TO ss) (hz : IsZG s.heap z TI TO f0 f1) (hfr : ∀ (A : Around) (E : Value → Shared → Prop) (R : Bool → Shared → Prop), R true s → wpAny (model prog w) A (Builtin.SmallTypes.ownedTupleIsFree (.ref z)) R E s) (hI : IsTupN s.heap TI (ss.map fun p => Value.ref p.1).toArray) (hO : IsTupN s.heap TO old) (ho : old.size = ss.length) (hne : ss ≠ []) (hl : ss.length ≤ sizeLine)
    (st : ∀ p ∈ ss, StN p i s.heap) (hi : ∀ p ∈ ss, i < p.2.2.size)
    (hQ : ∀ ys h', ys.size = ss.length → (∀ (j : Nat) (p : SrcN), ss[j]? = some p → ys[j]? = p.2.2[i]?) → IsZip h' z TI TO (rawInt s.heap.objs.size) → IsTupN h' TO ys → (∀ p ∈ ss, StN p (i + 1) h') → IsTupN h' s.heap.objs.size ys → h'.objs.size = s.heap.objs.size + 1 →
      (∀ c o, c ≠ z → c ≠ TO → (∀ p ∈ ss, c ≠ p.1) → s.heap.get? c = some o → h'.get? c = some o) → Q (some (.ref s.heap.objs.size)) { s with heap := h' }) : wpAny (model prog w) A (pyNext (.ref z)) Q E s := by
  have ty : s.TypeIs (.ref z) "zip" := ⟨_, hz, rfl⟩
  unfold pyNext
  refine wpAny_bind (wpAny_attempt (wpAny_callSpecial?_slot (name := Str.ofString "__next__") ty F.slot_zip_next (wpAny_call_entry F.slot_zip_next ty F.entry_zip_next ?_ (F.args_zip_next_1 _))))
  exact zipN_more D hz hfr hI hO ho hne hl st hi fun ys h' a1 a2 a3 a4 a5 a6 a7 a8 => wpAny_pure (hQ ys h' a1 a2 a3 a4 a5 a6 a7 a8)
theorem nextN_over {p : SrcN} {rs : List SrcN} {Q : Option Value → Shared → Prop} (hh : A.handled = none) (D : ApartN z TI TO (p :: rs)) (hz : IsZG s.heap z TI TO f0 f1) (hfr : ∀ (A : Around) (E : Value → Shared → Prop) (R : Bool → Shared → Prop), R true s → wpAny (model prog w) A (Builtin.SmallTypes.ownedTupleIsFree (.ref z)) R E s) (hI : IsTupN s.heap TI ((p :: rs).map fun p => Value.ref p.1).toArray) (hO : IsTupN s.heap TO old)
    (st : StN p i s.heap) (hi : p.2.2.size ≤ i)
    (hQ : ∀ h', (∀ c o, c ≠ z → c ≠ TO → c ≠ p.1 → s.heap.get? c = some o → h'.get? c = some o) → Q none { s with heap := h' }) : wpAny (model prog w) A (pyNext (.ref z)) Q E s := by
  have ty : s.TypeIs (.ref z) "zip" := ⟨_, hz, rfl⟩
  unfold pyNext
  refine wpAny_bind (wpAny_attempt (wpAny_callSpecial?_slot (name := Str.ofString "__next__") ty F.slot_zip_next (wpAny_call_entry F.slot_zip_next ty F.entry_zip_next ?_ (F.args_zip_next_1 _))))
  refine zipN_over hh D hz hfr hI hO st hi fun h' e keep st => ?_
  obtain ⟨o, ge, ce⟩ := st
  exact wpAny_bind (wpAny_isInstance (T := "StopIteration") (b := true) ⟨o, ge, ce⟩ isSubtype_stop (wpAny_pure (hQ _ keep)))
end
end DZ

/-! part DZM -/
set_option Elab.async false
set_option linter.all false
set_option maxRecDepth 100000
set_option maxHeartbeats 1000000
set_option autoImplicit false
/-! zip over any number of tuples: one step while the tuple last given is still held -/
namespace DZ
open PySem PySem.Spec PyProof.Rows L2 RZ PySem.W
theorem forIn_list {M : Model} {A : Around} {E : Value → Shared → Prop} {β : Type} (f : Value → β → Sem (ForInStep β)) (I : Nat → β → Shared → Prop) : ∀ (l : List Value) (k : Nat) (b : β) (s : Shared) (Q : β → Shared → Prop), I k b s →
    (∀ j x b s, l[j]? = some x → I (k + j) b s → wpAny M A (f x b) (fun r s' => ∃ b', r = .yield b' ∧ I (k + j + 1) b' s') E s) → (∀ b s, I (k + l.length) b s → Q b s) → wpAny M A (forIn l b f) Q E s
  | [], k, b, s, Q, h, _, q => by
    rw [List.forIn_nil]
    exact wpAny_pure (q b s h)
  | x :: l, k, b, s, Q, h, st, q => by
    rw [List.forIn_cons]
    refine wpAny_bind (wpAny_mono (st 0 x b s rfl h) (fun r s' ⟨b', e, h'⟩ => ?_) fun _ _ e => e)
    subst e
    refine forIn_list f I l (k + 1) b' s' Q h' (fun j y b2 s2 hj h2 => ?_) fun b2 s2 h2 => q b2 s2 ?_
    · have e : k + 1 + j = k + (j + 1) := by omega
      rw [e] at h2 ⊢
      exact st (j + 1) y b2 s2 hj h2
    · rw [List.length_cons, show k + (l.length + 1) = k + 1 + l.length by omega]
      exact h2
section
variable {prog : Program} {w : World} {A : Around} {E : Value → Shared → Prop} {s : Shared} {z TI TO T : Addr} {ss : List SrcN} {i : Nat} {f : Bool} {oT : Obj}
/-- after k of the sources were asked -/
structure MidH (z TI TO T : Addr) (ss : List SrcN) (i k : Nat) (ys : Array Value) (h0 h : Heap) : Prop where
  zp : IsZipHeld h z TI TO T true
  len : ys.size = k
  own : ∀ (j : Nat) (p : SrcN), ss[j]? = some p → j < k → ys[j]? = p.2.2[i]?
  st1 : ∀ (j : Nat) (p : SrcN), ss[j]? = some p → j < k → StN p (i + 1) h
  st2 : ∀ (j : Nat) (p : SrcN), ss[j]? = some p → k ≤ j → StN p i h
  keep : ∀ c o, c ≠ z → (∀ p ∈ ss, c ≠ p.1) → h0.get? c = some o → h.get? c = some o
  size : h.objs.size = h0.objs.size
theorem zipN_held {Q : Value → Shared → Prop} (D : ApartN z TI TO ss) (hz : IsZipHeld s.heap z TI TO T f) (hT : s.heap.get? T = some oT) (hI : IsTupN s.heap TI (ss.map fun p => Value.ref p.1).toArray) (hne : ss ≠ []) (hl : ss.length ≤ sizeLine)
    (st : ∀ p ∈ ss, StN p i s.heap) (hi : ∀ p ∈ ss, i < p.2.2.size)
    (hQ : ∀ ys h', ys.size = ss.length → (∀ (j : Nat) (p : SrcN), ss[j]? = some p → ys[j]? = p.2.2[i]?) → IsZipHeld h' z TI TO T true → (∀ p ∈ ss, StN p (i + 1) h') → IsTupN h' s.heap.objs.size ys → h'.objs.size = s.heap.objs.size + 1 →
      (∀ c o, c ≠ z → (∀ p ∈ ss, c ≠ p.1) → s.heap.get? c = some o → h'.get? c = some o) → Q (.ref s.heap.objs.size) { s with heap := h' }) :
    wpAny (model prog w) A (Builtin.«zip.__next__» ⟨[.ref z], []⟩) (fun fin s' => ∃ v, fin = .done (.ret v) ∧ Q v s') E s := by
  have ne2 : (ss.map fun p => Value.ref p.1).toArray.isEmpty = false := by cases ss with | nil => exact absurd rfl hne | cons _ _ => rfl
  show wpAny _ _ (field (.ref z) 2 >>= _) _ _ _; refine wpAny_bind (wpAny_field hz rfl (x := .bool false) rfl ?_)
  show wpAny _ _ (field (.ref z) 3 >>= _) _ _ _; refine wpAny_bind (wpAny_field hz rfl (x := .ref TI) rfl ?_)
  refine wpAny_bind (wpAny_seqItems hI rfl ?_)
  dsimp only
  rw [if_neg (by rw [ne2]; decide)]
  show wpAny _ _ (Builtin.SmallTypes.ownedTupleIsFree (.ref z) >>= _) _ _ _
  refine wpAny_bind (wpAny_tupleHeld_zip hz hT fun hA zA sA => ?_)
  simp only [Bool.false_eq_true, if_false]
  refine wpAny_bind ?_
  rw [← Array.forIn_toList]
  have m0 : MidH z TI TO T ss i 0 #[] s.heap hA := ⟨zA, rfl, fun _ _ _ h => absurd h (Nat.not_lt_zero _), fun _ _ _ h => absurd h (Nat.not_lt_zero _),
    fun j p hj _ => (st p (List.mem_of_getElem? hj)).at_ sA (D.iz p (List.mem_of_getElem? hj)).1 (D.lz p (List.mem_of_getElem? hj)).1, fun c o c1 _ q => sA.extBut _ _ c1 q, sA.1⟩
  refine forIn_list _ (fun k b s' => b.1 = none ∧ ∃ h', s' = { s with heap := h' } ∧ MidH z TI TO T ss i k b.2 s.heap h') _ 0 _ _ _ ⟨rfl, hA, rfl, m0⟩ ?_ ?_
  · rintro j x ⟨b1, ys⟩ _ hj ⟨e, h1, rfl, m⟩
    cases e
    rw [Nat.zero_add] at m ⊢
    simp only [List.getElem?_map] at hj
    cases hp : ss[j]? with
    | none => rw [hp] at hj; cases hj
    | some p =>
    rw [hp] at hj
    cases hj
    have pm := List.mem_of_getElem? hp
    refine wpAny_bind (wpAny_holding ?_); show wpAny _ _ (Builtin.SmallTypes.nextOf (.ref p.1) >>= _) _ _ _
    refine wpAny_bind ((Src.tup p.1 p.2.1 (D.li p pm p pm) p.2.2).one _ i _ _ _ (hi p pm) (m.st2 j p hp (Nat.le_refl _)) fun y hB py uB sB => wpAny_pure ?_)
    refine wpAny_pure ⟨_, rfl, rfl, hB, rfl, ?_⟩
    have other : ∀ (k : Nat) (q : SrcN), ss[k]? = some q → k ≠ j → q.1 ≠ p.1 := fun k q hq hk e => by
      have l1 := (List.getElem?_eq_some_iff.mp hq).1
      refine hk ((List.getElem?_inj (l := ss.map (·.1)) (by rw [List.length_map]; exact l1) D.nd).mp ?_)
      rw [List.getElem?_map, List.getElem?_map, hq, hp]
      exact congrArg some e
    have ln : ys.size = j := m.len
    dsimp only
    refine ⟨sB.extBut _ _ (D.iz p pm).1.symm m.zp, by rw [Array.size_push, ln], fun k q hq hk => ?_, fun k q hq hk => ?_, fun k q hq hk => ?_, fun c o c1 c3 g => sB.extBut _ _ (c3 p pm) (m.keep c o c1 c3 g), by rw [sB.1]; exact m.size⟩
    · rw [Array.getElem?_push]
      by_cases e : k = j
      · subst e
        rw [hp] at hq
        cases hq
        rw [if_pos ln.symm]
        exact py.symm
      · rw [if_neg (by omega)]
        exact m.own k q hq (by omega)
    · by_cases e : k = j
      · subst e
        rw [hp] at hq
        cases hq
        exact uB
      · exact (m.st1 k q hq (by omega)).at_ sB (other k q hq e) (D.li q (List.mem_of_getElem? hq) p pm)
    · exact (m.st2 k q hq (by omega)).at_ sB (other k q hq (by omega)) (D.li q (List.mem_of_getElem? hq) p pm)
  · rintro ⟨b1, ys⟩ _ ⟨e, hE, rfl, m⟩
    cases e
    simp only [Nat.zero_add, List.length_map] at m
    have size := m.size
    have ln : ys.size = ss.length := m.len
    show wpAny _ _ (newTuple ys.toList >>= _) _ _ _
    refine wpAny_bind (wpAny_newTuple ?_ (by rw [Array.length_toList]; omega))
    refine wpAny_pure ⟨_, rfl, ?_⟩
    show Q (.ref hE.objs.size) _
    have tH : IsTupN (hE.push { cls := .type "tuple", data := .seq ys.toList.toArray }) hE.objs.size ys := Heap.get?_push_size _ rfl
    have size2 : (hE.push { cls := .type "tuple", data := .seq ys.toList.toArray }).objs.size = hE.objs.size + 1 := Heap.size_push ..
    rw [size] at tH size2 ⊢
    refine hQ ys _ ln (fun k q hq => m.own k q hq (List.getElem?_eq_some_iff.mp hq).1) (Heap.get?_push_of_some _ m.zp) (fun p pm => ?_) tH size2 fun c o c1 c3 q => Heap.get?_push_of_some _ (m.keep c o c1 c3 q)
    obtain ⟨k, hk, rfl⟩ := List.getElem_of_mem pm
    have st := m.st1 k _ (List.getElem?_eq_getElem hk) hk
    exact ⟨st.1.at fun o q => Heap.get?_push_of_some _ q, st.2.at fun o q => Heap.get?_push_of_some _ q⟩
end
end DZ

/-! part DZS -/
set_option Elab.async false
set_option linter.all false
set_option maxRecDepth 100000
set_option maxHeartbeats 1000000
set_option autoImplicit false
/-! zip over any number of tuples: one step, whatever became of the tuple last given -/
namespace DZ
open PySem PySem.Spec PyProof.Rows L2 RZ PySem.W
section
variable {prog : Program} {w : World} {A : Around} {E : Value → Shared → Prop} {s : Shared} {z TI TO T : Addr} {ss : List SrcN} {i : Nat} {f : Bool} {oT : Obj} {old : Array Value} {f0 f1 : Value}
theorem free_none (hz : IsZG s.heap z TI TO .none f1) (A : Around) (E : Value → Shared → Prop) (R : Bool → Shared → Prop) (h : R true s) : wpAny (model prog w) A (Builtin.SmallTypes.ownedTupleIsFree (.ref z)) R E s := by
  unfold Builtin.SmallTypes.ownedTupleIsFree
  exact wpAny_bind (wpAny_field hz rfl (x := .none) rfl (wpAny_pure h))
theorem free_dead (hz : IsZG s.heap z TI TO (rawInt T) f1) (hT : s.heap.get? T = none) (A : Around) (E : Value → Shared → Prop) (R : Bool → Shared → Prop) (h : R true s) : wpAny (model prog w) A (Builtin.SmallTypes.ownedTupleIsFree (.ref z)) R E s := by
  unfold Builtin.SmallTypes.ownedTupleIsFree
  refine wpAny_bind (wpAny_field hz rfl (x := rawInt T) rfl ?_)
  show wpAny _ _ (loadIfAlive ((T : Int).toNat) >>= _) _ _ _
  rw [Int.toNat_natCast]
  have q : wpAny (model prog w) A (loadIfAlive T) (fun r s' => r = none ∧ s' = s) E s := by
    have h' : (fun r s' => r = none ∧ s' = s) (s.heap.get? T) s := ⟨hT, rfl⟩
    exact fun _ _ _ => h'
  refine wpAny_bind (wpAny_mono q (fun r s' ⟨e1, e2⟩ => ?_) fun _ _ e => e)
  subst e1 e2
  exact wpAny_pure h
theorem zipN_heldover {p : SrcN} {rs : List SrcN} {Q : Fin → Shared → Prop} (hh : A.handled = none) (D : ApartN z TI TO (p :: rs)) (hz : IsZipHeld s.heap z TI TO T f) (hT : s.heap.get? T = some oT) (hI : IsTupN s.heap TI ((p :: rs).map fun p => Value.ref p.1).toArray)
    (st : StN p i s.heap) (hi : p.2.2.size ≤ i)
    (hE : ∀ h' e, (∀ c o, c ≠ z → c ≠ p.1 → s.heap.get? c = some o → h'.get? c = some o) → (∃ o, h'.get? e = some o ∧ o.cls = .type "StopIteration") → E (.ref e) { s with heap := h' }) :
    wpAny (model prog w) A (Builtin.«zip.__next__» ⟨[.ref z], []⟩) Q E s := by
  have pm : p ∈ p :: rs := List.mem_cons_self ..
  show wpAny _ _ (field (.ref z) 2 >>= _) _ _ _; refine wpAny_bind (wpAny_field hz rfl (x := .bool false) rfl ?_)
  show wpAny _ _ (field (.ref z) 3 >>= _) _ _ _; refine wpAny_bind (wpAny_field hz rfl (x := .ref TI) rfl ?_)
  refine wpAny_bind (wpAny_seqItems hI rfl ?_)
  dsimp only
  rw [if_neg (by simp)]
  show wpAny _ _ (Builtin.SmallTypes.ownedTupleIsFree (.ref z) >>= _) _ _ _
  refine wpAny_bind (wpAny_tupleHeld_zip hz hT fun hA zA sA => ?_)
  simp only [Bool.false_eq_true, if_false]
  refine wpAny_bind ?_
  rw [← Array.forIn_toList]
  simp only [List.map_cons, List.forIn_cons]
  refine wpAny_bind (wpAny_bind (wpAny_holding ?_)); show wpAny _ _ (Builtin.SmallTypes.nextOf (.ref p.1) >>= _) _ _ _
  exact wpAny_bind ((Src.tup p.1 p.2.1 (D.li p pm p pm) p.2.2).no _ hh i _ _ _ hi (st.at_ sA (D.iz p pm).1 (D.lz p pm).1) fun hB e sB se => hE hB e (fun c o c1 c3 q => sB _ _ c3 (sA.extBut _ _ c1 q)) se)
/-- what stands at the i-th turn -/
structure ZAt (z TI TO : Addr) (ss : List SrcN) (i : Nat) (h : Heap) : Prop where
  zp : ∃ f0 f1, IsZG h z TI TO f0 f1 ∧ (f0 = .none ∨ ∃ T f, f0 = rawInt (T : Addr) ∧ f1 = .bool f)
  ti : IsTupN h TI (ss.map fun p => Value.ref p.1).toArray
  to : ∃ old, IsTupN h TO old ∧ old.size = ss.length
  st : ∀ p ∈ ss, StN p i h
theorem stepN_more {Q : Option Value → Shared → Prop} (D : ApartN z TI TO ss) (Z : ZAt z TI TO ss i s.heap) (hne : ss ≠ []) (hl : ss.length ≤ sizeLine) (hi : ∀ p ∈ ss, i < p.2.2.size)
    (hQ : ∀ ys h', ys.size = ss.length → (∀ (j : Nat) (p : SrcN), ss[j]? = some p → ys[j]? = p.2.2[i]?) → ZAt z TI TO ss (i + 1) h' → IsTupN h' s.heap.objs.size ys → h'.objs.size = s.heap.objs.size + 1 →
      (∀ c o, c ≠ z → c ≠ TO → (∀ p ∈ ss, c ≠ p.1) → s.heap.get? c = some o → h'.get? c = some o) → Q (some (.ref s.heap.objs.size)) { s with heap := h' }) : wpAny (model prog w) A (pyNext (.ref z)) Q E s := by
  obtain ⟨⟨f0, f1, hz, hf⟩, hI, ⟨old, hO, ho⟩, st⟩ := Z
  have keepI : ∀ h' : Heap, (∀ c o, c ≠ z → c ≠ TO → (∀ p ∈ ss, c ≠ p.1) → s.heap.get? c = some o → h'.get? c = some o) → IsTupN h' TI (ss.map fun p => Value.ref p.1).toArray := fun h' k => k _ _ D.zI D.OI (fun p pm => (D.iz p pm).2.2) hI
  have free : (∀ (A : Around) (E : Value → Shared → Prop) (R : Bool → Shared → Prop), R true s → wpAny (model prog w) A (Builtin.SmallTypes.ownedTupleIsFree (.ref z)) R E s) → wpAny (model prog w) A (pyNext (.ref z)) Q E s := fun hfr =>
    nextN_more D hz hfr hI hO ho hne hl st hi fun ys h' a1 a2 a3 a4 a5 a6 a7 a8 => hQ ys h' a1 a2 ⟨⟨_, _, a3, .inr ⟨_, _, rfl, rfl⟩⟩, keepI h' a8, ⟨ys, a4, a1⟩, a5⟩ a6 a7 a8
  rcases hf with rfl | ⟨T, f, rfl, rfl⟩
  · exact free fun A E R r => free_none hz A E R r
  · cases hT : s.heap.get? T with
    | none => exact free fun A E R r => free_dead hz hT A E R r
    | some oT =>
      have ty : s.TypeIs (.ref z) "zip" := ⟨_, hz, rfl⟩
      unfold pyNext
      refine wpAny_bind (wpAny_attempt (wpAny_callSpecial?_slot (name := Str.ofString "__next__") ty F.slot_zip_next (wpAny_call_entry F.slot_zip_next ty F.entry_zip_next ?_ (F.args_zip_next_1 _))))
      refine zipN_held D hz hT hI hne hl st hi fun ys h' a1 a2 a3 a5 a6 a7 a8 => wpAny_pure ?_
      have k8 : ∀ c o, c ≠ z → c ≠ TO → (∀ p ∈ ss, c ≠ p.1) → s.heap.get? c = some o → h'.get? c = some o := fun c o c1 _ c3 q => a8 c o c1 c3 q
      exact hQ ys h' a1 a2 ⟨⟨_, _, a3, .inr ⟨_, _, rfl, rfl⟩⟩, keepI h' k8, ⟨old, a8 _ _ D.zO (fun p pm => (D.iz p pm).2.1.symm) hO, ho⟩, a5⟩ a6 a7 k8
theorem stepN_over {p : SrcN} {rs : List SrcN} {Q : Option Value → Shared → Prop} (hh : A.handled = none) (D : ApartN z TI TO (p :: rs)) (Z : ZAt z TI TO (p :: rs) i s.heap) (hi : p.2.2.size ≤ i)
    (hQ : ∀ h', (∀ c o, c ≠ z → c ≠ TO → c ≠ p.1 → s.heap.get? c = some o → h'.get? c = some o) → Q none { s with heap := h' }) : wpAny (model prog w) A (pyNext (.ref z)) Q E s := by
  obtain ⟨⟨f0, f1, hz, hf⟩, hI, ⟨old, hO, ho⟩, st⟩ := Z
  have sp := st p (List.mem_cons_self ..)
  rcases hf with rfl | ⟨T, f, rfl, rfl⟩
  · exact nextN_over hh D hz (fun A E R r => free_none hz A E R r) hI hO sp hi hQ
  · cases hT : s.heap.get? T with
    | none => exact nextN_over hh D hz (fun A E R r => free_dead hz hT A E R r) hI hO sp hi hQ
    | some oT =>
      have ty : s.TypeIs (.ref z) "zip" := ⟨_, hz, rfl⟩
      unfold pyNext
      refine wpAny_bind (wpAny_attempt (wpAny_callSpecial?_slot (name := Str.ofString "__next__") ty F.slot_zip_next (wpAny_call_entry F.slot_zip_next ty F.entry_zip_next ?_ (F.args_zip_next_1 _))))
      refine zipN_heldover hh D hz hT hI sp hi fun h' e keep st => ?_
      obtain ⟨o, ge, ce⟩ := st
      exact wpAny_bind (wpAny_isInstance (T := "StopIteration") (b := true) ⟨o, ge, ce⟩ isSubtype_stop (wpAny_pure (hQ _ fun c o c1 _ c3 q => keep c o c1 c3 q)))
end
end DZ

/-! part DZT -/
set_option Elab.async false
set_option linter.all false
set_option maxRecDepth 100000
set_option maxHeartbeats 1000000
set_option autoImplicit false
/-! zip over any number of tuples: its turns, the target a name -/
namespace DZ
open PySem PySem.Spec PyProof.Rows L2 RZ PySem.W
/-- tuples at these places, as they stand at each turn -/
def ItN (K : PySem.W.Frag) (as : List Addr) : It :=
  ⟨fun i H => as ≠ [] ∧ ∀ a ∈ as, ∃ xs : List V, SqT K H a xs ∧ i < xs.length,
    fun i H v H' => ∃ T ys, v = .ref T ∧ H T = none ∧ H' = upd H T (.tup ys) ∧ ys.length = as.length ∧ ∀ (j : Nat) (a : Addr), as[j]? = some a → ∀ xs, SqT K H a xs → ys[j]? = xs[i]?,
    fun i H => (∀ a ∈ as, ∃ xs : List V, SqT K H a xs) ∧ ∃ a r, as = a :: r ∧ ∃ xs : List V, SqT K H a xs ∧ xs.length ≤ i⟩
/-- a source in the hand's eyes -/
def Good (X : Cx) (H : Hp) (h : Heap) (q : SrcN) : Prop := ∃ xs, SqT X.K H q.2.1 xs ∧ Vals xs q.2.2.toList ∧ h.IsTuple q.2.1 q.2.2
section
variable {X : Cx} {pins : List (Addr × Obj)} {σ : L2.St} {H : Hp} {s : Shared}
theorem srcs (I : Inv X pins σ H s) : ∀ ps : List (Addr × Addr), (∀ p ∈ ps, ∃ xs, SqT X.K H p.2 xs) → ∃ ss : List SrcN, ss.map (fun q => (q.1, q.2.1)) = ps ∧ ∀ q ∈ ss, Good X H s.heap q
  | [], _ => ⟨[], rfl, fun _ h => (nomatch h)⟩
  | p :: r, h => by
    obtain ⟨ss, e, g⟩ := srcs I r fun p hp => h p (List.mem_cons_of_mem _ hp)
    obtain ⟨xs, sq⟩ := h p (List.mem_cons_self ..)
    obtain ⟨its, rv, pt, _⟩ := I.tuple sq
    refine ⟨(p.1, p.2, its.toArray) :: ss, by rw [List.map_cons, e], fun q hq => ?_⟩
    rcases List.mem_cons.mp hq with e | hq
    · subst e; exact ⟨xs, sq, by simpa using rv, pt⟩
    · exact g q hq
theorem cols (I : Inv X pins σ H s) {i : Nat} : ∀ (ss : List SrcN) (yl : List Value), yl.length = ss.length → (∀ (j : Nat) (q : SrcN), ss[j]? = some q → yl[j]? = q.2.2[i]?) → (∀ q ∈ ss, i < q.2.2.size) → (∀ q ∈ ss, Good X H s.heap q) →
    ∃ vs : List V, Vals vs yl ∧ ∀ (j : Nat) (q : SrcN), ss[j]? = some q → ∀ xs, SqT X.K H q.2.1 xs → vs[j]? = xs[i]?
  | [], [], _, _, _, _ => ⟨[], .nil, fun j q h => by simp at h⟩
  | q :: ss, y :: yl, hl, hy, hi, hg => by
    obtain ⟨vs, r, e⟩ := cols I ss yl (by simpa using hl) (fun j p h => by simpa using hy (j + 1) p (by simpa using h)) (fun p hp => hi p (List.mem_cons_of_mem _ hp)) fun p hp => hg p (List.mem_cons_of_mem _ hp)
    obtain ⟨xs, sq, rv, _⟩ := hg q (List.mem_cons_self ..)
    have iq := hi q (List.mem_cons_self ..)
    have y0 : some y = q.2.2[i]? := hy 0 q rfl
    have lx : xs.length = q.2.2.size := by rw [rv.length, Array.length_toList]
    have li : i < xs.length := by omega
    obtain ⟨u, hu, ru⟩ := rv.get (List.getElem?_eq_getElem li)
    have eu : u = y := by
      rw [Array.getElem?_toList, ← y0] at hu
      cases hu; rfl
    subst eu
    refine ⟨xs[i] :: vs, .cons ru r, fun j p hp ws sw => ?_⟩
    cases j with
    | zero =>
      cases hp
      rw [I.tuple_inj sw sq, List.getElem?_eq_getElem li]
      rfl
    | succ j => exact e j p (by simpa using hp) ws sw
end
theorem apart_of {z TI TO : Addr} {ss ss' : List SrcN} (D : ApartN z TI TO ss) (e : ss'.map (fun q => (q.1, q.2.1)) = ss.map fun q => (q.1, q.2.1)) : ApartN z TI TO ss' := by
  have back : ∀ q ∈ ss', ∃ p ∈ ss, p.1 = q.1 ∧ p.2.1 = q.2.1 := fun q hq => by
    have := List.mem_map_of_mem (f := fun q : SrcN => (q.1, q.2.1)) hq
    rw [e] at this
    obtain ⟨p, hp, e2⟩ := List.mem_map.mp this
    exact ⟨p, hp, (Prod.mk.inj e2).1, (Prod.mk.inj e2).2⟩
  have e1 : ss'.map (·.1) = ss.map (·.1) := by
    have := congrArg (List.map Prod.fst) e
    rw [List.map_map, List.map_map] at this
    exact this
  refine ⟨D.zO, D.zI, D.OI, by rw [e1]; exact D.nd, fun q hq => ?_, fun q hq => ?_, fun q hq q2 hq2 => ?_⟩
  · obtain ⟨p, hp, a, b⟩ := back q hq; rw [← a]; exact D.iz p hp
  · obtain ⟨p, hp, a, b⟩ := back q hq; rw [← b]; exact D.lz p hp
  · obtain ⟨p, hp, a, b⟩ := back q hq
    obtain ⟨p2, hp2, a2, b2⟩ := back q2 hq2
    rw [← b, ← a2]; exact D.li p hp p2 hp2
/-- the pairs (iterator, tuple) as sources, whatever stands in them -/
def bareN (ps : List (Addr × Addr)) : List SrcN := ps.map fun p => (p.1, p.2, #[])
theorem bareN_map (ps : List (Addr × Addr)) : (bareN ps).map (fun q => (q.1, q.2.1)) = ps := by
  unfold bareN
  rw [List.map_map]
  exact List.map_id _
theorem turn_N {P : Program} {w : World} {K : PySem.W.Frag} {x : Str} {xp : Pos} {ps : List (Addr × Addr)} {z TI TO : Addr} (D : ApartN z TI TO (bareN ps)) (hl : ps.length ≤ sizeLine) :
    Turn P w K (.Name x xp) (ItN K (ps.map (·.2))) (z :: TI :: TO :: ps.map (·.1)) z (fun i h => (∃ f0 f1, IsZG h z TI TO f0 f1 ∧ (f0 = .none ∨ ∃ T f, f0 = rawInt (T : Addr) ∧ f1 = .bool f)) ∧ IsTupN h TI (ps.map fun p => Value.ref p.1).toArray ∧ (∃ old, IsTupN h TO old ∧ old.size = ps.length) ∧ ∀ p ∈ ps, h.IsTupleIter p.1 p.2 i) where
  mem := .head _
  obj := fun i h ⟨⟨_, _, g0, _⟩, g1, ⟨_, g2, _⟩, g3⟩ c hc => by
    rcases List.mem_cons.mp hc with rfl | hc
    · exact ⟨_, g0, fun _ q => nomatch q⟩
    rcases List.mem_cons.mp hc with rfl | hc
    · exact ⟨_, g1, fun _ q => nomatch q⟩
    rcases List.mem_cons.mp hc with rfl | hc
    · exact ⟨_, g2, fun _ q => nomatch q⟩
    obtain ⟨p, hp, rfl⟩ := List.mem_map.mp hc
    obtain ⟨o, g, _, d⟩ := g3 p hp
    exact ⟨o, g, fun _ q => nomatch d.symm.trans q⟩
  keep := fun i h h' ⟨⟨f0, f1, g0, gf⟩, g1, ⟨old, g2, go⟩, g3⟩ k => ⟨⟨f0, f1, k z (by simp) _ g0, gf⟩, k TI (by simp) _ g1, ⟨old, k TO (by simp) _ g2, go⟩, fun p hp => (g3 p hp).at fun o q => k p.1 (List.mem_cons_of_mem _ (List.mem_cons_of_mem _ (List.mem_cons_of_mem _ (List.mem_map_of_mem hp)))) o q⟩
  item := by
    intro X hP hw hK hc i pins s σ H E I hf ⟨g0, g1, ⟨old, g2, go⟩, g3⟩ ⟨hne, hgo⟩
    subst hP hw hK
    obtain ⟨ss, e, good⟩ := srcs I ps fun p hp => let ⟨xs, sq, _⟩ := hgo p.2 (List.mem_map_of_mem hp); ⟨xs, sq⟩
    have D' : ApartN z TI TO ss := apart_of D (by rw [e, bareN_map])
    have ln : ss.length = ps.length := by rw [← e, List.length_map]
    have pr : ∀ q ∈ ss, (q.1, q.2.1) ∈ ps := fun q hq => by rw [← e]; exact List.mem_map_of_mem hq
    have m1 : (ss.map fun p => Value.ref p.1) = ps.map fun p => Value.ref p.1 := by rw [← e, List.map_map]; rfl
    have m2 : ss.map (·.2.1) = ps.map (·.2) := by rw [← e, List.map_map]; rfl
    have m3 : ss.map (·.1) = ps.map (·.1) := by rw [← e, List.map_map]; rfl
    have big : ∀ q ∈ ss, i < q.2.2.size := fun q hq => by
      obtain ⟨xs, sq, rv, _⟩ := good q hq
      obtain ⟨ws, sw, lw⟩ := hgo q.2.1 (List.mem_map_of_mem (f := Prod.snd) (pr q hq))
      rw [I.tuple_inj sw sq, rv.length, Array.length_toList] at lw
      exact lw
    have Z : ZAt z TI TO ss i s.heap := ⟨g0, by rw [m1]; exact g1, ⟨old, g2, by rw [go, ln]⟩, fun q hq => ⟨g3 _ (pr q hq), (good q hq).choose_spec.2.2⟩⟩
    have ne : ss ≠ [] := fun q => hne (by rw [← m2, q]; rfl)
    refine stepN_more D' Z ne (by omega) big fun ys h' a1 a2 a3 a6 a7 a8 => ⟨_, rfl, wpAny_pure ?_⟩
    obtain ⟨vs, rv, col⟩ := cols I ss ys.toList (by rw [Array.length_toList]; exact a1) (fun j q hq => by rw [Array.getElem?_toList]; exact a2 j q hq) big good
    have lv : vs.length = ss.length := by rw [rv.length, Array.length_toList]; exact a1
    have new : ObjOk X.prog X.w (upd H s.heap.objs.size (.tup vs)) h' s.heap.objs.size (.tup vs) := ⟨by omega, ys.toList, rv, ⟨_, a6, rfl, _, rfl⟩⟩
    have out : ∀ c, c ∉ z :: TI :: TO :: ps.map (·.1) → c ≠ z ∧ c ≠ TO ∧ ∀ p ∈ ss, c ≠ p.1 := fun c hc => ⟨fun q => hc (by simp [q]), fun q => hc (by simp [q]), fun p hp q => hc (by
      rw [q, ← m3]; exact List.mem_cons_of_mem _ (List.mem_cons_of_mem _ (List.mem_cons_of_mem _ (List.mem_map_of_mem hp))))⟩
    have I1 : Inv X pins σ (upd H s.heap.objs.size (.tup vs)) { s with heap := h' } :=
      I.turnedNew (t' := s.toks) (ch := z :: TI :: TO :: ps.map (·.1)) (fun c o hb q => a8 c o (out c hb).1 (out c hb).2.1 (out c hb).2.2 q) hf (Nat.le_refl _) new
    refine ⟨.ref s.heap.objs.size, _, I1, rfl, ⟨_, vs, rfl, I.hok.fresh (Nat.le_refl _), rfl, by rw [lv, ln, List.length_map], fun j a hj xs sx => ?_⟩, ⟨a3.zp, by rw [← m1]; exact a3.ti, a3.to.imp fun o h => ⟨h.1, by rw [h.2, ln]⟩, fun p hp => ?_⟩, fun c hcm => ?_⟩
    · rw [← m2, List.getElem?_map] at hj
      cases hq : ss[j]? with
      | none => rw [hq] at hj; cases hj
      | some q => rw [hq] at hj; cases hj; exact col j q hq xs sx
    · rw [← e] at hp
      obtain ⟨q, hq, rfl⟩ := List.mem_map.mp hp
      exact (a3.st q hq).1
    · have lt : c < s.heap.objs.size := by
        obtain ⟨f0, f1, z0, _⟩ := g0
        rcases List.mem_cons.mp hcm with rfl | hcm
        · exact Heap.lt_size z0
        rcases List.mem_cons.mp hcm with rfl | hcm
        · exact Heap.lt_size g1
        rcases List.mem_cons.mp hcm with rfl | hcm
        · exact Heap.lt_size g2
        obtain ⟨p, hp, rfl⟩ := List.mem_map.mp hcm
        exact Heap.lt_size (g3 p hp).choose_spec.1
      rw [upd_ne (Nat.ne_of_lt lt)]
      exact (hf c hcm).1
  done := by
    intro X hP hw hK hc i pins s σ H E I hf ⟨g0, g1, ⟨old, g2, go⟩, g3⟩ ⟨al, a, r, ea, xs, sq, le⟩
    subst hP hw hK
    obtain ⟨ss, e, good⟩ := srcs I ps fun p hp => al p.2 (List.mem_map_of_mem hp)
    have D' : ApartN z TI TO ss := apart_of D (by rw [e, bareN_map])
    have ln : ss.length = ps.length := by rw [← e, List.length_map]
    have pr : ∀ q ∈ ss, (q.1, q.2.1) ∈ ps := fun q hq => by rw [← e]; exact List.mem_map_of_mem hq
    have m1 : (ss.map fun p => Value.ref p.1) = ps.map fun p => Value.ref p.1 := by rw [← e, List.map_map]; rfl
    have m2 : ss.map (·.2.1) = ps.map (·.2) := by rw [← e, List.map_map]; rfl
    have m3 : ss.map (·.1) = ps.map (·.1) := by rw [← e, List.map_map]; rfl
    have Z : ZAt z TI TO ss i s.heap := ⟨g0, by rw [m1]; exact g1, ⟨old, g2, by rw [go, ln]⟩, fun q hq => ⟨g3 _ (pr q hq), (good q hq).choose_spec.2.2⟩⟩
    cases ss with
    | nil => rw [← m2] at ea; cases ea
    | cons q rs =>
      rw [← m2] at ea
      obtain ⟨ws, sw, rv, _⟩ := good q (List.mem_cons_self ..)
      have ea' : q.2.1 = a := (List.cons.inj ea).1
      have end_ : q.2.2.size ≤ i := by
        rw [ea'] at sw
        rw [I.tuple_inj sq sw, rv.length, Array.length_toList] at le
        exact le
      refine stepN_over (I.ok.hd hc) D' Z end_ fun h' hk => ⟨rfl, ?_⟩
      exact I.turnedL (t' := s.toks) (ch := z :: TI :: TO :: ps.map (·.1)) (fun c o hb g => hk c o (fun t => hb (by simp [t])) (fun t => hb (by simp [t])) (fun t => hb (by
        rw [t, ← m3]; exact List.mem_cons_of_mem _ (List.mem_cons_of_mem _ (List.mem_cons_of_mem _ (List.mem_cons_self ..))))) g) hf
  self := fun A i s Q E ⟨⟨f0, f1, g0, _⟩, _⟩ h => by
    have hT : s.TypeIs (.ref z) "zip" := ⟨_, g0, rfl⟩
    refine wpAny_pyIter_slot hT F.slot_zip_iter (wpAny_call_entry F.slot_zip_iter hT F.entry_zip_iter ?_ (F.args_zip_iter_1 _))
    show wpAny _ _ (ret (.ref z)) _ _ s
    exact wpAny_pure ⟨_, rfl, "zip", _, hT, F.slot_zip_next.lookup, h⟩
end DZ

/-! part DZV -/
set_option Elab.async false
set_option linter.all false
set_option maxRecDepth 100000
set_option maxHeartbeats 1000000
set_option autoImplicit false
/-! zip(*rows): a zip over up to eight tuples, as it is made -/
namespace DZ
open PySem PySem.Spec PyProof.Rows L2 RZ PySem.W
theorem typeCall_zipN (vs : List Value) : checkTypeCall "zip" ⟨vs, []⟩ = pure () := by kernel_rfl
theorem newCall_zipN : ∀ (vs : List Value), vs.length ≤ 8 → checkBuiltinCall "zip.__new__" ⟨.type "zip" :: vs, []⟩ = pure ()
  | [], _ => by kernel_rfl
  | [_], _ => by kernel_rfl
  | [_, _], _ => by kernel_rfl
  | [_, _, _], _ => by kernel_rfl
  | [_, _, _, _], _ => by kernel_rfl
  | [_, _, _, _, _], _ => by kernel_rfl
  | [_, _, _, _, _, _], _ => by kernel_rfl
  | [_, _, _, _, _, _, _], _ => by kernel_rfl
  | [_, _, _, _, _, _, _, _], _ => by kernel_rfl
  | _ :: _ :: _ :: _ :: _ :: _ :: _ :: _ :: _ :: _, h => by simp at h
theorem objInitN (obj : Value) : ∀ (vs : List Value), vs.length ≤ 8 → argsOk "object.__init__" ⟨obj :: vs, []⟩
  | [], _ => by unfold argsOk; kernel_rfl
  | [_], _ => by unfold argsOk; kernel_rfl
  | [_, _], _ => by unfold argsOk; kernel_rfl
  | [_, _, _], _ => by unfold argsOk; kernel_rfl
  | [_, _, _, _], _ => by unfold argsOk; kernel_rfl
  | [_, _, _, _, _], _ => by unfold argsOk; kernel_rfl
  | [_, _, _, _, _, _], _ => by unfold argsOk; kernel_rfl
  | [_, _, _, _, _, _, _], _ => by unfold argsOk; kernel_rfl
  | [_, _, _, _, _, _, _, _], _ => by unfold argsOk; kernel_rfl
  | _ :: _ :: _ :: _ :: _ :: _ :: _ :: _ :: _ :: _, h => by simp at h
theorem forIn_go {M : Model} {A : Around} {E : Value → Shared → Prop} {β : Type} (f : Value → β → Sem (ForInStep β)) (I : Nat → β → Shared → Prop) : ∀ (l : List Value) (k : Nat) (b : β) (s : Shared) (Q : β → Shared → Prop), I k b s →
    (∀ j x b s, l[j]? = some x → I (k + j) b s → wpAny M A (f x b) (fun r s' => ∃ b', r = .yield b' ∧ I (k + j + 1) b' s') E s) → (∀ b s, I (k + l.length) b s → Q b s) → wpAny M A (forIn l b f) Q E s
  | [], k, b, s, Q, h, _, q => by
    rw [List.forIn_nil]
    exact wpAny_pure (q b s h)
  | x :: l, k, b, s, Q, h, st, q => by
    rw [List.forIn_cons]
    refine wpAny_bind (wpAny_mono (st 0 x b s rfl h) (fun r s' ⟨b', e, h'⟩ => ?_) fun _ _ e => e)
    subst e
    refine forIn_go f I l (k + 1) b' s' Q h' (fun j y b2 s2 hj h2 => ?_) fun b2 s2 h2 => q b2 s2 ?_
    · have e : k + 1 + j = k + (j + 1) := by omega
      rw [e] at h2 ⊢
      exact st (j + 1) y b2 s2 hj h2
    · rw [List.length_cons, show k + (l.length + 1) = k + 1 + l.length by omega]
      exact h2
/-- k of the iterators were made -/
structure Begun (as : List Addr) (k : Nat) (h0 h : Heap) : Prop where
  it : ∀ (j : Nat) (a : Addr), as[j]? = some a → j < k → h.IsTupleIter (h0.objs.size + j) a 0
  keep : ∀ c o, h0.get? c = some o → h.get? c = some o
  size : h.objs.size = h0.objs.size + k
def refsFrom (n k : Nat) : List Value := (List.range k).map fun i => Value.ref (n + i)
theorem iterAll_tups {M : Model} {A : Around} {E : Value → Shared → Prop} {prog : Program} {w : World} {as : List Addr} {s : Shared} {Q : List Value → Shared → Prop} (ht : ∀ a ∈ as, ∃ its, s.heap.IsTuple a its)
    (hQ : ∀ h', Begun as as.length s.heap h' → Q (refsFrom s.heap.objs.size as.length) { s with heap := h' }) : wpAny (model prog w) A (Builtin.SmallTypes.iterAll (as.map Value.ref)) Q E s := by
  unfold Builtin.SmallTypes.iterAll
  refine wpAny_bind (forIn_go _ (fun k b s' => b = (refsFrom s.heap.objs.size k).toArray ∧ ∃ h', Begun as k s.heap h' ∧ s' = { s with heap := h' }) (as.map Value.ref) 0 _ s _ ⟨rfl, s.heap, ⟨fun j a _ h => absurd h (Nat.not_lt_zero _), fun _ _ h => h, rfl⟩, rfl⟩ ?_ ?_)
  · rintro j x b s' hx ⟨rfl, h', hB, rfl⟩
    rw [List.getElem?_map] at hx
    cases ha : as[j]? with
    | none => rw [ha] at hx; cases hx
    | some a =>
      rw [ha] at hx
      cases hx
      obtain ⟨its, t0⟩ := ht a (List.mem_of_getElem? ha)
      have t1 : h'.IsTuple a its := t0.at fun o e => hB.keep a o e
      refine wpAny_bind (wpAny_holding ((begins_tuple a its).iter prog w _ _ _ _ t1 ?_))
      refine wpAny_pure ⟨_, rfl, ?_, _, ⟨fun i c hc hi => ?_, fun c o h => Heap.get?_push_of_some _ (hB.keep c o h), by rw [Heap.size_push, hB.size]; omega⟩, rfl⟩
      · rw [Nat.zero_add, hB.size, Nat.zero_add]
        unfold refsFrom
        rw [List.range_succ, List.map_append]
        simp
      · rw [Nat.zero_add] at hi
        by_cases e : i < j
        · exact (hB.it i c hc (by omega)).at fun o q => Heap.get?_push_of_some _ q
        · have e2 : i = j := by omega
          subst e2
          rw [ha] at hc
          cases hc
          have z := Heap.get?_push_size h' (o := { cls := .type "tuple_iterator", data := .fields #[.ref a, .int 0 0] }) rfl
          rw [hB.size, Nat.zero_add] at z
          exact ⟨_, z, rfl, rfl⟩
  · rintro b s' ⟨rfl, h', hB, rfl⟩
    rw [List.length_map, Nat.zero_add] at *
    exact wpAny_pure (hQ h' hB)
/-- a zip over these tuples, as it is made -/
structure Made (as : List Addr) (h0 h : Heap) : Prop where
  z : IsZG h (h0.objs.size + as.length + 2) (h0.objs.size + as.length) (h0.objs.size + as.length + 1) .none (.bool false)
  ti : IsTupN h (h0.objs.size + as.length) (refsFrom h0.objs.size as.length).toArray
  to : IsTupN h (h0.objs.size + as.length + 1) (List.replicate as.length Value.none).toArray
  it : ∀ (j : Nat) (a : Addr), as[j]? = some a → h.IsTupleIter (h0.objs.size + j) a 0
  keep : ∀ c o, h0.get? c = some o → h.get? c = some o
  size : h.objs.size = h0.objs.size + as.length + 3
theorem meets_zip_newN {as : List Addr} (hl : as.length ≤ 8) :
    Meets (Builtin.«zip.__new__» ⟨.type "zip" :: as.map Value.ref, []⟩) (fun _ R s => (∀ a ∈ as, ∃ its, s.heap.IsTuple a its) ∧
      ∀ h', Made as s.heap h' → R (.ok (.ret (.ref (s.heap.objs.size + as.length + 2)))) { s with heap := h' }) :=
  .of_wp fun prog w A R s h => by
    obtain ⟨ht, h⟩ := h
    have hsub := sub_zip
    show wpAny _ _ (Builtin.SmallTypes.newClass "zip" ⟨.type "zip" :: as.map Value.ref, []⟩ >>= _) _ _ _
    refine wpAny_bind ?_
    have n1 : ∀ {Q : Value × List Value → Shared → Prop} {E : Value → Shared → Prop}, Q (.type "zip", as.map Value.ref) s → wpAny (model prog w) A.in1 (Builtin.SmallTypes.newClass "zip" ⟨.type "zip" :: as.map Value.ref, []⟩) Q E s := fun q => by
      unfold Builtin.SmallTypes.newClass
      wp_walk
      exact q
    refine n1 ?_
    dsimp only
    rw [if_neg (by simp)]
    refine wpAny_bind (iterAll_tups (M := model prog w) ht fun h1 hB => ?_)
    have sz : 8 ≤ sizeLine := by decide
    have rl : ∀ n k, (refsFrom n k).length = k := fun n k => by unfold refsFrom; simp
    refine wpAny_bind (wpAny_newObj_type ?_ (by show _ ≤ _; simp [rl]; omega))
    refine wpAny_bind (wpAny_newObj_type ?_ (by show _ ≤ _; simp [rl]; omega))
    have em : (refsFrom s.heap.objs.size as.length).map (fun _ => Value.none) = List.replicate as.length Value.none := by
      apply List.ext_getElem
      · simp [rl]
      · intro i h1 h2; simp
    rw [em]
    refine wpAny_bind ?_
    unfold Builtin.SmallTypes.newRecord
    dsimp only
    refine wpAny_newObj_type ?_ (by show _ ≤ _; simp [Builtin.SmallTypes.ownedTupleFields]; omega)
    refine wpAny_pure ⟨_, rfl, ?_⟩
    simp only [Heap.size_push, hB.size]
    refine h _ ⟨?_, ?_, ?_, ?_, ?_, ?_⟩
    · have z := Heap.get?_push_size ((h1.push { cls := .type "tuple", data := .seq (refsFrom s.heap.objs.size as.length).toArray }).push { cls := .type "tuple", data := .seq (List.replicate as.length Value.none).toArray }) (o := { cls := .type "zip", data := .fields #[.none, .bool false, .bool false, .ref (s.heap.objs.size + as.length), .ref (s.heap.objs.size + as.length + 1)] }) rfl
      simp only [Heap.size_push, hB.size] at z
      exact z
    · have z := Heap.get?_push_size h1 (o := { cls := .type "tuple", data := .seq (refsFrom s.heap.objs.size as.length).toArray }) rfl
      rw [hB.size] at z
      exact Heap.get?_push_of_some _ (Heap.get?_push_of_some _ z)
    · have z := Heap.get?_push_size (h1.push { cls := .type "tuple", data := .seq (refsFrom s.heap.objs.size as.length).toArray }) (o := { cls := .type "tuple", data := .seq (List.replicate as.length Value.none).toArray }) rfl
      simp only [Heap.size_push, hB.size] at z
      exact Heap.get?_push_of_some _ z
    · exact fun j a ha => (hB.it j a ha (List.getElem?_eq_some_iff.mp ha).1).at fun o q => Heap.get?_push_of_some _ (Heap.get?_push_of_some _ (Heap.get?_push_of_some _ q))
    · exact fun c o q => Heap.get?_push_of_some _ (Heap.get?_push_of_some _ (Heap.get?_push_of_some _ (hB.keep c o q)))
    · simp only [Heap.size_push, hB.size]
section
variable {prog : Program} {w : World} {A : Around} {E : Value → Shared → Prop} {s : Shared}
theorem zip_beginsN {as : List Addr} {Q : Value → Shared → Prop} (hl : as.length ≤ 8) (ht : ∀ a ∈ as, ∃ its, s.heap.IsTuple a its)
    (h : ∀ h', Made as s.heap h' → Q (.ref (s.heap.objs.size + as.length + 2)) { s with heap := h' }) : wpAny (model prog w) A (call (.type "zip") (as.map Value.ref)) Q E s := by
  have hl2 : (as.map Value.ref).length ≤ 8 := by rw [List.length_map]; exact hl
  exact callType_new F.called_zip (by decide) (typeCall_zipN _) (newCall_zipN _ hl2) (fun obj => objInitN obj _ hl2) F.entry_zip_new (meets_zip_newN hl) ⟨ht, fun h' m => ⟨⟨_, m.z, rfl⟩, h h' m⟩⟩
end
end DZ

/-! part DZW -/
set_option Elab.async false
set_option linter.all false
set_option maxRecDepth 100000
set_option maxHeartbeats 1000000
set_option autoImplicit false
/-! for x in zip(*rows), rows a list of up to eight tuples -/
namespace DZ
open PySem PySem.Spec PyProof.Rows L2 RZ PySem.W
section
variable {prog : Program} {w : World} {A : Around} {E : Value → Shared → Prop} {s : Shared} {z TI TO : Addr} {f0 f1 : Value}
theorem nextN_none {Q : Option Value → Shared → Prop} (hh : A.handled = none) (hz : IsZG s.heap z TI TO f0 f1) (hI : IsTupN s.heap TI #[]) (hQ : ∀ h', (∀ c o, s.heap.get? c = some o → h'.get? c = some o) → Q none { s with heap := h' }) :
    wpAny (model prog w) A (pyNext (.ref z)) Q E s := by
  have ty : s.TypeIs (.ref z) "zip" := ⟨_, hz, rfl⟩
  have body : ∀ {Q' : Fin → Shared → Prop} {E' : Value → Shared → Prop}, (∀ h' e, (∀ c o, s.heap.get? c = some o → h'.get? c = some o) → (∃ o, h'.get? e = some o ∧ o.cls = .type "StopIteration") → E' (.ref e) { s with heap := h' }) →
      wpAny (model prog w) A.in1 (Builtin.«zip.__next__» ⟨[.ref z], []⟩) Q' E' s := fun hE => by
    show wpAny _ _ (field (.ref z) 2 >>= _) _ _ _; refine wpAny_bind (wpAny_field hz rfl (x := .bool false) rfl ?_)
    show wpAny _ _ (field (.ref z) 3 >>= _) _ _ _; refine wpAny_bind (wpAny_field hz rfl (x := .ref TI) rfl ?_)
    refine wpAny_bind (wpAny_seqItems hI rfl ?_)
    dsimp only
    rw [if_pos (by simp)]
    refine wpAny_bind (wpAny_rule (wpAny_bind ?_))
    unfold Builtin.SmallTypes.stopIteration
    show wpAny _ _ (newExc (.type "StopIteration") [] >>= _) _ _ _
    refine wpAny_bind ?_
    simp only [newExc, newTuple]
    refine wpAny_bind (wpAny_newObj_type ?_ (by size_fits))
    refine wpAny_bind (m := firstArgMember _ _) (wpAny_of_eq (a := Value.none) (by first | rfl | (simp only [firstArgMember]; rfl)) ?_)
    refine wpAny_newObj_type ?_ (by size_fits)
    simp only [raiseNew]
    refine wpAny_bind (wpAny_handled ?_)
    first | rw [show A.in1.handled = none from hh] | rw [hh]
    refine wpAny_bind (wpAny_pure (wpAny_throw ?_))
    exact hE _ _ (fun c o q => Heap.get?_push_of_some _ (Heap.get?_push_of_some _ q)) ⟨_, Heap.get?_push_size _ rfl, rfl⟩
  unfold pyNext
  refine wpAny_bind (wpAny_attempt (wpAny_callSpecial?_slot (name := Str.ofString "__next__") ty F.slot_zip_next (wpAny_call_entry F.slot_zip_next ty F.entry_zip_next ?_ (F.args_zip_next_1 _))))
  refine body fun h' e keep st => ?_
  obtain ⟨o, ge, ce⟩ := st
  exact wpAny_bind (wpAny_isInstance (T := "StopIteration") (b := true) ⟨o, ge, ce⟩ isSubtype_stop (wpAny_pure (hQ _ keep)))
end
def It0 : It := ⟨fun _ _ => False, fun _ _ _ _ => False, fun _ _ => True⟩
theorem turn_0 {P : Program} {w : World} {K : PySem.W.Frag} {x : Str} {xp : Pos} {z TI TO : Addr} :
    Turn P w K (.Name x xp) It0 [z, TI, TO] z (fun _ h => IsZG h z TI TO .none (.bool false) ∧ IsTupN h TI #[] ∧ IsTupN h TO #[]) where
  mem := .head _
  obj := fun i h ⟨g0, g1, g2⟩ c hc => by
    simp only [List.mem_cons, List.not_mem_nil, or_false] at hc
    rcases hc with rfl | rfl | rfl
    · exact ⟨_, g0, fun _ q => nomatch q⟩
    · exact ⟨_, g1, fun _ q => nomatch q⟩
    · exact ⟨_, g2, fun _ q => nomatch q⟩
  keep := fun i h h' ⟨g0, g1, g2⟩ k => ⟨k z (by simp) _ g0, k TI (by simp) _ g1, k TO (by simp) _ g2⟩
  item := fun _ _ _ _ _ _ _ _ _ _ _ _ _ _ h => h.elim
  done := by
    intro X hP hw hK hc i pins s σ H E I hf ⟨g0, g1, g2⟩ _
    subst hP hw hK
    refine nextN_none (I.ok.hd hc) g0 g1 fun h' hk => ⟨rfl, ?_⟩
    exact I.kept (t' := s.toks) hk
  self := fun A i s Q E ⟨g0, _⟩ h => by
    have hT : s.TypeIs (.ref z) "zip" := ⟨_, g0, rfl⟩
    refine wpAny_pyIter_slot hT F.slot_zip_iter (wpAny_call_entry F.slot_zip_iter hT F.entry_zip_iter ?_ (F.args_zip_iter_1 _))
    show wpAny _ _ (ret (.ref z)) _ _ s
    exact wpAny_pure ⟨_, rfl, "zip", _, hT, F.slot_zip_next.lookup, h⟩
def iStar (K : PySem.W.Frag) (te : TE) : TI := fun σ H R => te σ H fun y H1 => ∃ a as, y = .ref a ∧ SqL K H1 a (as.map V.ref) ∧ as.length ≤ 8 ∧ (∀ b ∈ as, ∃ xs, SqT K H1 b xs) ∧ R (if as = [] then It0 else ItN K as) H1
theorem vals_refs : ∀ {as : List Addr} {us : List Value}, Vals (as.map V.ref) us → us = as.map Value.ref
  | [], _, .nil => rfl
  | a :: as, _, .cons r rr => by
    rw [vals_refs rr, show _ = Value.ref a from r]
    rfl
def itsOf (n : Nat) (as : List Addr) : List (Addr × Addr) := as.zipIdx.map fun p => (n + p.2, p.1)
theorem itsOf_snd (n : Nat) (as : List Addr) : (itsOf n as).map (·.2) = as := by
  unfold itsOf
  rw [List.map_map]
  exact List.zipIdx_map_fst 0 as
theorem itsOf_fst (n : Nat) (as : List Addr) : (itsOf n as).map (·.1) = (List.range as.length).map fun i => n + i := by
  unfold itsOf
  rw [List.map_map]
  have : (as.zipIdx.map (·.2)).map (fun i => n + i) = (List.range as.length).map fun i => n + i := by
    rw [List.zipIdx_map_snd, List.range_eq_range']
  rw [← this, List.map_map]
  rfl
theorem itsOf_mem {n : Nat} {as : List Addr} {p : Addr × Addr} (h : p ∈ itsOf n as) : ∃ j, as[j]? = some p.2 ∧ p.1 = n + j := by
  unfold itsOf at h
  obtain ⟨⟨a, j⟩, hq, rfl⟩ := List.mem_map.mp h
  exact ⟨j, List.mk_mem_zipIdx_iff_getElem?.mp hq, rfl⟩
theorem pi_star {X : Cx} {e : Expr} {te : TE} {p sp pos xp : Pos} {x : Str} (hg : Gl X "zip") (hm : X.mg "zip" = none) (he : PE X e te)
    (hs : starEach [.Starred e sp] X.env = [(true, eval e X.env)] := by rfl) : PI X (.Name x xp) (.Call (.Name "zip" p) [.Starred e sp] [] pos) (iStar X.K te) := by
  refine ⟨fun pins s σ H R I h => Call_ (ld_blt I hg hm boot_zip ?_)⟩
  rw [hs]
  refine ks_call rfl (P := fun _ => True) (fun h _ => ⟨.machine, .inr (.inl rfl), Looks.of_pure rfl⟩) (ks_lone (thn (he.run pins s σ H _ I h) fun v s1 ⟨y, H1, I1, ry, a, as, ey, hx, hl, ht, q⟩ => ?_))
  subst ey
  obtain rfl : v = Value.ref a := ry
  refine StX.star_any I1 (.inr hx) fun us s2 I2 rv => ⟨trivial, ?_⟩
  rw [vals_refs rv]
  show wpAny _ _ (call (.type "zip") ([] ++ as.map Value.ref) []) _ _ _
  rw [List.nil_append]
  have tups : ∀ b ∈ as, ∃ its, s2.heap.IsTuple b its := fun b hb => by
    obtain ⟨xs, sq⟩ := ht b hb
    obtain ⟨its, _, pt, _⟩ := I2.tuple sq
    exact ⟨_, pt⟩
  have fp : ∀ c, s2.heap.objs.size ≤ c → FpOk X pins H1 c := fun c le => I2.fpOk le (I2.hok.fresh le)
  refine zip_beginsN hl tups fun h' M => ?_
  have hT : ({ s2 with heap := h' } : Shared).TypeIs (.ref (s2.heap.objs.size + as.length + 2)) "zip" := ⟨_, M.z, rfl⟩
  refine wpAny_pyIter_slot hT F.slot_zip_iter (wpAny_call_entry F.slot_zip_iter hT F.entry_zip_iter ?_ (F.args_zip_iter_1 _))
  show wpAny _ _ (ret (.ref _)) _ _ _
  refine wpAny_pure ⟨_, rfl, "zip", _, hT, F.slot_zip_next.lookup, ?_⟩
  have I3 := I2.kept (t' := s2.toks) M.keep
  by_cases hn : as = []
  · subst hn
    rw [if_pos rfl] at q
    refine ⟨s2.heap.objs.size + 2, [s2.heap.objs.size + 2, s2.heap.objs.size, s2.heap.objs.size + 1], _, _, H1, rfl, I3, turn_0, ⟨M.z, M.ti, M.to⟩, fun c hc => fp c ?_, q⟩
    simp only [List.mem_cons, List.not_mem_nil, or_false] at hc
    rcases hc with rfl | rfl | rfl <;> omega
  · rw [if_neg hn] at q
    have lt : ∀ b ∈ as, b < s2.heap.objs.size := fun b hb => by
      obtain ⟨its, o, g, _⟩ := tups b hb
      exact Heap.lt_size g
    have e2 := itsOf_snd s2.heap.objs.size as
    have e1 := itsOf_fst s2.heap.objs.size as
    have e3 : (itsOf s2.heap.objs.size as).map (fun p => Value.ref p.1) = refsFrom s2.heap.objs.size as.length := by
      have := congrArg (List.map Value.ref) e1
      rw [List.map_map, List.map_map] at this
      exact this
    have ll : (itsOf s2.heap.objs.size as).length = as.length := by unfold itsOf; simp
    have mb : ∀ q ∈ bareN (itsOf s2.heap.objs.size as), ∃ j, j < as.length ∧ as[j]? = some q.2.1 ∧ q.1 = s2.heap.objs.size + j ∧ q.2.1 < s2.heap.objs.size := fun q hq => by
      unfold bareN at hq
      obtain ⟨p, hp, rfl⟩ := List.mem_map.mp hq
      obtain ⟨j, hj, e⟩ := itsOf_mem hp
      exact ⟨j, (List.getElem?_eq_some_iff.mp hj).1, hj, e, lt _ (List.mem_of_getElem? hj)⟩
    have D : ApartN (s2.heap.objs.size + as.length + 2) (s2.heap.objs.size + as.length) (s2.heap.objs.size + as.length + 1) (bareN (itsOf s2.heap.objs.size as)) := by
      refine ⟨Nat.ne_of_lt (by omega), Nat.ne_of_lt (by omega), Nat.ne_of_lt (by omega), ?_, fun q hq => ?_, fun q hq => ?_, fun q hq r hr => ?_⟩
      · have : (bareN (itsOf s2.heap.objs.size as)).map (·.1) = (itsOf s2.heap.objs.size as).map (·.1) := by
          unfold bareN
          rw [List.map_map]
          rfl
        rw [this, e1]
        exact List.Pairwise.map _ (fun a b (h : a ≠ b) => fun e => h (Nat.add_left_cancel e)) List.nodup_range
      · obtain ⟨j, h1, h2, h3, h4⟩ := mb q hq
        rw [h3]
        exact ⟨Nat.ne_of_lt (by omega), Nat.ne_of_lt (by omega), (Nat.ne_of_lt (by omega)).symm⟩
      · obtain ⟨j, h1, h2, h3, h4⟩ := mb q hq
        exact ⟨Nat.ne_of_lt (Nat.lt_of_lt_of_le h4 (by omega)), Nat.ne_of_lt (Nat.lt_of_lt_of_le h4 (by omega))⟩
      · obtain ⟨j, h1, h2, h3, h4⟩ := mb q hq
        obtain ⟨j', k1, k2, k3, k4⟩ := mb r hr
        rw [k3]
        exact Nat.ne_of_lt (Nat.lt_of_lt_of_le h4 (by omega))
    have T := turn_N (P := X.prog) (w := X.w) (K := X.K) (x := x) (xp := xp) D (by rw [ll]; exact Nat.le_trans hl (by decide))
    rw [e2] at T
    refine ⟨_, _, _, _, H1, rfl, I3, T, ⟨⟨_, _, M.z, .inl rfl⟩, by rw [e3]; exact M.ti, ⟨_, M.to, by simp [ll]⟩, fun p hp => ?_⟩, fun c hc => fp c ?_, q⟩
    · obtain ⟨j, hj, e⟩ := itsOf_mem hp
      rw [e]
      exact M.it j _ hj
    · rw [e1] at hc
      simp only [List.mem_cons, List.mem_map] at hc
      rcases hc with rfl | rfl | rfl | ⟨j, _, rfl⟩ <;> omega
end DZ

/-! part DZ2 -/
set_option Elab.async false
set_option linter.all false
set_option maxRecDepth 100000
set_option maxHeartbeats 1000000
set_option autoImplicit false
namespace DZ
open PySem PySem.Spec PyProof.Rows L2 RZ
def iTL (K : PySem.W.Frag) (ta : TA) : TI := fun σ H R => ta σ H fun vs H1 => ∃ a b xs ys, vs = [.ref a, .ref b] ∧ SqT K H1 a xs ∧ SqL K H1 b ys ∧ R (ItTL K a b) H1
theorem pi_TL {X : Cx} {e e2 : Expr} {ta : TA} {p pos tpos : Pos} {elts : List Expr} {kk : Nat} (hg : Gl X "zip") (hm : X.mg "zip" = none) (ha : PA X [e, e2] ta)
    (hs : starEach [e, e2] X.env = (false, eval e X.env) :: starEach [e2] X.env := by rfl) (hpl : (backTo pos (starEach [e2] X.env)).any (·.1) = false := by rfl) :
    PI X (.Tuple elts kk tpos) (.Call (.Name "zip" p) [e, e2] [] pos) (iTL X.K ta) := by
  refine ⟨fun pins s σ H R I h => Call_ (ld_blt I hg hm boot_zip (callWith_type1 (thn (ha.run pos pins s σ H _ I h) fun us s1 ⟨vs, H1, I1, r1, a, b, xs, ys, ex, qx, qy, q⟩ => ?_) hs hpl))⟩
  subst ex
  obtain ⟨u1, u2, rfl, r2, r3⟩ : ∃ u1 u2, us = [u1, u2] ∧ RelV (.ref a) u1 ∧ RelV (.ref b) u2 := by
    cases r1 with
    | cons r2 rr => cases rr with
      | cons r3 rr => cases rr; exact ⟨_, _, rfl, r2, r3⟩
  cases r2
  cases r3
  obtain ⟨vs, rv, p1, _⟩ := I1.tuple qx
  obtain ⟨ws, rw', p2, _⟩ := I1.list qy
  obtain ⟨o1, g1, _⟩ := id p1
  refine zip_begins2 (begins_tuple a vs.toArray) (begins_list b ws.toArray) (show s1.heap.IsTuple a vs.toArray from p1) p2.isList fun h' hz hI hO j1 j2 _ hk => wpAny_pyIter_zip hz ?_
  have fp : ∀ c, s1.heap.objs.size ≤ c → FpOk X pins H1 c := fun c le => I1.fpOk le (I1.hok.fresh le)
  refine ⟨s1.heap.objs.size + 4, [s1.heap.objs.size + 4, s1.heap.objs.size + 2, s1.heap.objs.size + 3, s1.heap.objs.size, s1.heap.objs.size + 1], _, _, H1, rfl, I1.kept (t' := s1.toks) hk,
    turn_TL (PySem.W.ktu_apart s1.heap.objs.size a b (Heap.lt_size g1) p2.lt), ⟨hz, hI, ⟨_, _, hO⟩, ⟨_, j1, rfl, rfl⟩, ⟨_, j2, rfl, rfl⟩⟩, fun c hc => fp c ?_, q⟩
  simp only [List.mem_cons, List.not_mem_nil, or_false] at hc
  rcases hc with rfl | rfl | rfl | rfl | rfl <;> omega
end DZ
namespace DV
open PySem PySem.Spec L2
section
variable {X : Cx} {W : WX}
/-- zip of a frozen tuple and a frozen list -/
def fIZipTL (f : SA) : SI := fun ρ μ P => f ρ μ fun xs μ1 => ∃ ds es, xs = [.d (.tup ds), .d (.lst es)] ∧ P (zipD ds es) (fun _ => True) μ1
theorem pdi_zipTL {e e2 : Expr} {elts : List Expr} {kk : Nat} {f : SA} {p pos tpos : Pos} (hg : Gl X "zip") (hm : X.mg "zip" = none) (h : PDA X [e, e2] f)
    (hs : starEach [e, e2] X.env = (false, eval e X.env) :: starEach [e2] X.env := by rfl) (hpl : (backTo pos (starEach [e2] X.env)).any (·.1) = false := by rfl) :
    PDI X (.Tuple elts kk tpos) (.Call (.Name "zip" p) [e, e2] [] pos) (fIZipTL f) := by
  refine ⟨fun ρ μ P P' k q => h.mo ρ μ _ _ (fun x μ1 ⟨n, n2, e, q⟩ => ⟨n, n2, e, k _ _ _ q⟩) q, (DZ.pi_TL hg hm h.run hs hpl).of fun σ H R q => ?_⟩
  obtain ⟨ad, ρ, μ, s, q⟩ := q
  refine ⟨ad, ρ, μ, s, h.mo ρ μ _ _ (fun xs μ1 ⟨ds, es, e, q⟩ vs H1 t1 m1 r1 => ?_) q⟩
  subst e
  obtain ⟨v, u, rfl, r2, r3⟩ := rsa2 r1
  cases r2 with
  | @tup a ws _ h1 h2 =>
    cases r3 with
    | @lst b us _ k1 k2 =>
      refine ⟨a, b, ws, us, rfl, sqT_same hide_same h1, sqL_same hide_same k1, q _ H1 t1 m1 fun H2 ad2 μ2 st m _ => ?_⟩
      have h3 : SqT X.K H2 a ws := sqT_same hide_same (sqT_same st.same h1)
      have k3 : SqL X.K H2 b us := sqL_same hide_same (sqL_same st.same k1)
      have hl := h2.length
      have kl := k2.length
      have hz := zipD_length ds es
      refine ⟨fun i hi => ⟨ws, us, h3, k3, by omega, by omega⟩, ⟨ws, us, h3, k3, by omega⟩, fun i d x H3 e y => ?_⟩
      obtain ⟨T, x', y', rfl, hT, rfl, f, g⟩ := y
      obtain ⟨d1, d2, g1, g2, rfl⟩ := zipD_get e
      obtain ⟨v, q4, q5⟩ := h2.get g1
      obtain ⟨v', q4', q5'⟩ := k2.get g2
      have z1 := f ws h3
      have z2 := g us k3
      rw [q4] at z1
      rw [q4'] at z2
      cases z1
      cases z2
      have st2 : Step ad2 H2 ad2 (upd H2 T (.tup [x', y'])) := Step.new hT
      exact ⟨st2, m.new hT, .tup (.inl (.inl (by rw [hide_out (m.fresh hT)]; exact upd_same))) (.cons (q5.mono (st.trans st2).same) (.cons (q5'.mono (st.trans st2).same) .nil))⟩
end
end DV

/-! part DG -/
set_option Elab.async false
set_option linter.all false
set_option maxRecDepth 100000
set_option maxHeartbeats 1000000
set_option autoImplicit false
namespace DG
open PySem PySem.Spec PyProof.Rows L2 DV
/-- FnOk where nothing is being shown -/
structure GOk (P : Program) (w : World) (K : PySem.W.Frag) (mg : Str → Option Value) (base : Heap) (k : Nat) (f : Addr) (fd : FuncData) (ps : List Str) (sp : Sp) : Prop where
  len : ∀ vs H Q E, sp vs H Q E → vs.length = ps.length
  go : ∀ (A : Around) (outer : List Env) (s : Shared) (H : Hp) (args : Args) (us : List Value) (vs : List V) (Q : VK) (E : XK), A.guards = some [] → Room k A → Env0 P w K mg base A outer s H → BindsTo s fd args (ps.zip us) → Vals vs us →
    sp vs H Q E → codeAny (model P w) A (.call (.ref f) args) (CR CX0 outer P w H s Q E) s
section
variable {P : Program} {w : World} {K : PySem.W.Frag} {mg : Str → Option Value} {base : Heap}
theorem go_of {x qual : Str} {st : Stmt} {f : Addr} {fd : FuncData} {N ps : List Str} {k : Nat} {sp : Sp} (F : Fun K x qual st f fd) (S : FnScope N ps (defScope st)) (len : ∀ vs H Q E, sp vs H Q E → vs.length = ps.length)
    (body : ∀ (cdv : Value) (A : Around) (outer : List Env) (s : Shared) (H : Hp) (vs : List V) (Q : VK) (E : XK), A.guards = some [] → Room k (A.deeper (envOfC qual (defScope st) s.heap.objs.size f cdv)) → sp vs H Q E →
      ∃ t, PSs (cxOf CX0 P w K mg base N qual (defScope st) f cdv A outer s H E).nox (defBody st) t ∧ t { nx := fun _ H' => Q .non H', rt := Q } (start N vs) H) : GOk P w K mg base (k + 1) f fd ps sp := by
  obtain ⟨oc, od, kV, doc, pm, an, cdv, ct, osl, rfl, lk, hcd⟩ := F.ex
  refine ⟨len, fun A outer s H args us vs Q E hgd room e0 bind vals keeps => ?_⟩
  have size := len _ _ _ _ keeps
  have inK : K.In s.heap := e0.mod.kin.keeps fun b o q => (e0.bs b o q).1
  have free : s.heap.NoLimit := e0.mod.nolimit.keeps fun b o q => (e0.bs b o q).1
  have kinds : ∀ y ∈ ps.zip us, (defScope st).names.lookup y.1 = some .local ∨ ((defScope st).names.lookup y.1 = some .cell ∧ ((cellsFrom (s.heap.objs.size + 1) (defScope st).names []).lookup y.1).isSome = true) := fun y hy =>
    (S.par y.1 (List.of_mem_zip (a := y.1) (b := y.2) hy).1).imp id fun q => ⟨q, PySem.W.cellsFrom_some _ _ _ (.inl q)⟩
  refine codeAny_call_function room.depth (inK _ _ lk) rfl S.co S.gen rfl (PySem.W.codeRec_of inK hcd) (bind _ _ _ _ (wpAny_newFunctionEnv_cells S.kind kinds fun env he s1 more => ?_))
  subst he
  refine ⟨free.keeps more.toInCall.keep, codeAny_func ?_⟩
  obtain ⟨t, run, holds⟩ := body cdv A outer s H vs Q E hgd (room.deeper _) keeps
  refine wpAny_mono (run.nox.run [] s1 (start N vs) H _ (inv_start S room.hd e0 size vals more) holds) (fun fl s' at_ => ?_) fun e s' q => q
  cases fl with
  | brk => exact (at_.elim fun _ q => q.elim fun _ q => q.2.elim)
  | cont => exact (at_.elim fun _ q => q.elim fun _ q => q.2.elim)
  | next => obtain ⟨_, H', J, q⟩ := at_; exact ⟨V.non, H', J.os, J.bare, J.base, J.hok, rfl, q⟩
  | ret u => obtain ⟨v, _, H', J, rv, q⟩ := at_; exact ⟨v, H', J.os, J.bare, J.base, J.hok, rv, q⟩
end
section
variable {X : Cx}
theorem pe_go {k : Nat} {f : Addr} {fd : FuncData} {ps : List Str} {sp : Sp} {x : Str} {p pos : Pos} {e : Expr} {es : List Expr} {t : TA} (F : GOk X.prog X.w X.K X.mg X.base k f fd ps sp) (hgd : X.A.guards = some []) (hr : Room k X.A) (hg : Gl X x)
    (hm : X.mg x = some (.ref f)) (hk : PySem.W.keepIn X.K (.ref f) = true) (hb : Binds X.K fd ps []) (ha : PA X (e :: es) t) (hdb : (x == ("__debug__" : Str)) = false) (he : starEach (e :: es) X.env = (false, eval e X.env) :: starEach es X.env)
    (hpl : (backTo pos (starEach es X.env)).any (·.1) = false) : PE X (.Call (.Name x p) (e :: es) [] pos) (tCall sp [] E0 t) := by
  refine ⟨fun pins s σ H Q I h => wpAny_Call_Name_kw (ld_glob I hg hm (PySem.W.callWith_K (h₀ := X.base) I.ok.mod.kin hk (thn (ha.run pos pins s σ H _ I h) fun us s1 ⟨vs, H1, I1, r, q⟩ => ⟨I1.kIn, ?_⟩) he hpl) hdb)⟩
  have q' : sp vs H1 Q E0 := by have z : sp (vs ++ []) H1 Q E0 := q; rwa [List.append_nil] at z
  have hl : us.length = ps.length := by rw [← r.length]; exact F.len _ _ _ _ q'
  have hbd := hb s1 us I1.kIn (by rw [List.append_nil]; exact hl)
  rw [List.append_nil] at hbd
  refine wpAny_call (codeAny_mono (F.go X.A X.stack s1 H1 ⟨us, []⟩ us vs Q E0 hgd hr I1.env0 hbd r q') fun fl s' hq => ?_)
  match fl, hq with
  | .error e, hq => exact pass0 pins σ H1 s1 e s' I1 hq
  | .ok (.ret u), hq => exact I1.after hq
  | .ok .next, hq => exact False.elim hq
  | .ok .brk, hq => exact False.elim hq
  | .ok .cont, hq => exact False.elim hq
end
end DG

/-! part DG2 -/
set_option Elab.async false
set_option linter.all false
set_option maxRecDepth 100000
set_option maxHeartbeats 1000000
set_option autoImplicit false
namespace DV
open PySem PySem.Spec L2
open PyProof.Rows (envOfC)
theorem ok_defg {P : Program} {w : World} {K : PySem.W.Frag} {mg : Str → Option Value} {base : Heap} {x qual : Str} {st : Stmt} {f : Addr} {fd : FuncData} {N ps : List Str} {k : Nat} {T : TF} {fb : SS} (F : Fun K x qual st f fd) (S : FnScope N ps (defScope st))
    (hb : ∀ (cdv : Value) (A : Around) (outer : List Env) (s : Shared) (H : Hp) (E : XK), A.guards = some [] → Room k (A.deeper (envOfC qual (defScope st) s.heap.objs.size f cdv)) → PDSs (cxOf CX0 P w K mg base N qual (defScope st) f cdv A outer s H E).nox WZ (defBody st) fb)
    (hT : ∀ ss μ (Q : D → Mu → Prop), ss.length = ps.length → T ss μ Q → fb (startR N ss) μ (kD μ.length Q)) : DG.GOk P w K mg base (k + 1) f fd ps (spT ps.length K T) := by
  refine DG.go_of F S (fun vs H Q E h => ?_) (fun cdv A outer s H vs Q E hgd hr h => ?_)
  · obtain ⟨ad, ss, μ, r, m, l, _⟩ := h
    rw [rpSA_len r]
    exact l
  · obtain ⟨ad, ss, μ, r, m, l, q⟩ := h
    have B := hb cdv A outer s H E hgd hr
    refine ⟨_, B.run, ad, startR N ss, μ, sim_start m r, B.mo _ _ _ _ ?_ (hT ss μ _ l q)⟩
    have hl := m.len
    have less : ∀ {ad' : List Addr} {H' : Hp}, Step ad H ad' H' → Step ad H ad H' := fun t => ⟨List.prefix_refl _, fun b o h e => ⟨h, (t.keep b o h e).2⟩⟩
    refine ⟨fun ρ' μ' q σ' H' ad' t s' => ?_, fun y μ' q v H' ad' t m' rv => ?_, fun _ _ q => q.elim, fun _ _ q => q.elim, fun _ _ _ q => q.elim⟩
    · obtain ⟨m2, sm⟩ := s'.m.take t.pre
      rw [hl] at m2
      exact q .non H' (less t) m2 .non
    · obtain ⟨d, e, q⟩ := q
      obtain ⟨m2, sm⟩ := m'.take t.pre
      rw [hl] at m2
      refine q v H' (less t) m2 ?_
      cases y with
      | d y => cases e; exact Rp.mono sm rv
      | ex _ _ _ _ => cases e
      | m j =>
        unfold fin at e
        simp only at e
        split at e
        · cases e
        · cases e2 : μ'[j]? with
          | none => rw [e2] at e; cases e
          | some ds =>
            rw [e2] at e
            cases e
            obtain ⟨a, h1, rfl⟩ := rv
            obtain ⟨b, xs, q1, q2, q3⟩ := m'.at_ j ds e2
            rw [h1] at q1
            cases q1
            refine .lst (xs := xs) (.inl (.inl ?_)) (q3.mono sm)
            rw [hide_out fun z => ?_]
            · exact q2
            · rename_i hj
              obtain ⟨t', e3⟩ := t.pre
              subst e3
              have hnd := m'.nd
              obtain ⟨l1, e4⟩ := List.getElem?_eq_some_iff.mp h1
              obtain ⟨i, hi, e5⟩ := List.getElem_of_mem z
              have : (ad ++ t')[i]'(by rw [List.length_append]; omega) = a := by rw [List.getElem_append_left hi]; exact e5
              have hij := (List.getElem_inj hnd).mp (this.trans e4.symm)
              omega

/-- a def that keeps its promise where nothing is being shown -/
def DefOkG (P : Program) (w : World) (K : PySem.W.Frag) (mg : Str → Option Value) (base : Heap) (x : Str) (k n : Nat) (T : TF) : Prop :=
  MonF T ∧ ∃ f fd ps, mg x = some (.ref f) ∧ PySem.W.keepIn K (.ref f) = true ∧ Binds K fd ps [] ∧ DG.GOk P w K mg base k f fd ps (spT n K T)
theorem ok_defDG {P : Program} {w : World} {K : PySem.W.Frag} {mg : Str → Option Value} {base : Heap} {x : Str} {st : Stmt} {N ps : List Str} {k : Nat} {T : TF} {fb : SS} (t : Top K mg x st ps) (S : FnScope N ps (defScope st)) (mT : MonF T)
    (hb : ∀ (f : Addr) (cdv : Value) (A : Around) (outer : List Env) (s : Shared) (H : Hp) (E : XK), A.guards = some [] → Room k (A.deeper (envOfC x (defScope st) s.heap.objs.size f cdv)) → PDSs (cxOf CX0 P w K mg base N x (defScope st) f cdv A outer s H E).nox WZ (defBody st) fb)
    (hT : ∀ ss μ (Q : D → Mu → Prop), ss.length = ps.length → T ss μ Q → fb (startR N ss) μ (kD μ.length Q)) : DefOkG P w K mg base x (k + 1) ps.length T := by
  obtain ⟨f, fd, F, b, g⟩ := t
  exact ⟨mT, f, fd, ps, g, F.kp, b, ok_defg F S (fun cdv A outer s H E hgd hr => hb f cdv A outer s H E hgd hr) hT⟩
section
variable {X : Cx} {W : WX}
theorem pd_callDG {x : Str} {k n : Nat} {T : TF} {p pos : Pos} {e : Expr} {es : List Expr} {f : SA} (C : DefOkG X.prog X.w X.K X.mg X.base x k n T) (hgd : X.A.guards = some []) (hr : Room k X.A) (hg : Gl X x) (h : PDA X (e :: es) f)
    (hdb : (x == ("__debug__" : Str)) = false := by decide) (he : starEach (e :: es) X.env = (false, eval e X.env) :: starEach es X.env := by rfl) (hpl : (backTo pos (starEach es X.env)).any (·.1) = false := by rfl) :
    PD X (.Call (.Name x p) (e :: es) [] pos) (fCall n T f) := by
  obtain ⟨mT, fa, fd, ps, g, kp, b, F⟩ := C
  exact pd_call mT h.mo (DG.pe_go F hgd hr hg g kp b h.run hdb he hpl)
/-! ### repr -/
/-- what may be shown: depth up to k, up to n signs -/
def Sh (k n : Nat) (d : D) : Prop := d.py.showable = true ∧ d.py.hasDict = false ∧ d.py.depth ≤ k ∧ d.py.shown.length ≤ n
def shD (d : D) : Str := d.py.shown
theorem sh_int {i : Int} (h : i.natAbs.log2 < 1920) : Sh 0 1921 (.int i) := ⟨by simpa [D.py, PyData.showable] using h, rfl, Nat.le_refl _, by
  show (PyData.shown (.int i)).length ≤ 1921
  unfold PyData.shown
  exact PyProof.Rows.int_text_len_1921 h⟩
theorem Sh.mono {k l n m : Nat} {d : D} (h : Sh k n d) (h1 : k ≤ l) (h2 : n ≤ m) : Sh l m d := ⟨h.1, h.2.1, Nat.le_trans h.2.2.1 h1, Nat.le_trans h.2.2.2 h2⟩
theorem sh_all {k n : Nat} : ∀ {ds : List D}, (∀ d ∈ ds, Sh k n d) → PyData.showableAll (pyA ds) = true ∧ PyData.hasDictAll (pyA ds) = false ∧ PyData.depthAll (pyA ds) ≤ k ∧ ((PyData.shownAll (pyA ds)).map (·.length)).sum ≤ ds.length * n ∧ (PyData.shownAll (pyA ds)).length = ds.length
  | [], _ => ⟨rfl, rfl, Nat.zero_le _, Nat.zero_le _, rfl⟩
  | d :: r, h => by
    obtain ⟨a1, a2, a3, a4⟩ := h d (by simp)
    obtain ⟨b1, b2, b3, b4, b5⟩ := sh_all (ds := r) fun x hx => h x (List.mem_cons_of_mem _ hx)
    refine ⟨?_, ?_, ?_, ?_, ?_⟩
    · simp only [pyA, PyData.showableAll, a1, b1, Bool.and_self]
    · simp only [pyA, PyData.hasDictAll, a2, b2, Bool.or_self]
    · simp only [pyA, PyData.depthAll]
      omega
    · simp only [pyA, PyData.shownAll, List.map_cons, List.sum_cons, List.length_cons, Nat.add_mul, Nat.one_mul]
      omega
    · simp only [pyA, PyData.shownAll, List.length_cons, b5]
theorem sh_tup {k n : Nat} {ds : List D} (h : ∀ d ∈ ds, Sh k n d) : Sh (k + 1) (ds.length * n + 2 * ds.length + 3) (.tup ds) := by
  obtain ⟨b1, b2, b3, b4, b5⟩ := sh_all h
  refine ⟨by simpa only [D.py, PyData.showable] using b1, by simpa only [D.py, PyData.hasDict] using b2, by simp only [D.py, PyData.depth]; omega, ?_⟩
  have q := tupleText_len_le (PyData.shownAll (pyA ds))
  simp only [D.py, PyData.shown]
  omega
theorem sh_lst {k n : Nat} {ds : List D} (h : ∀ d ∈ ds, Sh k n d) : Sh (k + 1) (ds.length * n + 2 * ds.length + 3) (.lst ds) := by
  obtain ⟨b1, b2, b3, b4, b5⟩ := sh_all h
  refine ⟨by simpa only [D.py, PyData.showable] using b1, by simpa only [D.py, PyData.hasDict] using b2, by simp only [D.py, PyData.depth]; omega, ?_⟩
  have q := listText_len_le (PyData.shownAll (pyA ds))
  simp only [D.py, PyData.shown]
  omega
def rRepr (K : PySem.W.Frag) : List V → Hp → VK → Prop := fun xs H Q => ∃ (a : Addr) (d : PyData), xs = [.ref a] ∧ Dp K H (.ref a) d ∧ (d.showable = true ∧ d.hasDict = false ∧ d.depth ≤ 10 ∧ d.shown.length ≤ sizeLine) ∧ Q (.str d.shown) H
theorem call_repr (hgd : X.A.guards = some []) {k : Nat} (hr : Room k X.A) : CallR X (.builtin "repr") (rRepr X.K) := by
  intro pins s σ H xs us Q I r h
  obtain ⟨a, d, rfl, dp, ⟨h1, h2, h3, h4⟩, q⟩ := h
  obtain ⟨u, rfl, rfl⟩ : ∃ u, us = [u] ∧ u = Value.ref a := by
    cases r with
    | cons r rr => cases rr; exact ⟨_, rfl, r⟩
  obtain ⟨as, rd⟩ := Dp.reads I d (.ref a) (.ref a) dp rfl
  have un := hr.un
  exact repr_of_reads' rd h1 (PyData.noDict_hsm h2) hgd (by omega) (fun _ _ e => e) (fun h' u tk hk => ⟨.str d.shown, H, I.kept hk, ⟨u, rfl⟩, q⟩) h4
def gRepr (ss : List S) (_ : Mu) : Option D := match ss with
  | [.d (.tup ds)] => some (.str (shD (.tup ds)))
  | [.d (.lst ds)] => some (.str (shD (.lst ds)))
  | _ => none
def cRepr (ss : List S) (_ : Mu) : Prop := match ss with
  | [.d d] => Sh 10 1000000 d
  | _ => True
theorem snd_repr : SoundA X.K (rRepr X.K) (gA cRepr gRepr) := by
  intro vs ss H ad μ Q m r h
  obtain ⟨h1, d, h2, h3⟩ := h
  have big : 1000000 ≤ sizeLine := by decide
  unfold gRepr at h2
  split at h2
  · rename_i ds
    cases h2
    obtain ⟨v, rfl, r1⟩ := rsa1 r
    cases r1 with
    | tup q1 q2 => exact ⟨_, _, rfl, Rp.dp (Rp.mono hide_same (.tup q1 q2)) (plain_of h1.2.1), ⟨h1.1, h1.2.1, h1.2.2.1, Nat.le_trans h1.2.2.2 big⟩, h3 _ H (Step.refl _ _) m (.str _)⟩
  · rename_i ds
    cases h2
    obtain ⟨v, rfl, r1⟩ := rsa1 r
    cases r1 with
    | lst q1 q2 => exact ⟨_, _, rfl, Rp.dp (Rp.mono hide_same (.lst q1 q2)) (plain_of h1.2.1), ⟨h1.1, h1.2.1, h1.2.2.1, Nat.le_trans h1.2.2.2 big⟩, h3 _ H (Step.refl _ _) m (.str _)⟩
  · cases h2
end
end DV

/-! part DVT -/
set_option Elab.async false
set_option linter.all false
set_option maxRecDepth 100000
set_option autoImplicit false
namespace DV
open PySem PySem.Spec L2
open PyProof.Rows (envOfC)
/-- a def that keeps its promise, with its text -/
def DefOkT (P : Program) (w : World) (K : PySem.W.Frag) (mg : Str → Option Value) (base : Heap) (x : Str) (st : Stmt) (ps : List Str) (k : Nat) (T : TF) : Prop :=
  MonF T ∧ ∃ f fd, Fun K x x st f fd ∧ Binds K fd ps [] ∧ mg x = some (.ref f) ∧ FnOk P w K mg base CX0 k f fd ps (spT ps.length K T)
section
variable {P : Program} {w : World} {K : PySem.W.Frag} {mg : Str → Option Value} {base : Heap} {x : Str} {st : Stmt} {N ps ks : List Str} {k : Nat} {T : TF} {fb : SS} {is : List Nat}
theorem ok_defT (t : Top K mg x st ps) (S : FnScope N ps (defScope st)) (mT : MonF T)
    (hb : ∀ (f : Addr) (cdv : Value) (A : Around) (outer : List Env) (s : Shared) (H : Hp) (E : XK), Room k (A.deeper (envOfC x (defScope st) s.heap.objs.size f cdv)) → PDSs (cxOf CX0 P w K mg base N x (defScope st) f cdv A outer s H E).nox WZ (defBody st) fb)
    (hT : ∀ ss μ (Q : D → Mu → Prop), ss.length = ps.length → T ss μ Q → fb (startR N ss) μ (kD μ.length Q)) : DefOkT P w K mg base x st ps (k + 1) T := by
  obtain ⟨f, fd, F, b, g⟩ := t
  exact ⟨mT, f, fd, F, b, g, ok_def F S (fun cdv A outer s H E hr => hb f cdv A outer s H E hr) hT⟩
theorem DefOkT.ok (h : DefOkT P w K mg base x st ps k T) : DefOk P w K mg base x k ps.length T := by
  obtain ⟨mT, f, fd, F, b, g, ok⟩ := h
  exact ⟨mT, f, fd, ps, g, F.kp, b, ok⟩
/-- the places told, in this order -/
def pick {α : Type} (is : List Nat) (l : List α) : List α := is.filterMap fun i => l[i]?
def kwS {α : Type} (n : Nat) (is : List Nat) (l : List α) : List α := if l.length = n then pick is l else []
theorem pick_rel {α β : Type} {R : α → β → Prop} {F : List α → List β → Prop} (nil : F [] []) (cons : ∀ a b l m, R a b → F l m → F (a :: l) (b :: m)) {l : List α} {m : List β} (h : ∀ i : Nat, (l[i]? = none ∧ m[i]? = none) ∨ ∃ a b, l[i]? = some a ∧ m[i]? = some b ∧ R a b) : ∀ is : List Nat, F (pick is l) (pick is m)
  | [] => nil
  | i :: is => by
    have ih := pick_rel nil cons h is
    unfold pick at ih ⊢
    rcases h i with ⟨h1, h2⟩ | ⟨a, b, h1, h2, r⟩
    · rw [List.filterMap_cons_none h1, List.filterMap_cons_none h2]
      exact ih
    · rw [List.filterMap_cons_some h1, List.filterMap_cons_some h2]
      exact cons a b _ _ r ih
theorem vals_at : ∀ {vs : List V} {us : List Value}, Vals vs us → ∀ i : Nat, (vs[i]? = none ∧ us[i]? = none) ∨ ∃ a b, vs[i]? = some a ∧ us[i]? = some b ∧ RelV a b
  | _, _, .nil, i => .inl ⟨rfl, rfl⟩
  | _, _, .cons r rs, 0 => .inr ⟨_, _, rfl, rfl, r⟩
  | _, _, .cons r rs, i + 1 => vals_at rs i
theorem rpSA_at {F : Hp} {ad : List Addr} : ∀ {vs : List V} {ss : List S}, RpSA K F ad vs ss → ∀ i : Nat, (vs[i]? = none ∧ ss[i]? = none) ∨ ∃ a b, vs[i]? = some a ∧ ss[i]? = some b ∧ RpS K F ad a b
  | _, _, .nil, i => .inl ⟨rfl, rfl⟩
  | _, _, .cons r rs, 0 => .inr ⟨_, _, rfl, rfl, r⟩
  | _, _, .cons r rs, i + 1 => rpSA_at rs i
/-- a def that keeps its promise when it is called with these keywords alone -/
def DefOkK (P : Program) (w : World) (K : PySem.W.Frag) (mg : Str → Option Value) (base : Heap) (x : Str) (k n : Nat) (ks : List Str) (T : TF) (is : List Nat) : Prop :=
  MonF T ∧ ∃ f fd ps, mg x = some (.ref f) ∧ PySem.W.keepIn K (.ref f) = true ∧ KBinds K fd ps ks (fun us ws => if us.length = 0 then kwS ks.length is ws else []) (fun us ws => if us.length = 0 then kwS ks.length is ws else []) ∧ FnOk P w K mg base CX0 k f fd ps (spT n K T)
theorem DefOkT.kw (h : DefOkT P w K mg base x st ps k T) (hp : ps ≠ [])
    (hb : ∀ (kV doc pm : Value) (an : Option Addr) (cdv ct : Value) (ws : List Value), ws.length = ks.length → bindArgs (PySem.W.fnOf x x (defArgs st) (defBody st) (defScope st) .none kV doc pm an cdv ct) ⟨[], ks.zip ws⟩ = pure (ps.zip (pick is ws))) : DefOkK P w K mg base x k ps.length ks T is := by
  obtain ⟨mT, f, fd, F, b, g, ok⟩ := h
  refine ⟨mT, f, fd, ps, g, F.kp, ⟨fun s us ws _ hl => ?_, fun {vs us zs ws} r1 r2 => ?_⟩, ok⟩
  · have hp' : ps.length ≠ 0 := fun e => hp (List.length_eq_zero_iff.mp e)
    by_cases c : us.length = 0
    · rw [if_pos c] at hl ⊢
      unfold kwS at hl ⊢
      by_cases d : ws.length = ks.length
      · rw [if_pos d] at hl ⊢
        obtain ⟨oc, od, kV, doc, pm, an, cdv, ct, osl, rfl, lk, hcd⟩ := F.ex
        rw [List.length_eq_zero_iff.mp c]
        exact .of_eq (hb kV doc pm an cdv ct ws d)
      · rw [if_neg d] at hl
        exact absurd hl.symm hp'
    · rw [if_neg c] at hl
      exact absurd hl.symm hp'
  · have l1 := r1.length
    have l2 := r2.length
    by_cases c : us.length = 0
    · rw [if_pos c, if_pos (l1.trans c)]
      unfold kwS
      by_cases d : ws.length = ks.length
      · rw [if_pos d, if_pos (l2.trans d)]
        exact pick_rel (R := RelV) (F := Vals) .nil (fun a b l m r q => .cons r q) (vals_at r2) is
      · rw [if_neg d, if_neg (fun e => d (l2.symm.trans e))]
        exact .nil
    · rw [if_neg c, if_neg (fun e => c (l1.symm.trans e))]
      exact .nil
end
section
variable {X : Cx} {W : WX}
theorem pd_callKD {x : Str} {k n : Nat} {ks : List Str} {T : TF} {is : List Nat} {p pos : Pos} {kws : List Keyword} {f : SA} (C : DefOkK X.prog X.w X.K X.mg X.base x k n ks T is) (hr : Room k X.A) (hg : Gl X x) (h : PDK X kws f)
    (hall : (backToKw pos (keywordEach kws X.env)).all (·.1.isSome) = true := by rfl) (hks : (backToKw pos (keywordEach kws X.env)).filterMap (·.1) = ks := by rfl)
    (hdb : (x == ("__debug__" : Str)) = false := by decide)
    (hpl : ((backTo pos (starEach [] X.env)).any (·.1) || (backToKw pos (keywordEach kws X.env)).any (·.1.isNone)) = false := by rfl) :
    PD X (.Call (.Name x p) [] kws pos) (fCallK n T (kwS ks.length is) f) := by
  obtain ⟨mT, fa, fd, ps, g, kp, b, F⟩ := C
  refine pd_callK mT h.mo (fun F ad vs ss r => ?_) (pe_callK0 (E := E0) F hr hg g kp b pass0 h.run hall hks hdb hpl)
  have l := rpSA_len r
  rw [if_pos (show ([] : List V).length = 0 from rfl)]
  unfold kwS
  by_cases d : ss.length = ks.length
  · rw [if_pos d, if_pos (l.trans d)]
    exact pick_rel (R := RpS X.K F ad) (F := RpSA X.K F ad) .nil (fun a b l m r q => .cons r q) (rpSA_at r) is
  · rw [if_neg d, if_neg (fun e => d (l.symm.trans e))]
    exact .nil
end
end DV

/-! part DN -/
set_option Elab.async false
set_option linter.all false
set_option maxRecDepth 100000
set_option maxHeartbeats 1000000
set_option autoImplicit false
namespace DV
open PySem PySem.Spec L2
open PyProof.Rows (envOfC)
/-! ### defs that return a new list, and such a list passed on alone -/
abbrev TFN := List S → Mu → (List D → Mu → Prop) → Prop
def MonFN (T : TFN) : Prop := ∀ ss μ (P P' : List D → Mu → Prop), (∀ d μ', P d μ' → P' d μ') → T ss μ P → T ss μ P'
def spN (n : Nat) (K : PySem.W.Frag) (T : TFN) : Sp := fun vs H Q _ => ∃ ad ss μ, RpSA K (hide ad H) ad vs ss ∧ RpM K H ad μ ∧ ss.length = n ∧ T ss μ fun ds μ' => ∀ p H', H p = none → Step ad H (ad ++ [p]) H' → RpM K H' (ad ++ [p]) (μ' ++ [ds]) → Q (.ref p) H'
def kN (n : Nat) (P : List D → Mu → Prop) : K4 where
  nx := fun _ _ => False
  rt := fun x μ' => ∃ j ds, x = .m j ∧ ¬ j < n ∧ μ'[j]? = some ds ∧ P ds (μ'.take n)
  bk := fun _ _ => False
  ct := fun _ _ => False
  er := fun _ _ _ => False
def DefOkN (P : Program) (w : World) (K : PySem.W.Frag) (mg : Str → Option Value) (base : Heap) (x : Str) (k n : Nat) (T : TFN) : Prop :=
  MonFN T ∧ ∃ f fd ps, mg x = some (.ref f) ∧ PySem.W.keepIn K (.ref f) = true ∧ Binds K fd ps [] ∧ FnOk P w K mg base CX0 k f fd ps (spN n K T)
theorem ok_defN {P : Program} {w : World} {K : PySem.W.Frag} {mg : Str → Option Value} {base : Heap} {x : Str} {st : Stmt} {N ps : List Str} {k : Nat} {T : TFN} {fb : SS} (t : Top K mg x st ps) (S : FnScope N ps (defScope st)) (mT : MonFN T)
    (hb : ∀ (f : Addr) (cdv : Value) (A : Around) (outer : List Env) (s : Shared) (H : Hp) (E : XK), Room k (A.deeper (envOfC x (defScope st) s.heap.objs.size f cdv)) → PDSs (cxOf CX0 P w K mg base N x (defScope st) f cdv A outer s H E).nox WZ (defBody st) fb)
    (hT : ∀ ss μ (Q : List D → Mu → Prop), ss.length = ps.length → T ss μ Q → fb (startR N ss) μ (kN μ.length Q)) : DefOkN P w K mg base x (k + 1) ps.length T := by
  obtain ⟨f, fd, F, b, g⟩ := t
  refine ⟨mT, f, fd, ps, g, F.kp, b, F.ok S (fun vs H Q E h => ?_) (fun cdv A outer s H vs Q E hr h => ?_)⟩
  · obtain ⟨ad, ss, μ, r, m, l, _⟩ := h
    rw [rpSA_len r]
    exact l
  · obtain ⟨ad, ss, μ, r, m, l, q⟩ := h
    have B := hb f cdv A outer s H E hr
    refine ⟨_, B.run, ad, startR N ss, μ, sim_start m r, B.mo _ _ _ _ ?_ (hT ss μ _ l q)⟩
    have hl := m.len
    refine ⟨fun ρ' μ' q => q.elim, fun y μ' q v H' ad' t m' rv => ?_, fun _ _ q => q.elim, fun _ _ q => q.elim, fun _ _ _ q => q.elim⟩
    obtain ⟨j, ds, rfl, hj, e2, q⟩ := q
    obtain ⟨a, h1, rfl⟩ := rv
    obtain ⟨c, xs, q1, q2, q3⟩ := m'.at_ j ds e2
    rw [h1] at q1
    cases q1
    have hin : a ∈ ad' := List.mem_of_getElem? h1
    have hna : a ∉ ad := fun z => by
      obtain ⟨t', e3⟩ := t.pre
      subst e3
      have hnd := m'.nd
      obtain ⟨l1, e4⟩ := List.getElem?_eq_some_iff.mp h1
      obtain ⟨i, hi, e5⟩ := List.getElem_of_mem z
      have : (ad ++ t')[i]'(by rw [List.length_append]; omega) = a := by rw [List.getElem_append_left hi]; exact e5
      have hij := (List.getElem_inj hnd).mp (this.trans e4.symm)
      omega
    have hfree : H a = none := by
      cases e : H a with
      | none => rfl
      | some o => exact absurd hin (t.keep a o hna e).1
    obtain ⟨m2, _⟩ := m'.take t.pre
    rw [hl] at m2
    have sub : ∀ b, b ∈ ad ++ [a] → b ∈ ad' := fun b hb => by
      rcases List.mem_append.mp hb with hb | hb
      · exact t.pre.subset hb
      · rw [List.mem_singleton] at hb; rw [hb]; exact hin
    have sm : Same (hide ad' H') (hide (ad ++ [a]) H') := fun b o e => by
      obtain ⟨h, e1⟩ := hide_some e
      rw [hide_out fun q => h (sub b q)]
      exact e1
    refine q a H' hfree ⟨List.prefix_append _ _, fun b o hb e => ⟨fun z => ?_, (t.keep b o hb e).2⟩⟩ ⟨?_, ?_, fun i es q => ?_⟩
    · exact (t.keep b o hb e).1 (sub b z)
    · have := m2.len
      rw [List.length_append, List.length_append, this]
      rfl
    · rw [List.nodup_append]
      exact ⟨m2.nd, by simp, fun x hx y hy e => by rw [List.mem_singleton] at hy; subst hy; subst e; exact hna hx⟩
    · have h2 := m2.len
      by_cases c : i < (μ'.take μ.length).length
      · rw [List.getElem?_append_left c] at q
        rw [List.getElem?_take] at q
        split at q
        · obtain ⟨b, ys, w1, w2, w3⟩ := m'.at_ i es q
          have hi : i < ad.length := by omega
          refine ⟨b, ys, ?_, w2, w3.mono sm⟩
          obtain ⟨t', e3⟩ := t.pre
          subst e3
          rw [List.getElem?_append_left hi] at w1 ⊢
          exact w1
        · cases q
      · rw [List.getElem?_append_right (by omega)] at q
        have hi : i - (μ'.take μ.length).length = 0 := by
          cases z : i - (μ'.take μ.length).length with
          | zero => rfl
          | succ z' => rw [z] at q; cases q
        rw [hi] at q
        cases q
        have hil : i = ad.length := by omega
        refine ⟨a, xs, ?_, q2, q3.mono sm⟩
        rw [hil, List.getElem?_append_right (Nat.le_refl _), Nat.sub_self]
        rfl
section
variable {X : Cx} {W : WX} {pos p : Pos}
def fRetN (f : SN) : SS := fun ρ μ k => f ρ μ fun ds μ1 => k.rt (.m μ1.length) (μ1 ++ [ds])
theorem pd_retN {e : Expr} {f : SN} (h : PDN X e f) : PDS X W (.Return (some e) pos) (fRetN f) := by
  refine ⟨fun ρ μ k k' l q => h.mo ρ μ _ _ (fun ds μ1 q => l.rt _ _ q) q, (ps_ret h.run).of fun Dn σ H q => ?_⟩
  obtain ⟨ad, ρ, μ, s, q⟩ := q
  exact ⟨ad, ρ, μ, s, h.mo ρ μ _ _ (fun ds μ1 q a H' _ t m => q (.ref a) H' (ad ++ [a]) t m ⟨a, last_ad m, rfl⟩) q⟩
def fCallN (n : Nat) (T : TFN) (f : SA) : SN := fun ρ μ P => f ρ μ fun ss μ1 => ss.length = n ∧ T ss μ1 P
theorem pdn_callN {x : Str} {k n : Nat} {T : TFN} {e : Expr} {es : List Expr} {f : SA} (C : DefOkN X.prog X.w X.K X.mg X.base x k n T) (hr : Room k X.A) (hg : Gl X x) (h : PDA X (e :: es) f)
    (hdb : (x == ("__debug__" : Str)) = false := by decide) (he : starEach (e :: es) X.env = (false, eval e X.env) :: starEach es X.env := by rfl) (hpl : (backTo pos (starEach es X.env)).any (·.1) = false := by rfl) :
    PDN X (.Call (.Name x p) (e :: es) [] pos) (fCallN n T f) := by
  obtain ⟨mT, fa, fd, ps, g, kp, b, F⟩ := C
  refine ⟨fun ρ μ P P' k q => h.mo ρ μ _ _ (fun ss μ1 q => ⟨q.1, mT ss μ1 _ _ k q.2⟩) q, (pe_call (E := E0) F hr hg g kp b .nil pass0 h.run hdb he hpl).of fun σ H Q q => ?_⟩
  obtain ⟨ad, ρ, μ, s, q⟩ := q
  refine ⟨ad, ρ, μ, s, h.mo ρ μ _ _ (fun ss μ1 q vs H1 t1 m1 r1 => ?_) q⟩
  show spN n X.K T (vs ++ []) H1 Q E0
  rw [List.append_nil]
  exact ⟨ad, ss, μ1, r1, m1, q.1, mT ss μ1 _ _ (fun ds μ2 q a H2 ha t2 m2 => q a H2 (free_back s.m t1 m1 a ha) (t1.trans t2) m2) q.2⟩
/-- f(a new list), which tells a truth -/
def fCallOn (T : TF) (f : SN) : SE := fun ρ μ P => f ρ μ fun ds μ1 => T [.m 0] [ds] fun d _ => ∃ b, d = .bl b ∧ P (.d (.bl b)) μ1
theorem pd_callOn {x : Str} {k : Nat} {T : TF} {e : Expr} {f : SN} (C : DefOkG X.prog X.w X.K X.mg X.base x k 1 T) (hgd : X.A.guards = some []) (hr : Room k X.A) (hg : Gl X x) (h : PDN X e f)
    (hdb : (x == ("__debug__" : Str)) = false := by decide) (he : starEach [e] X.env = (false, eval e X.env) :: starEach [] X.env := by rfl) (hpl : (backTo pos (starEach [] X.env)).any (·.1) = false := by rfl) :
    PD X (.Call (.Name x p) [e] [] pos) (fCallOn T f) := by
  obtain ⟨mT, fa, fd, ps, g, kp, b, F⟩ := C
  refine ⟨fun ρ μ P P' k q => h.mo ρ μ _ _ (fun ds μ1 q => mT _ _ _ _ (fun d μ2 ⟨b, e, q⟩ => ⟨b, e, k _ _ q⟩) q) q, (DG.pe_go F hgd hr hg g kp b (pa_cons h.run pa_nil he) hdb he hpl).of fun σ H Q q => ?_⟩
  obtain ⟨ad, ρ, μ, s, q⟩ := q
  refine ⟨ad, ρ, μ, s, h.mo ρ μ _ _ (fun ds μ1 q a H' ha t m => ?_) q⟩
  have hlast : (μ1 ++ [ds])[μ1.length]? = some ds := by rw [List.getElem?_append_right (Nat.le_refl _), Nat.sub_self]; rfl
  obtain ⟨a2, xs, g1, g2, g3⟩ := m.at_ _ _ hlast
  rw [last_ad m] at g1
  cases g1
  obtain ⟨mm, _, hna⟩ := m.last
  have sm1 : Same (hide (ad ++ [a]) H') (hide [a] H') := fun b o e => by
    obtain ⟨h, e1⟩ := hide_some e
    rw [hide_out fun q => h (List.mem_append_right _ q)]
    exact e1
  have m1 : RpM X.K H' [a] [ds] := ⟨rfl, by simp, fun j es q => by
    cases j with
    | zero => cases q; exact ⟨a, xs, rfl, g2, g3.mono sm1⟩
    | succ j => cases q⟩
  show spT 1 X.K T ([V.ref a] ++ []) H' Q E0
  refine ⟨[a], [.m 0], [ds], .cons ⟨a, rfl, rfl⟩ .nil, m1, rfl, mT _ _ _ _ (fun d μ2 ⟨b, e, q⟩ v H2 t2 m2 r2 => ?_) q⟩
  subst e
  cases r2
  have keep : ∀ c o, c ∉ ad ++ [a] → H' c = some o → H2 c = some o := fun c o hc e => (t2.keep c o (fun z => hc (List.mem_append_right _ z)) e).2
  refine q (.bl b) H2 ⟨List.prefix_refl _, fun c o hc e => ?_⟩ ⟨mm.len, mm.nd, fun j es q => ?_⟩ (.bl b)
  · obtain ⟨h1, h2⟩ := t.keep c o hc e
    exact ⟨hc, keep c o h1 h2⟩
  · have hj : j < μ1.length := (List.getElem?_eq_some_iff.mp q).1
    obtain ⟨c, ys, w1, w2, w3⟩ := m.at_ j es (by rw [List.getElem?_append_left hj]; exact q)
    have hlen := mm.len
    rw [List.getElem?_append_left (by omega)] at w1
    have hca : c ≠ a := fun z => hna (z ▸ List.mem_of_getElem? w1)
    refine ⟨c, ys, w1, (t2.keep c _ (fun z => hca (List.mem_singleton.mp z)) w2).2, w3.mono fun d o e => ?_⟩
    obtain ⟨h, e1⟩ := hide_some e
    rw [hide_out fun z => h (List.mem_append_left _ z)]
    exact keep d o h e1
end
end DV

/-! part DE -/
set_option Elab.async false
set_option linter.all false
set_option maxRecDepth 100000
set_option maxHeartbeats 1000000
set_option autoImplicit false
namespace DE
open PySem PySem.Spec PyProof.Rows L2 DV
/-- the call of the law's def from its caller, where nothing is being shown -/
theorem go_law {P : Program} {w : World} {K : PySem.W.Frag} {mg mb : Str → Option Value} {k : Nat} {fa a : Addr} {fd : FuncData} {x : Str} {sp : Sp} {s1 : Shared} {vs : List Value} {ns : List Int}
    (inK : K.In s1.heap) (glob : s1.heap.Ns mainGlobals mg) (bns : s1.heap.Ns builtinsNs mb) (boot : ∀ y : Str, y ≠ "__name__" → mb y = bootBuiltins y) (lim : s1.heap.NoLimit) (gens : s1.gens = #[])
    (at_ : s1.heap.get? a = some { cls := .type "list", data := .seq vs.toArray }) (numb : IntsAre vs ns) (small : ns.length ≤ sizeLine) (room : Room k callerA)
    (F : ∀ base : Heap, K.In base → base.Ns mainGlobals mg → DG.GOk P w K mg base k fa fd [x] sp) (bind : ∀ (s : Shared) (u : Value), BindsTo s fd ⟨[u], []⟩ [(x, u)])
    (keeps : ∀ T : Hp, Only T → SqL K T a (ns.map V.int) → sp [.ref a] T (fun v _ => v = .bl true) fun _ _ _ => False) :
    codeAny (model P w) callerA (.call (.ref fa) ⟨[.ref a], []⟩) (fun r s' => r = .ok (.ret (.bool true)) ∧ OldK s1.heap s'.heap ∧ s'.os = s1.os ∧ AllBare s'.gens) s1 := by
  have rel := vals_ints numb
  have lens := numb.length
  have main : ∀ T : Hp, Only T → SqL K T a (ns.map V.int) → HOk P w T s1.heap → (∀ b, T b ≠ none → b = a) → (T a ≠ none → K.lookup a = none) →
      codeAny (model P w) callerA (.call (.ref fa) ⟨[.ref a], []⟩) (fun r s' => r = .ok (.ret (.bool true)) ∧ OldK s1.heap s'.heap ∧ s'.os = s1.os ∧ AllBare s'.gens) s1 := by
    intro T only seq ok just notK
    have below : ∀ {b : Addr} {o : Obj}, s1.heap.get? b = some o → T b = none → (hidT s1.heap T).get? b = some o := fun q z => hidT_get q z
    have nodict : ∀ {b : Addr} {o : Obj} {es : Array DictEntry} {ep : Nat}, s1.heap.get? b = some o → o.data = .dict es ep → T b = none := fun {b o es ep} q d => by
      cases z : T b with
      | none => rfl
      | some u =>
        obtain rfl : b = a := just b (by rw [z]; simp)
        rw [at_] at q
        cases q
        exact nomatch (show Data.seq vs.toArray _ = Data.dict es ep from d)
    have nsT : ∀ {b : Addr} {m : Str → Option Value}, s1.heap.Ns b m → (hidT s1.heap T).Ns b m := fun {b m} ⟨o, es, ep, q, d, r⟩ => ⟨o, es, ep, below q (nodict q d), d, r⟩
    have kT : K.In (hidT s1.heap T) := fun b o q => below (inK b o q) (by
      cases z : T b with
      | none => rfl
      | some u =>
        obtain rfl : b = a := just b (by rw [z]; simp)
        rw [notK (by rw [z]; simp)] at q
        cases q)
    obtain ⟨mc, c1, c2⟩ := lim
    have e0 : Env0 P w K mg (hidT s1.heap T) callerA [] s1 T :=
      ⟨rfl, ⟨kT, nsT glob, ⟨mb, nsT bns, boot⟩, ⟨mc, nsT c1, c2⟩⟩, fun b o q => of_hidT q, Nat.le_of_eq (hidT_size _ _), trivial, fun b hb => (List.not_mem_nil hb).elim, ok, .of_eq gens⟩
    refine codeAny_mono ((F _ kT (nsT glob)).go callerA [] s1 T ⟨[.ref a], []⟩ [.ref a] [.ref a] _ _ rfl room e0 (bind s1 (.ref a)) (.cons rfl .nil) (keeps T only seq)) fun r s' h => ?_
    match r, h with
    | .error e, h => exact False.elim h
    | .ok .next, h => exact False.elim h
    | .ok .brk, h => exact False.elim h
    | .ok .cont, h => exact False.elim h
    | .ok (.ret u), ⟨v, T', os, bare, un, ok', rv, q⟩ =>
      have q : v = .bl true := q
      subst q
      obtain rfl : u = Value.bool true := rv
      refine ⟨rfl, OldK.of_keep fun b o e => ?_, os, bare⟩
      cases z : T b with
      | none => exact un.keep b o e z (fun y => (List.not_mem_nil y).elim) (by simp)
      | some u =>
        rcases only b with y | ⟨ob, xs, y⟩
        · rw [z] at y
          cases y
        · have y2 := un.frzs b ob _ y
          have e1 := (ok b _ y).1
          have e2 := (ok' b _ y2).1
          rw [e] at e1
          cases e1
          exact e2
  cases hk : K.lookup a with
  | some o =>
    have q := inK a o hk
    rw [at_] at q
    cases q
    exact main (fun _ => none) (fun _ => .inl rfl) (.inr ⟨_, vs.toArray, _, hk, rfl, rfl, rfl, by rw [List.size_toArray, lens]; exact small, by simpa using rel⟩) (fun b u z => nomatch (show (none : Option HO) = some u from z)) (fun b z => (z rfl).elim) fun z => (z rfl).elim
  | none =>
    have here : (fun b => if b = a then some (HO.frz { cls := .type "list", data := .seq vs.toArray } (.lst (ns.map V.int))) else none : Hp) a = some (.frz { cls := .type "list", data := .seq vs.toArray } (.lst (ns.map V.int))) := if_pos rfl
    refine main (fun b => if b = a then some (.frz { cls := .type "list", data := .seq vs.toArray } (.lst (ns.map V.int))) else none) (fun b => ?_) (.inl (.inr ⟨{ cls := .type "list", data := .seq vs.toArray }, here⟩)) (fun b u z => ?_) (fun b z => ?_) fun _ => hk
    · by_cases hb : b = a
      · subst hb
        exact .inr ⟨_, _, here⟩
      · exact .inl (if_neg hb)
    · by_cases hb : b = a
      · subst hb
        have z2 := here.symm.trans z
        cases z2
        exact ⟨at_, by rw [List.length_map]; exact small, vs, _, rel, at_⟩
      · exact nomatch (if_neg hb).symm.trans z
    · exact Classical.byContradiction fun hb => z (if_neg hb)
theorem go_walk {l : PySem.W.OpenLaw} {n k : Nat} {q : Program} {loose : List Str} {XP : (Str → Option Value) → Heap → Prop} {YP : World → Heap → Prop} {d : DefRec} {K : Params → PySem.W.Frag} {sp : PySem.W.Frag → Sp} {x : Str}
    (hn : l.most = some n) (hn2 : n ≤ sizeLine) (hdf : d.params.defaults = []) (room : Room k callerA) (hY : ∀ (w : World) (h : Heap), YP w h → (K w.params).In h)
    (F : ∀ (w : World) (mg : Str → Option Value) (fa : Addr) (h : Heap), (K w.params).In h → h.Ns mainGlobals mg → mg d.name = some (.ref fa) →
      ∃ fd : FuncData, (∀ (s : Shared) (u : Value), BindsTo s fd ⟨[u], []⟩ [(x, u)]) ∧ ∀ base : Heap, (K w.params).In base → base.Ns mainGlobals mg → DG.GOk l.prog w (K w.params) mg base k fa fd [x] (sp (K w.params)))
    (keeps : ∀ (K : PySem.W.Frag) (T : Hp) (a : Addr) (ns : List Int), ns.length ≤ n → Only T → SqL K T a (ns.map V.int) → sp K [.ref a] T (fun v _ => v = .bl true) fun _ _ _ => False) :
    PySem.W.WalkO q loose XP YP l.row.toRowW d [] (fun f vs => PySem.call f vs) := by
  refine Att.attach_call hn hdf fun w s0 s1 mg mb fa o pm cd doc a vs ns G Y ho hd hcd hmg hobj hints hlen hgens => ?_
  obtain ⟨fd, hb, hF⟩ := F w mg fa _ (hY w _ Y) G.T.g hmg
  exact go_law (hY w _ Y) G.T.g G.T.b G.T.builtins G.T.nolimit hgens hobj hints (Nat.le_trans hlen hn2) room hF hb fun T only seq => keeps _ T a ns hlen only seq
end DE

/-! part DS -/
set_option Elab.async false
set_option linter.all false
set_option maxRecDepth 100000
set_option maxHeartbeats 1000000
set_option autoImplicit false
/-! showing data with dicts in it, where only the dicts themselves are told apart from sys.modules -/
namespace DV
open PySem PySem.Spec L2
section
variable {P : Program} {w : World} {h : Heap} {a : Addr} {o : Obj} {n : Nat}
/-- u holds the data d and may be shown inside of something -/
def Shw (P : Program) (w : World) (h : Heap) (u : Value) (d : PyData) : Prop := ∃ as bs, Reads h u d as ∧ ReadAtMost h d.depth bs ∧ ReprK P w bs h d.depth u d.shown
def ShwA (P : Program) (w : World) (h : Heap) (us : List Value) (ds : List PyData) : Prop := ∃ as bs, ReadsAll h us ds as ∧ ReadAtMost h (PyData.depthAll ds) bs ∧ ReprAllK P w bs h (PyData.depthAll ds) us (PyData.shownAll ds)
/-- repr of it -/
def Rpr (P : Program) (w : World) (h : Heap) (a : Addr) (d : PyData) : Prop := ∀ (A : Around) (E : Value → Shared → Prop) (s : Shared) (Q : Value → Shared → Prop), A.guards = some [] → A.units + (d.depth + 1) < cLine →
  (∀ b o, h.get? b = some o → s.heap.get? b = some o) → (∀ h' u tk, (∀ b o, s.heap.get? b = some o → h'.get? b = some o) → Q (.str d.shown u) { s with heap := h', toks := tk }) → wpAny (model P w) A (call (.builtin "repr") [.ref a]) Q E s
theorem shwA_nil : ShwA P w h [] [] := ⟨_, [], .nil, fun _ z => (nomatch z), by rw [PyData.shownAll]; exact .nil⟩
theorem shwA_cons {u : Value} {us : List Value} {d : PyData} {ds : List PyData} (x : Shw P w h u d) (r : ShwA P w h us ds) : ShwA P w h (u :: us) (d :: ds) := by
  obtain ⟨a1, b1, r1, m1, k1⟩ := x
  obtain ⟨a2, b2, r2, m2, k2⟩ := r
  have l1 : d.depth ≤ PyData.depthAll (d :: ds) := by rw [PyData.depthAll]; exact Nat.le_max_left _ _
  have l2 : PyData.depthAll ds ≤ PyData.depthAll (d :: ds) := by rw [PyData.depthAll]; exact Nat.le_max_right _ _
  refine ⟨_, b1 ++ b2, .cons r1 r2, (m1.mono l1).append (m2.mono l2), ?_⟩
  have c1 := (k1.more (as' := b1 ++ b2) fun b z => List.mem_append.mpr (.inl z)).level_le l1
  have c2 := k2.more_le (as' := b1 ++ b2) (fun b z => List.mem_append.mpr (.inr z)) l2
  rw [PyData.shownAll]
  exact .cons c1 c2
theorem shw_list {vs : Array Value} {xs : List PyData} (h1 : h.get? a = some o) (h2 : o.cls = .type "list") (h3 : o.data = .seq vs n) (e : ShwA P w h vs.toList xs) (hz : (PyData.list xs).shown.length ≤ sizeLine) : Shw P w h (.ref a) (.list xs) ∧ Rpr P w h a (.list xs) := by
  obtain ⟨as, bs, r, m, k⟩ := e
  have R : Reads h (.ref a) (.list xs) (a :: as) := .list h1 h2 h3 r
  have dp : (PyData.list xs).depth = PyData.depthAll xs + 1 := by rw [PyData.depth]
  have sh : (PyData.list xs).shown = listText (PyData.shownAll xs) := by rw [PyData.shown]
  have na : a ∉ bs := not_mem_of_deeper R (by rw [dp]; exact Nat.lt_succ_self _) m
  rw [sh] at hz
  obtain ⟨l⟩ := vs
  refine ⟨⟨_, a :: bs, R, .cons R (by rw [dp]; exact Nat.le_succ _) m, ?_⟩, fun A E s Q hg hu hk hq => ?_⟩
  · rw [dp, sh]
    cases l with
    | nil => cases r; rw [PyData.shownAll, listText_nil]; exact .listEmpty h1 h2 h3
    | cons x l => exact .list h1 h2 h3 na (by simpa using k.length_eq) fun i y z => k.item i y (by simpa using z)
  · rw [dp] at hu
    rw [sh] at hq
    have hu' : A.units + 1 + (PyData.depthAll xs + 1) < cLine := by omega
    refine call_repr_slot (by omega) (T := "list") (idr := "list.__repr__") ⟨o, hk _ _ h1, h2⟩ F.slot_list_repr.toG ?_
    cases l with
    | nil =>
      cases r
      rw [PyData.shownAll, listText_nil] at hq
      exact call_list_repr_empty ⟨o, hk _ _ h1, h2⟩ (hk _ _ h1) h3 ⟨_, _, rfl, hq s.heap _ _ fun _ _ z => z⟩
    | cons x l => exact call_list_reprK h1 h2 h3 na (by simpa using k.length_eq) (fun i y z => k.item i y (by simpa using z)) (A := A.in1) hg (fun b _ => Clear.nil b) hu' hk (fun h' u tk z => ⟨_, _, rfl, hq h' u tk z⟩) hz
theorem shw_tup {vs : Array Value} {xs : List PyData} (h1 : h.get? a = some o) (h2 : o.cls = .type "tuple") (h3 : o.data = .seq vs n) (e : ShwA P w h vs.toList xs) (hz : (PyData.tuple xs).shown.length ≤ sizeLine) : Shw P w h (.ref a) (.tuple xs) ∧ Rpr P w h a (.tuple xs) := by
  obtain ⟨as, bs, r, m, k⟩ := e
  have R : Reads h (.ref a) (.tuple xs) as := .tuple h1 h2 h3 r
  have dp : (PyData.tuple xs).depth = PyData.depthAll xs + 1 := by rw [PyData.depth]
  have sh : (PyData.tuple xs).shown = tupleText (PyData.shownAll xs) := by rw [PyData.shown]
  have na : a ∉ bs := not_mem_of_deeper R (by rw [dp]; exact Nat.lt_succ_self _) m
  rw [sh] at hz
  refine ⟨⟨_, a :: bs, R, .cons R (by rw [dp]; exact Nat.le_succ _) m, ?_⟩, fun A E s Q hg hu hk hq => ?_⟩
  · rw [dp, sh]
    exact .tuple h1 h2 h3 na k
  · rw [dp] at hu
    rw [sh] at hq
    have hu' : A.units + 1 + (PyData.depthAll xs + 1) < cLine := by omega
    exact call_repr_slot (by omega) (T := "tuple") (idr := "tuple.__repr__") ⟨o, hk _ _ h1, h2⟩ F.slot_tuple_repr (call_tuple_reprK h1 h2 h3 na k (A := A.in1) hg (fun b _ => Clear.nil b) hu' hk (fun h' u tk z => ⟨_, _, rfl, hq h' u tk z⟩) hz)
theorem shw_dct {es : Array DictEntry} {kvs : List (PyData × PyData)} (hsy : (a == sysModules) = false) (h1 : h.get? a = some o) (h2 : o.cls = .type "dict") (h3 : o.data = .dict es n) (e1 : ShwA P w h (es.toList.map (·.key)) (kvs.map (·.1))) (e2 : ShwA P w h (es.toList.map (·.val)) (kvs.map (·.2)))
    (hz : (PyData.dict kvs).shown.length ≤ sizeLine) : Shw P w h (.ref a) (.dict kvs) ∧ Rpr P w h a (.dict kvs) := by
  obtain ⟨as, b1, r1, m1, k1⟩ := e1
  obtain ⟨cs, b2, r2, m2, k2⟩ := e2
  have R : Reads h (.ref a) (.dict kvs) (a :: as ++ cs) := .dict h1 h2 h3 r1 r2
  have dp : (PyData.dict kvs).depth = PyData.depthKv kvs + 1 := by rw [PyData.depth]
  have sh : (PyData.dict kvs).shown = dictText (PyData.shownKv kvs) := by rw [PyData.shown]
  have l1 := PyData.depthAll_keys_le kvs
  have l2 := PyData.depthAll_vals_le kvs
  have m : ReadAtMost h (PyData.depthKv kvs) (b1 ++ b2) := (m1.mono l1).append (m2.mono l2)
  have na : a ∉ b1 ++ b2 := not_mem_of_deeper R (by rw [dp]; exact Nat.lt_succ_self _) m
  have en := ReprEntriesK.of_two es.toList _ _ (k1.more_le (as' := b1 ++ b2) (fun b z => List.mem_append.mpr (.inl z)) l1) (k2.more_le (as' := b1 ++ b2) (fun b z => List.mem_append.mpr (.inr z)) l2)
  rw [← PyData.shownKv_eq] at en
  rw [sh] at hz
  refine ⟨⟨_, a :: (b1 ++ b2), R, .cons R (by rw [dp]; exact Nat.le_succ _) m, ?_⟩, fun A E s Q hg hu hk hq => ?_⟩
  · rw [dp, sh]
    exact .dict h1 h2 h3 hsy na en
  · rw [dp] at hu
    rw [sh] at hq
    have hu' : A.units + 1 + (PyData.depthKv kvs + 1) < cLine := by omega
    exact call_repr_slot (by omega) (T := "dict") (idr := "dict.__repr__") ⟨o, hk _ _ h1, h2⟩ F.slot_dict_repr (call_dict_reprK h1 h2 h3 hsy na en (A := A.in1) hg (fun b _ => Clear.nil b) hu' hk (fun h' u tk z => ⟨_, _, rfl, hq h' u tk z⟩) hz)
end
end DV

/-! part DR -/
set_option Elab.async false
set_option linter.all false
set_option maxRecDepth 100000
set_option maxHeartbeats 1000000
set_option autoImplicit false
namespace DV
open PySem PySem.Spec L2
def SysOk (_ : PySem.W.Frag) : Prop := True
mutual
/-- no error within -/
def D.showy : D → Bool
  | .tup ds => showyA ds
  | .lst ds => showyA ds
  | .dct _ ds => showyA ds
  | .err _ _ _ => false
  | .erb _ => false
  | _ => true
def showyA : List D → Bool
  | [] => true
  | d :: r => d.showy && showyA r
end
section
variable {X : Cx} {pins : List (Addr × Obj)} {σ : L2.St} {H : Hp} {s : Shared}
theorem key_reads : ∀ {es : List DictEntry} {kvs : List (Key × Value)}, Pairs (mixKind X.prog X.w) es kvs → ∃ as, ReadsAll s.heap (es.map (·.key)) (kvs.map fun p => keyPy p.1) as ∧ as = []
  | _, _, .nil => ⟨[], .nil, rfl⟩
  | _, _, .cons (e := e) (kv := kv) h1 h2 r => by
    obtain ⟨as, q, rfl⟩ := key_reads r
    have h1' : keyIs kv.1 e.key = true := h1
    rcases keyIs_shape h1' with ⟨i, t, e1, e2⟩ | ⟨x, t, e1, e2⟩
    · refine ⟨[] ++ [], ?_, rfl⟩
      rw [List.map_cons, List.map_cons, e1, e2]
      exact .cons (.int i t) q
    · refine ⟨[] ++ [], ?_, rfl⟩
      rw [List.map_cons, List.map_cons, e1, e2]
      exact .cons (.str x t) q
theorem pairs_vals : ∀ {es : List DictEntry} {kvs : List (Key × Value)}, Pairs (mixKind X.prog X.w) es kvs → es.map (·.val) = kvs.map (·.2)
  | _, _, .nil => rfl
  | _, _, .cons h1 h2 r => by rw [List.map_cons, List.map_cons, h2, pairs_vals r]
theorem kv_keys : ∀ {a : List (Key × V)} {b : List (Key × Value)}, KV a b → b.map (·.1) = a.map (·.1)
  | _, _, .nil => rfl
  | _, _, .cons h r => by rw [List.map_cons, List.map_cons, h.1, kv_keys r]
theorem kv_vals : ∀ {a : List (Key × V)} {b : List (Key × Value)}, KV a b → Vals (a.map (·.2)) (b.map (·.2))
  | _, _, .nil => .nil
  | _, _, .cons h r => .cons h.2 (kv_vals r)
theorem zip_fst : ∀ {ks : List PyData} {ds : List PyData}, ks.length = ds.length → (ks.zip ds).map (·.1) = ks
  | [], _, _ => rfl
  | k :: ks, [], h => by simp at h
  | k :: ks, d :: ds, h => by rw [List.zip_cons_cons, List.map_cons, zip_fst (by simpa using h)]
theorem zip_snd : ∀ {ks : List PyData} {ds : List PyData}, ks.length = ds.length → (ks.zip ds).map (·.2) = ds
  | [], [], _ => rfl
  | [], d :: ds, h => by simp at h
  | k :: ks, [], h => by simp at h
  | k :: ks, d :: ds, h => by rw [List.zip_cons_cons, List.map_cons, zip_snd (by simpa using h)]
theorem pyA_length : ∀ ds : List D, (pyA ds).length = ds.length
  | [] => rfl
  | d :: r => congrArg (· + 1) (pyA_length r)
mutual
theorem Rp.shw (I : Inv X pins σ H s) : ∀ (d : D) (v : V) (u : Value), Rp X.K H v d → RelV v u → d.showy = true → d.py.showable = true → d.py.shown.length ≤ sizeLine → Shw X.prog X.w s.heap u d.py ∧ ∀ a, u = .ref a → Rpr X.prog X.w s.heap a d.py
  | .non, _, _, h, r, _, _, _ => by cases h; cases r; exact ⟨⟨_, [], .none, fun _ z => (nomatch z), .of_is ReprIs.none _ _ _⟩, fun _ z => (nomatch z)⟩
  | .bl b, _, _, h, r, _, _, _ => by cases h; cases r; exact ⟨⟨_, [], .bool b, fun _ z => (nomatch z), .of_is (ReprIs.bool b) _ _ _⟩, fun _ z => (nomatch z)⟩
  | .int i, _, _, h, r, _, p2, _ => by cases h; obtain ⟨t, rfl⟩ := r; exact ⟨⟨_, [], .int i t, fun _ z => (nomatch z), .of_is (ReprIs.int t (by simpa [D.py, PyData.showable] using p2)) _ _ _⟩, fun _ z => (nomatch z)⟩
  | .str x, _, _, h, r, _, _, p3 => by cases h; obtain ⟨t, rfl⟩ := r; exact ⟨⟨_, [], .str x t, fun _ z => (nomatch z), .of_is (ReprIs.str x t (by simpa only [D.py, PyData.shown] using p3)) _ _ _⟩, fun _ z => (nomatch z)⟩
  | .tup ds, _, _, h, r, p, p2, p3 => by
    cases h with
    | tup h1 h2 =>
      cases r
      obtain ⟨its, rv, ⟨o, ho, hc, n, hd⟩, _⟩ := I.tuple h1
      have e := RpA.shw I ds _ its h2 rv p (by simpa only [D.py, PyData.showable] using p2) fun t z => Nat.le_trans (by simpa only [D.py, PyData.shown] using tupleText_mem_le z) p3
      have q := shw_tup ho hc hd e p3
      exact ⟨q.1, fun a z => by cases z; exact q.2⟩
  | .lst ds, _, _, h, r, p, p2, p3 => by
    cases h with
    | @lst a _ _ h1 h2 =>
      cases r
      obtain ⟨its, rv, ⟨o, n, ho, hc, _, hd⟩, _⟩ := I.list h1
      have e := RpA.shw I ds _ its h2 rv p (by simpa only [D.py, PyData.showable] using p2) fun t z => Nat.le_trans (by simpa only [D.py, PyData.shown] using listText_mem_le z) p3
      have q := shw_list ho hc hd e p3
      exact ⟨q.1, fun a z => by cases z; exact q.2⟩
  | .dct ks ds, _, _, h, r, p, p2, p3 => by
    cases h with
    | @dct a kvs _ h1 h2 =>
      cases r
      obtain ⟨hz, hd, vs, rel, dd⟩ := dk_of I.hok h1
      obtain ⟨o, es, ep, ho, hx, hdt, _, pr, _⟩ := dd
      obtain ⟨as, q1, rfl⟩ := key_reads (s := s) pr
      have hl : ((kvs.map (·.1)).map keyPy).length = (pyA ds).length := by
        have := h2.length
        rw [pyA_length, List.length_map, List.length_map]
        simpa using this
      have ek : vs.map (fun p => keyPy p.1) = (kvs.map (·.1)).map keyPy := by rw [← kv_keys rel, List.map_map]; rfl
      have py : D.py (.dct (kvs.map (·.1)) ds) = .dict (((kvs.map (·.1)).map keyPy).zip (pyA ds)) := rfl
      rw [py] at p2 p3 ⊢
      have p3' : (dictText (PyData.shownKv (((kvs.map (·.1)).map keyPy).zip (pyA ds)))).length ≤ sizeLine := by simpa only [PyData.shown] using p3
      obtain ⟨sk, sv⟩ := PyData.showableKv_split _ (show PyData.showableKv (((kvs.map (·.1)).map keyPy).zip (pyA ds)) = true by simpa only [PyData.showable] using p2)
      have lk : ∀ t ∈ PyData.shownAll ((((kvs.map (·.1)).map keyPy).zip (pyA ds)).map (·.1)), t.length ≤ sizeLine := fun t z => by
        obtain ⟨x, hx, hl⟩ := PyData.shownKv_key_le _ t z
        exact Nat.le_trans hl (Nat.le_trans (dictText_mem_le hx) p3')
      have lv : ∀ t ∈ PyData.shownAll ((((kvs.map (·.1)).map keyPy).zip (pyA ds)).map (·.2)), t.length ≤ sizeLine := fun t z => by
        obtain ⟨x, hx, hl⟩ := PyData.shownKv_val_le _ t z
        exact Nat.le_trans hl (Nat.le_trans (dictText_mem_le hx) p3')
      generalize hK : ((kvs.map (·.1)).map keyPy).zip (pyA ds) = K at *
      have e1 : ShwA X.prog X.w s.heap (es.toList.map (·.key)) (K.map (·.1)) := by
        subst hK
        rw [zip_fst hl] at sk lk ⊢
        rw [ek] at q1
        obtain ⟨bs, m, k⟩ := ReprAllK.of_readsAll (prog := X.prog) (w := X.w) q1 sk (fun _ => List.not_mem_nil) lk
        exact ⟨_, bs, q1, m, k⟩
      have e2 : ShwA X.prog X.w s.heap (es.toList.map (·.val)) (K.map (·.2)) := by
        subst hK
        rw [zip_snd hl] at sv lv ⊢
        rw [pairs_vals pr]
        exact RpA.shw I ds _ (vs.map (·.2)) h2 (kv_vals rel) p sv lv
      have q := shw_dct hd ho hx.1 hdt e1 e2 p3
      exact ⟨q.1, fun a z => by cases z; exact q.2⟩
  | .err _ _ _, _, _, _, _, p, _, _ => nomatch p
  | .erb _, _, _, _, _, p, _, _ => nomatch p
theorem RpA.shw (I : Inv X pins σ H s) : ∀ (ds : List D) (vs : List V) (us : List Value), RpA X.K H vs ds → Vals vs us → showyA ds = true → PyData.showableAll (pyA ds) = true → (∀ t ∈ PyData.shownAll (pyA ds), t.length ≤ sizeLine) → ShwA X.prog X.w s.heap us (pyA ds)
  | [], _, _, h, r, _, _, _ => by cases h; cases r; exact shwA_nil
  | d :: ds, _, _, h, r, p, p2, p3 => by
    cases h with
    | cons h1 h2 =>
      cases r with
      | cons r1 r2 =>
        have p' := Bool.and_eq_true_iff.mp p
        have p2' := Bool.and_eq_true_iff.mp (show (d.py.showable && PyData.showableAll (pyA ds)) = true by simpa only [pyA, PyData.showableAll] using p2)
        exact shwA_cons (Rp.shw I d _ _ h1 r1 p'.1 p2'.1 (p3 _ (by simp only [pyA, PyData.shownAll]; exact List.mem_cons_self ..))).1 (RpA.shw I ds _ _ h2 r2 p'.2 p2'.2 fun t z => p3 t (by simp only [pyA, PyData.shownAll]; exact List.mem_cons_of_mem _ z))
end
end
/-- what may be shown: depth up to k, up to n signs -/
def Sw (k n : Nat) (d : D) : Prop := d.showy = true ∧ d.py.showable = true ∧ d.py.depth ≤ k ∧ d.py.shown.length ≤ n
section
variable {X : Cx}
def rRepr2 (K : PySem.W.Frag) : List V → Hp → VK → Prop := fun xs H Q => ∃ (v : V) (d : D), xs = [v] ∧ Rp K H v d ∧ d.showy = true ∧ d.py.showable = true ∧ d.py.depth ≤ 60 ∧ d.py.shown.length ≤ sizeLine ∧ Q (.str d.py.shown) H
theorem call_repr2 (hgd : X.A.guards = some []) {k : Nat} (hr : Room k X.A) (hs : SysOk X.K) : CallR X (.builtin "repr") (rRepr2 X.K) := by
  intro pins s σ H xs us Q I r h
  obtain ⟨v, d, rfl, rp, h1, h2, h3, h4, q⟩ := h
  obtain ⟨u, rfl, ru⟩ : ∃ u, us = [u] ∧ RelV v u := by
    cases r with
    | cons r rr => cases rr; exact ⟨_, rfl, r⟩
  have un := hr.un
  have onref : ∀ a, u = .ref a → wpAny (model X.prog X.w) X.A (call (.builtin "repr") [u]) (EP X pins σ Q) X.xe s := fun a e => by
    have sh := (Rp.shw I d v u rp ru h1 h2 h4).2 a e
    subst e
    exact sh _ _ s _ hgd (by omega) (fun _ _ e => e) fun h' u tk hk => ⟨.str d.py.shown, H, I.kept hk, ⟨u, rfl⟩, q⟩
  cases rp with
  | non => cases ru; exact PySem.P.repr_of_none ⟨.str "None", H, I.tok _, ⟨_, rfl⟩, q⟩
  | bl b => cases ru; exact PySem.P.repr_of_bool ⟨.str (D.py (.bl b)).shown, H, I.tok _, ⟨_, rfl⟩, q⟩
  | int i =>
    obtain ⟨t, rfl⟩ := ru
    exact PySem.P.repr_of_int (by simpa [D.py, PyData.showable] using h2) ⟨.str (D.py (.int i)).shown, H, I.tok _, ⟨_, rfl⟩, q⟩
  | str x =>
    obtain ⟨t, rfl⟩ := ru
    exact PySem.P.repr_of_str ⟨.str (D.py (.str x)).shown, H, I.tok _, ⟨_, rfl⟩, q⟩ h4
  | tup _ _ => cases ru; exact onref _ rfl
  | lst _ _ => cases ru; exact onref _ rfl
  | dct _ _ => cases ru; exact onref _ rfl
  | err _ _ _ => cases h1
  | erb _ => cases h1
def gRepr2 (ss : List S) (_ : Mu) : Option D := match ss with
  | [.d d] => some (.str d.py.shown)
  | _ => none
def cRepr2 (ss : List S) (_ : Mu) : Prop := match ss with
  | [.d d] => Sw 60 1000000 d
  | _ => True
theorem snd_repr2 : SoundA X.K (rRepr2 X.K) (gA cRepr2 gRepr2) := by
  intro vs ss H ad μ Q m r h
  obtain ⟨h1, d, h2, h3⟩ := h
  have big : 1000000 ≤ sizeLine := by decide
  unfold gRepr2 at h2
  split at h2
  · rename_i e
    cases h2
    obtain ⟨v, rfl, r1⟩ := rsa1 r
    exact ⟨v, e, rfl, Rp.mono hide_same r1, h1.1, h1.2.1, h1.2.2.1, Nat.le_trans h1.2.2.2 big, h3 _ H (Step.refl _ _) m (.str _)⟩
  · cases h2
end
end DV

/-! part DX0 -/
set_option Elab.async false
set_option linter.all false
set_option maxRecDepth 100000
set_option maxHeartbeats 1000000
set_option autoImplicit false
/-! several except clauses, with names and without -/
namespace DX
open PySem PySem.Spec PyProof.Rows L2
/-- a clause: its class, the slot of its name, its suite's reading -/
abbrev Cl := Value × Option Nat × (Addr → Value → Option Addr → TS)
def endsBut (i : Nat) (D : Ends) : Ends := { nx := fun σ H => D.nx (σ.set i none) H, rt := D.rt, bk := fun σ H => D.bk (σ.set i none) H, ct := fun σ H => D.ct (σ.set i none) H }
def suiteOf (o : Option Nat) (ts : Addr → Value → Option Addr → TS) (a : Addr) (cls : Value) (d : Option Addr) (D : Ends) (σ : L2.St) (H : Hp) : Prop := match o with
  | none => ts a cls d D σ H
  | some i => ts a cls d (endsBut i D) (σ.set i (some (.ref a))) H
def wCl (K : PySem.W.Frag) (Wout : WX) (D : Ends) : List Cl → WX
  | [] => Wout
  | (c, o, ts) :: r => fun cls d σ H => ∃ b, PySem.W.exmOne K cls c = some b ∧ (b = true → ∀ a, H a = none → suiteOf o ts a cls d D σ H) ∧ (b = false → wCl K Wout D r cls d σ H)
inductive ClsOk (X : Cx) : List ExceptHandler → List Cl → Prop
  | nil : ClsOk X [] []
  | bare {x : Str} {c : Value} {ts : Addr → Value → Option Addr → TS} {st : Stmt} {sts : List Stmt} {np p : Pos} {hds : List ExceptHandler} {l : List Cl} (hc : Names X x c)
      (su : ∀ (a : Addr) (oe : Obj) (cls : Value) (d : Option Addr) (pn : List (Addr × Obj)), Zc cls d oe → (∃ vs, oe.data = .fields vs) → PSs (X.suite a ((a, oe) :: pn)) (st :: sts) (ts a cls d)) (r : ClsOk X hds l) :
      ClsOk X (.ExceptHandler (some (.Name x np)) none (st :: sts) p :: hds) ((c, none, ts) :: l)
  | named {x n : Str} {i : Nat} {c : Value} {ts : Addr → Value → Option Addr → TS} {st : Stmt} {sts : List Stmt} {np p : Pos} {hds : List ExceptHandler} {l : List Cl} (hc : Names X x c) (hi : X.N[i]? = some n) (hn : X.env.kindOf n = some .local)
      (su : ∀ (a : Addr) (oe : Obj) (cls : Value) (d : Option Addr) (pn : List (Addr × Obj)), Zc cls d oe → (∃ vs, oe.data = .fields vs) → PSs (X.suite a ((a, oe) :: pn)) (st :: sts) (ts a cls d)) (r : ClsOk X hds l) :
      ClsOk X (.ExceptHandler (some (.Name x np)) (some n) (st :: sts) p :: hds) ((c, some i, ts) :: l)
section
variable {X : Cx} {Wout : WX}
theorem frs_no {B : Heap} {l : List Env} {h : Heap} {a : Addr} {o : Obj} {vs : Array Value} (ff : h.FunFrames B l) (e : h.get? a = some o) (d : o.data = .fields vs) : a ∉ frs l := fun hm => by
  obtain ⟨_, o', e', nf⟩ := ff.mem hm
  rw [e] at e'
  cases e'
  exact nf _ d
theorem clauses {pins : List (Addr × Obj)} {σ : L2.St} {H : Hp} {D : Ends} {a : Addr} {B : Heap} {sI s' : Shared} {cls : Value} {d : Option Addr} {h3 : Heap} (ok : X.Ok) (hs : X.stack = X.env :: X.outer) (hf : X.env.frame = some X.env.locals) (hN : X.N.Nodup) (tk : Takes X Wout)
    (J : Inv X pins σ H sI) (nb : ∀ b o, sI.heap.get? b = some o → b ∉ frs X.stack → B.get? b = some o) (up3 : sI.heap.UpToSlots h3) (na : H a = none) (os : s'.os = sI.os) (ag : AllBare s'.gens) (fl3 : HandSPX.FlyingZ B (X.env :: X.outer) a (Zc cls d) h3)
    (hfr : X.A.frames = some (X.env :: X.outer)) : ∀ {hds : List ExceptHandler} {l : List Cl}, ClsOk X hds l → wCl X.K Wout D l cls d σ H → wpAny (model X.prog X.w) X.A (handleBy (.ref a) X.env hds) (SP X pins D) X.xe { s' with heap := h3 } := by
  have J3 : Inv X pins σ H { s' with heap := h3 } := J.landed nb fl3.1 up3 os ag
  obtain ⟨oe3, vs3, he3, hz3, hd3⟩ := fl3.there
  have nfr := frs_no fl3.2.2.1 he3 hd3
  have nL : a ≠ X.env.locals := fun z => nfr (List.mem_filterMap.mpr ⟨X.env, List.mem_cons_self, by rw [hf, z]⟩)
  have nF : a ∉ X.fs := fun hm => by
    obtain ⟨e, he, q⟩ := List.mem_filterMap.mp hm
    exact nfr (List.mem_filterMap.mpr ⟨e, List.mem_cons_of_mem _ he, q⟩)
  have S3 := J3.suite he3 hd3 na nL nF
  have LT : PySem.W.Looks (model X.prog X.w) h3 (typeOf (.ref a)) cls := fun A Q E s k q => wpAny_typeOf_ref (k _ _ he3) (by rw [hz3.1]; exact q)
  have ask : ∀ {x : Str} {c : Value} {np : Pos} {Q : Value → Shared → Prop} {E : Value → Shared → Prop}, Names X x c → Q c { s' with heap := h3 } → wpAny (model X.prog X.w) (X.A.mark (some (.ref a))) (eval (.Name x np) X.env) Q E { s' with heap := h3 } := fun {x c np Q E} hc q => by
    obtain ⟨hg, hdbg, hm | ⟨hm, hv, hnn⟩⟩ := hc
    · exact ld_glob (X := X.suite a ((a, oe3) :: (X.pn ++ pins))) S3 hg hm q hdbg
    · exact ld_blt (X := X.suite a ((a, oe3) :: (X.pn ++ pins))) S3 hg hm hv q hnn hdbg
  intro hds l hk
  induction hk with
  | nil =>
    intro w
    refine wpAny_handleBy_nil ?_
    obtain ⟨k1, k2, k3, oe, vs, T, oT, ts', he, hz, hd, h1, hr⟩ := id fl3
    unfold PySem.passOn
    refine wpAny_bind (wpAny_field he hd h1 ?_)
    have e0 : ¬ ((Value.ref T == Value.none) = true) := by simp
    rw [if_neg e0]
    have last : wpAny (model X.prog X.w) X.A (setFlight (.ref a) X.env.frame) (fun _ s4 => wpAny (model X.prog X.w) X.A (throw (.ref a) : Sem Flow) (SP X pins D) X.xe s4) X.xe { s' with heap := h3 } := by
      rw [hf]
      refine HandSPX.setFlight_upZ fl3 fun h4 hh4 up4 => wpAny_throw (tk _ _ ?_)
      have sky : Sky B X.stack a (Zc cls d) X.env.locals h4 := .inr (.inr (by rw [hs]; exact hh4))
      exact ⟨a, B, sI, pins, σ, H, cls, d, rfl, J, nb, up3.trans up4, sky, na, os, ag, w⟩
    first
      | exact wpAny_bind (wpAny_pure (wpAny_bind last))
      | exact wpAny_bind last
  | @bare x c ts st sts np p hds2 l2 hc su r ih =>
    intro w
    obtain ⟨b, hb1, hyes, hno⟩ := w
    refine wpAny_handleBy_cons (codeAny_handlers_test ?_) (by intro q; cases q)
    refine ask hc ((PySem.W.exm_one (M := model X.prog X.w) J3.kIn LT hb1).here ?_)
    cases b with
    | false => exact ih (hno rfl)
    | true =>
      refine codeAny_handlers_suite (HandSPX.lands_againZ fl3 fun h4 fl4 up4 => ?_)
      have J4 : Inv X pins σ H { s' with heap := h4 } := J.landed nb fl4.1 (up3.trans up4) os ag
      obtain ⟨oe4, vs4, he4, hz4, hd4⟩ := fl4.there
      have S4 := J4.suite he4 hd4 na nL nF
      refine wpAny_mono ((su a oe4 cls d (X.pn ++ pins) hz4 ⟨_, hd4⟩).run [] _ _ H _ S4 (hyes rfl a na)) (fun f s6 q6 => ?_) (fun _ _ z => False.elim z)
      cases f with
      | next => exact let ⟨σ6, H6, S6, q⟩ := q6; ⟨_, _, S6.unsuite ok, q⟩
      | brk => exact let ⟨σ6, H6, S6, q⟩ := q6; ⟨_, _, S6.unsuite ok, q⟩
      | cont => exact let ⟨σ6, H6, S6, q⟩ := q6; ⟨_, _, S6.unsuite ok, q⟩
      | ret u => exact let ⟨v6, σ6, H6, S6, r6, q⟩ := q6; ⟨_, _, _, S6.unsuite ok, r6, q⟩
  | @named x n i c ts st sts np p hds2 l2 hc hi hn su r ih =>
    intro w
    obtain ⟨b, hb1, hyes, hno⟩ := w
    refine wpAny_handleBy_cons (codeAny_handlers_test ?_) (by intro q; cases q)
    refine ask hc ((PySem.W.exm_one (M := model X.prog X.w) J3.kIn LT hb1).here ?_)
    cases b with
    | false => exact ih (hno rfl)
    | true =>
      refine codeAny_handlers_suite_as (HandSPX.lands_againZ fl3 fun h4 fl4 up4 => ?_)
      have J4 : Inv X pins σ H { s' with heap := h4 } := J.landed nb fl4.1 (up3.trans up4) os ag
      obtain ⟨oe4, vs4, he4, hz4, hd4⟩ := fl4.there
      have S4 := J4.suite he4 hd4 na nL nF
      refine store_ok (X := X.suite a ((a, oe4) :: (X.pn ++ pins))) (v := .ref a) S4 hN hi (.inl hn) rfl (fun s5 S5 => ?_) (.inr hn)
      refine wpAny_mono ((su a oe4 cls d (X.pn ++ pins) hz4 ⟨_, hd4⟩).run [] s5 _ H _ S5 (hyes rfl a na)) (fun f s6 q6 => ?_) (fun _ _ z => False.elim z)
      have out : ∀ {σ6 : L2.St} {H6 : Hp} {Q : Shared → Prop}, Inv (X.suite a ((a, oe4) :: (X.pn ++ pins))) [] σ6 H6 s6 → (∀ s7, Inv X pins (σ6.set i none) H6 s7 → Q s7) →
          wpAny (model X.prog X.w) X.A (do bindName X.env n .none; unbindBehindTheSuite X.env n p) (fun _ s7 => Q s7) X.xe s6 := fun {σ6 H6 Q} S6 hq => gone_ok (S6.unsuite ok) hN hi hn hq
      cases f with
      | next => exact let ⟨σ6, H6, S6, q⟩ := q6; out S6 fun s7 J7 => ⟨_, _, J7, q⟩
      | brk => exact let ⟨σ6, H6, S6, q⟩ := q6; out S6 fun s7 J7 => ⟨_, _, J7, q⟩
      | cont => exact let ⟨σ6, H6, S6, q⟩ := q6; out S6 fun s7 J7 => ⟨_, _, J7, q⟩
      | ret u => exact let ⟨v6, σ6, H6, S6, r6, q⟩ := q6; out S6 fun s7 J7 => ⟨_, _, _, J7, r6, q⟩
theorem ps_try {body : List Stmt} {h₀ : ExceptHandler} {hds : List ExceptHandler} {l : List Cl} {pos : Pos} {tb : WX → TS} (hs : X.stack = X.env :: X.outer) (hf : X.env.frame = some X.env.locals) (hN : X.N.Nodup) (tk : Takes X Wout)
    (hb : ∀ (W : WX) (pn : List (Addr × Obj)) (xe : Value → Shared → Prop), Takes (X.tr pn xe) W → PassesOwn (model X.prog X.w) X.A X.env xe → PSs (X.tr pn xe) body (tb W)) (hh : ClsOk X (h₀ :: hds) l) :
    PS X (.Try body (h₀ :: hds) [] [] pos) (fun D σ H => tb (wCl X.K Wout D l) D σ H) := by
  refine ⟨fun pins s σ H D I h => ?_⟩
  have ok := I.ok
  have hfr : X.A.frames = some (X.env :: X.outer) := by rw [ok.frames, hs]
  have B0 := hb (wCl X.K Wout D l) (X.pn ++ pins) (fun e s₁ => wpAny (model X.prog X.w) X.A (noteFrame e X.env) (fun _ s₂ => wpAny (model X.prog X.w) X.A (setFlight e none) (fun _ s₃ => wpAny (model X.prog X.w) X.A (handleBy e X.env (h₀ :: hds)) (SP X pins D) X.xe s₃) X.xe s₂) X.xe s₁)
    (fun u s' xx => ?_) PassesOwn.looking
  · refine wpAny_Try_except (wpAny_mono (B0.run [] s σ H D (I.toTry _) h) (fun f s1 q1 => ?_) fun e s1 he => he)
    cases f with
    | next => exact let ⟨σ', H', J', q⟩ := q1; wpAny_execs_nil ⟨σ', H', J'.ofTry ok, q⟩
    | brk => exact let ⟨σ', H', J', q⟩ := q1; ⟨σ', H', J'.ofTry ok, q⟩
    | cont => exact let ⟨σ', H', J', q⟩ := q1; ⟨σ', H', J'.ofTry ok, q⟩
    | ret u => exact let ⟨v, σ', H', J', r, q⟩ := q1; ⟨v, σ', H', J'.ofTry ok, r, q⟩
  · obtain ⟨a, B, sI, pins', σ', H', cls, d, rfl, J', nb, up, sky, na, os, ag, w⟩ := xx
    have J : Inv X pins σ' H' sI := J'.ofTry ok
    have sky' : Sky B (X.env :: X.outer) a (Zc cls d) X.env.locals s'.heap := by rw [← hs]; exact sky
    show wpAny (model X.prog X.w) X.A (noteFrame (.ref a) X.env) _ _ _
    exact Sky.land Zc.steady hfr hf sky' fun h3 fl3 up3 => clauses ok hs hf hN tk J nb (up.trans up3) na os ag fl3 hfr hh w
end
end DX

/-! part DX -/
set_option Elab.async false
set_option linter.all false
set_option maxRecDepth 100000
set_option maxHeartbeats 1000000
set_option autoImplicit false
/-! errors as data: made, asked, raised, caught -/
namespace DV
open PySem PySem.Spec L2
open PyProof.Rows (envOfC)
section
variable {X : Cx} {W : WX} {C : Addr} {f x : Str} {p pos kpos : Pos} {e : Expr} {ta : TA}
/-! ### C(e), C(f=e) -/
def tMk (C : Addr) (f : Str) (ta : TA) : TE := fun σ H Q => ta σ H fun vs H1 => ∃ y, vs = [y] ∧ ∀ a dx, H1 a = none → H1 dx = none → dx ≠ a → Q (.ref a) (upd (upd H1 dx (exd dx [(f, y)])) a (exo a C (some dx)))
def tMkX (C : Addr) (f : Str) (ta : TA) : L2.St → Hp → XK → Prop := fun σ H Q => ta σ H fun vs H1 => ∃ y, vs = [y] ∧ ∀ dx, H1 dx = none → Q (.ref C) (some dx) (upd H1 dx (.xd [(f, y)]))
theorem pe_mk (T : EM.MkC X.prog X.K C f) (hr : Room 1 X.A) (hg : Gl X x) (hm : X.mg x = some (.ref C)) (ha : PA X [e] ta) (hdb : (x == ("__debug__" : Str)) = false := by decide) (hs : starEach [e] X.env = (false, eval e X.env) :: starEach [] X.env := by rfl) :
    PE X (.Call (.Name x p) [e] [] pos) (tMk C f ta) := by
  refine ⟨fun pins s σ H Q I h => ?_⟩
  refine wpAny_Call_Name_kw (ld_glob I hg hm ?_ hdb)
  refine PySem.W.callWith_K (h₀ := X.base) I.ok.mod.kin T.kp (thn (ha.run pos pins s σ H _ I h) fun us s1 ⟨vs, H1, I1, r1, y, e1, q1⟩ => ⟨I1.kIn, ?_⟩) hs (by rfl)
  subst e1
  cases r1 with
  | cons r1 r2 => cases r2; exact EM.mk_inv T I1 hr r1 (.inl ⟨rfl, rfl⟩) q1
theorem pmk_mk (T : EM.MkC X.prog X.K C f) (hr : Room 1 X.A) (hg : Gl X x) (hm : X.mg x = some (.ref C)) (ha : PA X [e] ta) (hdb : (x == ("__debug__" : Str)) = false := by decide) (hs : starEach [e] X.env = (false, eval e X.env) :: starEach [] X.env := by rfl) :
    PMk X (.Call (.Name x p) [e] [] pos) (tMkX C f ta) := by
  intro pins s σ H Q I h
  refine wpAny_Call_Name_kw (ld_glob I hg hm ?_ hdb)
  refine PySem.W.callWith_K (h₀ := X.base) I.ok.mod.kin T.kp (thn (ha.run pos pins s σ H _ I h) fun us s1 ⟨vs, H1, I1, r1, y, e1, q1⟩ => ⟨I1.kIn, ?_⟩) hs (by rfl)
  subst e1
  cases r1 with
  | cons r1 r2 => cases r2; exact EM.mk_mkp T I1 hr r1 (.inl ⟨rfl, rfl⟩) q1
theorem pe_mkK (T : EM.MkC X.prog X.K C f) (hr : Room 1 X.A) (hg : Gl X x) (hm : X.mg x = some (.ref C)) (hk : PK X [⟨some f, e, kpos⟩] ta) (hdb : (x == ("__debug__" : Str)) = false := by decide)
    (hpl : ((backTo pos (starEach [] X.env)).any (·.1) || (backToKw pos (keywordEach [⟨some f, e, kpos⟩] X.env)).any (·.1.isNone)) = false := by rfl) (hall : (backToKw pos (keywordEach [⟨some f, e, kpos⟩] X.env)).all (·.1.isSome) = true := by rfl)
    (hks : (backToKw pos (keywordEach [⟨some f, e, kpos⟩] X.env)).filterMap (·.1) = [f] := by rfl) : PE X (.Call (.Name x p) [] [⟨some f, e, kpos⟩] pos) (tMk C f ta) := by
  refine ⟨fun pins s σ H Q I h => ?_⟩
  refine wpAny_Call_Name_kw (ld_glob I hg hm ?_ hdb)
  refine PySem.W.callWith_KW0 (h₀ := X.base) I.ok.mod.kin T.kp hall (thn (hk.run pos pins s σ H _ I h) fun us s1 ⟨vs, H1, I1, r1, y, e1, q1⟩ => ⟨I1.kIn, ?_⟩) hpl
  subst e1
  cases r1 with
  | cons r1 r2 => cases r2; rw [hks]; exact EM.mk_inv T I1 hr r1 (.inr ⟨rfl, rfl⟩) q1
theorem pmk_mkK (T : EM.MkC X.prog X.K C f) (hr : Room 1 X.A) (hg : Gl X x) (hm : X.mg x = some (.ref C)) (hk : PK X [⟨some f, e, kpos⟩] ta) (hdb : (x == ("__debug__" : Str)) = false := by decide)
    (hpl : ((backTo pos (starEach [] X.env)).any (·.1) || (backToKw pos (keywordEach [⟨some f, e, kpos⟩] X.env)).any (·.1.isNone)) = false := by rfl) (hall : (backToKw pos (keywordEach [⟨some f, e, kpos⟩] X.env)).all (·.1.isSome) = true := by rfl)
    (hks : (backToKw pos (keywordEach [⟨some f, e, kpos⟩] X.env)).filterMap (·.1) = [f] := by rfl) : PMk X (.Call (.Name x p) [] [⟨some f, e, kpos⟩] pos) (tMkX C f ta) := by
  intro pins s σ H Q I h
  refine wpAny_Call_Name_kw (ld_glob I hg hm ?_ hdb)
  refine PySem.W.callWith_KW0 (h₀ := X.base) I.ok.mod.kin T.kp hall (thn (hk.run pos pins s σ H _ I h) fun us s1 ⟨vs, H1, I1, r1, y, e1, q1⟩ => ⟨I1.kIn, ?_⟩) hpl
  subst e1
  cases r1 with
  | cons r1 r2 => cases r2; rw [hks]; exact EM.mk_mkp T I1 hr r1 (.inr ⟨rfl, rfl⟩) q1
/-- as data -/
def fMk (C : Addr) (f : Str) (g : SA) : SE := fun ρ μ P => g ρ μ fun ss μ1 => ∃ d, ss = [.d d] ∧ P (.d (.err C f d)) μ1
theorem err_new {K : PySem.W.Frag} {H : Hp} {ad : List Addr} {μ : Mu} {a dx : Addr} {v : V} {d : D} (m : RpM K H ad μ) (r : Rp K (hide ad H) v d) (h1 : H a = none) (h2 : H dx = none) (hne : dx ≠ a) :
    Step ad H ad (upd (upd H dx (exd dx [(f, v)])) a (exo a C (some dx))) ∧ RpM K (upd (upd H dx (exd dx [(f, v)])) a (exo a C (some dx))) ad μ ∧ Rp K (hide ad (upd (upd H dx (exd dx [(f, v)])) a (exo a C (some dx)))) (.ref a) (.err C f d) := by
  have s1 : Step ad H ad (upd H dx (exd dx [(f, v)])) := Step.new h2
  have m1 := m.new (o := exd dx [(f, v)]) h2
  have n1 : upd H dx (exd dx [(f, v)]) a = none := by rw [upd_ne (Ne.symm hne)]; exact h1
  have s2 : Step ad (upd H dx (exd dx [(f, v)])) ad (upd (upd H dx (exd dx [(f, v)])) a (exo a C (some dx))) := Step.new n1
  have m2 := m1.new (o := exo a C (some dx)) n1
  have st := s1.trans s2
  refine ⟨st, m2, .err (dx := dx) (v := v) ?_ ?_ (r.mono st.same)⟩
  · rw [hide_out (m1.fresh n1)]; exact upd_same
  · rw [hide_out (m.fresh h2), upd_ne hne]; exact upd_same
theorem mk_imp {g : SA} (mg : MonE g) (σ : L2.St) (H : Hp) (Q : VK) (q : teOf X.K (fMk C f g) σ H Q) : tMk C f (taOf X.K g) σ H Q := by
  obtain ⟨ad, ρ, μ, s, q⟩ := q
  refine ⟨ad, ρ, μ, s, mg ρ μ _ _ (fun ss μ1 ⟨d, e1, q⟩ vs H1 t1 m1 r1 => ?_) q⟩
  subst e1
  obtain ⟨v, rfl, r2⟩ := rsa1 r1
  refine ⟨v, rfl, fun a dx h1 h2 hne => ?_⟩
  obtain ⟨st, m2, r3⟩ := err_new m1 r2 h1 h2 hne
  exact q _ _ (t1.trans st) m2 r3
theorem mon_mk {g : SA} (mg : MonE g) : MonE (fMk C f g) := fun ρ μ P P' k q => mg ρ μ _ _ (fun ss μ1 ⟨d, e1, q⟩ => ⟨d, e1, k _ _ q⟩) q
theorem pd_mk {g : SA} (T : EM.MkC X.prog X.K C f) (hr : Room 1 X.A) (hg : Gl X x) (hm : X.mg x = some (.ref C)) (ha : PDA X [e] g) (hdb : (x == ("__debug__" : Str)) = false := by decide) (hs : starEach [e] X.env = (false, eval e X.env) :: starEach [] X.env := by rfl) :
    PD X (.Call (.Name x p) [e] [] pos) (fMk C f g) := ⟨mon_mk ha.mo, (pe_mk T hr hg hm ha.run hdb hs).of (mk_imp ha.mo)⟩
theorem pd_mkK {g : SA} (T : EM.MkC X.prog X.K C f) (hr : Room 1 X.A) (hg : Gl X x) (hm : X.mg x = some (.ref C)) (hk : PDK X [⟨some f, e, kpos⟩] g) (hdb : (x == ("__debug__" : Str)) = false := by decide)
    (hpl : ((backTo pos (starEach [] X.env)).any (·.1) || (backToKw pos (keywordEach [⟨some f, e, kpos⟩] X.env)).any (·.1.isNone)) = false := by rfl) (hall : (backToKw pos (keywordEach [⟨some f, e, kpos⟩] X.env)).all (·.1.isSome) = true := by rfl)
    (hks : (backToKw pos (keywordEach [⟨some f, e, kpos⟩] X.env)).filterMap (·.1) = [f] := by rfl) : PD X (.Call (.Name x p) [] [⟨some f, e, kpos⟩] pos) (fMk C f g) := ⟨mon_mk hk.mo, (pe_mkK T hr hg hm hk.run hdb hpl hall hks).of (mk_imp hk.mo)⟩
/-- raise C(e) -/
def fRaise (C : Addr) (f : Str) (g : SA) : SS := fun ρ μ k => g ρ μ fun ss μ1 => ∃ d, ss = [.d d] ∧ k.er (.err C f d) ρ μ1
theorem mon_raise {g : SA} (mg : MonE g) : MonS (fRaise C f g) := fun ρ μ k k' l q => mg ρ μ _ _ (fun ss μ1 ⟨d, e1, q⟩ => ⟨d, e1, l.er _ _ _ q⟩) q
theorem xd_new {K : PySem.W.Frag} {H : Hp} {ad : List Addr} {μ : Mu} {dx : Addr} {v : V} {d : D} (m : RpM K H ad μ) (r : Rp K (hide ad H) v d) (h2 : H dx = none) :
    Step ad H ad (upd H dx (.xd [(f, v)])) ∧ RpM K (upd H dx (.xd [(f, v)])) ad μ ∧ RpX K (hide ad (upd H dx (.xd [(f, v)]))) (.ref C) (some dx) (.err C f d) := by
  have st : Step ad H ad (upd H dx (.xd [(f, v)])) := Step.new h2
  refine ⟨st, m.new h2, rfl, dx, v, rfl, ?_, r.mono st.same⟩
  rw [hide_out (m.fresh h2)]; exact upd_same
theorem raise_imp {g : SA} (mg : MonE g) (Dn : Ends) (σ : L2.St) (H : Hp) (q : tsOf X.K W (fRaise C f g) Dn σ H) : tMkX C f (taOf X.K g) σ H fun cls d H' => W cls d σ H' := by
  obtain ⟨ad, ρ, μ, s, q⟩ := q
  refine ⟨ad, ρ, μ, s, mg ρ μ _ _ (fun ss μ1 ⟨d, e1, q⟩ vs H1 t1 m1 r1 => ?_) q⟩
  subst e1
  obtain ⟨v, rfl, r2⟩ := rsa1 r1
  refine ⟨v, rfl, fun dx h2 => ?_⟩
  obtain ⟨st, m2, r3⟩ := xd_new (f := f) (C := C) m1 r2 h2
  exact q _ _ σ _ ad (t1.trans st) (s.step (t1.trans st) m2) r3
theorem pds_raise {g : SA} {pos2 : Pos} (hc : X.calm = true) (tk : Takes X W) (T : EM.MkC X.prog X.K C f) (hr : Room 1 X.A) (hg : Gl X x) (hm : X.mg x = some (.ref C)) (ha : PDA X [e] g) (hdb : (x == ("__debug__" : Str)) = false := by decide)
    (hs : starEach [e] X.env = (false, eval e X.env) :: starEach [] X.env := by rfl) : PDS X W (.Raise (some (.Call (.Name x p) [e] [] pos)) none pos2) (fRaise C f g) :=
  ⟨mon_raise ha.mo, (ps_raise hc tk (pmk_mk T hr hg hm ha.run hdb hs)).of (raise_imp ha.mo)⟩
theorem pds_raiseK {g : SA} {pos2 : Pos} (hc : X.calm = true) (tk : Takes X W) (T : EM.MkC X.prog X.K C f) (hr : Room 1 X.A) (hg : Gl X x) (hm : X.mg x = some (.ref C)) (hk : PDK X [⟨some f, e, kpos⟩] g) (hdb : (x == ("__debug__" : Str)) = false := by decide)
    (hpl : ((backTo pos (starEach [] X.env)).any (·.1) || (backToKw pos (keywordEach [⟨some f, e, kpos⟩] X.env)).any (·.1.isNone)) = false := by rfl) (hall : (backToKw pos (keywordEach [⟨some f, e, kpos⟩] X.env)).all (·.1.isSome) = true := by rfl)
    (hks : (backToKw pos (keywordEach [⟨some f, e, kpos⟩] X.env)).filterMap (·.1) = [f] := by rfl) : PDS X W (.Raise (some (.Call (.Name x p) [] [⟨some f, e, kpos⟩] pos)) none pos2) (fRaise C f g) :=
  ⟨mon_raise hk.mo, (ps_raise hc tk (pmk_mkK T hr hg hm hk.run hdb hpl hall hks)).of (raise_imp hk.mo)⟩
end
end DV

/-! part DX2 -/
set_option Elab.async false
set_option linter.all false
set_option maxRecDepth 100000
set_option maxHeartbeats 1000000
set_option autoImplicit false
namespace DV
open PySem PySem.Spec L2 PyProof.Rows
/-- a class of errors without attributes -/
structure BareC (K : PySem.W.Frag) (C : Addr) : Prop where
  ex : PySem.W.excIn K C HandSPX.veTail "ValueError.__new__" = true
  kp : PySem.W.keepIn K (.ref C) = true
  exB : PySem.W.subIn K (.ref C) (.type "BaseException") = some true
  tyC : PySem.W.typeIn K (.ref C) = some (.type "type")
section
variable {X : Cx} {W : WX} {C : Addr} {f x : Str} {p pos kpos : Pos} {e : Expr} {te : TE}
theorem pe_bare (T : BareC X.K C) (hg : Gl X x) (hm : X.mg x = some (.ref C)) (hdb : (x == ("__debug__" : Str)) = false := by decide) : PE X (.Call (.Name x p) [] [] pos) (fun _ H Q => ∀ a, H a = none → Q (.ref a) (upd H a (ExO (.ref C) a))) := by
  refine ⟨fun pins s σ H Q I h => ?_⟩
  refine wpAny_Call_Name_kw (ld_glob I hg hm (PySem.W.callWith_K0 I.kIn T.kp ?_) hdb)
  obtain ⟨bm, N, nm, qn, bs, hdct, sn, sub, ab, col, dd, k0, k1, k2, k3, k5, mN, hC, hN, hni, TT⟩ := exc_obj I.kIn T.ex
  refine wpAny_call_exc_subT F.excBase_ValueError TT hC hN hni (fun h' a hm => ?_) (Nat.zero_le _)
  have hn : H a = none := I.hok.gone hm.new
  obtain ⟨t, ht, _, _⟩ := hm.there
  exact ⟨.ref a, upd H a (ExO (.ref C) a), I.laidN hm.keeps hm.new hn (exO_ok ht ⟨rfl, rfl⟩ rfl rfl rfl (show 4 < 6 by decide)), rfl, h a hn⟩
theorem pmk_bare (T : BareC X.K C) (hg : Gl X x) (hm : X.mg x = some (.ref C)) (hdb : (x == ("__debug__" : Str)) = false := by decide) : PMk X (.Call (.Name x p) [] [] pos) (fun _ H Q => Q (.ref C) none H) := by
  intro pins s σ H Q I h
  refine wpAny_Call_Name_kw (ld_glob I hg hm (PySem.W.callWith_K0 I.kIn T.kp ?_) hdb)
  obtain ⟨bm, N, nm, qn, bs, hdct, sn, sub, ab, col, dd, k0, k1, k2, k3, k5, mN, hC, hN, hni, TT⟩ := exc_obj I.kIn T.ex
  refine wpAny_call_exc_subT F.excBase_ValueError TT hC hN hni (fun h' a hm => ?_) (Nat.zero_le _)
  exact mk_of I hm (raises_own T.exB T.tyC) h (I.hok.gone hm.new)
def fBare (C : Addr) : SE := fun _ μ P => P (.d (.erb C)) μ
theorem pd_bare (T : BareC X.K C) (hg : Gl X x) (hm : X.mg x = some (.ref C)) (hdb : (x == ("__debug__" : Str)) = false := by decide) : PD X (.Call (.Name x p) [] [] pos) (fBare C) := by
  refine ⟨fun ρ μ P P' k q => k _ _ q, (pe_bare T hg hm hdb).of fun σ H Q q a ha => ?_⟩
  obtain ⟨ad, ρ, μ, s, q⟩ := q
  have st : Step ad H ad (upd H a (ExO (.ref C) a)) := Step.new ha
  exact q _ _ st (s.m.new ha) (.erb (by rw [hide_out (s.m.fresh ha)]; exact upd_same))
def fRaise0 (C : Addr) : SS := fun ρ μ k => k.er (.erb C) ρ μ
theorem pds_raise0 {pos2 : Pos} (hc : X.calm = true) (tk : Takes X W) (T : BareC X.K C) (hg : Gl X x) (hm : X.mg x = some (.ref C)) (hdb : (x == ("__debug__" : Str)) = false := by decide) : PDS X W (.Raise (some (.Call (.Name x p) [] [] pos)) none pos2) (fRaise0 C) := by
  refine ⟨fun ρ μ k k' l q => l.er _ _ _ q, (ps_raise hc tk (pmk_bare T hg hm hdb)).of fun Dn σ H q => ?_⟩
  obtain ⟨ad, ρ, μ, s, q⟩ := q
  exact q (.ref C) none σ H ad (Step.refl _ _) s ⟨rfl, rfl⟩
/-! ### e.f -/
/-- the class at C lets the attribute f of its errors be read -/
structure AttC (K : PySem.W.Frag) (C : Addr) (f : Str) : Prop where
  xf : XfC K C
  no : PySem.W.findIn K (.ref C) f = some none
def tEa (K : PySem.W.Frag) (f : Str) (te : TE) : TE := fun σ H Q => te σ H fun x H1 => ∃ (a C dx : Addr) (fs : List (Str × V)) (v : V), x = .ref a ∧ H1 a = some (exo a C (some dx)) ∧ H1 dx = some (exd dx fs) ∧ fs.lookup f = some v ∧ AttC K C f ∧ Q v H1
theorem pe_ea (he : PE X e te) (hb : attributeBase e f X.env (eval e X.env) = eval e X.env := by rfl) : PE X (.Attribute e f pos) (tEa X.K f te) := by
  refine ⟨fun pins s σ H Q I h => attr_of hb (thn (he.run pins s σ H _ I h) fun u s1 hh => ?_)⟩
  obtain ⟨x, H1, I1, rx, a, C, dx, fs, v, ex, ea, ed, hl, T, q⟩ := hh
  subst ex
  obtain rfl : u = Value.ref a := rx
  obtain ⟨t1, ho⟩ := exo_at I1.hok ea
  obtain ⟨mA, hns, rel⟩ := exd_at I1.hok ed
  obtain ⟨od, hod, hlk⟩ := lookIn_ns hns
  obtain ⟨u, hu, ru⟩ := RelO.some_of (v := v) (o := mA f) (by rw [← hl]; exact rel f)
  have J : PySem.W.InstAt s1.heap a _ C (some od) := ⟨ho, rfl, rfl, hod⟩
  exact HandSPX.exc_get I1.kIn J T.xf.ga T.xf.gg T.xf.exC (PySem.W.findObj_own T.xf.hdC T.no rfl (by rw [hlk, hu])) (handed_of ru) ⟨v, H1, I1.tok _, ru, q⟩
def fAtt (K : PySem.W.Frag) (f : Str) (g : SE) : SE := fun ρ μ P => g ρ μ fun y μ1 => ∃ C d, y = .d (.err C f d) ∧ AttC K C f ∧ P (.d d) μ1
theorem pd_att {g : SE} (he : PD X e g) (hb : attributeBase e f X.env (eval e X.env) = eval e X.env := by rfl) : PD X (.Attribute e f pos) (fAtt X.K f g) := by
  refine ⟨fun ρ μ P P' k q => he.mo ρ μ _ _ (fun y μ1 ⟨C, d, e1, T, q⟩ => ⟨C, d, e1, T, k _ _ q⟩) q, (pe_ea he.run hb).of fun σ H Q q => ?_⟩
  obtain ⟨ad, ρ, μ, s, q⟩ := q
  refine ⟨ad, ρ, μ, s, he.mo ρ μ _ _ (fun y μ1 ⟨C, d, e1, T, q⟩ v H1 t1 m1 r1 => ?_) q⟩
  subst e1
  cases r1 with
  | @err a dx C f v x h1 h2 h3 => exact ⟨a, C, dx, [(f, v)], v, rfl, (hide_some h1).2, (hide_some h2).2, by simp [List.lookup], T, q _ H1 t1 m1 h3⟩
/-! ### isinstance(e, ..) -/
/-- an error at a, of the class at C -/
def ErAt (H : Hp) (a C : Addr) : Prop := (∃ dx fs, H a = some (exo a C (some dx)) ∧ H dx = some (exd dx fs)) ∨ H a = some (ExO (.ref C) a)
theorem er_kit {pins : List (Addr × Obj)} {σ : L2.St} {H : Hp} {s : Shared} {a : Addr} (I : Inv X pins σ H s) (E : ErAt H a C) (T : ExcC X.K C) : ∃ Q : Heap → Prop, PySem.W.KitX X.K (.ref a) (.ref C) Q ∧ Q s.heap := by
  have hc : (PySem.W.clsIn X.K C).isSome = true := by
    obtain ⟨cd, hc, _⟩ := PySem.W.any_some T.hd
    rw [hc]; rfl
  rcases E with ⟨dx, fs, e1, e2⟩ | e1
  · obtain ⟨t1, ho⟩ := exo_at I.hok e1
    obtain ⟨mA, ⟨oD, es, ep, hoD, _⟩, rel⟩ := exd_at I.hok e2
    exact ⟨_, PySem.W.kitx_exc (od := some oD) hc T.hg T.hk T.hs T.ha T.hn T.ht T.hm, ⟨ho, rfl, rfl, hoD⟩⟩
  · obtain ⟨⟨oe, vs, ho, hz, hd, _⟩, _, _⟩ := I.hok a _ e1
    obtain ⟨oc, od, dt, sl⟩ := oe
    obtain ⟨z1, z2⟩ := hz
    dsimp only at z1 z2 hd
    subst z1 z2 hd
    exact ⟨_, PySem.W.kitx_exc (od := none) hc T.hg T.hk T.hs T.ha T.hn T.ht T.hm, ⟨ho, rfl, rfl, trivial⟩⟩
def rIsX (K : PySem.W.Frag) : List V → Hp → VK → Prop := fun xs H Q => ∃ (a C : Addr) (c : V) (u : Value) (b : Bool), xs = [.ref a, c] ∧ ClsV c u ∧ ErAt H a C ∧ ExcC K C ∧ PySem.W.kitOne K (.ref C) u = some b ∧ Q (.bl b) H
def rIsXT (K : PySem.W.Frag) : List V → Hp → VK → Prop := fun xs H Q => ∃ (a C tp : Addr) (cs : List V) (us : List Value) (b : Bool), xs = [.ref a, .ref tp] ∧ H tp = some (.tup cs) ∧ Paired ClsV cs us ∧ ErAt H a C ∧ ExcC K C ∧ PySem.W.kitAny K (.ref C) us = some b ∧ Q (.bl b) H
theorem call_isX : CallR X (.builtin "isinstance") (rIsX X.K) := by
  intro pins s σ H xs us Q I r h
  obtain ⟨a, C, c, u, b, rfl, k, E, T, e, q⟩ := h
  obtain ⟨u1, u2, rfl, r1, r2⟩ := vals2 r
  obtain rfl := k.eq r2
  obtain rfl : u1 = Value.ref a := r1
  obtain ⟨Y, Z, y⟩ := er_kit I E T
  exact PySem.W.kia_one Z I.kIn y e (fun z => nomatch z) fun tk => ⟨.bl b, H, I.tok tk, rfl, q⟩
theorem call_isXT : CallR X (.builtin "isinstance") (rIsXT X.K) := by
  intro pins s σ H xs us Q I r h
  obtain ⟨a, C, tp, cs, ws, b, rfl, hT, k, E, T, e, q⟩ := h
  obtain ⟨u1, u2, rfl, r1, r2⟩ := vals2 r
  obtain rfl : u1 = Value.ref a := r1
  obtain rfl : u2 = Value.ref tp := r2
  obtain ⟨Y, Z, y⟩ := er_kit I E T
  obtain ⟨_, its, rv, o, h1, h2, n, h3⟩ := (show ObjOk X.prog X.w H s.heap tp (.tup cs) from I.hok tp _ hT)
  obtain rfl := ClsV.all k rv
  obtain ⟨oc, od, dt, sl⟩ := o
  simp only at h2 h3
  subst h2 h3
  exact PySem.W.kia_tup Z I.kIn y h1 e (fun z => nomatch z) fun tk => ⟨.bl b, H, I.tok tk, rfl, q⟩
def errOf : S → Option Addr
  | .d (.err C _ _) => some C
  | .d (.erb C) => some C
  | _ => none
theorem errOf_at {K : PySem.W.Frag} {ad : List Addr} {H : Hp} {v : V} {y : S} {C : Addr} (r : RpS K (hide ad H) ad v y) (h : errOf y = some C) : ∃ a, v = .ref a ∧ ErAt H a C := by
  unfold errOf at h
  split at h
  · cases h
    cases r with
    | err h1 h2 h3 => exact ⟨_, rfl, .inl ⟨_, _, (hide_some h1).2, (hide_some h2).2⟩⟩
  · cases h
    cases r with
    | erb h1 => exact ⟨_, rfl, .inr (hide_some h1).2⟩
  · cases h
def fIsX (K : PySem.W.Frag) (u : Value) (g : SE) : SE := fun ρ μ P => g ρ μ fun y μ1 => ∃ C b, errOf y = some C ∧ ExcC K C ∧ PySem.W.kitOne K (.ref C) u = some b ∧ P (.d (.bl b)) μ1
theorem mon_isX {K : PySem.W.Frag} {u : Value} {g : SE} (m : MonE g) : MonE (fIsX K u g) := fun ρ μ P P' k q => m ρ μ _ _ (fun y μ1 ⟨C, b, e1, T, e2, q⟩ => ⟨C, b, e1, T, e2, k _ _ q⟩) q
theorem isX_imp {u : Value} {c : V} {g : SE} (hu : ClsV c u) (m : MonE g) (σ : L2.St) (H : Hp) (Q : VK) (q : teOf X.K (fIsX X.K u g) σ H Q) : tCB (rIsX X.K) (tCons (teOf X.K g) (tCons (tC c) tNil)) σ H Q := by
  obtain ⟨ad, ρ, μ, s, q⟩ := q
  refine ⟨ad, ρ, μ, s, m ρ μ _ _ (fun y μ1 ⟨C, b, e1, T, e2, q⟩ v H1 t1 m1 r1 => ?_) q⟩
  obtain ⟨a, rfl, E⟩ := errOf_at r1 e1
  exact ⟨a, C, c, u, b, rfl, hu, E, T, e2, q _ H1 t1 m1 (.bl _)⟩
theorem pd_isOwn {n : Str} {D : Addr} {p2 : Pos} {g : SE} (h : PD X e g) (hg : Gl X "isinstance") (hm : X.mg "isinstance" = none) (hg2 : Gl X n) (hm2 : X.mg n = some (.ref D)) (hd2 : (n == ("__debug__" : Str)) = false := by decide)
    (hs : starEach [e, .Name n p2] X.env = (false, eval e X.env) :: starEach [.Name n p2] X.env := by rfl) (hs2 : starEach [.Name n p2] X.env = (false, eval (.Name n p2) X.env) :: starEach [] X.env := by rfl)
    (hpl : (backTo pos (starEach [.Name n p2] X.env)).any (·.1) = false := by rfl) : PD X (.Call (.Name "isinstance" p) [e, .Name n p2] [] pos) (fIsX X.K (.ref D) g) :=
  ⟨mon_isX h.mo, (pe_callB call_isX hg hm bt_isi (pa_cons h.run (pa_cons (pe_glob (v := .ref D) hg2 hm2 rfl hd2) pa_nil hs2) hs) (by decide) (by decide) hs hpl).of (isX_imp (.own D) h.mo)⟩
theorem pd_isBlt {n : Str} {T : String} {p2 : Pos} {g : SE} (h : PD X e g) (hg : Gl X "isinstance") (hm : X.mg "isinstance" = none) (hg2 : Gl X n) (hm2 : X.mg n = none) (hb2 : bootBuiltins n = some (.type T)) (hn2 : n ≠ "__name__") (hd2 : (n == ("__debug__" : Str)) = false)
    (hs : starEach [e, .Name n p2] X.env = (false, eval e X.env) :: starEach [.Name n p2] X.env := by rfl) (hs2 : starEach [.Name n p2] X.env = (false, eval (.Name n p2) X.env) :: starEach [] X.env := by rfl)
    (hpl : (backTo pos (starEach [.Name n p2] X.env)).any (·.1) = false := by rfl) : PD X (.Call (.Name "isinstance" p) [e, .Name n p2] [] pos) (fIsX X.K (.type T) g) :=
  ⟨mon_isX h.mo, (pe_callB call_isX hg hm bt_isi (pa_cons h.run (pa_cons (pe_bltn (v := .ty T) hg2 hm2 hb2 rfl hn2 hd2) pa_nil hs2) hs) (by decide) (by decide) hs hpl).of (isX_imp (.ty T) h.mo)⟩
/-- a tuple of built-in classes -/
inductive BltA (X : Cx) : List Expr → List V → List Value → Prop
  | nil : BltA X [] [] []
  | cons {n : Str} {T : String} {p2 : Pos} {es : List Expr} {cs : List V} {us : List Value} (hg2 : Gl X n) (hm2 : X.mg n = none) (hb2 : bootBuiltins n = some (.type T)) (hn2 : n ≠ "__name__") (hd2 : (n == ("__debug__" : Str)) = false)
      (hs : starEach (.Name n p2 :: es) X.env = (false, eval (.Name n p2) X.env) :: starEach es X.env) (r : BltA X es cs us) : BltA X (.Name n p2 :: es) (.ty T :: cs) (.type T :: us)
theorem BltA.pair {es : List Expr} {cs : List V} {us : List Value} (h : BltA X es cs us) : Paired ClsV cs us := by
  induction h with
  | nil => exact .nil
  | @cons n T _ _ _ _ _ _ _ _ _ _ _ ih => exact .cons (.ty T) ih
theorem BltA.pa {es : List Expr} {cs : List V} {us : List Value} (h : BltA X es cs us) : PA X es (fun _ H Q => Q cs H) := by
  induction h with
  | nil => exact pa_nil
  | @cons n T _ _ _ _ hg2 hm2 hb2 hn2 hd2 hs r ih => exact pa_cons (pe_bltn (v := .ty T) hg2 hm2 hb2 rfl hn2 hd2) ih hs
def fIsXT (K : PySem.W.Frag) (us : List Value) (g : SE) : SE := fun ρ μ P => g ρ μ fun y μ1 => ∃ C b, errOf y = some C ∧ ExcC K C ∧ PySem.W.kitAny K (.ref C) us = some b ∧ P (.d (.bl b)) μ1
theorem pd_isTup {es : List Expr} {cs : List V} {us : List Value} {k : Nat} {p2 : Pos} {g : SE} (h : PD X e g) (hg : Gl X "isinstance") (hm : X.mg "isinstance" = none) (B : BltA X es cs us) (hl : cs.length ≤ 1000)
    (hs : starEach [e, .Tuple es k p2] X.env = (false, eval e X.env) :: starEach [.Tuple es k p2] X.env := by rfl) (hs2 : starEach [.Tuple es k p2] X.env = (false, eval (.Tuple es k p2) X.env) :: starEach [] X.env := by rfl)
    (hpl : (backTo pos (starEach [.Tuple es k p2] X.env)).any (·.1) = false := by rfl) : PD X (.Call (.Name "isinstance" p) [e, .Tuple es k p2] [] pos) (fIsXT X.K us g) := by
  refine ⟨fun ρ μ P P' k q => h.mo ρ μ _ _ (fun y μ1 ⟨C, b, e1, T, e2, q⟩ => ⟨C, b, e1, T, e2, k _ _ q⟩) q, (pe_callB call_isXT hg hm bt_isi (pa_cons h.run (pa_cons (pe_tup B.pa) pa_nil hs2) hs) (by decide) (by decide) hs hpl).of fun σ H Q q => ?_⟩
  obtain ⟨ad, ρ, μ, s, q⟩ := q
  refine ⟨ad, ρ, μ, s, h.mo ρ μ _ _ (fun y μ1 ⟨C, b, e1, T, e2, q⟩ v H1 t1 m1 r1 => ?_) q⟩
  refine ⟨by rw [sizeLine_eq]; omega, fun tp hp => ?_⟩
  have st : Step ad H1 ad (upd H1 tp (.tup cs)) := Step.new hp
  obtain ⟨a, rfl, E⟩ := errOf_at (RpS.step st r1) e1
  exact ⟨a, C, tp, cs, us, b, rfl, upd_same, B.pair, E, T, e2, q _ _ (t1.trans st) (m1.new hp) (.bl _)⟩
end
end DV

/-! part DX3 -/
set_option Elab.async false
set_option linter.all false
set_option maxRecDepth 100000
set_option maxHeartbeats 1000000
set_option autoImplicit false
namespace DV
open PySem PySem.Spec L2
open PyProof.Rows (envOfC)
/-! ### defs that may raise -/
abbrev TX := List S → Mu → (D → Mu → Prop) → (D → Mu → Prop) → Prop
def MonTX (T : TX) : Prop := ∀ ss μ (P P' : D → Mu → Prop) (R R' : D → Mu → Prop), (∀ d μ', P d μ' → P' d μ') → (∀ d μ', R d μ' → R' d μ') → T ss μ P R → T ss μ P' R'
def spX (n : Nat) (K : PySem.W.Frag) (T : TX) : Sp := fun vs H Q E => ∃ ad ss μ, RpSA K (hide ad H) ad vs ss ∧ RpM K H ad μ ∧ ss.length = n ∧ T ss μ (fun d μ' => ∀ v H', Step ad H ad H' → RpM K H' ad μ' → Rp K (hide ad H') v d → Q v H')
  (fun x μ' => ∀ cls d H', Step ad H ad H' → RpM K H' ad μ' → RpX K (hide ad H') cls d x → E cls d H')
abbrev SX := Rho → Mu → (S → Mu → Prop) → (D → Mu → Prop) → Prop
def MonX (f : SX) : Prop := ∀ ρ μ (P P' : S → Mu → Prop) (R R' : D → Mu → Prop), (∀ d μ', P d μ' → P' d μ') → (∀ d μ', R d μ' → R' d μ') → f ρ μ P R → f ρ μ P' R'
def teX (K : PySem.W.Frag) (W : WX) (f : SX) : TE := fun σ H Q => ∃ ad ρ μ, Sim K H ad ρ μ σ ∧ f ρ μ (fun x μ' => ∀ v H', Step ad H ad H' → RpM K H' ad μ' → RpS K (hide ad H') ad v x → Q v H') (fun x μ' => ∀ cls d H', Step ad H ad H' → RpM K H' ad μ' → RpX K (hide ad H') cls d x → W cls d σ H')
structure PDX (X : Cx) (W : WX) (e : Expr) (f : SX) : Prop where
  mo : MonX f
  run : PE X e (teX X.K W f)
def DefOkX (P : Program) (w : World) (K : PySem.W.Frag) (mg : Str → Option Value) (base : Heap) (x : Str) (k n : Nat) (T : TX) : Prop :=
  MonTX T ∧ ∃ f fd ps, mg x = some (.ref f) ∧ PySem.W.keepIn K (.ref f) = true ∧ Binds K fd ps [] ∧ FnOk P w K mg base (L2.CX P w) k f fd ps (spX n K T)
section
variable {X : Cx} {W : WX} {x : Str} {k n : Nat} {T : TX} {p pos : Pos} {e : Expr} {es : List Expr} {f : SA}
def fCallX (n : Nat) (T : TX) (f : SA) : SX := fun ρ μ P R => f ρ μ fun ss μ1 => ss.length = n ∧ T ss μ1 (fun d μ2 => P (.d d) μ2) R
theorem pdx_call (tk : Takes X W) (C : DefOkX X.prog X.w X.K X.mg X.base x k n T) (hr : Room k X.A) (hg : Gl X x) (h : PDA X (e :: es) f) (hdb : (x == ("__debug__" : Str)) = false := by decide)
    (he : starEach (e :: es) X.env = (false, eval e X.env) :: starEach es X.env := by rfl) (hpl : (backTo pos (starEach es X.env)).any (·.1) = false := by rfl) : PDX X W (.Call (.Name x p) (e :: es) [] pos) (fCallX n T f) := by
  obtain ⟨mT, fa, fd, ps, g, kp, b, F⟩ := C
  refine ⟨fun ρ μ P P' R R' k1 k2 q => h.mo ρ μ _ _ (fun ss μ1 q => ⟨q.1, mT ss μ1 _ _ _ _ (fun d μ2 q => k1 _ _ q) k2 q.2⟩) q, (pe_callS (E := WE W) F hr hg g kp b (fun σ => passAt tk σ) h.run hdb he hpl).of fun σ H Q q => ?_⟩
  obtain ⟨ad, ρ, μ, s, q⟩ := q
  refine ⟨ad, ρ, μ, s, h.mo ρ μ _ _ (fun ss μ1 q vs H1 t1 m1 r1 => ?_) q⟩
  exact ⟨ad, ss, μ1, r1, m1, q.1, mT ss μ1 _ _ _ _ (fun d μ2 q v H2 t2 m2 r2 => q v H2 (t1.trans t2) m2 r2) (fun x μ2 q cls d H2 t2 m2 r2 => q cls d H2 (t1.trans t2) m2 r2) q.2⟩
def fExprX (g : SX) : SS := fun ρ μ k => g ρ μ (fun _ μ1 => k.nx ρ μ1) (fun x μ1 => k.er x ρ μ1)
theorem pds_exprX {g : SX} (h : PDX X W e g) (hs : swapsWith e none pos.line X.env = pure false := by rfl) : PDS X W (.Expr e pos) (fExprX g) := by
  refine ⟨fun ρ μ k k' l q => h.mo ρ μ _ _ _ _ (fun x μ1 q => l.nx _ _ q) (fun x μ1 q => l.er _ _ _ q) q, (ps_expr h.run hs).of fun Dn σ H q => ?_⟩
  obtain ⟨ad, ρ, μ, s, q⟩ := q
  exact ⟨ad, ρ, μ, s, h.mo ρ μ _ _ _ _ (fun x μ1 q v H1 t1 m1 r1 => q σ H1 ad t1 (s.step t1 m1)) (fun x μ1 q cls d H1 t1 m1 r1 => q cls d σ H1 ad t1 (s.step t1 m1) r1) q⟩
def fRetX (g : SX) : SS := fun ρ μ k => g ρ μ k.rt (fun x μ1 => k.er x ρ μ1)
theorem pds_retX {g : SX} (h : PDX X W e g) : PDS X W (.Return (some e) pos) (fRetX g) := by
  refine ⟨fun ρ μ k k' l q => h.mo ρ μ _ _ _ _ l.rt (fun x μ1 q => l.er _ _ _ q) q, (ps_ret h.run).of fun Dn σ H q => ?_⟩
  obtain ⟨ad, ρ, μ, s, q⟩ := q
  exact ⟨ad, ρ, μ, s, h.mo ρ μ _ _ _ _ (fun x μ1 q v H1 t1 m1 r1 => q v H1 ad t1 m1 r1) (fun x μ1 q cls d H1 t1 m1 r1 => q cls d σ H1 ad t1 (s.step t1 m1) r1) q⟩
def fSetX (i : Nat) (g : SX) : SS := fun ρ μ k => g ρ μ (fun x μ1 => k.nx (ρ.set i (some x)) μ1) (fun x μ1 => k.er x ρ μ1)
theorem pds_setX {i : Nat} {y : Str} {p : Pos} {g : SX} (h : PDX X W e g) (hp : ∀ te, PE X e te → PS X (.Assign [.Name y p] e pos) (tAsg te (gName i))) : PDS X W (.Assign [.Name y p] e pos) (fSetX i g) := by
  refine ⟨fun ρ μ k k' l q => h.mo ρ μ _ _ _ _ (fun x μ1 q => l.nx _ _ q) (fun x μ1 q => l.er _ _ _ q) q, (hp _ h.run).of fun Dn σ H q => ?_⟩
  obtain ⟨ad, ρ, μ, s, q⟩ := q
  exact ⟨ad, ρ, μ, s, h.mo ρ μ _ _ _ _ (fun x μ1 q v H1 t1 m1 r1 => q _ H1 ad t1 ((s.step t1 m1).set r1)) (fun x μ1 q cls d H1 t1 m1 r1 => q cls d σ H1 ad t1 (s.step t1 m1) r1) q⟩
end
def kDX (n : Nat) (P R : D → Mu → Prop) : K4 := { kD n P with er := fun x _ μ' => R x (μ'.take n) }
theorem ok_defX {P : Program} {w : World} {K : PySem.W.Frag} {mg : Str → Option Value} {base : Heap} {x qual : Str} {st : Stmt} {f : Addr} {fd : FuncData} {N ps : List Str} {k : Nat} {T : TX} {fb : SS} (F : Fun K x qual st f fd) (Sc : FnScope N ps (defScope st))
    (hb : ∀ (cdv : Value) (A : Around) (outer : List Env) (s : Shared) (H : Hp) (E : XK), Room k (A.deeper (envOfC qual (defScope st) s.heap.objs.size f cdv)) → PDSs (cxOf (L2.CX P w) P w K mg base N qual (defScope st) f cdv A outer s H E) (fun cls d _ H => E cls d H) (defBody st) fb)
    (hT : ∀ ss μ (Q R : D → Mu → Prop), ss.length = ps.length → T ss μ Q R → fb (startR N ss) μ (kDX μ.length Q R)) : FnOk P w K mg base (L2.CX P w) (k + 1) f fd ps (spX ps.length K T) := by
  refine F.okX Sc (fun vs H Q E h => ?_) (fun cdv A outer s H vs Q E hr h => ?_)
  · obtain ⟨ad, ss, μ, r, m, l, _⟩ := h
    rw [rpSA_len r]
    exact l
  · obtain ⟨ad, ss, μ, r, m, l, q⟩ := h
    have B := hb cdv A outer s H E hr
    refine ⟨_, B.run, ad, startR N ss, μ, sim_start m r, B.mo _ _ _ _ ?_ (hT ss μ _ _ l q)⟩
    have hl := m.len
    have less : ∀ {ad' : List Addr} {H' : Hp}, Step ad H ad' H' → Step ad H ad H' := fun t => ⟨List.prefix_refl _, fun b o h e => ⟨h, (t.keep b o h e).2⟩⟩
    refine ⟨fun ρ' μ' q σ' H' ad' t s' => ?_, fun y μ' q v H' ad' t m' rv => ?_, fun _ _ q => q.elim, fun _ _ q => q.elim, fun y ρ' μ' q cls d σ' H' ad' t s' rx => ?_⟩
    · obtain ⟨m2, sm⟩ := s'.m.take t.pre
      rw [hl] at m2
      exact q .non H' (less t) m2 .non
    · obtain ⟨d, e, q⟩ := q
      obtain ⟨m2, sm⟩ := m'.take t.pre
      rw [hl] at m2
      exact q v H' (less t) m2 (fin_rp m' t.pre (by rw [← hl]) rv e)
    · obtain ⟨m2, sm⟩ := s'.m.take t.pre
      rw [hl] at m2
      exact q cls d H' (less t) m2 (rx.mono sm)
where
  fin_rp {K : PySem.W.Frag} {H' : Hp} {ad ad' : List Addr} {μ' : Mu} {n : Nat} {v : V} {y : S} {d : D} (m' : RpM K H' ad' μ') (pre : ad <+: ad') (hn : n = ad.length) (rv : RpS K (hide ad' H') ad' v y) (e : fin n μ' y = some d) : Rp K (hide ad H') v d := by
    obtain ⟨m2, sm⟩ := m'.take pre
    cases y with
    | d y => cases e; exact Rp.mono sm rv
    | ex _ _ _ _ => cases e
    | m j =>
      unfold fin at e
      simp only at e
      split at e
      · cases e
      · rename_i hj
        cases e2 : μ'[j]? with
        | none => rw [e2] at e; cases e
        | some ds =>
          rw [e2] at e
          cases e
          obtain ⟨a, h1, rfl⟩ := rv
          obtain ⟨b, xs, q1, q2, q3⟩ := m'.at_ j ds e2
          rw [h1] at q1
          cases q1
          refine .lst (xs := xs) (.inl (.inl ?_)) (q3.mono sm)
          rw [hide_out fun z => ?_]
          · exact q2
          · obtain ⟨t', e3⟩ := pre
            subst e3
            obtain ⟨l1, e4⟩ := List.getElem?_eq_some_iff.mp h1
            obtain ⟨i, hi, e5⟩ := List.getElem_of_mem z
            have e6 : (ad ++ t')[i]'(by rw [List.length_append]; omega) = a := by rw [List.getElem_append_left hi]; exact e5
            have hij := (List.getElem_inj m'.nd).mp (e6.trans e4.symm)
            omega
theorem ok_defDX {P : Program} {w : World} {K : PySem.W.Frag} {mg : Str → Option Value} {base : Heap} {x : Str} {st : Stmt} {N ps : List Str} {k : Nat} {T : TX} {fb : SS} (t : Top K mg x st ps) (S : FnScope N ps (defScope st)) (mT : MonTX T)
    (hb : ∀ (f : Addr) (cdv : Value) (A : Around) (outer : List Env) (s : Shared) (H : Hp) (E : XK), Room k (A.deeper (envOfC x (defScope st) s.heap.objs.size f cdv)) → PDSs (cxOf (L2.CX P w) P w K mg base N x (defScope st) f cdv A outer s H E) (fun cls d _ H => E cls d H) (defBody st) fb)
    (hT : ∀ ss μ (Q R : D → Mu → Prop), ss.length = ps.length → T ss μ Q R → fb (startR N ss) μ (kDX μ.length Q R)) : DefOkX P w K mg base x (k + 1) ps.length T := by
  obtain ⟨f, fd, F, b, g⟩ := t
  exact ⟨mT, f, fd, ps, g, F.kp, b, ok_defX F S (fun cdv A outer s H E hr => hb f cdv A outer s H E hr) hT⟩
/-! ### try .. except C as e .. -/
def kNo (k : K4) : K4 := { k with er := fun _ _ _ => False }
def kBut (i : Nat) (k : K4) : K4 := { nx := fun ρ μ => k.nx (ρ.set i none) μ, rt := k.rt, bk := fun ρ μ => k.bk (ρ.set i none) μ, ct := fun ρ μ => k.ct (ρ.set i none) μ, er := fun _ _ _ => False }
abbrev ClD := Value × Option Nat × (Addr → Value → Option Addr → SS)
def suiteD (o : Option Nat) (fs : Addr → Value → Option Addr → SS) (a : Addr) (cls : Value) (d : Option Addr) (x : D) (ρ : Rho) (μ : Mu) (k : K4) : Prop := match o with
  | none => fs a cls d ρ μ (kNo k)
  | some i => fs a cls d (ρ.set i (some (.ex a cls d x))) μ (kBut i k)
def clD (K : PySem.W.Frag) (k : K4) : List ClD → D → Rho → Mu → Prop
  | [], x, ρ, μ => k.er x ρ μ
  | (c, o, fs) :: r, x, ρ, μ => ∃ C b, errOf (.d x) = some C ∧ PySem.W.exmOne K (.ref C) c = some b ∧ (b = true → ∀ a d, suiteD o fs a (.ref C) d x ρ μ k) ∧ (b = false → clD K k r x ρ μ)
def fTry (K : PySem.W.Frag) (fb : SS) (l : List ClD) : SS := fun ρ μ k => fb ρ μ { k with er := fun x ρ1 μ1 => clD K k l x ρ1 μ1 }
def ClMon : List ClD → Prop
  | [] => True
  | (_, _, fs) :: r => (∀ a cls d, MonS (fs a cls d)) ∧ ClMon r
theorem mon_suiteD {o : Option Nat} {fs : Addr → Value → Option Addr → SS} {a : Addr} {cls : Value} {d : Option Addr} {x : D} {ρ : Rho} {μ : Mu} {k k' : K4} (m : MonS (fs a cls d)) (l : K4.le k k') (h : suiteD o fs a cls d x ρ μ k) : suiteD o fs a cls d x ρ μ k' := by
  cases o with
  | none => exact m _ _ (kNo k) (kNo k') ⟨l.nx, l.rt, l.bk, l.ct, fun _ _ _ q => q⟩ h
  | some i => exact m _ _ (kBut i k) (kBut i k') ⟨fun _ _ q => l.nx _ _ q, l.rt, fun _ _ q => l.bk _ _ q, fun _ _ q => l.ct _ _ q, fun _ _ _ q => q⟩ h
theorem mon_clD {K : PySem.W.Frag} {k k' : K4} (l : K4.le k k') : ∀ {cs : List ClD}, ClMon cs → ∀ {x : D} {ρ : Rho} {μ : Mu}, clD K k cs x ρ μ → clD K k' cs x ρ μ
  | [], _, _, _, _, q => l.er _ _ _ q
  | (c, o, fs) :: r, m, x, ρ, μ, ⟨C, b, e1, e2, q1, q2⟩ => ⟨C, b, e1, e2, fun z a d => mon_suiteD (m.1 _ _ _) l (q1 z a d), fun z => mon_clD l m.2 (q2 z)⟩
theorem mon_try {K : PySem.W.Frag} {fb : SS} {cs : List ClD} (mb : MonS fb) (mc : ClMon cs) : MonS (fTry K fb cs) := fun ρ μ k k' l q => mb ρ μ { k with er := fun x ρ1 μ1 => clD K k cs x ρ1 μ1 } { k' with er := fun x ρ1 μ1 => clD K k' cs x ρ1 μ1 } ⟨l.nx, l.rt, l.bk, l.ct, fun _ _ _ q => mon_clD l mc q⟩ q
/-- the clauses with their suites -/
inductive PDC (X : Cx) : List ExceptHandler → List ClD → Prop
  | nil : PDC X [] []
  | bare {x : Str} {c : Value} {fs : Addr → Value → Option Addr → SS} {st : Stmt} {sts : List Stmt} {np p : Pos} {hds : List ExceptHandler} {l : List ClD} (hc : Names X x c)
      (su : ∀ (a : Addr) (oe : Obj) (cls : Value) (d : Option Addr) (pn : List (Addr × Obj)), Zc cls d oe → (∃ vs, oe.data = .fields vs) → PDSs (X.suite a ((a, oe) :: pn)) WZ (st :: sts) (fs a cls d)) (mo : ∀ a cls d, MonS (fs a cls d)) (r : PDC X hds l) :
      PDC X (.ExceptHandler (some (.Name x np)) none (st :: sts) p :: hds) ((c, none, fs) :: l)
  | named {x n : Str} {i : Nat} {c : Value} {fs : Addr → Value → Option Addr → SS} {st : Stmt} {sts : List Stmt} {np p : Pos} {hds : List ExceptHandler} {l : List ClD} (hc : Names X x c) (hi : X.N[i]? = some n) (hn : X.env.kindOf n = some .local)
      (su : ∀ (a : Addr) (oe : Obj) (cls : Value) (d : Option Addr) (pn : List (Addr × Obj)), Zc cls d oe → (∃ vs, oe.data = .fields vs) → PDSs (X.suite a ((a, oe) :: pn)) WZ (st :: sts) (fs a cls d)) (mo : ∀ a cls d, MonS (fs a cls d)) (r : PDC X hds l) :
      PDC X (.ExceptHandler (some (.Name x np)) (some n) (st :: sts) p :: hds) ((c, some i, fs) :: l)
def clsT (K : PySem.W.Frag) (l : List ClD) : List DX.Cl := l.map fun p => (p.1, p.2.1, fun a cls d => tsOf K WZ (p.2.2 a cls d))
section
variable {X : Cx} {W : WX}
theorem PDC.mon {hds : List ExceptHandler} {l : List ClD} (h : PDC X hds l) : ClMon l := by
  induction h with
  | nil => trivial
  | bare hc su mo r ih => exact ⟨mo, ih⟩
  | named hc hi hn su mo r ih => exact ⟨mo, ih⟩
theorem PDC.ok {hds : List ExceptHandler} {l : List ClD} (h : PDC X hds l) : DX.ClsOk X hds (clsT X.K l) := by
  induction h with
  | nil => exact .nil
  | bare hc su mo r ih => exact .bare hc (fun a oe cls d pn z v => (su a oe cls d pn z v).run) ih
  | named hc hi hn su mo r ih => exact .named hc hi hn (fun a oe cls d pn z v => (su a oe cls d pn z v).run) ih
theorem RpX.cls_of {K : PySem.W.Frag} {F : Hp} {cls : Value} {d : Option Addr} {x : D} {C : Addr} (r : RpX K F cls d x) (h : errOf (.d x) = some C) : cls = .ref C := by
  cases x with
  | err C' f y => cases h; exact r.1
  | erb C' => cases h; exact r.1
  | non => cases h
  | bl _ => cases h
  | int _ => cases h
  | str _ => cases h
  | tup _ => cases h
  | lst _ => cases h
  | dct _ _ => cases h
theorem clD_w {ad : List Addr} {H : Hp} {Dn : Ends} : ∀ {l : List ClD}, ClMon l → ∀ {x : D} {ρ : Rho} {μ : Mu}, clD X.K (kOf X.K W ad H Dn) l x ρ μ → ∀ cls d σ' H' ad', Step ad H ad' H' → Sim X.K H' ad' ρ μ σ' → RpX X.K (hide ad' H') cls d x → DX.wCl X.K W Dn (clsT X.K l) cls d σ' H'
  | [], _, x, ρ, μ, q, cls, d, σ', H', ad', t, s, r => q cls d σ' H' ad' t s r
  | (c, o, fs) :: l, m, x, ρ, μ, ⟨C, b, e1, e2, q1, q2⟩, cls, d, σ', H', ad', t, s, r => by
    obtain rfl := r.cls_of e1
    refine ⟨b, e2, fun z a ha => ?_, fun z => clD_w m.2 (q2 z) (.ref C) d σ' H' ad' t s r⟩
    have q := q1 z a d
    cases o with
    | none => exact ⟨ad', ρ, μ, s, m.1 _ _ _ _ _ (kNo (kOf X.K W ad H Dn)) _ ⟨fun _ _ h => (kOf_step t).nx _ _ h, fun _ _ h => (kOf_step t).rt _ _ h, fun _ _ h => (kOf_step t).bk _ _ h, fun _ _ h => (kOf_step t).ct _ _ h, fun _ _ _ h => h.elim⟩ q⟩
    | some i =>
      refine ⟨ad', ρ.set i (some (.ex a (.ref C) d x)), μ, s.set ⟨rfl, r⟩, m.1 _ _ _ _ _ (kBut i (kOf X.K W ad H Dn)) _ ⟨fun ρ2 μ2 h σ2 H2 ad2 t2 s2 => ?_, fun y μ2 h v H2 ad2 t2 m2 r2 => ?_, fun ρ2 μ2 h σ2 H2 ad2 t2 s2 => ?_, fun ρ2 μ2 h σ2 H2 ad2 t2 s2 => ?_, fun _ _ _ h => h.elim⟩ q⟩
      · exact h _ H2 ad2 (t.trans t2) (s2.unset i)
      · exact h v H2 ad2 (t.trans t2) m2 r2
      · exact h _ H2 ad2 (t.trans t2) (s2.unset i)
      · exact h _ H2 ad2 (t.trans t2) (s2.unset i)
theorem pds_try {body : List Stmt} {h₀ : ExceptHandler} {hds : List ExceptHandler} {l : List ClD} {pos : Pos} {fb : SS} (hs : X.stack = X.env :: X.outer) (hf : X.env.frame = some X.env.locals) (hN : X.N.Nodup) (tk : Takes X W)
    (hb : ∀ (W' : WX) (pn : List (Addr × Obj)) (xe : Value → Shared → Prop), Takes (X.tr pn xe) W' → PassesOwn (model X.prog X.w) X.A X.env xe → PDSs (X.tr pn xe) W' body fb) (hmb : MonS fb) (hh : PDC X (h₀ :: hds) l) :
    PDS X W (.Try body (h₀ :: hds) [] [] pos) (fTry X.K fb l) := by
  refine ⟨mon_try hmb hh.mon, (DX.ps_try (tb := fun W' => tsOf X.K W' fb) hs hf hN tk (fun W' pn xe tk' po => (hb W' pn xe tk' po).run) hh.ok).of fun Dn σ H q => ?_⟩
  obtain ⟨ad, ρ, μ, s, q⟩ := q
  refine ⟨ad, ρ, μ, s, hmb ρ μ { kOf X.K W ad H Dn with er := fun x ρ1 μ1 => clD X.K (kOf X.K W ad H Dn) l x ρ1 μ1 } _ ⟨fun _ _ h => h, fun _ _ h => h, fun _ _ h => h, fun _ _ h => h, fun x ρ1 μ1 h cls d σ' H' ad' t s' r => clD_w hh.mon h cls d σ' H' ad' t s' r⟩ q⟩
/-- e.f in an except suite -/
def fXatt (K : PySem.W.Frag) (a : Addr) (cls : Value) (dd : Option Addr) (f : Str) (g : SE) : SE := fun ρ μ P => g ρ μ fun y μ1 => ∃ C d, y = .ex a cls dd (.err C f d) ∧ AttC K C f ∧ P (.d d) μ1
theorem pd_xatt {a : Addr} {oe : Obj} {cls : Value} {d : Option Addr} {pn : List (Addr × Obj)} {e : Expr} {g : SE} {pos : Pos} {f : Str} (hz : Zc cls d oe) (hf : ∃ vs, oe.data = .fields vs) (he : PD (X.suite a ((a, oe) :: pn)) e g) (hb : attributeBase e f X.env (eval e X.env) = eval e X.env := by rfl) :
    PD (X.suite a ((a, oe) :: pn)) (.Attribute e f pos) (fXatt X.K a cls d f g) := by
  refine ⟨fun ρ μ P P' k q => he.mo ρ μ _ _ (fun y μ1 ⟨C, d, e1, T, q⟩ => ⟨C, d, e1, T, k _ _ q⟩) q, ⟨fun pins s σ H Q I q => ?_⟩⟩
  obtain ⟨ad, ρ, μ, sm, q⟩ := q
  refine attr_of hb (thn (he.run.run pins s σ H (fun x H1 => x = .ref a ∧ ∃ (C dd : Addr) (v : V) (y : D) (μ1 : Mu), cls = .ref C ∧ AttC X.K C f ∧ d = some dd ∧ H1 dd = some (.xd [(f, v)]) ∧ Q v H1) I ⟨ad, ρ, μ, sm, he.mo ρ μ _ _ (fun y μ1 hy v H1 t1 m1 r1 => ?_) q⟩) fun u s1 hh => ?_)
  · obtain ⟨C, x, e1, T, q⟩ := hy
    subst e1
    obtain ⟨r1, hc, dd, v', hd, hx, rx⟩ := r1
    exact ⟨r1, C, dd, v', x, μ1, hc, T, hd, (hide_some hx).2, q v' H1 t1 m1 rx⟩
  · obtain ⟨x, H1, I1, rx, ex, C, dd, v, y, μ1, ec, T, ed, ea, q2⟩ := hh
    subst ex
    obtain rfl : u = Value.ref a := rx
    subst ec
    subst ed
    obtain ⟨ha, _⟩ := I1.pin (a, oe) (List.mem_append_left _ List.mem_cons_self)
    obtain ⟨vs, hd⟩ := hf
    have hx : ObjOk X.prog X.w H1 s1.heap dd (.xd [(f, v)]) := I1.hok dd _ ea
    obtain ⟨mA, hns, hr⟩ := hx
    obtain ⟨od, ho, hl⟩ := lookIn_ns hns
    have h1 : ([(f, v)] : List (Str × V)).lookup f = some v := by simp [List.lookup]
    obtain ⟨u, hu, ru⟩ := RelO.some_of (v := v) (o := mA f) (by rw [← h1]; exact hr f)
    have J : PySem.W.InstAt s1.heap a oe C (some od) := ⟨ha, hz.1, by unfold PySem.W.notCls; rw [hd] <;> rfl, by rw [hz.2]; exact ho⟩
    exact HandSPX.exc_get I1.kIn J T.xf.ga T.xf.gg T.xf.exC (PySem.W.findObj_own T.xf.hdC T.no rfl (by rw [hl, hu])) (handed_of ru) ⟨v, H1, I1.tok _, ru, q2⟩
end
end DV

/-! part DB -/
set_option Elab.async false
set_option linter.all false
set_option maxRecDepth 100000
set_option maxHeartbeats 1000000
set_option autoImplicit false
/-! True and False among ints -/
namespace DB
open PySem PySem.Spec
abbrev bi (b : Bool) : Int := if b = true then 1 else 0
theorem ty_bool (b : Bool) : ∀ s : Shared, s.TypeIs (.bool b) "bool" := fun _ => rfl
theorem ty_int (i : Int) (t : Tok) : ∀ s : Shared, s.TypeIs (.int i t) "int" := fun _ => rfl
theorem no_sub : isSubtype (.type "int") (.type "bool") = pure false := by kernel_rfl
theorem g_sub {b : Bool} {i : Int} {t : Tok} : Gives (Builtin.«int.__sub__» ⟨[.bool b, .int i t], []⟩) (.int (bi b - i)) := by cases b <;> exact .of_eq rfl
theorem g_add {b : Bool} {i : Int} {t : Tok} : Gives (Builtin.«int.__add__» ⟨[.bool b, .int i t], []⟩) (.int (bi b + i)) := by cases b <;> exact .of_eq rfl
theorem g_gt {b : Bool} {i : Int} {t : Tok} : Gives (Builtin.«int.__gt__» ⟨[.bool b, .int i t], []⟩) (.val (.bool (decide (i < bi b)))) := by cases b <;> exact .of_eq rfl
section
variable {prog : Program} {w : World} {A : Around} {E : Value → Shared → Prop} {s : Shared} {b : Bool} {i : Int} {t : Tok} {Q : Value → Shared → Prop}
theorem sub_bi (h : Q (.int (bi b - i) s.toks) { s with toks := s.toks + 1 }) : wpAny (model prog w) A (binaryOp .Sub (.bool b) (.int i t)) Q E s :=
  binaryOp_left_gives (op := .Sub) (T := "bool") (U := "int") (by decide) (ty_bool b s) (ty_int i t) F.fills_bool_sub F.fills_int_sub no_sub F.slot_bool_sub F.slot_int_rsub F.entry_int_sub (F.args_int_sub_2 _ _) g_sub trivial h
theorem add_bi (h : Q (.int (bi b + i) s.toks) { s with toks := s.toks + 1 }) : wpAny (model prog w) A (binaryOp .Add (.bool b) (.int i t)) Q E s :=
  binaryOp_left_gives (op := .Add) (T := "bool") (U := "int") (by decide) (ty_bool b s) (ty_int i t) F.fills_bool_add F.fills_int_add no_sub F.slot_bool_add F.slot_int_radd F.entry_int_add (F.args_int_add_2 _ _) g_add trivial h
theorem gt_bi (h : Q (.bool (decide (i < bi b))) s) : wpAny (model prog w) A (compareOp .Gt (.bool b) (.int i t)) Q E s :=
  PyProof.Rows.wpAny_richCompare_left (op := .Gt) (Ta := "bool") (Tb := "int") (ty_bool b s) (ty_int i t s) (by decide) no_sub F.slot_bool_gt (call_gives F.slot_bool_gt (ty_bool b s) F.entry_int_gt (F.args_int_gt_2 _ _) g_gt ⟨by simp, h⟩)
theorem same_sub : reflectedDiffers (.type "int") (.type "bool") "sub" = pure false := by
  unfold reflectedDiffers
  show (typeLookup (.type "bool") (dunderR "sub") >>= fun rb => typeLookup (.type "int") (dunderR "sub") >>= fun ra => pure (rb.isSome && rb != ra)) = pure false
  rw [typeLookup_type, typeLookup_type, builtinLookup_eq_fast]; kernel_rfl
theorem sub_ib (h : Q (.int (i - bi b) s.toks) { s with toks := s.toks + 1 }) : wpAny (model prog w) A (binaryOp .Sub (.int i t) (.bool b)) Q E s :=
  binaryOp_sub_gives (op := .Sub) (T := "int") (U := "bool") (by decide) (ty_int i t s) rfl F.fills_int_sub F.fills_bool_sub isSubtype_bool_int same_sub F.slot_int_sub F.entry_int_sub (F.args_int_sub_2 _ _) (AutoIntG7.int___sub___int_bool_0 i t b) trivial h
theorem g_mul2 {b : Bool} {t : Tok} : Gives (Builtin.«int.__mul__» ⟨[.bool b, .int 2 t], []⟩) (.int (bi b * 2)) := by cases b <;> exact .of_eq rfl
theorem g_mod1000 {b : Bool} {t : Tok} : Gives (Builtin.«int.__mod__» ⟨[.bool b, .int 1000 t], []⟩) (.int (bi b % 1000)) := by cases b <;> exact .of_eq rfl
theorem mul_bi (h : Q (.int (bi b * 2) s.toks) { s with toks := s.toks + 1 }) : wpAny (model prog w) A (binaryOp .Mult (.bool b) (.int 2 t)) Q E s :=
  binaryOp_left_gives (op := .Mult) (T := "bool") (U := "int") (by decide) (ty_bool b s) (ty_int 2 t) F.fills_bool_mul F.fills_int_mul no_sub F.slot_bool_mul F.slot_int_rmul F.entry_int_mul (F.args_int_mul_2 _ _) g_mul2 trivial h
theorem mod_bi (h : Q (.int (bi b % 1000) s.toks) { s with toks := s.toks + 1 }) : wpAny (model prog w) A (binaryOp .Mod (.bool b) (.int 1000 t)) Q E s :=
  binaryOp_left_gives (op := .Mod) (T := "bool") (U := "int") (by decide) (ty_bool b s) (ty_int 1000 t) F.fills_bool_mod F.fills_int_mod no_sub F.slot_bool_mod F.slot_int_rmod F.entry_int_mod (F.args_int_mod_2 _ _) g_mod1000 trivial h
end
end DB

/-! part DTR -/
set_option Elab.async false
set_option linter.all false
set_option maxRecDepth 100000
set_option maxHeartbeats 1000000
set_option autoImplicit false
/-! t[::-1] of a tuple -/
namespace DTR
open PySem PySem.Spec PyProof.Rows L2 HT
theorem adj_rev (n : Nat) : Builtin.Slice.sliceAdjust none none (-1) (n : Int) = ((n : Int) - 1, -1) := by
  unfold Builtin.Slice.sliceAdjust
  rfl
theorem places_rev (n : Nat) : Builtin.Slice.slicePlaces ((n : Int) - 1) (-1) (-1) = n := by
  unfold Builtin.Slice.slicePlaces
  have h1 : ¬ ((-1 : Int) > 0) := by decide
  simp only [h1, if_false]
  by_cases h : (n : Int) - 1 > -1
  · rw [if_pos h]
    have e : (- -1 : Int) = 1 := by decide
    rw [e, Int.ediv_one]
    omega
  · rw [if_neg h]
    have : n = 0 := by omega
    subst this
    rfl
theorem pick_rev (xs : Array Value) : (List.range xs.size).filterMap (fun (k : Nat) => xs[(((xs.size : Int) - 1) + (k : Int) * (-1)).toNat]?) = xs.toList.reverse := by
  have e : (List.range xs.size).filterMap (fun (k : Nat) => xs[(((xs.size : Int) - 1) + (k : Int) * (-1)).toNat]?) = ((List.range xs.size).map fun k => xs.size - 1 - k).filterMap (xs[·]?) := by
    have key : ∀ l : List Nat, (∀ k ∈ l, k < xs.size) → l.filterMap (fun (k : Nat) => xs[(((xs.size : Int) - 1) + (k : Int) * (-1)).toNat]?) = (l.map fun k => xs.size - 1 - k).filterMap (xs[·]?) := by
      intro l
      induction l with
      | nil => intro _; rfl
      | cons k l ih =>
        intro h
        have hk := h k (by simp)
        have z : (((xs.size : Int) - 1) + (k : Int) * (-1)).toNat = xs.size - 1 - k := by omega
        rw [List.map_cons, List.filterMap_cons, List.filterMap_cons, z, ih fun j hj => h j (List.mem_cons_of_mem _ hj)]
    exact key _ fun k hk => List.mem_range.mp hk
  rw [e, PySem.W.krv_range, List.filterMap_reverse, PySem.W.krv_all]
section
variable {prog : Program} {w : World} {A : Around} {E : Value → Shared → Prop} {s : Shared}
theorem getItem_rev {t sl : Addr} {items : Array Value} {vs : Value} {Q : Value → Shared → Prop} (ht : IsTup s.heap t items) (hs : s.heap.IsSliceOf sl .none .none vs) (ps : IsPart vs (some (-1)))
    (h : Q (.ref s.heap.objs.size) { s with heap := s.heap.push { cls := .type "tuple", data := .seq items.toList.reverse.toArray } }) (hsz : items.size ≤ sizeLine) : wpAny (model prog w) A (getItem (.ref t) (.ref sl)) Q E s := by
  have hok : sizeOk (.seq items.toList.reverse.toArray) := by
    show items.toList.reverse.toArray.size ≤ sizeLine
    rw [List.size_toArray, List.length_reverse, Array.length_toList]
    exact hsz
  obtain ⟨os, hos, hcs, hds⟩ := id hs
  have hTs : s.TypeIs (.ref sl) "slice" := ⟨os, hos, hcs⟩
  unfold getItem
  try with_reducible refine wpAny_holding ?_
  first | refine wpAny_bind (wpAny_pure ?_) | skip
  refine wpAny_bind (wpAny_sequenceKey ht.typeIs (by decide) ?_)
  refine wpAny_bind (wpAny_callSpecial?_slot (name := Str.ofString "__getitem__") ht.typeIs slot_tuple_getitem ?_)
  refine wpAny_call_entry slot_tuple_getitem ht.typeIs entry_tuple_getitem ?_ (args_tuple_getitem _ _)
  show wpAny _ _ (Builtin.Tuple.tupleItemsOf (.ref t) >>= _) _ _ s
  refine wpAny_bind (tupleItemsOf_ ht (wpAny_bind (wpAny_typeOf hTs ?_)))
  rw [if_pos (by decide)]
  refine wpAny_bind ?_
  unfold Builtin.Slice.sliceApplied Builtin.Slice.sliceFields
  refine wpAny_bind (wpAny_bind (wpAny_field hos hds (x := .none) rfl ?_))
  refine wpAny_bind (wpAny_field hos hds (x := .none) rfl ?_)
  refine wpAny_bind (wpAny_field hos hds (x := vs) rfl (wpAny_pure ?_))
  refine wpAny_bind (slicePart_ ps ?_)
  show wpAny _ _ (if ((-1 : Int) == 0) = true then _ else _) _ _ s
  rw [if_neg (by decide)]
  refine wpAny_bind (slicePart_none (wpAny_bind (slicePart_none (wpAny_bind (wpAny_pure ?_)))))
  show wpAny _ _ (match Builtin.Slice.sliceAdjust none none (-1) (items.size : Int) with | (lo, hi) => pure (lo, (-1 : Int), Builtin.Slice.slicePlaces lo hi (-1))) _ _ s
  rw [adj_rev]
  refine wpAny_pure ?_
  show wpAny _ _ (if (((items.size : Int) - 1) == 0 && (-1 : Int) == 1 && Builtin.Slice.slicePlaces ((items.size : Int) - 1) (-1) (-1) == items.size) = true then _ else _) _ _ s
  have hno : ¬ ((((items.size : Int) - 1) == 0 && (-1 : Int) == 1 && Builtin.Slice.slicePlaces ((items.size : Int) - 1) (-1) (-1) == items.size) = true) := by simp
  rw [if_neg hno, places_rev, pick_rev]
  first
    | exact wpAny_bind (m := Builtin.Tuple.tupleExact _) (wpAny_newObj_type (wpAny_pure ⟨_, rfl, wpAny_pure h⟩) hok)
    | exact wpAny_bind (m := Builtin.Tuple.tupleExact _) (wpAny_newObj_type (wpAny_bind (wpAny_pure (wpAny_pure ⟨_, rfl, wpAny_pure h⟩))) hok)
    | exact wpAny_bind (wpAny_bind (m := Builtin.Tuple.tupleExact _) (wpAny_newObj_type (wpAny_pure (wpAny_pure ⟨_, rfl, wpAny_pure h⟩)) hok))
    | exact wpAny_bind (wpAny_bind (m := Builtin.Tuple.tupleExact _) (wpAny_newObj_type (wpAny_pure ⟨_, rfl, wpAny_pure h⟩) hok))
end
section
variable {X : Cx}
def tRevT (K : PySem.W.Frag) (te : TE) : TE := fun σ H Q => te σ H fun x H1 => ∃ a xs, x = .ref a ∧ SqT K H1 a xs ∧ ∀ p, H1 p = none → Q (.ref p) (upd H1 p (.tup xs.reverse))
theorem pe_revT {e : Expr} {te : TE} {k : Nat} {p1 p2 p3 pos : Pos} (he : PE X e te) : PE X (.Subscript e (.Slice none none (some (.UnaryOp .USub (.Constant (.int 1) k p1) p2)) p3) pos) (tRevT X.K te) := by
  refine ⟨fun pins s σ H Q I h => Subscript_ (thn (he.run pins s σ H _ I h) fun v s1 hv => ?_)⟩
  obtain ⟨x, H1, I1, r1, a, xs, rfl, hx, q⟩ := hv
  obtain rfl : v = Value.ref a := r1
  have st : PO X (some (.UnaryOp .USub (.Constant (.int 1) k p1) p2)) (tPart (tUn (rU fun i => .int (-i)) (tC (.int 1)))) := po_some (pe_un un_neg pe_int)
  refine wpAny_Slice (thn (po_none.run pins s1 σ H1 (fun o H2 => o = none ∧ H2 = H1) I1 ⟨rfl, rfl⟩) fun vl s2 hl => ?_)
  obtain ⟨l, H2, I2, pl, rfl, rfl⟩ := hl
  refine thn (po_none.run pins s2 σ H2 (fun o H3 => o = none ∧ H3 = H2) I2 ⟨rfl, rfl⟩) fun vu s3 hu => ?_
  obtain ⟨u, H3, I3, pu, rfl, rfl⟩ := hu
  refine thn (st.run pins s3 σ H3 (fun o H4 => o = some (-1) ∧ H4 = H3) I3 ⟨1, rfl, -1, rfl, rfl, rfl⟩) fun vs s4 hs => ?_
  obtain ⟨o, H4, I4, ps, rfl, rfl⟩ := hs
  cases pl
  cases pu
  have I5 : Inv X pins σ H4 { s4 with heap := s4.heap.push { cls := .type "slice", data := .fields #[.none, .none, vs] } } := I4.kept (t' := s4.toks) fun b ob z => Heap.get?_push_of_some _ z
  obtain ⟨its, r, ht, hz⟩ := I5.tuple hx
  have hlen := r.length
  show wpAny (model X.prog X.w) X.A (subscriptTail e (.Slice none none (some (.UnaryOp .USub (.Constant (.int 1) k p1) p2)) p3) (.ref a) (.ref s4.heap.objs.size)) (EP X pins σ Q) X.xe { s4 with heap := s4.heap.push { cls := .type "slice", data := .fields #[.none, .none, vs] } }
  refine tail_any (ops := [.ref a, .ref s4.heap.objs.size]) ht.typeIs slot_tuple_getitem.lookup ?_ (by with_unfolding_all rfl)
  refine getItem_rev ht (Heap.IsSliceOf.new _ .none .none vs) ps ?_ (by rw [List.size_toArray]; omega)
  refine ⟨.ref _, _, I5.laid (t' := s4.toks) (o := .tup xs.reverse) (fun b ob z => Heap.get?_push_of_some _ z) (Nat.le_refl _) ?_, rfl, q _ (I5.hok.fresh (Nat.le_refl _))⟩
  exact ⟨by rw [List.length_reverse]; exact hz, its.reverse, r.reverse, _, Heap.get?_push_size _ rfl, rfl, 0, by simp⟩
end
end DTR

/-! part DD -/
set_option Elab.async false
set_option linter.all false
set_option maxRecDepth 100000
set_option maxHeartbeats 1000000
set_option autoImplicit false
namespace DV
open PySem PySem.Spec L2
section
variable {X : Cx} {W : WX}
/-! ### list + list -/
def rCatL (K : PySem.W.Frag) : R2 := fun x y H Q => ∃ a b xs ys, x = .ref a ∧ y = .ref b ∧ SqL K H a xs ∧ SqL K H b ys ∧ xs.length + ys.length ≤ sizeLine ∧ ∀ p, H p = none → Q (.ref p) (upd H p (.lst (xs ++ ys)))
theorem op_catL : OpR X (binaryOp .Add) (rCatL X.K) := by
  intro pins s σ H x y v u Q I rx ry h
  obtain ⟨a, b, xs, ys, rfl, rfl, h1, h2, hz, q⟩ := h
  cases rx
  cases ry
  obtain ⟨its, r, p1, _⟩ := I.list h1
  obtain ⟨its2, r2, p2, _⟩ := I.list h2
  obtain ⟨⟨cls, dd, data, sl⟩, ho, hc, n, hd⟩ := id p1.isList
  obtain ⟨⟨cls2, dd2, data2, sl2⟩, ho2, hc2, n2, hd2⟩ := id p2.isList
  simp only at hc hd hc2 hd2
  subst hc hd hc2 hd2
  have e : its.toArray ++ its2.toArray = (its ++ its2).toArray := by simp
  have l1 := r.length
  have l2 := r2.length
  refine concat_meets ⟨_, ho, rfl⟩ ⟨_, ho2, rfl⟩ noFill_list_add seq_list_add PySem.F.slot_list_add PySem.F.entry_list_add (PySem.F.args_list_add_2 _ _) (PyProof.Rows.list_addW a b its.toArray its2.toArray n n2 dd dd2 sl sl2 (by rw [List.size_toArray, List.size_toArray]; omega)) ⟨ho, ho2, ?_⟩
  rw [e]
  exact ⟨.ref _, _, I.lnew (t' := s.toks) (r.append r2) (by rw [List.length_append]; omega), rfl, q _ I.fresh⟩
/-! ### + of ints, bools, tuples, lists -/
def rBI (g : Int → Int → V) : R2 := fun x y H Q => ∃ b i, x = .bl b ∧ y = .int i ∧ Q (g (DB.bi b) i) H
def rIB (g : Int → Int → V) : R2 := fun x y H Q => ∃ i b, x = .int i ∧ y = .bl b ∧ Q (g i (DB.bi b)) H
theorem op_add_bi : OpR X (binaryOp .Add) (rBI fun i j => .int (i + j)) := by
  intro pins s σ H x y v u Q I rx ry h
  obtain ⟨b, i, rfl, rfl, q⟩ := h
  cases rx
  obtain ⟨t, rfl⟩ := ry
  exact DB.add_bi ⟨.int _, H, I.tok _, ⟨_, rfl⟩, q⟩
theorem op_sub_bi : OpR X (binaryOp .Sub) (rBI fun i j => .int (i - j)) := by
  intro pins s σ H x y v u Q I rx ry h
  obtain ⟨b, i, rfl, rfl, q⟩ := h
  cases rx
  obtain ⟨t, rfl⟩ := ry
  exact DB.sub_bi ⟨.int _, H, I.tok _, ⟨_, rfl⟩, q⟩
theorem op_sub_ib : OpR X (binaryOp .Sub) (rIB fun i j => .int (i - j)) := by
  intro pins s σ H x y v u Q I rx ry h
  obtain ⟨i, b, rfl, rfl, q⟩ := h
  cases ry
  obtain ⟨t, rfl⟩ := rx
  exact DB.sub_ib ⟨.int _, H, I.tok _, ⟨_, rfl⟩, q⟩
theorem op_gt_bi : OpR X (compareOp .Gt) (rBI fun i j => .bl (decide (j < i))) := by
  intro pins s σ H x y v u Q I rx ry h
  obtain ⟨b, i, rfl, rfl, q⟩ := h
  cases rx
  obtain ⟨t, rfl⟩ := ry
  exact DB.gt_bi ⟨.bl _, H, I, rfl, q⟩
def rB2 : R2 := fun x y H Q => ∃ b, x = .bl b ∧ y = .int 2 ∧ Q (.int (DB.bi b * 2)) H
theorem op_mul_b2 : OpR X (binaryOp .Mult) rB2 := by
  intro pins s σ H x y v u Q I rx ry h
  obtain ⟨b, rfl, rfl, q⟩ := h
  cases rx
  obtain ⟨t, rfl⟩ := ry
  exact DB.mul_bi ⟨.int _, H, I.tok _, ⟨_, rfl⟩, q⟩
def rBm : R2 := fun x y H Q => ∃ b, x = .bl b ∧ y = .int 1000 ∧ Q (.int (DB.bi b % 1000)) H
theorem op_mod_bm : OpR X (binaryOp .Mod) rBm := by
  intro pins s σ H x y v u Q I rx ry h
  obtain ⟨b, rfl, rfl, q⟩ := h
  cases rx
  obtain ⟨t, rfl⟩ := ry
  exact DB.mod_bi ⟨.int _, H, I.tok _, ⟨_, rfl⟩, q⟩
theorem CMul2 (i : Int) : CMul i 2 := .inr ⟨by decide, by decide⟩
/-- the number of an int, of True, of False -/
def numD : S → Option Int
  | .d (.int i) => some i
  | .d (.bl b) => some (DB.bi b)
  | _ => none
def isBl : S → Bool
  | .d (.bl _) => true
  | _ => false
def cAddW : S → S → Mu → Prop := fun x y _ => match x, y with
  | .d (.tup a), .d (.tup b) => a.length + b.length ≤ 100000
  | .d (.lst a), .d (.lst b) => a.length + b.length ≤ 100000
  | _, _ => True
def fAddW : S → S → Mu → Option D := fun x y _ => match x, y with
  | .d (.int i), .d (.int j) => some (.int (i + j))
  | .d (.bl b), .d (.int j) => some (.int (DB.bi b + j))
  | .d (.tup a), .d (.tup b) => some (.tup (a ++ b))
  | .d (.lst a), .d (.lst b) => some (.lst (a ++ b))
  | _, _ => none
end
section
variable {K : PySem.W.Frag}
theorem lst_sq {H : Hp} {ad : List Addr} {v : V} {ds : List D} (r : RpS K (hide ad H) ad v (.d (.lst ds))) : ∃ a xs, v = .ref a ∧ SqL K H a xs ∧ RpA K (hide ad H) xs ds := by
  cases r with
  | lst h1 h2 => exact ⟨_, _, rfl, sqL_same hide_same h1, h2⟩
theorem snd_addW : Sound2 K (fun x y H Q => (rI0 (fun i j => .int (i + j)) x y H Q ∨ rCatA K x y H Q) ∨ (rBI (fun i j => .int (i + j)) x y H Q ∨ rCatL K x y H Q)) (gF cAddW fAddW) := by
  intro v u x y H ad μ Q m rx ry h
  obtain ⟨h1, d, h2, h3⟩ := h
  unfold fAddW at h2
  split at h2
  · cases h2
    exact .inl (.inl ⟨_, _, rp_int rx, rp_int ry, h3 _ H (Step.refl _ _) m (.int _)⟩)
  · cases h2
    exact .inr (.inl ⟨_, _, rp_bl rx, rp_int ry, h3 _ H (Step.refl _ _) m (.int _)⟩)
  · rename_i a b
    cases h2
    have q := snd_add v u _ _ H ad μ Q m rx ry (show gF cAdd fAdd (.d (.tup a)) (.d (.tup b)) μ _ from ⟨h1, _, rfl, h3⟩)
    exact .inl q
  · rename_i a b
    cases h2
    obtain ⟨p, xs, rfl, s1, r1⟩ := lst_sq rx
    obtain ⟨q, ys, rfl, s2, r2⟩ := lst_sq ry
    have l1 := r1.length
    have l2 := r2.length
    have hz : a.length + b.length ≤ 100000 := h1
    exact .inr (.inr ⟨p, q, xs, ys, rfl, rfl, s1, s2, sz (by omega), new_lst m (r1.append r2) h3⟩)
  · cases h2
def fSubW : S → S → Mu → Option D := fun x y _ => match x, y with
  | .d (.int i), .d (.int j) => some (.int (i - j))
  | .d (.bl b), .d (.int j) => some (.int (DB.bi b - j))
  | .d (.int i), .d (.bl b) => some (.int (i - DB.bi b))
  | _, _ => none
theorem snd_subW : Sound2 K (fun x y H Q => rI0 (fun i j => .int (i - j)) x y H Q ∨ (rBI (fun i j => .int (i - j)) x y H Q ∨ rIB (fun i j => .int (i - j)) x y H Q)) (gF c0 fSubW) := by
  intro v u x y H ad μ Q m rx ry h
  obtain ⟨h1, d, h2, h3⟩ := h
  unfold fSubW at h2
  split at h2
  · cases h2
    exact .inl ⟨_, _, rp_int rx, rp_int ry, h3 _ H (Step.refl _ _) m (.int _)⟩
  · cases h2
    exact .inr (.inl ⟨_, _, rp_bl rx, rp_int ry, h3 _ H (Step.refl _ _) m (.int _)⟩)
  · cases h2
    exact .inr (.inr ⟨_, _, rp_int rx, rp_bl ry, h3 _ H (Step.refl _ _) m (.int _)⟩)
  · cases h2
def fGtW : S → S → Mu → Option D := fun x y _ => match x, y with
  | .d (.int i), .d (.int j) => some (.bl (decide (j < i)))
  | .d (.bl b), .d (.int j) => some (.bl (decide (j < DB.bi b)))
  | _, _ => none
theorem snd_gtW : Sound2 K (fun x y H Q => rI0 (fun i j => .bl (decide (j < i))) x y H Q ∨ rBI (fun i j => .bl (decide (j < i))) x y H Q) (gF c0 fGtW) := by
  intro v u x y H ad μ Q m rx ry h
  obtain ⟨h1, d, h2, h3⟩ := h
  unfold fGtW at h2
  split at h2
  · cases h2
    exact .inl ⟨_, _, rp_int rx, rp_int ry, h3 _ H (Step.refl _ _) m (.bl _)⟩
  · cases h2
    exact .inr ⟨_, _, rp_bl rx, rp_int ry, h3 _ H (Step.refl _ _) m (.bl _)⟩
  · cases h2
def fMul2 : S → S → Mu → Option D := fun x y _ => match x, y with
  | .d (.int i), .d (.int 2) => some (.int (i * 2))
  | .d (.bl b), .d (.int 2) => some (.int (DB.bi b * 2))
  | _, _ => none
theorem snd_mul2 : Sound2 K (fun x y H Q => rI CMul (fun i j => .int (i * j)) x y H Q ∨ rB2 x y H Q) (gF c0 fMul2) := by
  intro v u x y H ad μ Q m rx ry h
  obtain ⟨h1, d, h2, h3⟩ := h
  unfold fMul2 at h2
  split at h2
  · cases h2
    exact .inl ⟨_, _, rp_int rx, rp_int ry, CMul2 _, h3 _ H (Step.refl _ _) m (.int _)⟩
  · cases h2
    exact .inr ⟨_, rp_bl rx, rp_int ry, h3 _ H (Step.refl _ _) m (.int _)⟩
  · cases h2
def fModM : S → S → Mu → Option D := fun x y _ => match x, y with
  | .d (.int i), .d (.int 1000) => some (.int (i % 1000))
  | .d (.bl b), .d (.int 1000) => some (.int (DB.bi b % 1000))
  | _, _ => none
theorem snd_modM : Sound2 K (fun x y H Q => rI (fun _ j => 0 < j) (fun i j => .int (i % j)) x y H Q ∨ rBm x y H Q) (gF c0 fModM) := by
  intro v u x y H ad μ Q m rx ry h
  obtain ⟨h1, d, h2, h3⟩ := h
  unfold fModM at h2
  split at h2
  · cases h2
    exact .inl ⟨_, _, rp_int rx, rp_int ry, show (0 : Int) < 1000 by decide, h3 _ H (Step.refl _ _) m (.int _)⟩
  · cases h2
    exact .inr ⟨_, rp_bl rx, rp_int ry, h3 _ H (Step.refl _ _) m (.int _)⟩
  · cases h2
/-! ### == and != of data at any depth -/
def shapedD (d : D) : Prop := d.plain = true ∧ SeqAt.shaped d.py = true
/-- data as it stands -/
def datOf (μ : Mu) : S → Option D
  | .d d => some d
  | .m j => (μ[j]?).map .lst
  | .ex _ _ _ _ => none
theorem datOf_rp {H : Hp} {ad : List Addr} {μ : Mu} {v : V} {x : S} {d : D} (m : RpM K H ad μ) (r : RpS K (hide ad H) ad v x) (h : datOf μ x = some d) (p : d.plain = true) : Dp K H v d.py := by
  cases x with
  | d y => cases h; exact Rp.dp (Rp.mono hide_same r) p
  | m j =>
    have h' : (μ[j]?).map D.lst = some d := h
    cases e : μ[j]? with
    | none => rw [e] at h'; cases h'
    | some ds =>
      rw [e] at h'
      cases h'
      obtain ⟨a, xs, rfl, s1, r2⟩ := seq_sq (x := .m j) m r e
      exact .lst s1 (RpA.dp (RpA.mono hide_same r2) p)
  | ex _ _ _ _ => cases h
def cEqP : S → S → Mu → Prop := fun x y μ => (∀ d, datOf μ x = some d → shapedD d) ∧ ∀ d, datOf μ y = some d → shapedD d
def fEqP : S → S → Mu → Option D := fun x y μ => match datOf μ x, datOf μ y with
  | some d, some e => some (.bl (PyData.eqv d.py e.py))
  | _, _ => none
def fNeP : S → S → Mu → Option D := fun x y μ => match datOf μ x, datOf μ y with
  | some d, some e => some (.bl (!PyData.eqv d.py e.py))
  | _, _ => none
theorem snd_eqP : Sound2 K (rEqD K) (gF cEqP fEqP) := by
  intro v u x y H ad μ Q m rx ry h
  obtain ⟨h1, d, h2, h3⟩ := h
  unfold fEqP at h2
  split at h2
  · rename_i d1 e1 h4 h5
    cases h2
    have s1 := h1.1 _ h4
    have s2 := h1.2 _ h5
    exact ⟨_, _, datOf_rp m rx h4 s1.1, datOf_rp m ry h5 s2.1, s1.2, s2.2, h3 _ H (Step.refl _ _) m (.bl _)⟩
  · cases h2
theorem snd_neP : Sound2 K (rNeD K) (gF cEqP fNeP) := by
  intro v u x y H ad μ Q m rx ry h
  obtain ⟨h1, d, h2, h3⟩ := h
  unfold fNeP at h2
  split at h2
  · rename_i d1 e1 h4 h5
    cases h2
    have s1 := h1.1 _ h4
    have s2 := h1.2 _ h5
    exact ⟨_, _, datOf_rp m rx h4 s1.1, datOf_rp m ry h5 s2.1, s1.2, s2.2, h3 _ H (Step.refl _ _) m (.bl _)⟩
  · cases h2
/-- in a tuple of ints -/
def fInI : S → S → Mu → Option D := fun x y μ => match x, y with
  | .d (.int i), .d (.tup ds) => match intsOf ds with
    | some ns => some (.bl (ns.contains i))
    | none => none
  | _, _ => none
theorem snd_inI : Sound2 K (rIn K false) (gF c0 fInI) := by
  intro v u x y H ad μ Q m rx ry h
  obtain ⟨h1, d, h2, h3⟩ := h
  unfold fInI at h2
  split at h2
  · split at h2
    · rename_i i ds ns e
      cases h2
      have e1 := intsOf_some e
      obtain ⟨p, xs, rfl, s1, r1⟩ := tup_sq ry rfl
      rw [e1] at r1
      have e2 := rpA_ints r1
      obtain rfl := rp_int rx
      refine ⟨p, xs, rfl, .inr s1, rfl, ?_, ?_⟩
      · rw [e2]; simp [List.all_eq_true, flatV]
      · rw [e2, inV_ints]
        exact h3 _ H (Step.refl _ _) m (.bl _)
    · cases h2
  · cases h2
/-- str of an int -/
theorem snd_strI : SoundA K (fun xs H Q => ∃ i, xs = [.int i] ∧ i.natAbs.log2 < 1920 ∧ Q (.str (toString i)) H) (gA (fun ss _ => match ss with | [.d (.int i)] => i.natAbs.log2 < 1920 | _ => True) (fA1 fun i => .str (toString i))) := by
  intro vs ss H ad μ Q m r h
  obtain ⟨h1, d, h2, h3⟩ := h
  obtain ⟨i, rfl, rfl⟩ := fA1_some h2
  obtain ⟨v, rfl, r1⟩ := rsa1 r
  exact ⟨i, by rw [rp_int r1], h1, h3 _ H (Step.refl _ _) m (.str _)⟩
end
section
variable {X : Cx} {W : WX}
theorem addW_ok : OpR X (binaryOp .Add) (fun x y H Q => (rI0 (fun i j => .int (i + j)) x y H Q ∨ rCatA X.K x y H Q) ∨ (rBI (fun i j => .int (i + j)) x y H Q ∨ rCatL X.K x y H Q)) := (op_add.or op_catA).or (op_add_bi.or op_catL)
theorem subW_ok : OpR X (binaryOp .Sub) (fun x y H Q => rI0 (fun i j => .int (i - j)) x y H Q ∨ (rBI (fun i j => .int (i - j)) x y H Q ∨ rIB (fun i j => .int (i - j)) x y H Q)) := op_sub.or (op_sub_bi.or op_sub_ib)
theorem gtW_ok : OpR X (compareOp .Gt) (fun x y H Q => rI0 (fun i j => .bl (decide (j < i))) x y H Q ∨ rBI (fun i j => .bl (decide (j < i))) x y H Q) := op_gt.or op_gt_bi
theorem mul2_ok : OpR X (binaryOp .Mult) (fun x y H Q => rI CMul (fun i j => .int (i * j)) x y H Q ∨ rB2 x y H Q) := op_mul.or op_mul_b2
theorem modM_ok : OpR X (binaryOp .Mod) (fun x y H Q => rI (fun _ j => 0 < j) (fun i j => .int (i % j)) x y H Q ∨ rBm x y H Q) := op_mod.or op_mod_bm
/-- t[::-1] -/
def fRevT (g : SE) : SE := fun ρ μ P => g ρ μ fun y μ1 => ∃ ds, y = .d (.tup ds) ∧ P (.d (.tup ds.reverse)) μ1
theorem rpA_rev {K : PySem.W.Frag} {F : Hp} : ∀ {vs : List V} {ds : List D}, RpA K F vs ds → RpA K F vs.reverse ds.reverse
  | _, _, .nil => .nil
  | _, _, .cons h r => by
    rw [List.reverse_cons, List.reverse_cons]
    exact (rpA_rev r).append (.cons h .nil)
theorem pd_revT {e : Expr} {g : SE} {k : Nat} {p1 p2 p3 pos : Pos} (h : PD X e g) : PD X (.Subscript e (.Slice none none (some (.UnaryOp .USub (.Constant (.int 1) k p1) p2)) p3) pos) (fRevT g) := by
  refine ⟨fun ρ μ P P' k q => h.mo ρ μ _ _ (fun y μ1 ⟨ds, e1, q⟩ => ⟨ds, e1, k _ _ q⟩) q, (DTR.pe_revT h.run).of fun σ H Q q => ?_⟩
  obtain ⟨ad, ρ, μ, s, q⟩ := q
  refine ⟨ad, ρ, μ, s, h.mo ρ μ _ _ (fun y μ1 ⟨ds, e1, q⟩ v H1 t1 m1 r1 => ?_) q⟩
  subst e1
  obtain ⟨a, xs, rfl, s1, r2⟩ := tup_sq r1 rfl
  exact ⟨a, xs, rfl, s1, new_tup m1 (rpA_rev r2) fun w H2 t2 m2 r3 => q w H2 (t1.trans t2) m2 r3⟩
/-- {}, {'a': 1} -/
theorem dct_new {K : PySem.W.Frag} {H : Hp} {ad : List Addr} {μ : Mu} {p : Addr} {kvs : List (Key × V)} {ds : List D} (m : RpM K H ad μ) (hp : H p = none) (r : RpA K (hide ad H) (kvs.map (·.2)) ds) :
    Step ad H ad (upd H p (.dK kvs)) ∧ RpM K (upd H p (.dK kvs)) ad μ ∧ Rp K (hide ad (upd H p (.dK kvs))) (.ref p) (.dct (kvs.map (·.1)) ds) := by
  have st : Step ad H ad (upd H p (.dK kvs)) := Step.new hp
  exact ⟨st, m.new hp, .dct (by rw [hide_out (m.fresh hp)]; exact upd_same) (r.mono st.same)⟩
theorem pd_dct0 {pos : Pos} : PD X (.Dict [] [] pos) (fC (.dct [] [])) := by
  refine ⟨fun ρ μ P P' k q => k _ _ q, pe_dnewK.of fun σ H Q q p hp => ?_⟩
  obtain ⟨ad, ρ, μ, s, q⟩ := q
  obtain ⟨st, m, r⟩ := dct_new (kvs := []) s.m hp .nil
  exact q _ _ st m r
theorem pd_dct1 {x : Str} {i : Int} {j1 j2 : Nat} {p1 p2 pos : Pos} : PD X (.Dict [some (.Constant (.str x) j1 p1)] [.Constant (.int i) j2 p2] pos) (fC (.dct [.inr x] [.int i])) := by
  refine ⟨fun ρ μ P P' k q => k _ _ q, (pe_disp (pps_cons pe_str pe_int pps_nil) rfl rfl (by simp) (by simp)).of fun σ H Q q p hp => ?_⟩
  obtain ⟨ad, ρ, μ, s, q⟩ := q
  have e : upd (upd H p (.dK [])) p (.dK [(.inr x, .int i)]) = upd H p (.dK [(.inr x, .int i)]) := by
    funext b
    by_cases hb : b = p
    · rw [hb, upd_same, upd_same]
    · rw [upd_ne hb, upd_ne hb, upd_ne hb]
  obtain ⟨st, m, r⟩ := dct_new (kvs := [(.inr x, V.int i)]) s.m hp (.cons (.int i) .nil)
  refine ⟨upd_same, [(.inr x, .int i)], rfl, by simp, ?_⟩
  show Q (.ref p) (upd (upd H p (.dK [])) p (.dK [(.inr x, .int i)]))
  rw [e]
  exact q _ _ st m r
/-! ### isinstance(x, a built-in type), for data of any kind but errors -/
def tyD : D → Option String
  | .non => some "NoneType"
  | .bl _ => some "bool"
  | .int _ => some "int"
  | .str _ => some "str"
  | .tup _ => some "tuple"
  | .lst _ => some "list"
  | .dct _ _ => some "dict"
  | _ => none
def isBW (x : S) (T : String) : Option Bool := match x with
  | .d d => (tyD d).bind fun t => kitB t T
  | _ => none
def fIsiW (T : String) (f : SE) : SE := fun ρ μ P => f ρ μ fun x μ1 => ∃ b, isBW x T = some b ∧ P (.d (.bl b)) μ1
theorem pd_isiW {e : Expr} {T : String} {n : Str} {p p2 pos : Pos} {f : SE} (h : PD X e f) (hg : Gl X "isinstance") (hm : X.mg "isinstance" = none) (hg2 : Gl X n) (hm2 : X.mg n = none) (hb2 : bootBuiltins n = some (.type T)) (hn2 : n ≠ "__name__") (hd2 : (n == ("__debug__" : Str)) = false)
    (hs : starEach [e, .Name n p2] X.env = (false, eval e X.env) :: starEach [.Name n p2] X.env := by rfl) (hs2 : starEach [.Name n p2] X.env = (false, eval (.Name n p2) X.env) :: starEach [] X.env := by rfl)
    (hpl : (backTo pos (starEach [.Name n p2] X.env)).any (·.1) = false := by rfl) : PD X (.Call (.Name "isinstance" p) [e, .Name n p2] [] pos) (fIsiW T f) := by
  have h0 : PE X (.Call (.Name "isinstance" p) [e, .Name n p2] [] pos) (tCB (rIsi X.K) (tCons (teOf X.K f) (tCons (tC (.ty T)) tNil))) :=
    pe_callB call_isi hg hm bt_isi (pa_cons h.run (pa_cons (pe_bltn hg2 hm2 hb2 rfl hn2 hd2) pa_nil hs2) hs) (by decide) (by decide) hs hpl
  refine ⟨fun ρ μ P P' k q => h.mo ρ μ _ _ (fun x μ1 ⟨b, e, q⟩ => ⟨b, e, k _ _ q⟩) q, h0.of fun σ H Q q => ?_⟩
  obtain ⟨ad, ρ, μ, s, q⟩ := q
  refine ⟨ad, ρ, μ, s, h.mo ρ μ _ _ (fun x μ1 ⟨b, e, q⟩ v H1 t1 m1 r1 => ?_) q⟩
  have fin : ∀ {t : String}, kitB t T = some b → TyX X.K H1 v (.type t) → rIsi X.K [v, .ty T] H1 Q := fun {t} k ty => ⟨v, .ty T, .type t, .type T, b, rfl, .ty T, ty, kit_ty k, q _ H1 t1 m1 (.bl b)⟩
  cases x with
  | m j => cases e
  | ex _ _ _ _ => cases e
  | d y =>
    cases y with
    | non => cases r1; exact fin e (.base .non)
    | bl b => cases r1; exact fin e (.base (.bl b))
    | int i => cases r1; exact fin e (.base (.int i))
    | str z => cases r1; exact fin e (.base (.str z))
    | tup ds =>
      cases r1 with
      | tup h1 h2 =>
        rcases sqT_same hide_same h1 with (z | ⟨o, z⟩) | ⟨o, its, n, z1, z2, _⟩
        · exact fin e (.base (.tup z))
        · exact fin e (.fTuple z)
        · exact fin e (.kTuple z1 z2)
    | lst ds =>
      cases r1 with
      | lst h1 h2 =>
        rcases sqL_same hide_same h1 with (z | ⟨o, z⟩) | ⟨o, its, n, z1, z2, _⟩
        · exact fin e (.base (.lst z))
        · exact fin e (.base (.frz z))
        · exact fin e (.kList z1 z2)
    | dct ks ds =>
      cases r1 with
      | dct h1 h2 => exact fin e (.base (.dK (hide_some h1).2))
    | err _ _ _ => cases e
    | erb _ => cases e
end
end DV

/-! part DW -/
set_option Elab.async false
set_option linter.all false
set_option maxRecDepth 100000
set_option maxHeartbeats 1000000
set_option autoImplicit false
namespace DV
open PySem PySem.Spec L2
section
variable {X : Cx} {W : WX}
theorem named {x n : Str} {i : Nat} {c : Value} {fs : Addr → Value → Option Addr → SS} {st : Stmt} {sts : List Stmt} {np p : Pos} {hds : List ExceptHandler} {l : List ClD} (hc : Names X x c) (hi : X.N[i]? = some n) (hn : X.env.kindOf n = some .local)
    (su : ∀ (a : Addr) (oe : Obj) (cls : Value) (d : Option Addr) (pn : List (Addr × Obj)), Zc cls d oe → (∃ vs, oe.data = .fields vs) → PDSs (X.suite a ((a, oe) :: pn)) WZ (st :: sts) (fs a cls d)) (r : PDC X hds l) :
    PDC X (.ExceptHandler (some (.Name x np)) (some n) (st :: sts) p :: hds) ((c, some i, fs) :: l) := .named hc hi hn su (fun a cls d => (su a { cls := cls, dict := d, data := .fields #[] } cls d [] ⟨rfl, rfl⟩ ⟨_, rfl⟩).mo) r
theorem bare {x : Str} {c : Value} {fs : Addr → Value → Option Addr → SS} {st : Stmt} {sts : List Stmt} {np p : Pos} {hds : List ExceptHandler} {l : List ClD} (hc : Names X x c)
    (su : ∀ (a : Addr) (oe : Obj) (cls : Value) (d : Option Addr) (pn : List (Addr × Obj)), Zc cls d oe → (∃ vs, oe.data = .fields vs) → PDSs (X.suite a ((a, oe) :: pn)) WZ (st :: sts) (fs a cls d)) (r : PDC X hds l) :
    PDC X (.ExceptHandler (some (.Name x np)) none (st :: sts) p :: hds) ((c, none, fs) :: l) := .bare hc su (fun a cls d => (su a { cls := cls, dict := d, data := .fields #[] } cls d [] ⟨rfl, rfl⟩ ⟨_, rfl⟩).mo) r
theorem pds_tryA {body : List Stmt} {h₀ : ExceptHandler} {hds : List ExceptHandler} {l : List ClD} {pos : Pos} {fb : SS} (hs : X.stack = X.env :: X.outer) (hf : X.env.frame = some X.env.locals) (hN : X.N.Nodup) (tk : Takes X W)
    (hb : ∀ (W' : WX) (pn : List (Addr × Obj)) (xe : Value → Shared → Prop), Takes (X.tr pn xe) W' → PassesOwn (model X.prog X.w) X.A X.env xe → PDSs (X.tr pn xe) W' body fb) (hh : PDC X (h₀ :: hds) l) :
    PDS X W (.Try body (h₀ :: hds) [] [] pos) (fTry X.K fb l) := pds_try hs hf hN tk hb (hb (fun _ _ _ _ => False) [] (fun _ _ => False) takes_none5 PassesOwn.never).mo hh
theorem bt_str : bootBuiltins "str" = some (.type "str") := by decide +kernel
theorem bt_TypeError : bootBuiltins "TypeError" = some (.type "TypeError") := by decide +kernel
theorem bt_KeyError : bootBuiltins "KeyError" = some (.type "KeyError") := by decide +kernel
theorem bt_IndexError : bootBuiltins "IndexError" = some (.type "IndexError") := by decide +kernel
theorem bt_LookupError : bootBuiltins "LookupError" = some (.type "LookupError") := by decide +kernel
theorem bt_OverflowError : bootBuiltins "OverflowError" = some (.type "OverflowError") := by decide +kernel
theorem bt_ZeroDivisionError : bootBuiltins "ZeroDivisionError" = some (.type "ZeroDivisionError") := by decide +kernel
theorem bt_ArithmeticError : bootBuiltins "ArithmeticError" = some (.type "ArithmeticError") := by decide +kernel
theorem bt_RuntimeError : bootBuiltins "RuntimeError" = some (.type "RuntimeError") := by decide +kernel
theorem bt_NotImplementedError : bootBuiltins "NotImplementedError" = some (.type "NotImplementedError") := by decide +kernel
theorem bt_AttributeError : bootBuiltins "AttributeError" = some (.type "AttributeError") := by decide +kernel
theorem bt_ValueError : bootBuiltins "ValueError" = some (.type "ValueError") := by decide +kernel
theorem bt_Exception : bootBuiltins "Exception" = some (.type "Exception") := by decide +kernel
end
end DV
namespace K1
open PySem PySem.Spec L2 DV
/-- the classes of errors, in the order in which the law asks for them -/
def nm (i : Nat) : Str := (["PersuasionError", "InvalidSetting", "InvalidBelief", "InvalidSplit", "InvalidExperiment", "InvalidPlane", "InvalidGame", "InvalidOutcome", "InvalidAnswers", "InvalidAction", "InvalidState", "InvalidNumber", "InvalidName", "InvalidDeed", "InvalidDrawing", "Unfit", "InvalidLot", "InvalidWishes", "InvalidBook", "InvalidLines", "InvalidText", "NotTransparent", "NothingToUndo", "NothingToRedo"] : List Str).getD i ""
/-- what the text's top has made of them -/
structure Cls (P : Program) (K : PySem.W.Frag) (mg : Str → Option Value) (cl : Nat → Addr) : Prop where
  gl : ∀ i, i < 24 → mg (nm i) = some (.ref (cl i))
  gv : ∀ i, 1 ≤ i → i ≤ 15 → EM.MkC P K (cl i) "given"
  ix : ∀ i, 16 ≤ i → i ≤ 19 → EM.MkC P K (cl i) "index"
  ln : EM.MkC P K (cl 20) "line"
  br : ∀ i, i < 24 → (i = 0 ∨ 21 ≤ i) → BareC K (cl i)
  ex : ∀ i, i < 24 → ExcC K (cl i)
  xf : ∀ i, i < 24 → XfC K (cl i)
  kt : ∀ i j, i < 24 → j < 24 → PySem.W.kitOne K (.ref (cl i)) (.ref (cl j)) = some (decide (j = 0 ∨ i = j))
  kv : ∀ i, i < 24 → PySem.W.kitOne K (.ref (cl i)) (.type "ValueError") = some true
  ke : ∀ i, i < 24 → PySem.W.kitOne K (.ref (cl i)) (.type "Exception") = some true
  k1 : ∀ i, i < 24 → PySem.W.kitAny K (.ref (cl i)) [.type "TypeError", .type "KeyError", .type "IndexError", .type "LookupError", .type "OverflowError", .type "ZeroDivisionError"] = some false
  k2 : ∀ i, i < 24 → PySem.W.kitAny K (.ref (cl i)) [.type "ArithmeticError", .type "RuntimeError", .type "NotImplementedError", .type "AttributeError"] = some false
  em : ∀ i j, i < 24 → j < 24 → PySem.W.exmOne K (.ref (cl i)) (.ref (cl j)) = some (decide (j = 0 ∨ i = j))
  sy : SysOk K
/-! ### sizes of what is shown -/
mutual
def wt : D → Nat
  | .non => 4
  | .bl _ => 5
  | .int i => (PyData.shown (.int i)).length
  | .str x => (PyData.shown (.str x)).length
  | .tup ds => wtA ds + 2 * ds.length + 3
  | .lst ds => wtA ds + 2 * ds.length + 3
  | .dct ks ds => (D.py (.dct ks ds)).shown.length
  | .err _ _ _ => 2
  | .erb _ => 2
def wtA : List D → Nat
  | [] => 0
  | d :: r => wt d + wtA r
end
mutual
theorem shown_le : ∀ d : D, d.py.shown.length ≤ wt d
  | .non => by decide +kernel
  | .bl true => by decide +kernel
  | .bl false => by decide +kernel
  | .int i => Nat.le_refl _
  | .str x => Nat.le_refl _
  | .tup ds => by
    have h := shownA_le ds
    have q := tupleText_len_le (PyData.shownAll (pyA ds))
    simp only [D.py, PyData.shown, wt]
    omega
  | .lst ds => by
    have h := shownA_le ds
    have q := listText_len_le (PyData.shownAll (pyA ds))
    simp only [D.py, PyData.shown, wt]
    omega
  | .dct ks ds => Nat.le_refl _
  | .err _ _ _ => by show (PyData.shown (.dict [])).length ≤ 2; decide +kernel
  | .erb _ => by show (PyData.shown (.dict [])).length ≤ 2; decide +kernel
theorem shownA_le : ∀ ds : List D, ((PyData.shownAll (pyA ds)).map (·.length)).sum ≤ wtA ds ∧ (PyData.shownAll (pyA ds)).length = ds.length
  | [] => ⟨Nat.le_refl _, rfl⟩
  | d :: r => by
    have h1 := shown_le d
    have h2 := shownA_le r
    simp only [pyA, PyData.shownAll, List.map_cons, List.sum_cons, wtA, List.length_cons]
    omega
end
/-! ### the characters of what is shown -/
theorem ok_app {a b : Str} (h : PyData.strOk a = true) (h2 : PyData.strOk b = true) : PyData.strOk (a ++ b) = true := by
  show (a.cps ++ b.cps).all (· < 0x110000) = true
  rw [Array.all_append, Bool.and_eq_true]
  exact ⟨h, h2⟩
theorem ok_join : ∀ ts : List Str, (∀ t ∈ ts, PyData.strOk t = true) → PyData.strOk (Str.join ", " ts) = true
  | [], _ => by decide +kernel
  | [x], h => h x (by simp)
  | x :: y :: r, h => ok_app (ok_app (h x (by simp)) (by decide +kernel)) (ok_join (y :: r) fun t ht => h t (List.mem_cons_of_mem _ ht))
theorem ok_tuple {ts : List Str} (h : ∀ t ∈ ts, PyData.strOk t = true) : PyData.strOk (tupleText ts) = true := by
  unfold tupleText
  refine ok_app (ok_app (by decide +kernel) (ok_join ts h)) ?_
  split <;> decide +kernel
theorem ok_from : ∀ (ts : List Str) (k : Nat) (acc : Str), PyData.strOk acc = true → (∀ t ∈ ts, PyData.strOk t = true) → PyData.strOk (textFrom k acc ts) = true
  | [], _, _, h, _ => h
  | t :: r, k, acc, h, ht => ok_from r (k + 1) _ (ok_app (ok_app h (by split <;> decide +kernel)) (ht t (by simp))) fun t h => ht t (List.mem_cons_of_mem _ h)
theorem ok_list {ts : List Str} (h : ∀ t ∈ ts, PyData.strOk t = true) : PyData.strOk (listText ts) = true := ok_app (ok_from ts 0 _ (by decide +kernel) h) (by decide +kernel)
/-- may be shown; depth up to k, size up to n -/
structure Fine (k n : Nat) (d : D) : Prop where
  tx : PyData.strOk d.py.shown = true
  sw : d.showy = true
  sb : d.py.showable = true
  dp : d.py.depth ≤ k
  sz : wt d ≤ n
theorem Fine.mono {k l n m : Nat} {d : D} (h : Fine k n d) (h1 : k ≤ l) (h2 : n ≤ m) : Fine l m d := ⟨h.tx, h.sw, h.sb, Nat.le_trans h.dp h1, Nat.le_trans h.sz h2⟩
theorem Fine.sho {k n : Nat} {d : D} (h : Fine k n d) (h1 : k ≤ 60) (h2 : n ≤ 1000000) : Sw 60 1000000 d := ⟨h.sw, h.sb, Nat.le_trans h.dp h1, Nat.le_trans (shown_le d) (Nat.le_trans h.sz h2)⟩
structure FineA (k n : Nat) (ds : List D) : Prop where
  tx : ∀ t ∈ PyData.shownAll (pyA ds), PyData.strOk t = true
  sw : showyA ds = true
  sb : PyData.showableAll (pyA ds) = true
  dp : PyData.depthAll (pyA ds) ≤ k
  sz : wtA ds ≤ n
theorem fine_nil {k n : Nat} : FineA k n [] := ⟨fun _ h => (nomatch h), rfl, rfl, Nat.zero_le _, Nat.zero_le _⟩
theorem fine_cons {k n m : Nat} {d : D} {ds : List D} (h : Fine k n d) (r : FineA k m ds) : FineA k (n + m) (d :: ds) := by
  refine ⟨fun t ht => ?_, by simp only [showyA, h.sw, r.sw, Bool.and_self], by simp only [pyA, PyData.showableAll, h.sb, r.sb, Bool.and_self], ?_, ?_⟩
  · simp only [pyA, PyData.shownAll] at ht
    rcases List.mem_cons.mp ht with e | e
    · rw [e]; exact h.tx
    · exact r.tx t e
  · have := h.dp
    have := r.dp
    simp only [pyA, PyData.depthAll]
    omega
  · have := h.sz
    have := r.sz
    simp only [wtA]
    omega
theorem fine_tup {k n : Nat} {ds : List D} (h : FineA k n ds) : Fine (k + 1) (n + 2 * ds.length + 3) (.tup ds) := by
  refine ⟨by simpa only [D.py, PyData.shown] using ok_tuple h.tx, h.sw, by simpa only [D.py, PyData.showable] using h.sb, ?_, ?_⟩
  · have := h.dp
    simp only [D.py, PyData.depth]
    omega
  · have := h.sz
    simp only [wt]
    omega
theorem fine_lst {k n : Nat} {ds : List D} (h : FineA k n ds) : Fine (k + 1) (n + 2 * ds.length + 3) (.lst ds) := by
  refine ⟨by simpa only [D.py, PyData.shown] using ok_list h.tx, h.sw, by simpa only [D.py, PyData.showable] using h.sb, ?_, ?_⟩
  · have := h.dp
    simp only [D.py, PyData.depth]
    omega
  · have := h.sz
    simp only [wt]
    omega
theorem of_tup {k n : Nat} {ds : List D} (h : Fine k n (.tup ds)) : wtA ds + 2 * ds.length + 3 ≤ n := by
  have := h.sz
  simp only [wt] at this
  omega
theorem fineA_of {k : Nat} : ∀ {ds : List D}, (∀ d ∈ ds, Fine k (wt d) d) → FineA k (wtA ds) ds
  | [], _ => fine_nil
  | d :: r, h => fine_cons (h d (by simp)) (fineA_of fun x hx => h x (List.mem_cons_of_mem _ hx))
theorem fineA_mem {k n : Nat} : ∀ {ds : List D}, FineA k n ds → ∀ d ∈ ds, Fine k (wt d) d
  | [], _, _, h => by cases h
  | d :: r, h, x, hx => by
    have s1 : d.showy = true ∧ showyA r = true := Bool.and_eq_true_iff.mp h.sw
    have s2 : d.py.showable = true ∧ PyData.showableAll (pyA r) = true := Bool.and_eq_true_iff.mp (show (d.py.showable && PyData.showableAll (pyA r)) = true by simpa only [pyA, PyData.showableAll] using h.sb)
    have s3 : d.py.depth ≤ k ∧ PyData.depthAll (pyA r) ≤ k := by
      have := h.dp
      simp only [pyA, PyData.depthAll] at this
      omega
    rcases List.mem_cons.mp hx with e | hx
    · subst e; exact ⟨h.tx _ (by simp [pyA, PyData.shownAll]), s1.1, s2.1, s3.1, Nat.le_refl _⟩
    · exact fineA_mem (n := wtA r) ⟨fun t ht => h.tx t (by simp only [pyA, PyData.shownAll]; exact List.mem_cons_of_mem _ ht), s1.2, s2.2, s3.2, Nat.le_refl _⟩ x hx
theorem wtA_app : ∀ a b : List D, wtA (a ++ b) = wtA a + wtA b
  | [], b => by simp [wtA]
  | d :: r, b => by simp only [List.cons_append, wtA, wtA_app r b]; omega
theorem wtA_mem : ∀ {ds : List D} {d : D}, d ∈ ds → wt d ≤ wtA ds
  | d :: r, x, h => by
    rcases List.mem_cons.mp h with e | h
    · subst e; simp only [wtA]; omega
    · have := wtA_mem h
      simp only [wtA]; omega
end K1

/-! part DL -/
set_option Elab.async false
set_option linter.all false
set_option maxRecDepth 100000
set_option maxHeartbeats 1000000
set_option autoImplicit false
namespace DV
open PySem PySem.Spec L2
section
variable {X : Cx}
theorem PD.weak {e : Expr} {f g : SE} (h : PD X e f) (m : MonE g) (i : ∀ ρ μ P, g ρ μ P → f ρ μ P) : PD X e g :=
  ⟨m, h.run.of fun σ H Q ⟨ad, ρ, μ, s, q⟩ => ⟨ad, ρ, μ, s, i _ _ _ q⟩⟩
theorem mon_fC (d : D) : MonE (fC d) := fun ρ μ P P' k h => k _ _ h
def fL (ds : List D) : SA := fun ρ μ P => P (ds.map S.d) μ
theorem pdl_nil : PDA X [] (fL []) := pda_nil
theorem pdl_cons {e : Expr} {es : List Expr} {d : D} {ds : List D} (h : PD X e (fC d)) (r : PDA X es (fL ds)) (hs : starEach (e :: es) X.env = (false, eval e X.env) :: starEach es X.env := by rfl) : PDA X (e :: es) (fL (d :: ds)) :=
  pda_cons h r hs
theorem allD_map : ∀ ds : List D, allD (ds.map S.d) = some ds
  | [] => rfl
  | d :: ds => by show (allD (ds.map S.d)).map _ = _; rw [allD_map ds]; rfl
theorem pdl_tup {es : List Expr} {ds : List D} {k : Nat} {pos : Pos} (h : PDA X es (fL ds)) (hl : ds.length ≤ 100000 := by decide) : PD X (.Tuple es k pos) (fC (.tup ds)) :=
  (pd_tup h).weak (mon_fC _) fun ρ μ P q => ⟨ds, allD_map ds, hl, q⟩
theorem pdl_lst {es : List Expr} {ds : List D} {pos : Pos} (h : PDA X es (fL ds)) (hl : ds.length ≤ 100000 := by decide) : PD X (.List es pos) (fC (.lst ds)) :=
  (pd_lst h).weak (mon_fC _) fun ρ μ P q => ⟨ds, allD_map ds, hl, q⟩
theorem pdl_neg {i : Int} {j : Nat} {p pos : Pos} : PD X (.UnaryOp .USub (.Constant (.int i) j p) pos) (fC (.int (-i))) :=
  (pd_neg pd_int).weak (mon_fC _) fun ρ μ P q => q
theorem pdl_pow {a b : Int} {j1 j2 : Nat} {p1 p2 pos : Pos} (h : CPow a b) : PD X (.BinOp (.Constant (.int a) j1 p1) .Pow (.Constant (.int b) j2 p2) pos) (fC (.int (a ^ b.toNat))) :=
  (pd_op op_pow mon_gF snd_I pd_int pd_int).weak (mon_fC _) fun ρ μ P q => ⟨h, _, rfl, q⟩
end
end DV

/-! part DW2 -/
set_option Elab.async false
set_option linter.all false
set_option maxRecDepth 100000
set_option maxHeartbeats 1000000
set_option autoImplicit false
namespace DV
open PySem PySem.Spec L2
section
variable {X : Cx} {W : WX}
theorem kIsX {K : PySem.W.Frag} {e : Expr} {u : Value} {g : SE} (hK : X.K = K) (h : PD X e (fIsX X.K u g)) : PD X e (fIsX K u g) := hK ▸ h
theorem kIsXT {K : PySem.W.Frag} {e : Expr} {us : List Value} {g : SE} (hK : X.K = K) (h : PD X e (fIsXT X.K us g)) : PD X e (fIsXT K us g) := hK ▸ h
theorem kAtt {K : PySem.W.Frag} {e : Expr} {f : Str} {g : SE} (hK : X.K = K) (h : PD X e (fAtt X.K f g)) : PD X e (fAtt K f g) := hK ▸ h
theorem kXatt {K : PySem.W.Frag} {e : Expr} {a : Addr} {cls : Value} {d : Option Addr} {f : Str} {g : SE} (hK : X.K = K) (h : PD X e (fXatt X.K a cls d f g)) : PD X e (fXatt K a cls d f g) := hK ▸ h
theorem kTry {K : PySem.W.Frag} {st : Stmt} {fb : SS} {l : List ClD} (hK : X.K = K) (h : PDS X W st (fTry X.K fb l)) : PDS X W st (fTry K fb l) := hK ▸ h
end
end DV

/-! part DI -/
set_option Elab.async false
set_option linter.all false
set_option maxRecDepth 100000
set_option maxHeartbeats 1000000
set_option autoImplicit false
/-! xs.insert(i, y) -/
namespace DV
open PySem PySem.Spec L2
section
variable {X : Cx} {W : WX}
def rIns : V → List V → Hp → VK → Prop := fun x vs H Q => ∃ (l : Addr) (xs : List V) (i : Int) (y : V), x = .ref l ∧ vs = [.int i, y] ∧ H l = some (.lst xs) ∧ xs.length < sizeLine ∧ 0 ≤ i ∧ i < 2 ^ 63 ∧ Q .non (upd H l (.lst (xs.take i.toNat ++ [y] ++ xs.drop i.toNat)))
def fIns (fo fi f : SE) : SS := fun ρ μ k => fo ρ μ fun o μ1 => ∃ j, o = .m j ∧ fi ρ μ1 fun z μ2 => ∃ i : Nat, z = .d (.int (i : Int)) ∧ i < 50000 ∧ f ρ μ2 fun y μ3 => ∃ d ds, y = .d d ∧ μ3[j]? = some ds ∧ ds.length < 50000 ∧ k.nx ρ (μ3.set j (ds.take i ++ [d] ++ ds.drop i))
theorem pds_ins {o e1 e : Expr} {apos cpos pos : Pos} {fo fi f : SE} (ho : PD X o fo) (h1 : PD X e1 fi) (h : PD X e f) (hp : ∀ to ta, PE X o to → PA X [e1, e] ta → PS X (.Expr (.Call (.Attribute o "insert" apos) [e1, e] [] cpos) pos) (tDrop (tBM X.K "list" rIns to ta)))
    (hs1 : starEach [e1, e] X.env = (false, eval e1 X.env) :: starEach [e] X.env := by rfl) (hs : starEach [e] X.env = (false, eval e X.env) :: starEach [] X.env := by rfl) : PDS X W (.Expr (.Call (.Attribute o "insert" apos) [e1, e] [] cpos) pos) (fIns fo fi f) := by
  refine ⟨fun ρ μ k k' l q => ho.mo ρ μ _ _ (fun o μ1 ⟨j, w1, q⟩ => ⟨j, w1, h1.mo ρ μ1 _ _ (fun z μ2 ⟨i, w2, w3, q⟩ => ⟨i, w2, w3, h.mo ρ μ2 _ _ (fun y μ3 ⟨d, ds, w4, w5, w6, q⟩ => ⟨d, ds, w4, w5, w6, l.nx _ _ q⟩) q⟩) q⟩) q, (hp _ _ ho.run (pa_cons h1.run (pa_cons h.run pa_nil hs) hs1)).of fun Dn σ H q => ?_⟩
  obtain ⟨ad, ρ, μ, s, q⟩ := q
  refine ⟨ad, ρ, μ, s, ho.mo ρ μ _ _ (fun x μ1 ⟨j, w1, q⟩ v H1 t1 m1 r1 => ?_) q⟩
  subst w1
  obtain ⟨a, a1, rfl⟩ := r1
  refine ⟨?_, ad, ρ, μ1, s.step t1 m1, h1.mo ρ μ1 _ _ (fun z μ2 ⟨i, w2, w3, q⟩ u0 H2 t2 m2 r2 => ?_) q⟩
  · obtain ⟨xs, h2⟩ := m1.there (List.mem_of_getElem? a1)
    exact .inl ⟨rfl, xs, .inl (.inl h2)⟩
  · subst w2
    cases r2
    refine ⟨ad, ρ, μ2, s.step (t1.trans t2) m2, h.mo ρ μ2 _ _ (fun y μ3 q u H3 t3 m3 r3 => ?_) q⟩
    obtain ⟨d, ds, rfl, e3, e4, q⟩ := q
    obtain ⟨b, xs, q1, q2, q3⟩ := m3.at_ j ds e3
    rw [a1] at q1
    cases q1
    have hl := q3.length
    have m4 := m3.put a1 (((q3.take i).append (.cons r3 .nil)).append (q3.drop i))
    have st : Step ad H ad (upd H3 a (.lst (xs.take i ++ [u] ++ xs.drop i))) := ((t1.trans t2).trans t3).trans (Step.mut (List.mem_of_getElem? a1))
    exact ⟨a, xs, (i : Int), u, rfl, rfl, q2, szl (by omega), Int.natCast_nonneg i, by omega, by rw [Int.toNat_natCast]; exact q σ _ ad st (s.step st m4)⟩
def fExt (fo : SE) (f : SN) : SS := fun ρ μ k => fo ρ μ fun o μ1 => ∃ j, o = .m j ∧ f ρ μ1 fun ds μ2 => ∃ es, μ2[j]? = some es ∧ es.length + ds.length ≤ 50000 ∧ k.nx ρ (μ2.set j (es ++ ds))
theorem hide_app {ad : List Addr} {p : Addr} {H : Hp} : Same (hide (ad ++ [p]) H) (hide ad H) := fun b o e => by
  by_cases hb : b ∈ ad
  · rw [hide_in (List.mem_append.mpr (.inl hb))] at e; cases e
  · rw [hide_out hb]
    by_cases hp : b ∈ ad ++ [p]
    · rw [hide_in hp] at e; cases e
    · rw [hide_out hp] at e; exact e
theorem pds_ext {o e : Expr} {apos cpos pos : Pos} {fo : SE} {f : SN} (ho : PD X o fo) (h : PDN X e f) (hp : ∀ to ta, PE X o to → PA X [e] ta → PS X (.Expr (.Call (.Attribute o "extend" apos) [e] [] cpos) pos) (tDrop (tBM X.K "list" rExtend to ta)))
    (hs : starEach [e] X.env = (false, eval e X.env) :: starEach [] X.env := by rfl) : PDS X W (.Expr (.Call (.Attribute o "extend" apos) [e] [] cpos) pos) (fExt fo f) := by
  refine ⟨fun ρ μ k k' l q => ho.mo ρ μ _ _ (fun o μ1 ⟨j, w1, q⟩ => ⟨j, w1, h.mo ρ μ1 _ _ (fun ds μ2 ⟨es, w2, w3, q⟩ => ⟨es, w2, w3, l.nx _ _ q⟩) q⟩) q, (hp _ _ ho.run (pa_cons h.run pa_nil hs)).of fun Dn σ H q => ?_⟩
  obtain ⟨ad, ρ, μ, s, q⟩ := q
  refine ⟨ad, ρ, μ, s, ho.mo ρ μ _ _ (fun x μ1 ⟨j, w1, q⟩ v H1 t1 m1 r1 => ?_) q⟩
  subst w1
  obtain ⟨a, a1, rfl⟩ := r1
  refine ⟨?_, ad, ρ, μ1, s.step t1 m1, h.mo ρ μ1 _ _ (fun ds μ2 q p H2 np t2 m2 => ?_) q⟩
  · obtain ⟨xs, h2⟩ := m1.there (List.mem_of_getElem? a1)
    exact .inl ⟨rfl, xs, .inl (.inl h2)⟩
  · obtain ⟨es, w2, w3, q⟩ := q
    obtain ⟨m3, _, pn⟩ := m2.last
    have hl : ad.length = μ2.length := m3.len
    obtain ⟨b, zs, z1, z2, z3⟩ := m2.at_ μ2.length ds (by rw [List.getElem?_append_right (Nat.le_refl _), Nat.sub_self]; rfl)
    rw [← hl, List.getElem?_append_right (Nat.le_refl _), Nat.sub_self] at z1
    cases z1
    obtain ⟨b, xs, q1, q2, q3⟩ := m3.at_ j es w2
    rw [a1] at q1
    cases q1
    have l1 := q3.length
    have l2 := z3.length
    have m4 := m3.put a1 (q3.append (RpA.mono hide_app z3))
    have st : Step ad H ad (upd H2 a (.lst (xs ++ zs))) := (t1.trans (step_less t2)).trans (Step.mut (List.mem_of_getElem? a1))
    exact ⟨a, p, xs, zs, rfl, rfl, q2, z2, Nat.le_trans (by omega) (show 50000 ≤ sizeLine by decide), q σ _ ad st (s.step st m4)⟩
/-! x is None -/
def isNonS : S → Bool
  | .d .non => true
  | _ => false
def fIsN : S → S → Mu → Option D := fun x y _ => match y with
  | .d .non => some (.bl (isNonS x))
  | _ => none
def fIsNotN : S → S → Mu → Option D := fun x y _ => match y with
  | .d .non => some (.bl (!isNonS x))
  | _ => none
theorem isNon_rp {K : PySem.W.Frag} {F : Hp} {ad : List Addr} {v : V} {x : S} (r : RpS K F ad v x) : decide (v = .non) = isNonS x := by
  cases x with
  | d d => cases d <;> cases r <;> rfl
  | m j => obtain ⟨a, _, rfl⟩ := r; rfl
  | ex a cls dd d => obtain ⟨rfl, _⟩ := r; rfl
theorem snd_isN {K : PySem.W.Frag} : Sound2 K (fun x y H Q => y = .non ∧ Q (.bl (decide (x = .non))) H) (gF c0 fIsN) := by
  intro v u x y H ad μ Q m rx ry h
  obtain ⟨h1, d, h2, h3⟩ := h
  unfold fIsN at h2
  split at h2
  · cases h2
    cases ry
    refine ⟨rfl, ?_⟩
    rw [isNon_rp rx]
    exact h3 _ H (Step.refl _ _) m (.bl _)
  · cases h2
theorem snd_isNotN {K : PySem.W.Frag} : Sound2 K (fun x y H Q => y = .non ∧ Q (.bl (!decide (x = .non))) H) (gF c0 fIsNotN) := by
  intro v u x y H ad μ Q m rx ry h
  obtain ⟨h1, d, h2, h3⟩ := h
  unfold fIsNotN at h2
  split at h2
  · cases h2
    cases ry
    refine ⟨rfl, ?_⟩
    rw [isNon_rp rx]
    exact h3 _ H (Step.refl _ _) m (.bl _)
  · cases h2
/-! x op= e -/
def fAug (i : Nat) (g : G2) (f : SE) : SS := fun ρ μ k => ∃ x, ρ[i]? = some (some x) ∧ f ρ μ fun y μ1 => g x y μ1 fun d => k.nx (ρ.set i (some (.d d))) μ1
theorem pds_aug {i : Nat} {e : Expr} {st : Stmt} {r : R2} {g : G2} {f : SE} (mg : MonG g) (sd : Sound2 X.K r g) (h : PD X e f) (hp : ∀ te, PE X e te → PS X st (tAug i te r)) : PDS X W st (fAug i g f) := by
  refine ⟨fun ρ μ k k' l ⟨x, w1, q⟩ => ⟨x, w1, h.mo ρ μ _ _ (fun y μ1 q => mg x y μ1 _ _ (fun d q => l.nx _ _ q) q) q⟩, (hp _ h.run).of fun Dn σ H q => ?_⟩
  obtain ⟨ad, ρ, μ, s, x, w1, q⟩ := q
  obtain ⟨v, w2, rx⟩ := s.e i x w1
  refine ⟨v, w2, ad, ρ, μ, s, h.mo ρ μ _ _ (fun y μ1 q u H1 t1 m1 ry => ?_) q⟩
  refine sd v u x y H1 ad μ1 _ m1 (rx.step t1) ry (mg x y μ1 _ _ (fun d q z H2 t2 m2 rz => ?_) q)
  exact q _ H2 ad (t1.trans t2) ((s.step (t1.trans t2) m2).set (x := .d d) rz)
end
end DV

/-! part DZX -/
set_option Elab.async false
set_option linter.all false
set_option maxRecDepth 100000
set_option maxHeartbeats 1000000
set_option autoImplicit false
namespace DV
open PySem PySem.Spec L2
theorem rows_of {K : PySem.W.Frag} {F : Hp} : ∀ {xs : List V} {rows : List (List D)}, RpA K F xs (rows.map D.tup) → ∃ as : List Addr, xs = as.map V.ref ∧ as.length = rows.length ∧ ∀ (j : Nat) (a : Addr), as[j]? = some a → ∃ ws r, rows[j]? = some r ∧ SqT K F a ws ∧ RpA K F ws r
  | _, [], .nil => ⟨[], rfl, rfl, fun j a h => by simp at h⟩
  | _, r :: rows, .cons h t => by
    obtain ⟨as, e, el, g⟩ := rows_of t
    cases h with
    | @tup a ws _ h1 h2 =>
      refine ⟨a :: as, by rw [e]; rfl, by simp [el], fun j b hb => ?_⟩
      cases j with
      | zero => cases hb; exact ⟨ws, r, rfl, h1, h2⟩
      | succ j => exact g j b (by simpa using hb)
def colD (rows : List (List D)) (i : Nat) : List D := rows.map fun r => r.getD i .non
def colsD (n : Nat) (rows : List (List D)) : List D := (List.range n).map fun i => D.tup (colD rows i)
def fIStar (f : SE) : SI := fun ρ μ P => f ρ μ fun y μ1 => ∃ (rows : List (List D)) (n : Nat), y = .d (.lst (rows.map D.tup)) ∧ rows.length ≤ 8 ∧ (rows = [] → n = 0) ∧ (∀ r ∈ rows, r.length = n) ∧ P (colsD n rows) (fun _ => True) μ1
theorem rpA_col {K : PySem.W.Frag} {F : Hp} {i : Nat} : ∀ {ys : List V} {rows : List (List D)}, ys.length = rows.length → (∀ (j : Nat) (r : List D), rows[j]? = some r → ∃ v d, ys[j]? = some v ∧ r[i]? = some d ∧ Rp K F v d) → RpA K F ys (colD rows i)
  | [], [], _, _ => .nil
  | y :: ys, r :: rows, hl, h => by
    obtain ⟨v, d, h1, h2, h3⟩ := h 0 r rfl
    cases h1
    unfold colD
    rw [List.map_cons]
    refine .cons ?_ (rpA_col (by simpa using hl) fun j r hr => by simpa using h (j + 1) r (by simpa using hr))
    rw [List.getD_eq_getElem?_getD, h2]
    exact h3
section
variable {X : Cx}
theorem pdi_star {e : Expr} {f : SE} {p sp pos xp : Pos} {x : Str} (hg : Gl X "zip") (hm : X.mg "zip" = none) (h : PD X e f)
    (hs : starEach [.Starred e sp] X.env = [(true, eval e X.env)] := by rfl) : PDI X (.Name x xp) (.Call (.Name "zip" p) [.Starred e sp] [] pos) (fIStar f) := by
  refine ⟨fun ρ μ P P' k q => h.mo ρ μ _ _ (fun x μ1 ⟨n, n2, e, e2, e3, e4, q⟩ => ⟨n, n2, e, e2, e3, e4, k _ _ _ q⟩) q, (DZ.pi_star hg hm h.run hs).of fun σ H R q => ?_⟩
  obtain ⟨ad, ρ, μ, s, q⟩ := q
  refine ⟨ad, ρ, μ, s, h.mo ρ μ _ _ (fun y μ1 ⟨rows, n, e, hl, h0, hn, q⟩ v H1 t1 m1 r1 => ?_) q⟩
  subst e
  cases r1 with
  | @lst a xs _ h1 h2 =>
    obtain ⟨as, rfl, el, g⟩ := rows_of h2
    refine ⟨a, as, rfl, sqL_same hide_same h1, by omega, fun b hb => ?_, q _ H1 t1 m1 fun H2 ad2 μ2 st m _ => ?_⟩
    · obtain ⟨j, hj, e⟩ := List.getElem_of_mem hb
      obtain ⟨ws, r, _, q1, _⟩ := g j b (by rw [List.getElem?_eq_getElem hj, e])
      exact ⟨ws, sqT_same hide_same q1⟩
    · have tup2 : ∀ (j : Nat) (b : Addr), as[j]? = some b → ∃ ws r, rows[j]? = some r ∧ SqT X.K H2 b ws ∧ RpA X.K (hide ad2 H2) ws r ∧ ws.length = n := fun j b hb => by
        obtain ⟨ws, r, q1, q2, q3⟩ := g j b hb
        exact ⟨ws, r, q1, sqT_same hide_same (sqT_same st.same q2), q3.mono st.same, by rw [q3.length]; exact hn r (List.mem_of_getElem? q1)⟩
      have cl : (colsD n rows).length = n := by unfold colsD; simp
      by_cases hne : as = []
      · have hr : rows = [] := by
          rw [hne] at el
          exact List.length_eq_zero_iff.mp el.symm
        rw [if_pos hne]
        have hn0 := h0 hr
        refine ⟨fun i hi => by omega, trivial, fun i d x H3 e y => y.elim⟩
      · rw [if_neg hne]
        have allT : ∀ b ∈ as, ∃ ws, SqT X.K H2 b ws ∧ ws.length = n := fun b hb => by
          obtain ⟨j, hj, e⟩ := List.getElem_of_mem hb
          obtain ⟨ws, r, _, q1, _, q2⟩ := tup2 j b (by rw [List.getElem?_eq_getElem hj, e])
          exact ⟨ws, q1, q2⟩
        refine ⟨fun i hi => ⟨hne, fun b hb => let ⟨ws, q1, q2⟩ := allT b hb; ⟨ws, q1, by omega⟩⟩, ⟨fun b hb => let ⟨ws, q1, _⟩ := allT b hb; ⟨ws, q1⟩, ?_⟩, fun i d x H3 e y => ?_⟩
        · cases as with
          | nil => exact absurd rfl hne
          | cons b r =>
            obtain ⟨ws, q1, q2⟩ := allT b (by simp)
            exact ⟨b, r, rfl, ws, q1, by omega⟩
        · obtain ⟨T, ys, rfl, hT, rfl, hy, f⟩ := y
          have hd : i < n ∧ d = .tup (colD rows i) := by
            unfold colsD at e
            rw [List.getElem?_map] at e
            cases hz : (List.range n)[i]? with
            | none => rw [hz] at e; cases e
            | some k =>
              rw [hz] at e
              obtain ⟨hk, hk2⟩ := List.getElem?_eq_some_iff.mp hz
              rw [List.getElem_range] at hk2
              rw [List.length_range] at hk
              cases e
              exact ⟨hk, by rw [hk2]⟩
          obtain ⟨hi, rfl⟩ := hd
          have st2 : Step ad2 H2 ad2 (upd H2 T (.tup ys)) := Step.new hT
          refine ⟨st2, m.new hT, .tup (.inl (.inl (by rw [hide_out (m.fresh hT)]; exact upd_same))) (rpA_col (by omega) fun j r hr => ?_)⟩
          have hj : j < as.length := by rw [el]; exact (List.getElem?_eq_some_iff.mp hr).1
          obtain ⟨ws, r', q1, q2, q3, q4⟩ := tup2 j as[j] (List.getElem?_eq_getElem hj)
          rw [hr] at q1
          cases q1
          have z := f j as[j] (List.getElem?_eq_getElem hj) ws q2
          have hw : i < ws.length := by omega
          obtain ⟨d, e1, e2⟩ := q3.at (List.getElem?_eq_getElem hw)
          rw [List.getElem?_eq_getElem hw] at z
          exact ⟨_, d, z, e1, e2.mono st2.same⟩
/-! x in l, x not in l: data of any depth -/
def cInP : S → S → Mu → Prop := fun x y μ => (∀ d, datOf μ x = some d → shapedD d) ∧ ∀ d, datOf μ y = some d → shapedD d
def lstOf (μ : Mu) (y : S) : Option (List D) := match datOf μ y with
  | some (.lst ds) => some ds
  | _ => none
def fInP (neg : Bool) : S → S → Mu → Option D := fun x y μ => match datOf μ x, lstOf μ y with
  | some d, some ds => some (.bl (if neg then !(pyA ds).any (fun z => PyData.eqv z d.py) else (pyA ds).any (fun z => PyData.eqv z d.py)))
  | _, _ => none
theorem lstOf_some {μ : Mu} {y : S} {ds : List D} (h : lstOf μ y = some ds) : datOf μ y = some (.lst ds) := by
  unfold lstOf at h
  split at h
  · cases h; assumption
  · cases h
theorem snd_inP {K : PySem.W.Frag} : Sound2 K (rInD K) (gF cInP (fInP false)) := by
  intro v u x y H ad μ Q m rx ry h
  obtain ⟨⟨h1, h2⟩, d, h3, h4⟩ := h
  unfold fInP at h3
  split at h3
  · rename_i dx ds e1 e2
    cases h3
    have e3 := lstOf_some e2
    have sx := h1 _ e1
    have sy := h2 _ e3
    exact ⟨dx.py, pyA ds, datOf_rp m rx e1 sx.1, datOf_rp m ry e3 sy.1, sx.2, sy.2, h4 _ H (Step.refl _ _) m (.bl _)⟩
  · cases h3
theorem snd_notInP {K : PySem.W.Frag} : Sound2 K (rNotInD K) (gF cInP (fInP true)) := by
  intro v u x y H ad μ Q m rx ry h
  obtain ⟨⟨h1, h2⟩, d, h3, h4⟩ := h
  unfold fInP at h3
  split at h3
  · rename_i dx ds e1 e2
    cases h3
    have e3 := lstOf_some e2
    have sx := h1 _ e1
    have sy := h2 _ e3
    exact ⟨dx.py, pyA ds, datOf_rp m rx e1 sx.1, datOf_rp m ry e3 sy.1, sx.2, sy.2, h4 _ H (Step.refl _ _) m (.bl _)⟩
  · cases h3
end
end DV

/-! part DZG -/
set_option Elab.async false
set_option linter.all false
set_option maxRecDepth 100000
set_option maxHeartbeats 1000000
set_option autoImplicit false
/-! zip of two sequences of any kind, lists that change among them -/
namespace DZ
open PySem PySem.Spec PyProof.Rows L2 RZ
def SqB (K : PySem.W.Frag) : Bool → Hp → Addr → List V → Prop
  | true => SqT K
  | false => SqL K
def IterB : Bool → Heap → Addr → Addr → Nat → Prop
  | true, h, it, l, i => h.IsTupleIter it l i
  | false, h, it, l, i => h.IsListIter it l i
def IsB : Bool → Heap → Addr → Array Value → Prop
  | true, h, l, vs => h.IsTuple l vs
  | false, h, l, vs => h.IsList l vs
theorem iterB_at {k : Bool} {h h' : Heap} {it l : Addr} {i : Nat} (x : IterB k h it l i) (f : ∀ o, h.get? it = some o → h'.get? it = some o) : IterB k h' it l i := by
  cases k
  · exact Heap.IsListIter.at x f
  · exact Heap.IsTupleIter.at x f
theorem iterB_obj {k : Bool} {h : Heap} {it l : Addr} {i : Nat} (x : IterB k h it l i) : ∃ o, h.get? it = some o ∧ ∀ v, o.data ≠ .cell v := by
  cases k
  · obtain ⟨o, g, _, d⟩ := x; exact ⟨o, g, fun _ q => nomatch d.symm.trans q⟩
  · obtain ⟨o, g, _, d⟩ := x; exact ⟨o, g, fun _ q => nomatch d.symm.trans q⟩
theorem srcB {prog : Program} {w : World} (k : Bool) (it l : Addr) (hne : l ≠ it) (vs : Array Value) : Src prog w it l vs.size (fun i v => vs[i]? = some v) fun i h => IterB k h it l i ∧ IsB k h l vs := by
  cases k
  · exact Src.lst it l hne vs
  · exact Src.tup it l hne vs
section
variable {X : Cx} {pins : List (Addr × Obj)} {σ : L2.St} {H : Hp} {s : Shared}
theorem seqB_inv (I : Inv X pins σ H s) {k : Bool} {a : Addr} {xs : List V} (q : SqB X.K k H a xs) : ∃ vs : List Value, Vals xs vs ∧ IsB k s.heap a vs.toArray := by
  cases k
  · obtain ⟨vs, r, p, _⟩ := I.list q; exact ⟨vs, r, p.isList⟩
  · obtain ⟨vs, r, p, _⟩ := I.tuple q; exact ⟨vs, r, p⟩
theorem injB (I : Inv X pins σ H s) {k : Bool} {a : Addr} {xs ys : List V} (p : SqB X.K k H a xs) (q : SqB X.K k H a ys) : xs = ys := by
  cases k
  · exact I.list_inj p q
  · exact I.tuple_inj p q
theorem begB (k : Bool) (a : Addr) (vs : Array Value) : ∃ o, PySem.Begins (.ref a) o (fun h => IsB k h a vs) ∧ ∀ h it, h.get? it = some o → IterB k h it a 0 := by
  cases k
  · exact ⟨_, begins_list a vs, fun h it q => ⟨_, q, rfl, rfl⟩⟩
  · exact ⟨_, begins_tuple a vs, fun h it q => ⟨_, q, rfl, rfl⟩⟩
end
/-- two sequences at a and b (k true: a tuple), as they stand at each turn -/
def ItB (K : PySem.W.Frag) (k1 k2 : Bool) (a b : Addr) : It :=
  ⟨fun i H => ∃ xs ys : List V, SqB K k1 H a xs ∧ SqB K k2 H b ys ∧ i < xs.length ∧ i < ys.length,
    fun i H v H' => ∃ T x y, v = .ref T ∧ H T = none ∧ H' = upd H T (.tup [x, y]) ∧ (∀ xs, SqB K k1 H a xs → xs[i]? = some x) ∧ ∀ ys, SqB K k2 H b ys → ys[i]? = some y,
    fun i H => ∃ xs ys : List V, SqB K k1 H a xs ∧ SqB K k2 H b ys ∧ (xs.length ≤ i ∨ ys.length ≤ i)⟩
theorem turn_B {k1 k2 : Bool} {P : Program} {w : World} {K : PySem.W.Frag} {elts : List Expr} {kk : Nat} {tpos : Pos} {a b z TI TO i1 i2 : Addr} (D : ZipApart z TI TO i1 i2 a b) :
    Turn P w K (.Tuple elts kk tpos) (ItB K k1 k2 a b) [z, TI, TO, i1, i2] z (fun i h => IsZip h z TI TO .none ∧ IsPair h TI (.ref i1) (.ref i2) ∧ (∃ x y, IsPair h TO x y) ∧ IterB k1 h i1 a i ∧ IterB k2 h i2 b i) where
  mem := .head _
  obj := fun i h st c hc => by
    obtain ⟨g0, g1, ⟨_, _, g2⟩, g3, g4⟩ := st
    obtain ⟨o3, g3, d3⟩ := iterB_obj g3
    obtain ⟨o4, g4, d4⟩ := iterB_obj g4
    simp only [List.mem_cons, List.not_mem_nil, or_false] at hc
    rcases hc with rfl | rfl | rfl | rfl | rfl
    · exact ⟨_, g0, fun _ q => nomatch q⟩
    · exact ⟨_, g1, fun _ q => nomatch q⟩
    · exact ⟨_, g2, fun _ q => nomatch q⟩
    · exact ⟨o3, g3, d3⟩
    · exact ⟨o4, g4, d4⟩
  keep := fun i h h' ⟨g0, g1, ⟨x, y, g2⟩, g3, g4⟩ k => ⟨k z (by simp) _ g0, k TI (by simp) _ g1, ⟨x, y, k TO (by simp) _ g2⟩, iterB_at g3 fun o q => k i1 (by simp) o q, iterB_at g4 fun o q => k i2 (by simp) o q⟩
  item := by
    intro X hP hw hK hc i pins s σ H E I hf ⟨g0, g1, ⟨x0, y0, g2⟩, g3, g4⟩ ⟨xs, ys, qx, qy, lx, ly⟩
    subst hP hw hK
    obtain ⟨vs, rv, p⟩ := seqB_inv I qx
    obtain ⟨us, ru, p'⟩ := seqB_inv I qy
    have low : z < s.heap.objs.size := Heap.lt_size g0
    have l1 := rv.length
    have l2 := ru.length
    refine next_more D (srcB k1 i1 a D.l1i1 vs.toArray) (srcB k2 i2 b D.l2i2 us.toArray) g0 g1 g2 ⟨g3, p⟩ ⟨g4, p'⟩ (by simp; omega) (by simp; omega) fun x y h' ex ey z' o' ⟨t1, _⟩ ⟨t2, _⟩ hT _ hk => ?_
    refine ⟨_, rfl, wpAny_letOwnedTupleGo_zip (s := { s with heap := h' }) z' fun h2 z2 sb => ?_⟩
    have hT2 : h2.get? s.heap.objs.size = some { cls := .type "tuple", data := .seq #[x, y] } := (sb.2 _ (Nat.ne_of_gt low)).trans hT
    obtain ⟨v, hv, r1⟩ : ∃ v, xs[i]? = some v ∧ RelV v x := by
      obtain ⟨u, hu, r⟩ := rv.get (List.getElem?_eq_getElem lx)
      have ex : vs[i]? = some x := by simpa using ex
      rw [hu] at ex
      cases ex
      exact ⟨_, List.getElem?_eq_getElem lx, r⟩
    obtain ⟨v', hv', r2⟩ : ∃ v, ys[i]? = some v ∧ RelV v y := by
      obtain ⟨u, hu, r⟩ := ru.get (List.getElem?_eq_getElem ly)
      have ey : us[i]? = some y := by simpa using ey
      rw [hu] at ey
      cases ey
      exact ⟨_, List.getElem?_eq_getElem ly, r⟩
    have new : ObjOk X.prog X.w (upd H s.heap.objs.size (.tup [v, v'])) h2 s.heap.objs.size (.tup [v, v']) := ⟨by show 2 ≤ sizeLine; decide, [x, y], .cons r1 (.cons r2 .nil), ⟨_, hT2, rfl, _, rfl⟩⟩
    have out : ∀ c, c ∉ [z, TI, TO, i1, i2] → c ≠ z ∧ c ≠ TO ∧ c ≠ i1 ∧ c ≠ i2 := fun c hc => ⟨fun q => hc (by simp [q]), fun q => hc (by simp [q]), fun q => hc (by simp [q]), fun q => hc (by simp [q])⟩
    have I1 : Inv X pins σ (upd H s.heap.objs.size (.tup [v, v'])) { s with heap := h2 } :=
      I.turnedNew (t' := s.toks) (ch := [z, TI, TO, i1, i2]) (fun c o hb q => (sb.2 c (out c hb).1).trans (hk c o (out c hb).1 (out c hb).2.1 (out c hb).2.2.1 (out c hb).2.2.2 q)) hf (Nat.le_refl _) new
    refine ⟨.ref s.heap.objs.size, _, I1, rfl, ⟨_, v, v', rfl, I.hok.fresh (Nat.le_refl _), rfl, fun l hl => by rw [injB I hl qx]; exact hv, fun l hl => by rw [injB I hl qy]; exact hv'⟩,
      ⟨z2, (sb.2 _ D.TIz).trans (hk _ _ D.TIz D.TITO D.TIi1 D.TIi2 g1), ⟨x, y, (sb.2 _ D.TOz).trans o'⟩, iterB_at t1 fun o q => (sb.2 _ D.i1z).trans q, iterB_at t2 fun o q => (sb.2 _ D.i2z).trans q⟩, fun c hcm => ?_⟩
    have lt : c < s.heap.objs.size := by
      simp only [List.mem_cons, List.not_mem_nil, or_false] at hcm
      rcases hcm with rfl | rfl | rfl | rfl | rfl
      · exact low
      · exact Heap.lt_size g1
      · exact Heap.lt_size g2
      · exact Heap.lt_size (iterB_obj g3).choose_spec.1
      · exact Heap.lt_size (iterB_obj g4).choose_spec.1
    rw [upd_ne (Nat.ne_of_lt lt)]
    exact (hf c hcm).1
  done := by
    intro X hP hw hK hc i pins s σ H E I hf ⟨g0, g1, ⟨x0, y0, g2⟩, g3, g4⟩ ⟨xs, ys, qx, qy, hend⟩
    subst hP hw hK
    obtain ⟨vs, rv, p⟩ := seqB_inv I qx
    obtain ⟨us, ru, p'⟩ := seqB_inv I qy
    have l1 := rv.length
    have l2 := ru.length
    refine next_over (I.ok.hd hc) D (srcB k1 i1 a D.l1i1 vs.toArray) (srcB k2 i2 b D.l2i2 us.toArray) g0 g1 g2 ⟨g3, p⟩ ⟨g4, p'⟩ (by simp; omega) fun h' hk => ⟨rfl, ?_⟩
    exact I.turnedL (t' := s.toks) (ch := [z, TI, TO, i1, i2]) (fun c o hb q => hk c o (fun q' => hb (by simp [q'])) (fun q' => hb (by simp [q'])) (fun q' => hb (by simp [q'])) (fun q' => hb (by simp [q'])) q) hf
  self := fun A i s Q E st h => wpAny_pyIter_zip st.1 h
def iB (K : PySem.W.Frag) (ta : TA) : TI := fun σ H R => ta σ H fun vs H1 => ∃ k1 k2 a b xs ys, vs = [.ref a, .ref b] ∧ SqB K k1 H1 a xs ∧ SqB K k2 H1 b ys ∧ R (ItB K k1 k2 a b) H1
theorem pi_B {X : Cx} {e e2 : Expr} {ta : TA} {p pos tpos : Pos} {elts : List Expr} {kk : Nat} (hg : Gl X "zip") (hm : X.mg "zip" = none) (ha : PA X [e, e2] ta)
    (hs : starEach [e, e2] X.env = (false, eval e X.env) :: starEach [e2] X.env := by rfl) (hpl : (backTo pos (starEach [e2] X.env)).any (·.1) = false := by rfl) :
    PI X (.Tuple elts kk tpos) (.Call (.Name "zip" p) [e, e2] [] pos) (iB X.K ta) := by
  refine ⟨fun pins s σ H R I h => Call_ (ld_blt I hg hm boot_zip (callWith_type1 (thn (ha.run pos pins s σ H _ I h) fun us s1 ⟨vs, H1, I1, r1, k1, k2, a, b, xs, ys, ex, qx, qy, q⟩ => ?_) hs hpl))⟩
  subst ex
  obtain ⟨u1, u2, rfl, r2, r3⟩ : ∃ u1 u2, us = [u1, u2] ∧ RelV (.ref a) u1 ∧ RelV (.ref b) u2 := by
    cases r1 with
    | cons r2 rr => cases rr with
      | cons r3 rr => cases rr; exact ⟨_, _, rfl, r2, r3⟩
  cases r2
  cases r3
  obtain ⟨vs, rv, p1⟩ := seqB_inv I1 qx
  obtain ⟨ws, rw', p2⟩ := seqB_inv I1 qy
  have lt : ∀ {k : Bool} {a : Addr} {vs : Array Value}, IsB k s1.heap a vs → a < s1.heap.objs.size := fun {k a vs} p => by
    cases k
    · obtain ⟨o, g, _⟩ := p; exact Heap.lt_size g
    · obtain ⟨o, g, _⟩ := p; exact Heap.lt_size g
  obtain ⟨o1, B1, J1⟩ := begB k1 a vs.toArray
  obtain ⟨o2, B2, J2⟩ := begB k2 b ws.toArray
  refine zip_begins2 B1 B2 p1 p2 fun h' hz hI hO j1 j2 _ hk => wpAny_pyIter_zip hz ?_
  have fp : ∀ c, s1.heap.objs.size ≤ c → FpOk X pins H1 c := fun c le => I1.fpOk le (I1.hok.fresh le)
  refine ⟨s1.heap.objs.size + 4, [s1.heap.objs.size + 4, s1.heap.objs.size + 2, s1.heap.objs.size + 3, s1.heap.objs.size, s1.heap.objs.size + 1], _, _, H1, rfl, I1.kept (t' := s1.toks) hk,
    turn_B (k1 := k1) (k2 := k2) (PySem.W.ktu_apart s1.heap.objs.size a b (lt p1) (lt p2)), ⟨hz, hI, ⟨_, _, hO⟩, J1 _ _ j1, J2 _ _ j2⟩, fun c hc => fp c ?_, q⟩
  simp only [List.mem_cons, List.not_mem_nil, or_false] at hc
  rcases hc with rfl | rfl | rfl | rfl | rfl <;> omega
end DZ
namespace DV
open PySem PySem.Spec L2
section
variable {X : Cx} {W : WX}
/-- zip of two sequences, each a frozen list or tuple or a list that changes -/
def fIZipG (f : SA) : SI := fun ρ μ P => f ρ μ fun xs μ1 => ∃ x y w1 w2, xs = [x, y] ∧ itemsOf μ1 x = some w1 ∧ itemsOf μ1 y = some w2 ∧ P (zipD w1.1 w2.1) (fun μ' => w1.2 μ' ∧ w2.2 μ') μ1
theorem seqG {K : PySem.W.Frag} {H1 : Hp} {ad : List Addr} {μ1 : Mu} {v : V} {x : S} {w : List D × (Mu → Prop)} (m1 : RpM K H1 ad μ1) (r : RpS K (hide ad H1) ad v x) (h : itemsOf μ1 x = some w) :
    ∃ k a, v = .ref a ∧ (∃ xs, DZ.SqB K k H1 a xs) ∧ ∀ H2 ad2 μ2, Step ad H1 ad2 H2 → RpM K H2 ad2 μ2 → w.2 μ2 → ∃ xs, DZ.SqB K k H2 a xs ∧ RpA K (hide ad2 H2) xs w.1 := by
  cases x with
  | ex _ _ _ _ => cases h
  | m j =>
    obtain ⟨a, h1, rfl⟩ := r
    change (μ1[j]?).map (fun ds => (ds, fun μ' : Mu => μ'[j]? = some ds)) = some w at h
    cases e : μ1[j]? with
    | none => rw [e] at h; cases h
    | some ds =>
      rw [e] at h
      cases h
      obtain ⟨b, xs, q1, q2, q3⟩ := m1.at_ j ds e
      rw [h1] at q1
      cases q1
      refine ⟨false, a, rfl, ⟨xs, .inl (.inl q2)⟩, fun H2 ad2 μ2 st m2 hw => ?_⟩
      obtain ⟨b, ys, z1, z2, z3⟩ := m2.at_ j ds hw
      rw [st.get h1] at z1
      cases z1
      exact ⟨ys, .inl (.inl z2), z3⟩
  | d d =>
    cases d with
    | lst ds =>
      cases h
      cases r with
      | @lst a xs _ h1 h2 => exact ⟨false, a, rfl, ⟨xs, sqL_same hide_same h1⟩, fun H2 ad2 μ2 st m2 _ => ⟨xs, sqL_same hide_same (sqL_same st.same h1), h2.mono st.same⟩⟩
    | tup ds =>
      cases h
      cases r with
      | @tup a xs _ h1 h2 => exact ⟨true, a, rfl, ⟨xs, sqT_same hide_same h1⟩, fun H2 ad2 μ2 st m2 _ => ⟨xs, sqT_same hide_same (sqT_same st.same h1), h2.mono st.same⟩⟩
    | _ => cases h
theorem pdi_zipG {e e2 : Expr} {elts : List Expr} {kk : Nat} {f : SA} {p pos tpos : Pos} (hg : Gl X "zip") (hm : X.mg "zip" = none) (h : PDA X [e, e2] f)
    (hs : starEach [e, e2] X.env = (false, eval e X.env) :: starEach [e2] X.env := by rfl) (hpl : (backTo pos (starEach [e2] X.env)).any (·.1) = false := by rfl) :
    PDI X (.Tuple elts kk tpos) (.Call (.Name "zip" p) [e, e2] [] pos) (fIZipG f) := by
  refine ⟨fun ρ μ P P' k q => h.mo ρ μ _ _ (fun x μ1 ⟨n, n2, w1, w2, e, e1, e2, q⟩ => ⟨n, n2, w1, w2, e, e1, e2, k _ _ _ q⟩) q, (DZ.pi_B hg hm h.run hs hpl).of fun σ H R q => ?_⟩
  obtain ⟨ad, ρ, μ, s, q⟩ := q
  refine ⟨ad, ρ, μ, s, h.mo ρ μ _ _ (fun xs μ1 ⟨x, y, w1, w2, e, e1, e2, q⟩ vs H1 t1 m1 r1 => ?_) q⟩
  subst e
  obtain ⟨v, u, rfl, r2, r3⟩ := rsa2 r1
  obtain ⟨k1, a, rfl, ⟨xs, hx⟩, f1⟩ := seqG m1 r2 e1
  obtain ⟨k2, b, rfl, ⟨ys, hy⟩, f2⟩ := seqG m1 r3 e2
  refine ⟨k1, k2, a, b, xs, ys, rfl, hx, hy, q _ H1 t1 m1 fun H2 ad2 μ2 st m ok => ?_⟩
  obtain ⟨ws, h3, h2⟩ := f1 H2 ad2 μ2 st m ok.1
  obtain ⟨us, k3, k2'⟩ := f2 H2 ad2 μ2 st m ok.2
  have hl := h2.length
  have kl := k2'.length
  have hz := zipD_length w1.1 w2.1
  refine ⟨fun i hi => ⟨ws, us, h3, k3, by omega, by omega⟩, ⟨ws, us, h3, k3, by omega⟩, fun i d x H3 e y => ?_⟩
  obtain ⟨T, x', y', rfl, hT, rfl, f, g⟩ := y
  obtain ⟨d1, d2, g1, g2, rfl⟩ := zipD_get e
  obtain ⟨v, q4, q5⟩ := h2.get g1
  obtain ⟨v', q4', q5'⟩ := k2'.get g2
  have z1 := f ws h3
  have z2 := g us k3
  rw [q4] at z1
  rw [q4'] at z2
  cases z1
  cases z2
  have st2 : Step ad2 H2 ad2 (upd H2 T (.tup [x', y'])) := Step.new hT
  exact ⟨st2, m.new hT, .tup (.inl (.inl (by rw [hide_out (m.fresh hT)]; exact upd_same))) (.cons (q5.mono st2.same) (.cons (q5'.mono st2.same) .nil))⟩
end
end DV

/-! part DZH -/
set_option Elab.async false
set_option linter.all false
set_option maxRecDepth 100000
set_option maxHeartbeats 1000000
set_option autoImplicit false
namespace DV
open PySem PySem.Spec L2
section
variable {X : Cx} {W : WX}
/-- a, b = e, [..], the second one a list that changes -/
def fParDN (i j : Nat) (fa : SE) (fb : SN) : SS := fun ρ μ k => fa ρ μ fun x μ1 => fb ρ μ1 fun ds μ2 => k.nx ((ρ.set i (some x)).set j (some (.m μ2.length))) (μ2 ++ [ds])
theorem pds_parDN {st : Stmt} {i j : Nat} {a b : Expr} {fa : SE} {fb : SN} (ha : PD X a fa) (hb : PDN X b fb) (hp : ∀ ta, PA X [a, b] ta → PS X st (tPar i j ta))
    (hs : starEach [a, b] X.env = (false, eval a X.env) :: starEach [b] X.env := by rfl) (hs2 : starEach [b] X.env = (false, eval b X.env) :: starEach [] X.env := by rfl) : PDS X W st (fParDN i j fa fb) := by
  refine ⟨fun ρ μ k k' l q => ha.mo ρ μ _ _ (fun x μ1 q => hb.mo ρ _ _ _ (fun y μ2 q => l.nx _ _ q) q) q, (hp _ (pa_cons ha.run (pa_cons hb.run pa_nil hs2) hs)).of fun Dn σ H q => ?_⟩
  obtain ⟨ad, ρ, μ, s, q⟩ := q
  refine ⟨ad, ρ, μ, s, ha.mo ρ μ _ _ (fun x μ1 q v H1 t1 m1 r1 => ?_) q⟩
  refine ⟨ad, ρ, μ1, s.step t1 m1, hb.mo ρ μ1 _ _ (fun ds μ3 q p H3 hp t3 m3 => ?_) q⟩
  have hg := last_ad m3
  have t := t1.trans t3
  have rp : RpS X.K (hide (ad ++ [p]) H3) (ad ++ [p]) (.ref p) (.m μ3.length) := ⟨p, hg, rfl⟩
  exact ⟨v, .ref p, rfl, q _ H3 (ad ++ [p]) t (((s.step t m3).set (r1.step t3)).set rp)⟩
end
end DV
theorem L2.Room.u65 {k : Nat} {A : PySem.Around} (r : L2.Room k A) : A.units + 65 < PySem.cLine := by have := r.un; omega

/-! part DZI -/
set_option Elab.async false
set_option linter.all false
set_option maxRecDepth 100000
set_option maxHeartbeats 1000000
set_option autoImplicit false
/-! t * 1 is t -/
namespace L2
open PySem PySem.Spec PyProof.Rows
theorem tuple_mul1 (l : Addr) (items : Array Value) (n : Nat) (dd : Option Addr) (sl : Array (Option Value)) (u : Tok) (hi : items.isEmpty = false) :
    Meets (Builtin.«tuple.__mul__» ⟨[.ref l, .int 1 u], []⟩) (fun _ R s => s.heap.get? l = some { cls := .type "tuple", dict := dd, data := .seq items n, slots := sl } ∧ R (.ok (.ret (Value.ref l))) s) :=
  .of_wp fun prog w A R s h => by
    obtain ⟨hp, g, d, tk, os⟩ := s
    obtain ⟨hl, h⟩ := h
    have f1 := AutoSeq1.idx_int
    have c1 : (items.isEmpty || (1 : Int) == 1) = true := by simp
    wp_walk using wpAny_loadPart' hl
    exact ⟨_, rfl, h⟩
def rRepT1 (K : PySem.W.Frag) : R2 := fun x y H Q => ∃ l xs, x = .ref l ∧ y = .int 1 ∧ SqT K H l xs ∧ xs ≠ [] ∧ Q (.ref l) H
section
variable {X : Cx}
theorem op_repT1 : OpR X (binaryOp .Mult) (rRepT1 X.K) := by
  intro pins s σ H x y v u Q I rx ry h
  obtain ⟨l, xs, rfl, rfl, hT, hne, q⟩ := h
  cases rx
  obtain ⟨t, rfl⟩ := ry
  obtain ⟨its, r, ⟨⟨cls, dd, data, sl⟩, ho, hc, n, hd⟩, hs⟩ := I.tuple hT
  simp only at hc hd
  subst hc hd
  have hle : its.length = xs.length := r.length.symm
  have hn : its ≠ [] := fun e => hne (by
    rw [e] at hle
    exact List.eq_nil_of_length_eq_zero hle.symm)
  have hi : its.toArray.isEmpty = false := by
    cases its with
    | nil => exact absurd rfl hn
    | cons a b => rfl
  refine wpAny_binaryOp_repeat_ref (T := "tuple") (U := "int") (by decide) ⟨_, ho, rfl⟩ (fun s' => typeIs_int s' 1 t) noFill_tuple_mul F.fills_int_mul F.slot_int_rmul repeat_tuple F.slot_int_index.lookup
    (call_meets F.slot_int_rmul (typeIs_int s 1 t) F.entry_int_rmul (F.args_int_rmul_2 _ _) (int_rmul_tuple 1 t l its.toArray n dd sl)
      ⟨ho, rfl, ⟨_, ho, rfl⟩, call_meets F.slot_tuple_mul ⟨_, ho, rfl⟩ F.entry_tuple_mul (F.args_tuple_mul_2 _ _) (tuple_mul1 l its.toArray n dd sl t hi) ⟨ho, ?_⟩⟩)
  exact ⟨.ref l, H, I, rfl, q⟩
end
end L2
namespace DV
open PySem PySem.Spec L2
section
variable {K : PySem.W.Frag}
def cRepU : S → S → Mu → Prop := fun x y _ => match x, y with
  | .d (.tup a), .d (.int k) => a ≠ [] ∧ 1 ≤ k ∧ k ≤ 1000 ∧ a.length ≤ 1000
  | _, _ => True
theorem snd_repU : Sound2 K (fun x y H Q => rRepT K x y H Q ∨ rRepT1 K x y H Q) (gF cRepU fRepT) := by
  intro v u x y H ad μ Q m rx ry h
  obtain ⟨h1, d, h2, h3⟩ := h
  unfold fRepT at h2
  split at h2
  · rename_i a k
    cases h2
    have hz : a ≠ [] ∧ 1 ≤ k ∧ k ≤ 1000 ∧ a.length ≤ 1000 := h1
    by_cases e : k = 1
    · subst e
      obtain ⟨p, xs, rfl, s1, r1⟩ := tup_sq rx rfl
      have l1 := r1.length
      refine .inr ⟨p, xs, rfl, rp_int ry, s1, fun e => ?_, ?_⟩
      · subst e
        exact hz.1 (List.eq_nil_of_length_eq_zero l1.symm)
      · refine h3 _ H (Step.refl _ _) m ?_
        have e : (List.replicate (1 : Int).toNat a).flatten = a := by simp [List.replicate]
        rw [e]
        exact rx
    · refine .inl (snd_repT _ _ _ _ H ad μ Q m rx ry ⟨⟨hz.1, by omega, hz.2.2⟩, _, rfl, h3⟩)
  · cases h2
end
/-! xs[-1] and its like -/
def fIxW : S → S → Mu → Option D := fun x y μ => match y with
  | .d (.int i) => match x with
    | .d (.tup ds) => atI ds i
    | .d (.lst ds) => atI ds i
    | .m j => match μ[j]? with
      | some ds => atI ds i
      | none => none
    | _ => none
  | _ => none
theorem rpA_at {K : PySem.W.Frag} {F : Hp} {vs : List V} {ds : List D} {i : Int} {d : D} (r : RpA K F vs ds) (h : atI ds i = some d) : ∃ v, atI vs i = some v ∧ Rp K F v d := by
  unfold atI at h ⊢
  rw [r.length]
  cases e : ixN ds.length i with
  | none => rw [e] at h; cases h
  | some j =>
    rw [e] at h
    obtain ⟨v, h1, h2⟩ := r.get (i := j) (d := d) h
    exact ⟨v, h1, h2⟩
theorem snd_ixW {K : PySem.W.Frag} : Sound2 K (fun x y H Q => rIxL K x y H Q ∨ rIxT K x y H Q) (gF c0 fIxW) := by
  intro v u x y H ad μ Q m rx ry h
  obtain ⟨h1, d, h2, h3⟩ := h
  unfold fIxW at h2
  split at h2
  · rename_i i
    obtain rfl := rp_int ry
    have L : ∀ es : List D, seqOf μ x = some es → atI es i = some d → rIxL K v (.int i) H Q := fun es hs e => by
      obtain ⟨a, xs, rfl, s1, r1⟩ := seq_sq m rx hs
      obtain ⟨w, e1, rw'⟩ := rpA_at r1 e
      exact ⟨a, xs, i, w, rfl, rfl, s1, e1, h3 w H (Step.refl _ _) m rw'⟩
    split at h2
    · obtain ⟨a, xs, rfl, s1, r1⟩ := tup_sq rx rfl
      obtain ⟨w, e1, rw'⟩ := rpA_at r1 h2
      exact .inr ⟨a, xs, i, w, rfl, rfl, s1, e1, h3 w H (Step.refl _ _) m rw'⟩
    · exact .inl (L _ rfl h2)
    · split at h2
      · rename_i e
        exact .inl (L _ e h2)
      · cases h2
    · cases h2
  · cases h2
section
variable {X : Cx}
theorem repU_ok : OpR X (binaryOp .Mult) (fun x y H Q => rRepT X.K x y H Q ∨ rRepT1 X.K x y H Q) := op_repT.or op_repT1
end
end DV
namespace L2
open PySem PySem.Spec PyProof.Rows
theorem tuple_mul0 (l : Addr) (items : Array Value) (n : Nat) (dd : Option Addr) (sl : Array (Option Value)) (u : Tok) (hi : items.isEmpty = false) :
    Meets (Builtin.«tuple.__mul__» ⟨[.ref l, .int 0 u], []⟩) (fun _ R s => s.heap.get? l = some { cls := .type "tuple", dict := dd, data := .seq items n, slots := sl } ∧
      R (.ok (.ret (Value.ref s.heap.objs.size))) { s with heap := s.heap.push { cls := Value.type "tuple", data := Data.seq #[] } }) :=
  .of_wp fun prog w A R s h => by
    obtain ⟨hp, g, d, tk, os⟩ := s
    obtain ⟨hl, h⟩ := h
    have f1 := AutoSeq1.idx_int
    have c1 : (items.isEmpty || (0 : Int) == 1) = false := by rw [hi]; rfl
    wp_walk using wpAny_loadPart' hl
    repeat (first
      | (refine wpAny_ite_false (by rw [c1]; exact Bool.false_ne_true) ?_; wp_walk using wpAny_loadPart' hl)
      | (refine wpAny_ite_false (decide_eq_false (by rw [c1]; exact Bool.false_ne_true)) ?_; wp_walk using wpAny_loadPart' hl))
    exact ⟨_, rfl, h⟩
end L2
namespace L2
open PySem PySem.Spec PyProof.Rows
def rRepT0 (K : PySem.W.Frag) : R2 := fun x y H Q => ∃ l xs, x = .ref l ∧ y = .int 0 ∧ SqT K H l xs ∧ xs ≠ [] ∧ ∀ p, H p = none → Q (.ref p) (upd H p (.tup []))
theorem op_repT0 {X : Cx} : OpR X (binaryOp .Mult) (rRepT0 X.K) := by
  intro pins s σ H x y v u Q I rx ry h
  obtain ⟨l, xs, rfl, rfl, hT, hne, q⟩ := h
  cases rx
  obtain ⟨t, rfl⟩ := ry
  obtain ⟨its, r, ⟨⟨cls, dd, data, sl⟩, ho, hc, n, hd⟩, hs⟩ := I.tuple hT
  simp only at hc hd
  subst hc hd
  have hle : its.length = xs.length := r.length.symm
  have hn : its ≠ [] := fun e => hne (by
    rw [e] at hle
    exact List.eq_nil_of_length_eq_zero hle.symm)
  have hi : its.toArray.isEmpty = false := by
    cases its with
    | nil => exact absurd rfl hn
    | cons a b => rfl
  refine wpAny_binaryOp_repeat_ref (T := "tuple") (U := "int") (by decide) ⟨_, ho, rfl⟩ (fun s' => typeIs_int s' 0 t) noFill_tuple_mul F.fills_int_mul F.slot_int_rmul repeat_tuple F.slot_int_index.lookup
    (call_meets F.slot_int_rmul (typeIs_int s 0 t) F.entry_int_rmul (F.args_int_rmul_2 _ _) (int_rmul_tuple 0 t l its.toArray n dd sl)
      ⟨ho, rfl, ⟨_, ho, rfl⟩, call_meets F.slot_tuple_mul ⟨_, ho, rfl⟩ F.entry_tuple_mul (F.args_tuple_mul_2 _ _) (tuple_mul0 l its.toArray n dd sl t hi) ⟨ho, ?_⟩⟩)
  have hf : H s.heap.objs.size = none := I.hok.fresh (Nat.le_refl _)
  refine ⟨.ref s.heap.objs.size, upd H s.heap.objs.size (.tup []), I.laid (t' := s.toks) (fun b u e => Heap.get?_push_of_some _ e) (Nat.le_refl _) ?_, rfl, q _ hf⟩
  exact ⟨by show 0 ≤ sizeLine; decide, [], .nil, ⟨_, Heap.get?_push_size _ rfl, rfl, _, rfl⟩⟩
end L2
namespace DV
open PySem PySem.Spec L2
def cRepV : S → S → Mu → Prop := fun x y _ => match x, y with
  | .d (.tup a), .d (.int k) => a ≠ [] ∧ 0 ≤ k ∧ k ≤ 1000 ∧ a.length ≤ 1000
  | _, _ => True
theorem snd_repV {K : PySem.W.Frag} : Sound2 K (fun x y H Q => (rRepT K x y H Q ∨ rRepT1 K x y H Q) ∨ rRepT0 K x y H Q) (gF cRepV fRepT) := by
  intro v u x y H ad μ Q m rx ry h
  obtain ⟨h1, d, h2, h3⟩ := h
  unfold fRepT at h2
  split at h2
  · rename_i a k
    cases h2
    have hz : a ≠ [] ∧ 0 ≤ k ∧ k ≤ 1000 ∧ a.length ≤ 1000 := h1
    by_cases e : k = 0
    · subst e
      obtain ⟨p, xs, rfl, s1, r1⟩ := tup_sq rx rfl
      have l1 := r1.length
      refine .inr ⟨p, xs, rfl, rp_int ry, s1, fun e => ?_, new_tup m .nil h3⟩
      subst e
      exact hz.1 (List.eq_nil_of_length_eq_zero l1.symm)
    · exact .inl (snd_repU _ _ _ _ H ad μ Q m rx ry ⟨⟨hz.1, by omega, hz.2.2⟩, _, rfl, h3⟩)
  · cases h2
theorem repV_ok {X : Cx} : OpR X (binaryOp .Mult) (fun x y H Q => (rRepT X.K x y H Q ∨ rRepT1 X.K x y H Q) ∨ rRepT0 X.K x y H Q) := repU_ok.or op_repT0
end DV

/-! part DZJ -/
set_option Elab.async false
set_option linter.all false
set_option maxRecDepth 100000
set_option maxHeartbeats 1000000
set_option autoImplicit false
/-! a, b, c = e, [..], f: data and new lists, any number, by a tuple that is thrown away -/
namespace DV
open PySem PySem.Spec L2
section
variable {X : Cx} {W : WX}
def tanOf (K : PySem.W.Frag) (f : SA) : TA := fun σ H Q => ∃ ad ρ μ, Sim K H ad ρ μ σ ∧ f ρ μ fun xs μ' => ∀ vs H' ad', Step ad H ad' H' → RpM K H' ad' μ' → RpSA K (hide ad' H') ad' vs xs → Q vs H'
structure PDAN (X : Cx) (es : List Expr) (f : SA) : Prop where
  mo : MonE f
  run : PA X es (tanOf X.K f)
def fANew (f : SN) (g : SA) : SA := fun ρ μ P => f ρ μ fun ds μ1 => g ρ (μ1 ++ [ds]) fun xs μ2 => P (.m μ1.length :: xs) μ2
theorem pdan_nil : PDAN X [] fANil := ⟨fun ρ μ P P' k h => k _ _ h, pa_nil.of fun σ H Q ⟨ad, ρ, μ, s, q⟩ => q [] H ad (Step.refl _ _) s.m .nil⟩
theorem pdan_cons {e : Expr} {es : List Expr} {f : SE} {g : SA} (h : PD X e f) (r : PDAN X es g) (hs : starEach (e :: es) X.env = (false, eval e X.env) :: starEach es X.env := by rfl) : PDAN X (e :: es) (fACons f g) := by
  refine ⟨fun ρ μ P P' k q => h.mo ρ μ _ _ (fun x μ1 q => r.mo ρ μ1 _ _ (fun xs μ2 q => k _ _ q) q) q, (pa_cons h.run r.run hs).of fun σ H Q ⟨ad, ρ, μ, s, q⟩ => ?_⟩
  refine ⟨ad, ρ, μ, s, h.mo ρ μ _ _ (fun x μ1 q v H1 t1 m1 r1 => ?_) q⟩
  exact ⟨ad, ρ, μ1, s.step t1 m1, r.mo ρ μ1 _ _ (fun xs μ2 q vs H2 ad2 t2 m2 r2 => q (v :: vs) H2 ad2 (t1.trans t2) m2 (.cons (r1.step t2) r2)) q⟩
theorem pdan_new {e : Expr} {es : List Expr} {f : SN} {g : SA} (h : PDN X e f) (r : PDAN X es g) (hs : starEach (e :: es) X.env = (false, eval e X.env) :: starEach es X.env := by rfl) : PDAN X (e :: es) (fANew f g) := by
  refine ⟨fun ρ μ P P' k q => h.mo ρ μ _ _ (fun x μ1 q => r.mo ρ _ _ _ (fun xs μ2 q => k _ _ q) q) q, (pa_cons h.run r.run hs).of fun σ H Q ⟨ad, ρ, μ, s, q⟩ => ?_⟩
  refine ⟨ad, ρ, μ, s, h.mo ρ μ _ _ (fun ds μ1 q p H1 np t1 m1 => ?_) q⟩
  have hg := last_ad m1
  refine ⟨ad ++ [p], ρ, μ1 ++ [ds], s.step t1 m1, r.mo ρ _ _ _ (fun xs μ2 q vs H2 ad2 t2 m2 r2 => ?_) q⟩
  have rp : RpS X.K (hide (ad ++ [p]) H1) (ad ++ [p]) (.ref p) (.m μ1.length) := ⟨p, hg, rfl⟩
  exact q (.ref p :: vs) H2 ad2 (t1.trans t2) m2 (.cons (rp.step t2) r2)
def fAsgG (f : SA) (gs : SGs) : SS := fun ρ μ k => f ρ μ fun ss μ1 => gs ss ρ μ1 k.nx
theorem pds_asgG {es ts : List Expr} {k k2 : Nat} {tp ep pos : Pos} {is : List Nat} {f : SA} {gs : SGs} {n : Nat} (hc : X.calm = true) (h : PDAN X es f) (hg : PDGs X ts is gs) (hn : (assignEach ts X.env).length = n := by rfl) (hm : ∀ ρ μ (P : List S → Mu → Prop), f ρ μ P → f ρ μ fun ss μ' => ss.length = n ∧ P ss μ') (hn2 : n ≤ 1000 := by decide) (hst : (assignEach ts X.env).findIdx? (·.1) = none := by rfl)
    (hs : swapsWithSole [.Tuple ts k tp] (.Tuple es k2 ep) pos.line X.env = pure false := by rfl) (hw : swappedStores [.Tuple ts k tp] (.Tuple es k2 ep) X.env = pure none := by rfl)
    (h1 : (assignEach [.Tuple ts k tp] X.env).map (·.2) = [assign (.Tuple ts k tp) X.env] := by rfl) : PDS X W (.Assign [.Tuple ts k tp] (.Tuple es k2 ep) pos) (fAsgG f gs) := by
  refine ⟨fun ρ μ kk kk' l q => h.mo ρ μ _ _ (fun ss μ1 q => hg.mo ss ρ μ1 _ _ (fun ρ' μ' q => l.nx _ _ q) q) q, (ps_asg (pe_tup h.run) (pg_tup hc hg.run hn hst) hs hw h1).of fun Dn σ H q => ?_⟩
  obtain ⟨ad, ρ, μ, s, q⟩ := q
  have q := hm ρ μ _ q
  refine ⟨ad, ρ, μ, s, h.mo ρ μ _ _ (fun ss μ1 q vs H1 ad1 t1 m1 r1 => ?_) q⟩
  obtain ⟨hl, q⟩ := q
  have lv := rpSA_len r1
  refine ⟨Nat.le_trans (show vs.length ≤ 1000 by omega) (by decide), fun T hT => ?_⟩
  have st : Step ad1 H1 ad1 (upd H1 T (.tup vs)) := Step.new hT
  have m2 := m1.new (o := .tup vs) hT
  refine ⟨T, vs, rfl, .inl (.inl upd_same), by omega, ad1, ρ, μ1, ss, s.step (t1.trans st) m2, r1.step st, hg.mo ss ρ μ1 _ _ (fun ρ' μ' q σ' H' _ t2 s2 => ?_) q⟩
  exact q σ' H' ad1 ((t1.trans st).trans t2) s2
theorem hm_nil : ∀ ρ μ (P : List S → Mu → Prop), fANil ρ μ P → fANil ρ μ fun ss μ' => ss.length = 0 ∧ P ss μ' := fun ρ μ P h => ⟨rfl, h⟩
theorem hm_cons {f : SE} {g : SA} {n : Nat} (mf : MonE f) (h : ∀ ρ μ (P : List S → Mu → Prop), g ρ μ P → g ρ μ fun ss μ' => ss.length = n ∧ P ss μ') (mg : MonE g) : ∀ ρ μ (P : List S → Mu → Prop), fACons f g ρ μ P → fACons f g ρ μ fun ss μ' => ss.length = n + 1 ∧ P ss μ' := fun ρ μ P q =>
  mf ρ μ _ _ (fun x μ1 q => mg ρ μ1 _ _ (fun xs μ2 ⟨a, b⟩ => ⟨by rw [List.length_cons, a], b⟩) (h ρ μ1 _ q)) q
theorem hm_new {f : SN} {g : SA} {n : Nat} (mf : MonE f) (h : ∀ ρ μ (P : List S → Mu → Prop), g ρ μ P → g ρ μ fun ss μ' => ss.length = n ∧ P ss μ') (mg : MonE g) : ∀ ρ μ (P : List S → Mu → Prop), fANew f g ρ μ P → fANew f g ρ μ fun ss μ' => ss.length = n + 1 ∧ P ss μ' := fun ρ μ P q =>
  mf ρ μ _ _ (fun x μ1 q => mg ρ _ _ _ (fun xs μ2 ⟨a, b⟩ => ⟨by rw [List.length_cons, a], b⟩) (h ρ _ _ q)) q
/-- arguments with their number -/
structure PDAL (X : Cx) (es : List Expr) (n : Nat) (f : SA) : Prop where
  pd : PDAN X es f
  ln : ∀ ρ μ (P : List S → Mu → Prop), f ρ μ P → f ρ μ fun ss μ' => ss.length = n ∧ P ss μ'
theorem pdal_nil : PDAL X [] 0 fANil := ⟨pdan_nil, hm_nil⟩
theorem pdal_cons {e : Expr} {es : List Expr} {n : Nat} {f : SE} {g : SA} (h : PD X e f) (r : PDAL X es n g) (hs : starEach (e :: es) X.env = (false, eval e X.env) :: starEach es X.env := by rfl) : PDAL X (e :: es) (n + 1) (fACons f g) := ⟨pdan_cons h r.pd hs, hm_cons h.mo r.ln r.pd.mo⟩
theorem pdal_new {e : Expr} {es : List Expr} {n : Nat} {f : SN} {g : SA} (h : PDN X e f) (r : PDAL X es n g) (hs : starEach (e :: es) X.env = (false, eval e X.env) :: starEach es X.env := by rfl) : PDAL X (e :: es) (n + 1) (fANew f g) := ⟨pdan_new h r.pd hs, hm_new h.mo r.ln r.pd.mo⟩
theorem pds_asgL {es ts : List Expr} {k k2 : Nat} {tp ep pos : Pos} {is : List Nat} {f : SA} {gs : SGs} {n : Nat} (hc : X.calm = true) (h : PDAL X es n f) (hg : PDGs X ts is gs) (hn : (assignEach ts X.env).length = n := by rfl) (hn2 : n ≤ 1000 := by decide) (hst : (assignEach ts X.env).findIdx? (·.1) = none := by rfl)
    (hs : swapsWithSole [.Tuple ts k tp] (.Tuple es k2 ep) pos.line X.env = pure false := by rfl) (hw : swappedStores [.Tuple ts k tp] (.Tuple es k2 ep) X.env = pure none := by rfl)
    (h1 : (assignEach [.Tuple ts k tp] X.env).map (·.2) = [assign (.Tuple ts k tp) X.env] := by rfl) : PDS X W (.Assign [.Tuple ts k tp] (.Tuple es k2 ep) pos) (fAsgG f gs) := pds_asgG hc h.pd hg hn h.ln hn2 hst hs hw h1
end
end DV

/-! part Q0 -/
set_option Elab.async false
set_option linter.all false
set_option maxRecDepth 100000
set_option autoImplicit false
set_option exponentiation.threshold 9000
namespace K2
open PySem PySem.Spec L2 DV
/-! ### fractions as data -/
def frD (r : Rat) : D := .tup [.int r.num, .int (r.den : Int)]
theorem frD_inj {r s : Rat} : frD r = frD s ↔ r = s := by
  constructor
  · intro h
    injection h with h
    injection h with h1 h
    injection h with h2 h
    injection h1 with h1
    injection h2 with h2
    exact Rat.ext h1 (by omega)
  · rintro rfl; rfl
theorem low_div (a b : Int) (hb : 0 < b) : frD (Rat.divInt a b) = .tup [.int (a / ((Nat.gcd a.natAbs b.natAbs : Nat) : Int)), .int (b / ((Nat.gcd a.natAbs b.natAbs : Nat) : Int))] := by
  unfold frD
  rw [Rat.num_divInt, Rat.den_divInt, if_neg (by omega), Int.sign_eq_one_of_pos hb, Int.one_mul, Int.gcd_comm b a]
  have e : ((b.natAbs / a.gcd b : Nat) : Int) = b / ((a.gcd b : Nat) : Int) := by
    rw [Int.natCast_ediv, Int.natAbs_of_nonneg (by omega)]
  rw [e]
  rfl
theorem den_pos (r : Rat) : (0 : Int) < r.den := by have := r.den_pos; omega
theorem frD_low (r : Rat) : Rat.divInt r.num r.den = r := Rat.num_divInt_den r
/-! ### sizes -/
def Z (b : Nat) (r : Rat) : Prop := r.den < 2 ^ b ∧ r.num.natAbs < 2 ^ b
theorem Z.mono {a b : Nat} {r : Rat} (h : Z a r) (l : a ≤ b) : Z b r :=
  ⟨Nat.lt_of_lt_of_le h.1 (Nat.pow_le_pow_right (by decide) l), Nat.lt_of_lt_of_le h.2 (Nat.pow_le_pow_right (by decide) l)⟩
theorem z_div {a b : Int} {n : Nat} (hb : 0 < b) (h1 : a.natAbs < 2 ^ n) (h2 : b.natAbs < 2 ^ n) : Z n (Rat.divInt a b) := by
  have e := low_div a b hb
  unfold frD at e
  injection e with e
  injection e with e1 e
  injection e with e2 e
  injection e1 with e1
  injection e2 with e2
  constructor
  · have : ((Rat.divInt a b).den : Int).natAbs ≤ b.natAbs := by
      rw [e2]
      exact Int.natAbs_ediv_le_natAbs _ _
    rw [Int.natAbs_natCast] at this
    omega
  · rw [e1]
    exact Nat.lt_of_le_of_lt (Int.natAbs_ediv_le_natAbs _ _) h1
theorem pow_mul_lt {x y a b : Nat} (hx : x < 2 ^ a) (hy : y < 2 ^ b) : x * y < 2 ^ (a + b) := by
  rw [Nat.pow_add]
  exact Nat.mul_lt_mul'' hx hy
theorem mul_lt' {i j : Int} {a b : Nat} (ha : i.natAbs < 2 ^ a) (hb : j.natAbs < 2 ^ b) : (i * j).natAbs < 2 ^ (a + b) := by
  rw [Int.natAbs_mul]
  exact pow_mul_lt ha hb
theorem add_lt' {i j : Int} {a : Nat} (ha : i.natAbs < 2 ^ a) (hb : j.natAbs < 2 ^ a) : (i + j).natAbs < 2 ^ (a + 1) := by
  rw [Nat.pow_succ]
  omega
theorem up_lt {x a b : Nat} (h : x < 2 ^ a) (l : a ≤ b) : x < 2 ^ b := Nat.lt_of_lt_of_le h (Nat.pow_le_pow_right (by decide) l)
theorem mul_divInt (x y : Rat) : x * y = Rat.divInt (x.num * y.num) (x.den * y.den) := by
  rw [Rat.mul_def', ← Rat.divInt_ofNat]
  rw [Int.natCast_mul]
theorem add_divInt (x y : Rat) : x + y = Rat.divInt (x.num * y.den + y.num * x.den) (x.den * y.den) := by
  have h := Rat.divInt_add_divInt x.num y.num (d₁ := x.den) (d₂ := y.den) (by have := den_pos x; omega) (by have := den_pos y; omega)
  rw [frD_low, frD_low] at h
  exact h
theorem Z.mul {a b : Nat} {x y : Rat} (h : Z a x) (k : Z b y) : Z (a + b) (x * y) := by
  rw [mul_divInt]
  refine z_div (Int.mul_pos (den_pos x) (den_pos y)) (mul_lt' h.2 k.2) (mul_lt' ?_ ?_)
  · rw [Int.natAbs_natCast]; exact h.1
  · rw [Int.natAbs_natCast]; exact k.1
theorem Z.add {a b : Nat} {x y : Rat} (h : Z a x) (k : Z b y) : Z (a + b + 1) (x + y) := by
  rw [add_divInt]
  have hx : ((x.den : Int)).natAbs < 2 ^ a := by rw [Int.natAbs_natCast]; exact h.1
  have hy : ((y.den : Int)).natAbs < 2 ^ b := by rw [Int.natAbs_natCast]; exact k.1
  refine z_div (Int.mul_pos (den_pos x) (den_pos y)) (add_lt' (mul_lt' h.2 hy) ?_) (up_lt (mul_lt' hx hy) (by omega))
  rw [Nat.add_comm a b]
  exact mul_lt' k.2 hx
theorem log_lt {x n : Nat} (h : x < 2 ^ n) (h0 : 0 < n) : x.log2 < n := PySem.Flt.log2_lt_of h0 h
theorem mul_ok {i j : Int} {a b : Nat} (ha : i.natAbs < 2 ^ a) (hb : j.natAbs < 2 ^ b) (h : a + b ≤ 900000) : CMulW i j := by
  have x := log_lt (n := a + 1) (Nat.lt_of_lt_of_le ha (Nat.pow_le_pow_right (by decide) (by omega))) (by omega)
  have y := log_lt (n := b + 1) (Nat.lt_of_lt_of_le hb (Nat.pow_le_pow_right (by decide) (by omega))) (by omega)
  unfold CMulW
  omega
theorem div_ok {i j : Int} (h0 : 0 < j) (h : j.natAbs < 2 ^ 8000) : CDivW i j := ⟨h0, by have := log_lt h (by decide); omega⟩
theorem gcd_ok {a b : Int} (hb : 0 < b) (h : b.natAbs < 2 ^ 8000) (i : Int) : CDivW i ((Nat.gcd a.natAbs b.natAbs : Nat) : Int) := by
  have h1 : Nat.gcd a.natAbs b.natAbs ≤ b.natAbs := Nat.gcd_le_right _ (by omega)
  have h2 : 0 < Nat.gcd a.natAbs b.natAbs := Nat.gcd_pos_of_pos_right _ (by omega)
  exact div_ok (by omega) (by omega)
/-! ### rows -/
def rowD (rs : List Rat) : D := .tup (rs.map frD)
def rowL (rs : List Rat) : D := .lst (rs.map frD)
def dotR : List Rat → List Rat → Rat
  | x :: xs, y :: ys => x * y + dotR xs ys
  | _, _ => 0
def sumR : List Rat → Rat
  | [] => 0
  | x :: xs => x + sumR xs
def decFr : D → Option Rat
  | .tup [.int a, .int b] => if 0 < b ∧ Nat.gcd a.natAbs b.natAbs = 1 then some (Rat.divInt a b) else none
  | _ => none
def decL : List D → Option (List Rat)
  | [] => some []
  | d :: r => match decFr d, decL r with
    | some x, some xs => some (x :: xs)
    | _, _ => none
def decRow : D → Option (List Rat)
  | .tup ds => decL ds
  | _ => none
theorem decFr_frD (r : Rat) : decFr (frD r) = some r := by
  show (if 0 < (r.den : Int) ∧ Nat.gcd r.num.natAbs ((r.den : Int)).natAbs = 1 then some (Rat.divInt r.num r.den) else none) = some r
  rw [if_pos ⟨den_pos r, by rw [Int.natAbs_natCast]; exact r.reduced⟩, frD_low]
theorem decFr_int {a b : Int} (h : 0 < b) (g : Nat.gcd a.natAbs b.natAbs = 1) : D.tup [.int a, .int b] = frD (Rat.divInt a b) := by
  rw [low_div a b h, g]
  simp
theorem decFr_some {d : D} {r : Rat} (h : decFr d = some r) : d = frD r := by
  unfold decFr at h
  split at h
  · split at h
    · rename_i a b q
      cases h
      exact decFr_int q.1 q.2
    · cases h
  · cases h
theorem decL_some : ∀ {ds : List D} {rs : List Rat}, decL ds = some rs → ds = rs.map frD
  | [], rs, h => by cases h; rfl
  | d :: r, rs, h => by
    unfold decL at h
    split at h
    · rename_i x xs e1 e2
      cases h
      rw [decFr_some e1, decL_some e2]
      rfl
    · cases h
theorem decL_map : ∀ rs : List Rat, decL (rs.map frD) = some rs
  | [] => rfl
  | r :: rs => by
    simp only [List.map_cons, decL, decFr_frD, decL_map rs]
theorem decRow_row (rs : List Rat) : decRow (rowD rs) = some rs := decL_map rs
theorem decRow_some {d : D} {rs : List Rat} (h : decRow d = some rs) : d = rowD rs := by
  unfold decRow at h
  split at h
  · rw [decL_some h]; rfl
  · cases h
def isFr (d : D) : Bool := (decFr d).isSome
theorem decL_all : ∀ ds : List D, (decL ds).isSome = ds.all isFr
  | [] => rfl
  | d :: r => by
    unfold decL
    rw [List.all_cons, ← decL_all r]
    unfold isFr
    cases decFr d <;> cases decL r <;> rfl
def isRow (n : Nat) (d : D) : Bool := match decRow d with
  | some rs => decide (rs.length = n)
  | none => false
def isCh (n : Nat) (d : D) : Bool := match decRow d with
  | some rs => decide (rs.length = n) && rs.all (fun r => decide (0 ≤ r.num)) && decide (sumR rs = 1)
  | none => false
theorem decL_len : ∀ {ds : List D} {rs : List Rat}, decL ds = some rs → rs.length = ds.length := fun h => by rw [decL_some h, List.length_map]
theorem isRow_tup (n : Nat) (ds : List D) : isRow n (.tup ds) = (decide (ds.length = n) && ds.all isFr) := by
  show (match decL ds with | some rs => decide (rs.length = n) | none => false) = _
  rw [← decL_all]
  cases e : decL ds with
  | none => simp
  | some rs => simp [decL_len e]
theorem isRow_some {n : Nat} {d : D} (h : isRow n d = true) : ∃ rs, d = rowD rs ∧ rs.length = n := by
  unfold isRow at h
  split at h
  · rename_i rs e
    exact ⟨rs, decRow_some e, by simpa using h⟩
  · cases h
theorem isRow_row (n : Nat) (rs : List Rat) : isRow n (rowD rs) = decide (rs.length = n) := by
  unfold isRow; rw [decRow_row]
theorem isCh_row (n : Nat) (rs : List Rat) : isCh n (rowD rs) = (decide (rs.length = n) && rs.all (fun r => decide (0 ≤ r.num)) && decide (sumR rs = 1)) := by
  unfold isCh; rw [decRow_row]
theorem isCh_no {n : Nat} {d : D} (h : isRow n d = false) : isCh n d = false := by
  unfold isRow at h
  unfold isCh
  split <;> simp_all
/-- a belief -/
structure Bel (rs : List Rat) (n : Nat) : Prop where
  len : rs.length = n
  nn : ∀ r ∈ rs, 0 ≤ r.num
  sum : sumR rs = 1
theorem isCh_bel {n : Nat} {d : D} (h : isCh n d = true) : ∃ rs, d = rowD rs ∧ Bel rs n := by
  unfold isCh at h
  split at h
  · rename_i rs e
    simp only [Bool.and_eq_true, decide_eq_true_eq, List.all_eq_true] at h
    exact ⟨rs, decRow_some e, h.1.1, h.1.2, h.2⟩
  · cases h
theorem bel_isCh {rs : List Rat} {n : Nat} (h : Bel rs n) : isCh n (rowD rs) = true := by
  rw [isCh_row]
  simp only [Bool.and_eq_true, decide_eq_true_eq, List.all_eq_true]
  exact ⟨⟨h.len, h.nn⟩, h.sum⟩
theorem dot_ones : ∀ (xs : List Rat) (n : Nat), xs.length ≤ n → dotR xs (List.replicate n 1) = sumR xs
  | [], n, _ => by cases n <;> rfl
  | x :: xs, 0, h => by simp at h
  | x :: xs, n + 1, h => by
    simp only [List.replicate_succ, dotR, sumR, dot_ones xs n (by simpa using h)]
    rw [Rat.mul_one]
/-! ### the order of rows -/
def lexLt : List Rat → List Rat → Bool
  | x :: xs, y :: ys => if x = y then lexLt xs ys else decide (x < y)
  | _, _ => false
def ascB : List (List Rat) → Bool
  | a :: b :: r => lexLt a b && ascB (b :: r)
  | _ => true
/-! ### data that fits -/
mutual
def fit : D → Prop
  | .int i => i.natAbs < 2 ^ 128
  | .tup ds => ds.length ≤ 1000 ∧ fitA ds
  | .lst ds => ds.length ≤ 1000 ∧ fitA ds
  | .err _ _ _ => False
  | .erb _ => False
  | _ => True
def fitA : List D → Prop
  | [] => True
  | d :: r => fit d ∧ fitA r
end
theorem fitA_iff : ∀ {ds : List D}, fitA ds ↔ ∀ d ∈ ds, fit d
  | [] => by simp [fitA]
  | d :: r => by simp [fitA, fitA_iff (ds := r)]
def isTupB : D → Bool
  | .tup _ => true
  | _ => false
def isIntB : D → Bool
  | .int _ => true
  | .bl _ => true
  | _ => false
def isBoolB : D → Bool
  | .bl _ => true
  | _ => false
def isWhB : D → Bool
  | .int _ => true
  | _ => false
theorem not_tup {d : D} (h : ¬ ∃ ds, d = .tup ds) : isTupB d = false := by
  cases d <;> first | rfl | exact absurd ⟨_, rfl⟩ h
theorem isFr_tup {d : D} (h : isTupB d = false) : isFr d = false := by
  cases d <;> first | rfl | cases h
theorem isRow_not {n : Nat} {d : D} (h : isTupB d = false) : isRow n d = false := by
  cases d <;> first | rfl | cases h
theorem isFr_len {ds : List D} (h : ds.length ≠ 2) : isFr (.tup ds) = false := by
  cases e : decFr (.tup ds) with
  | none => unfold isFr; rw [e]; rfl
  | some r =>
    have := decFr_some e
    injection this with this
    rw [this] at h
    exact absurd rfl h
theorem isFr_wh {a b : D} (h : isWhB a = false ∨ isWhB b = false) : isFr (.tup [a, b]) = false := by
  cases a <;> first | (cases b <;> first | rfl | (rcases h with h | h <;> cases h)) 
theorem wh_int {d : D} (h : isWhB d = true) : ∃ i, d = .int i := by
  cases d <;> first | exact ⟨_, rfl⟩ | cases h
theorem isFr_int (a b : Int) : isFr (.tup [.int a, .int b]) = decide (0 < b ∧ Nat.gcd a.natAbs b.natAbs = 1) := by
  show (if 0 < b ∧ Nat.gcd a.natAbs b.natAbs = 1 then some (Rat.divInt a b) else none).isSome = _
  by_cases h : 0 < b ∧ Nat.gcd a.natAbs b.natAbs = 1
  · rw [if_pos h]; simp [h]
  · rw [if_neg h]; simp [h]
theorem bw_tup {d : D} (h : fit d) : isBW (.d d) "tuple" = some (isTupB d) := by
  cases d <;> first | exact absurd h id | (simp only [isBW, tyD, Option.bind_some, isTupB, isIntB, isBoolB]; decide +kernel)
theorem bw_int {d : D} (h : fit d) : isBW (.d d) "int" = some (isIntB d) := by
  cases d <;> first | exact absurd h id | (simp only [isBW, tyD, Option.bind_some, isTupB, isIntB, isBoolB]; decide +kernel)
theorem bw_bool {d : D} (h : fit d) : isBW (.d d) "bool" = some (isBoolB d) := by
  cases d <;> first | exact absurd h id | (simp only [isBW, tyD, Option.bind_some, isTupB, isIntB, isBoolB]; decide +kernel)
theorem fit_fr {r : Rat} (h : Z 128 r) : fit (frD r) := by
  refine ⟨by simp, ?_, ?_, trivial⟩
  · exact h.2
  · show ((r.den : Int)).natAbs < _
    rw [Int.natAbs_natCast]; exact h.1
theorem fr_fit {r : Rat} (h : fit (frD r)) : Z 128 r := by
  obtain ⟨_, h1, h2, _⟩ := h
  have h2 : ((r.den : Int)).natAbs < _ := h2
  rw [Int.natAbs_natCast] at h2
  exact ⟨h2, h1⟩
theorem fit_row {rs : List Rat} (hl : rs.length ≤ 1000) (h : ∀ r ∈ rs, Z 128 r) : fit (rowD rs) := by
  refine ⟨by simpa using hl, fitA_iff.mpr fun d hd => ?_⟩
  obtain ⟨r, hr, rfl⟩ := List.mem_map.mp hd
  exact fit_fr (h r hr)
theorem row_fit {rs : List Rat} (h : fit (rowD rs)) : ∀ r ∈ rs, Z 128 r := fun r hr =>
  fr_fit (fitA_iff.mp h.2 _ (List.mem_map_of_mem hr))
/-! ### comprehensions that change nothing -/
theorem lc_pure {α : Type} {g : SG} {tt : STe} {fe : SE} {ok : Mu → Prop} {ρ : Rho} (enc : α → D) (out : α → Option D) (μ : Mu) (hok : ∀ acc, ok (μ ++ [acc])) : ∀ (items : List α) (acc : List D) (P : List D → Mu → Prop),
    (∀ a ∈ items, ∀ (acc : List D) (P : S → Mu → Prop) (P2 : Mu → Prop), (match out a with | some d => P (.d d) (μ ++ [acc]) | none => P2 (μ ++ [acc])) → g (.d (enc a)) ρ (μ ++ [acc]) fun ρ1 μ1 => tt ρ1 μ1 fun b μ2 => if b = true then fe ρ1 μ2 P else P2 μ2) →
    acc.length + items.length ≤ 40000 → P (acc ++ items.filterMap out) μ → lcLoop g tt fe ok ρ (items.map enc) acc μ P
  | [], acc, P, _, _, q => ⟨hok _, by simpa using q⟩
  | a :: r, acc, P, h, hl, q => by
    refine ⟨hok _, by simp at hl; omega, h a (by simp) acc _ _ ?_⟩
    cases e : out a with
    | none =>
      refine ⟨by simp, ?_⟩
      rw [List.dropLast_concat]
      exact lc_pure enc out μ hok r acc P (fun b hb => h b (List.mem_cons_of_mem _ hb)) (by simp at hl; omega) (by simpa [e] using q)
    | some d =>
      refine ⟨d, rfl, by simp, ?_⟩
      rw [List.dropLast_concat]
      exact lc_pure enc out μ hok r (acc ++ [d]) P (fun b hb => h b (List.mem_cons_of_mem _ hb)) (by simp at hl ⊢; omega) (by simpa [e] using q)
/-- over data as it is, each element kept -/
theorem lc_all {g : SG} {tt : STe} {fe : SE} {ok : Mu → Prop} {ρ : Rho} (out : D → D) (μ : Mu) (hok : ∀ acc, ok (μ ++ [acc])) (items : List D) (P : List D → Mu → Prop)
    (h : ∀ a ∈ items, ∀ (acc : List D) (P : S → Mu → Prop) (P2 : Mu → Prop), P (.d (out a)) (μ ++ [acc]) → g (.d a) ρ (μ ++ [acc]) fun ρ1 μ1 => tt ρ1 μ1 fun b μ2 => if b = true then fe ρ1 μ2 P else P2 μ2)
    (hl : items.length ≤ 40000) (q : P (items.map out) μ) : lcLoop g tt fe ok ρ items [] μ P := by
  have e : items.map (fun d => d) = items := by simp
  rw [← e]
  refine lc_pure (fun d => d) (fun d => some (out d)) μ hok items [] P (fun a ha acc P P2 k => h a ha acc P P2 k) (by simpa using hl) ?_
  rw [List.nil_append, List.filterMap_eq_map']
  exact q
theorem lc_map {α : Type} {g : SG} {tt : STe} {fe : SE} {ok : Mu → Prop} {ρ : Rho} (enc : α → D) (out : α → D) (μ : Mu) (hok : ∀ acc, ok (μ ++ [acc])) (items : List α) (P : List D → Mu → Prop)
    (h : ∀ a ∈ items, ∀ (acc : List D) (P : S → Mu → Prop) (P2 : Mu → Prop), P (.d (out a)) (μ ++ [acc]) → g (.d (enc a)) ρ (μ ++ [acc]) fun ρ1 μ1 => tt ρ1 μ1 fun b μ2 => if b = true then fe ρ1 μ2 P else P2 μ2)
    (hl : items.length ≤ 40000) (q : P (items.map out) μ) : lcLoop g tt fe ok ρ (items.map enc) [] μ P := by
  refine lc_pure enc (fun d => some (out d)) μ hok items [] P (fun a ha acc P P2 k => h a ha acc P P2 k) (by simpa using hl) ?_
  rw [List.nil_append, List.filterMap_eq_map']
  exact q
theorem bls_map : ∀ ns : List Bool, blsOf (ns.map D.bl) = some ns
  | [] => rfl
  | n :: r => by simp only [List.map_cons, blsOf, bls_map r, Option.map_some]
theorem all_bl {α : Type} (f : α → Bool) (l : List α) : gAll (l.map fun a => D.bl (f a)) = some (.bl (l.all f)) := by
  unfold gAll
  have : (l.map fun a => D.bl (f a)) = (l.map f).map D.bl := by rw [List.map_map]; rfl
  rw [this, bls_map]
  simp [List.all_map, Function.comp_def]
theorem any_bl {α : Type} (f : α → Bool) (l : List α) : gAny (l.map fun a => D.bl (f a)) = some (.bl (l.any f)) := by
  unfold gAny
  have : (l.map fun a => D.bl (f a)) = (l.map f).map D.bl := by rw [List.map_map]; rfl
  rw [this, bls_map]
  simp [List.any_map, Function.comp_def]
theorem ints_map : ∀ ns : List Int, intsOf (ns.map D.int) = some ns
  | [] => rfl
  | n :: r => by simp only [List.map_cons, intsOf, ints_map r, Option.map_some]
theorem flat_rep (n : Nat) (d : D) : (List.replicate n [d]).flatten = List.replicate n d := by
  induction n with
  | zero => rfl
  | succ n ih => rw [List.replicate_succ, List.replicate_succ, List.flatten_cons, ih]; rfl
theorem loop_inv {α : Type} {g : SG} {body : SS} {ok : Mu → Prop} {k : K4} (enc : α → D) (I : Nat → Rho → Mu → Prop) : ∀ (items : List α) (n : Nat) (ρ : Rho) (μ : Mu),
    (∀ i a ρ μ, items[i]? = some a → I (n + i) ρ μ → ok μ ∧ ∀ k' : K4, k'.rt = k.rt → (∀ ρ' μ', I (n + i + 1) ρ' μ' → k'.nx ρ' μ') → g (.d (enc a)) ρ μ fun ρ1 μ1 => body ρ1 μ1 k') →
    (∀ ρ μ, I (n + items.length) ρ μ → ok μ ∧ k.nx ρ μ) → I n ρ μ → loopS g body ok (items.map enc) ρ μ k
  | [], n, ρ, μ, _, h2, h => h2 ρ μ h
  | a :: r, n, ρ, μ, h1, h2, h => by
    have q := h1 0 a ρ μ rfl h
    refine ⟨q.1, q.2 _ rfl fun ρ' μ' h' => ?_⟩
    refine loop_inv enc I r (n + 1) ρ' μ' (fun i b ρ μ hb hi => ?_) (fun ρ μ hi => h2 ρ μ ?_) h'
    · have e : n + 1 + i = n + (i + 1) := by omega
      rw [e] at hi ⊢
      exact h1 (i + 1) b ρ μ hb hi
    · have e : n + (a :: r).length = n + 1 + r.length := by rw [List.length_cons]; omega
      rw [e]
      exact hi
theorem get_last {ms : List (List D)} {x : List D} : (ms ++ [x])[ms.length]? = some x := by
  rw [List.getElem?_append_right (Nat.le_refl _), Nat.sub_self]
  rfl
theorem rngD_nat (n : Nat) : rngD (n : Int) = (List.range n).map fun (i : Nat) => D.int (i : Int) := by
  unfold rngD
  rw [Int.toNat_natCast]
theorem cut_map {α : Type} (f : α → D) (l : List α) (lo hi : Option Int) : ∃ l' : List α, cutD (l.map f) lo hi = l'.map f := by
  unfold cutD
  rw [← List.map_drop, ← List.map_take]
  exact ⟨_, rfl⟩
/-- what the draws are made from -/
def IsW (w : List D) : Prop := ∃ a b c : Int, w = [.int a, .int b, .int c] ∧ 0 ≤ a
end K2

/-! part Q1 -/
set_option Elab.async false
set_option linter.all false
set_option maxRecDepth 100000
set_option autoImplicit false
set_option exponentiation.threshold 9000
set_option maxHeartbeats 1000000
namespace K2
open PySem PySem.Spec L2 DV
open PyProof.Rows (envOfC)
variable {P : Program} {w : World} {K : PySem.W.Frag} {mg : Str → Option Value} {base : Heap}

def topS (i : Nat) : Stmt := PySem.Challenge.pw_persuasion_k02_settings_beliefs_splits_e.main.body.getD i (.Pass ⟨0, 0, 0, 0⟩)
abbrev s_is_whole : Stmt := topS 7
abbrev N_is_whole : List Str := ["value"]
theorem sc_is_whole : FnScope N_is_whole ["value"] (defScope s_is_whole) := ⟨rfl, rfl, rfl, by decide +kernel, rfl, by decide +kernel, by decide +kernel⟩
abbrev s_is_fraction : Stmt := topS 8
abbrev N_is_fraction : List Str := ["value", "above", "below"]
theorem sc_is_fraction : FnScope N_is_fraction ["value"] (defScope s_is_fraction) := ⟨rfl, rfl, rfl, by decide +kernel, rfl, by decide +kernel, by decide +kernel⟩
abbrev s_is_row : Stmt := topS 9
abbrev N_is_row : List Str := ["value", "many", "number"]
theorem sc_is_row : FnScope N_is_row ["value", "many"] (defScope s_is_row) := ⟨rfl, rfl, rfl, by decide +kernel, rfl, by decide +kernel, by decide +kernel⟩
abbrev s_is_row_of_chances : Stmt := topS 10
abbrev N_is_row_of_chances : List Str := ["value", "many", "above", "_"]
theorem sc_is_row_of_chances : FnScope N_is_row_of_chances ["value", "many"] (defScope s_is_row_of_chances) := ⟨rfl, rfl, rfl, by decide +kernel, rfl, by decide +kernel, by decide +kernel⟩
abbrev s_lowest : Stmt := topS 11
abbrev N_lowest : List Str := ["above", "below", "shared"]
theorem sc_lowest : FnScope N_lowest ["above", "below"] (defScope s_lowest) := ⟨rfl, rfl, rfl, by decide +kernel, rfl, by decide +kernel, by decide +kernel⟩
abbrev s_row_product : Stmt := topS 12
abbrev N_row_product : List Str := ["row", "other", "above", "below", "n", "m", "k", "d"]
theorem sc_row_product : FnScope N_row_product ["row", "other"] (defScope s_row_product) := ⟨rfl, rfl, rfl, by decide +kernel, rfl, by decide +kernel, by decide +kernel⟩
abbrev s_row_sum : Stmt := topS 13
abbrev N_row_sum : List Str := ["row"]
theorem sc_row_sum : FnScope N_row_sum ["row"] (defScope s_row_sum) := ⟨rfl, rfl, rfl, by decide +kernel, rfl, by decide +kernel, by decide +kernel⟩
abbrev s_row_mix : Stmt := topS 14
abbrev N_row_mix : List Str := ["shares", "rows", "column"]
theorem sc_row_mix : FnScope N_row_mix ["shares", "rows"] (defScope s_row_mix) := ⟨rfl, rfl, rfl, by decide +kernel, rfl, by decide +kernel, by decide +kernel⟩
abbrev s_is_less : Stmt := topS 15
abbrev N_is_less : List Str := ["left", "right"]
theorem sc_is_less : FnScope N_is_less ["left", "right"] (defScope s_is_less) := ⟨rfl, rfl, rfl, by decide +kernel, rfl, by decide +kernel, by decide +kernel⟩
abbrev s_is_row_less : Stmt := topS 16
abbrev N_is_row_less : List Str := ["row", "other", "left", "right"]
theorem sc_is_row_less : FnScope N_is_row_less ["row", "other"] (defScope s_is_row_less) := ⟨rfl, rfl, rfl, by decide +kernel, rfl, by decide +kernel, by decide +kernel⟩
abbrev s_are_ascending : Stmt := topS 17
abbrev N_are_ascending : List Str := ["rows", "row", "other"]
theorem sc_are_ascending : FnScope N_are_ascending ["rows"] (defScope s_are_ascending) := ⟨rfl, rfl, rfl, by decide +kernel, rfl, by decide +kernel, by decide +kernel⟩
abbrev s_is_setting : Stmt := topS 19
abbrev N_is_setting : List Str := ["value", "pays", "worths", "many", "states"]
theorem sc_is_setting : FnScope N_is_setting ["value"] (defScope s_is_setting) := ⟨rfl, rfl, rfl, by decide +kernel, rfl, by decide +kernel, by decide +kernel⟩
abbrev s_is_table : Stmt := topS 20
abbrev N_is_table : List Str := ["value", "many", "states", "row"]
theorem sc_is_table : FnScope N_is_table ["value", "many", "states"] (defScope s_is_table) := ⟨rfl, rfl, rfl, by decide +kernel, rfl, by decide +kernel, by decide +kernel⟩
abbrev s_state_count : Stmt := topS 21
abbrev N_state_count : List Str := ["setting"]
theorem sc_state_count : FnScope N_state_count ["setting"] (defScope s_state_count) := ⟨rfl, rfl, rfl, by decide +kernel, rfl, by decide +kernel, by decide +kernel⟩
abbrev s_check_setting : Stmt := topS 22
abbrev N_check_setting : List Str := ["setting"]
theorem sc_check_setting : FnScope N_check_setting ["setting"] (defScope s_check_setting) := ⟨rfl, rfl, rfl, by decide +kernel, rfl, by decide +kernel, by decide +kernel⟩
abbrev s_check_belief : Stmt := topS 23
abbrev N_check_belief : List Str := ["setting", "belief"]
theorem sc_check_belief : FnScope N_check_belief ["setting", "belief"] (defScope s_check_belief) := ⟨rfl, rfl, rfl, by decide +kernel, rfl, by decide +kernel, by decide +kernel⟩
abbrev s_is_belief : Stmt := topS 24
abbrev N_is_belief : List Str := ["setting", "value"]
theorem sc_is_belief : FnScope N_is_belief ["setting", "value"] (defScope s_is_belief) := ⟨rfl, rfl, rfl, by decide +kernel, rfl, by decide +kernel, by decide +kernel⟩
abbrev s_is_split : Stmt := topS 27
abbrev N_is_split : List Str := ["setting", "prior", "value"]
theorem sc_is_split : FnScope N_is_split ["setting", "prior", "value"] (defScope s_is_split) := ⟨rfl, rfl, rfl, by decide +kernel, rfl, by decide +kernel, by decide +kernel⟩
abbrev s_is_split_for : Stmt := topS 28
abbrev N_is_split_for : List Str := ["prior", "value", "part", "_", "belief"]
theorem sc_is_split_for : FnScope N_is_split_for ["prior", "value"] (defScope s_is_split_for) := ⟨rfl, rfl, rfl, by decide +kernel, rfl, by decide +kernel, by decide +kernel⟩
abbrev s_is_part : Stmt := topS 29
abbrev N_is_part : List Str := ["value", "states", "weight", "belief"]
theorem sc_is_part : FnScope N_is_part ["value", "states"] (defScope s_is_part) := ⟨rfl, rfl, rfl, by decide +kernel, rfl, by decide +kernel, by decide +kernel⟩
abbrev s_mean_of : Stmt := topS 30
abbrev N_mean_of : List Str := ["split", "weight", "_", "belief"]
theorem sc_mean_of : FnScope N_mean_of ["split"] (defScope s_mean_of) := ⟨rfl, rfl, rfl, by decide +kernel, rfl, by decide +kernel, by decide +kernel⟩
abbrev s_is_experiment : Stmt := topS 31
abbrev N_is_experiment : List Str := ["setting", "value"]
theorem sc_is_experiment : FnScope N_is_experiment ["setting", "value"] (defScope s_is_experiment) := ⟨rfl, rfl, rfl, by decide +kernel, rfl, by decide +kernel, by decide +kernel⟩
abbrev s_is_experiment_for : Stmt := topS 32
abbrev N_is_experiment_for : List Str := ["states", "value", "row"]
theorem sc_is_experiment_for : FnScope N_is_experiment_for ["states", "value"] (defScope s_is_experiment_for) := ⟨rfl, rfl, rfl, by decide +kernel, rfl, by decide +kernel, by decide +kernel⟩
abbrev s__law_well : Stmt := topS 34
abbrev N__law_well : List Str := ["script", "lap", "mixed", "cell", "own"]
theorem sc__law_well : FnScope N__law_well ["script", "lap"] (defScope s__law_well) := ⟨rfl, rfl, rfl, by decide +kernel, rfl, by decide +kernel, by decide +kernel⟩
abbrev s__law_draw : Stmt := topS 35
abbrev N__law_draw : List Str := ["well", "few", "figure", "mixed"]
theorem sc__law_draw : FnScope N__law_draw ["well", "few"] (defScope s__law_draw) := ⟨rfl, rfl, rfl, by decide +kernel, rfl, by decide +kernel, by decide +kernel⟩
abbrev s__law_one : Stmt := topS 36
abbrev N__law_one : List Str := ["well", "some"]
theorem sc__law_one : FnScope N__law_one ["well", "some"] (defScope s__law_one) := ⟨rfl, rfl, rfl, by decide +kernel, rfl, by decide +kernel, by decide +kernel⟩
abbrev s__law_lean : Stmt := topS 37
abbrev N__law_lean : List Str := ["top", "base", "far", "rest"]
theorem sc__law_lean : FnScope N__law_lean ["top", "base"] (defScope s__law_lean) := ⟨rfl, rfl, rfl, by decide +kernel, rfl, by decide +kernel, by decide +kernel⟩
abbrev s__law_plus : Stmt := topS 38
abbrev N__law_plus : List Str := ["x", "y"]
theorem sc__law_plus : FnScope N__law_plus ["x", "y"] (defScope s__law_plus) := ⟨rfl, rfl, rfl, by decide +kernel, rfl, by decide +kernel, by decide +kernel⟩
abbrev s__law_times : Stmt := topS 39
abbrev N__law_times : List Str := ["x", "y"]
theorem sc__law_times : FnScope N__law_times ["x", "y"] (defScope s__law_times) := ⟨rfl, rfl, rfl, by decide +kernel, rfl, by decide +kernel, by decide +kernel⟩
abbrev s__law_below : Stmt := topS 40
abbrev N__law_below : List Str := ["x", "y"]
theorem sc__law_below : FnScope N__law_below ["x", "y"] (defScope s__law_below) := ⟨rfl, rfl, rfl, by decide +kernel, rfl, by decide +kernel, by decide +kernel⟩
abbrev s__law_dot : Stmt := topS 41
abbrev N__law_dot : List Str := ["one", "two", "found", "x", "y"]
theorem sc__law_dot : FnScope N__law_dot ["one", "two"] (defScope s__law_dot) := ⟨rfl, rfl, rfl, by decide +kernel, rfl, by decide +kernel, by decide +kernel⟩
abbrev s__law_row_below : Stmt := topS 42
abbrev N__law_row_below : List Str := ["one", "two", "x", "y"]
theorem sc__law_row_below : FnScope N__law_row_below ["one", "two"] (defScope s__law_row_below) := ⟨rfl, rfl, rfl, by decide +kernel, rfl, by decide +kernel, by decide +kernel⟩
abbrev s__law_ascending : Stmt := topS 43
abbrev N__law_ascending : List Str := ["rows", "found", "row", "each"]
theorem sc__law_ascending : FnScope N__law_ascending ["rows"] (defScope s__law_ascending) := ⟨rfl, rfl, rfl, by decide +kernel, rfl, by decide +kernel, by decide +kernel⟩
abbrev s__law_chance : Stmt := topS 44
abbrev N__law_chance : List Str := ["well", "n", "parts", "at", "part"]
theorem sc__law_chance : FnScope N__law_chance ["well", "n"] (defScope s__law_chance) := ⟨rfl, rfl, rfl, by decide +kernel, rfl, by decide +kernel, by decide +kernel⟩
abbrev s__law_number : Stmt := topS 45
abbrev N__law_number : List Str := ["well", "way"]
theorem sc__law_number : FnScope N__law_number ["well"] (defScope s__law_number) := ⟨rfl, rfl, rfl, by decide +kernel, rfl, by decide +kernel, by decide +kernel⟩
abbrev s__law_row : Stmt := topS 46
abbrev N__law_row : List Str := ["well", "n", "found", "at"]
theorem sc__law_row : FnScope N__law_row ["well", "n"] (defScope s__law_row) := ⟨rfl, rfl, rfl, by decide +kernel, rfl, by decide +kernel, by decide +kernel⟩
abbrev s__law_sizes : Stmt := topS 47
abbrev N__law_sizes : List Str := ["well"]
theorem sc__law_sizes : FnScope N__law_sizes ["well"] (defScope s__law_sizes) := ⟨rfl, rfl, rfl, by decide +kernel, rfl, by decide +kernel, by decide +kernel⟩
abbrev s__law_parting : Stmt := topS 49
abbrev N__law_parting : List Str := ["well", "n", "most", "chances", "turn", "parts", "chance", "part"]
theorem sc__law_parting : FnScope N__law_parting ["well", "n", "most"] (defScope s__law_parting) := ⟨rfl, rfl, rfl, by decide +kernel, rfl, by decide +kernel, by decide +kernel⟩
abbrev s__law_odd : Stmt := topS 51
abbrev N__law_odd : List Str := ["well"]
theorem sc__law_odd : FnScope N__law_odd ["well"] (defScope s__law_odd) := ⟨rfl, rfl, rfl, by decide +kernel, rfl, by decide +kernel, by decide +kernel⟩
abbrev s__law_bent : Stmt := topS 52
abbrev N__law_bent : List Str := ["well", "thing", "at", "way"]
theorem sc__law_bent : FnScope N__law_bent ["well", "thing"] (defScope s__law_bent) := ⟨rfl, rfl, rfl, by decide +kernel, rfl, by decide +kernel, by decide +kernel⟩
abbrev s__law_is_whole : Stmt := topS 53
abbrev N__law_is_whole : List Str := ["thing"]
theorem sc__law_is_whole : FnScope N__law_is_whole ["thing"] (defScope s__law_is_whole) := ⟨rfl, rfl, rfl, by decide +kernel, rfl, by decide +kernel, by decide +kernel⟩
abbrev s__law_is_tuple : Stmt := topS 54
abbrev N__law_is_tuple : List Str := ["thing", "few"]
theorem sc__law_is_tuple : FnScope N__law_is_tuple ["thing", "few"] (defScope s__law_is_tuple) := ⟨rfl, rfl, rfl, by decide +kernel, rfl, by decide +kernel, by decide +kernel⟩
abbrev s__law_is_part : Stmt := topS 55
abbrev N__law_is_part : List Str := ["thing"]
theorem sc__law_is_part : FnScope N__law_is_part ["thing"] (defScope s__law_is_part) := ⟨rfl, rfl, rfl, by decide +kernel, rfl, by decide +kernel, by decide +kernel⟩
abbrev s__law_is_row : Stmt := topS 56
abbrev N__law_is_row : List Str := ["thing", "few", "x"]
theorem sc__law_is_row : FnScope N__law_is_row ["thing", "few"] (defScope s__law_is_row) := ⟨rfl, rfl, rfl, by decide +kernel, rfl, by decide +kernel, by decide +kernel⟩
abbrev s__law_is_chance : Stmt := topS 57
abbrev N__law_is_chance : List Str := ["thing", "few", "x"]
theorem sc__law_is_chance : FnScope N__law_is_chance ["thing", "few"] (defScope s__law_is_chance) := ⟨rfl, rfl, rfl, by decide +kernel, rfl, by decide +kernel, by decide +kernel⟩
abbrev s__law_is_world : Stmt := topS 58
abbrev N__law_is_world : List Str := ["thing", "row"]
theorem sc__law_is_world : FnScope N__law_is_world ["thing"] (defScope s__law_is_world) := ⟨rfl, rfl, rfl, by decide +kernel, rfl, by decide +kernel, by decide +kernel⟩
abbrev s__law_is_trial : Stmt := topS 59
abbrev N__law_is_trial : List Str := ["thing", "n", "row"]
theorem sc__law_is_trial : FnScope N__law_is_trial ["thing", "n"] (defScope s__law_is_trial) := ⟨rfl, rfl, rfl, by decide +kernel, rfl, by decide +kernel, by decide +kernel⟩
abbrev s__law_mean : Stmt := topS 60
abbrev N__law_mean : List Str := ["parting", "n", "found", "weight", "chance", "x", "y"]
theorem sc__law_mean : FnScope N__law_mean ["parting", "n"] (defScope s__law_mean) := ⟨rfl, rfl, rfl, by decide +kernel, rfl, by decide +kernel, by decide +kernel⟩
abbrev s__law_is_parting : Stmt := topS 61
abbrev N__law_is_parting : List Str := ["thing", "start", "each", "at"]
theorem sc__law_is_parting : FnScope N__law_is_parting ["thing", "start"] (defScope s__law_is_parting) := ⟨rfl, rfl, rfl, by decide +kernel, rfl, by decide +kernel, by decide +kernel⟩
abbrev s__law_table_of : Stmt := topS 62
abbrev N__law_table_of : List Str := ["well", "n", "m", "rows", "act"]
theorem sc__law_table_of : FnScope N__law_table_of ["well", "n", "m"] (defScope s__law_table_of) := ⟨rfl, rfl, rfl, by decide +kernel, rfl, by decide +kernel, by decide +kernel⟩
abbrev s__law_some_world : Stmt := topS 63
abbrev N__law_some_world : List Str := ["well", "n", "m", "pays", "worths", "way", "row"]
theorem sc__law_some_world : FnScope N__law_some_world ["well", "n", "m"] (defScope s__law_some_world) := ⟨rfl, rfl, rfl, by decide +kernel, rfl, by decide +kernel, by decide +kernel⟩
abbrev s__law_some_chance : Stmt := topS 64
abbrev N__law_some_chance : List Str := ["well", "n", "chance", "way"]
theorem sc__law_some_chance : FnScope N__law_some_chance ["well", "n"] (defScope s__law_some_chance) := ⟨rfl, rfl, rfl, by decide +kernel, rfl, by decide +kernel, by decide +kernel⟩
abbrev s__law_put_in : Stmt := topS 65
abbrev N__law_put_in : List Str := ["parting", "weight", "chance", "pairs", "found", "row", "each"]
theorem sc__law_put_in : FnScope N__law_put_in ["parting", "weight", "chance"] (defScope s__law_put_in) := ⟨rfl, rfl, rfl, by decide +kernel, rfl, by decide +kernel, by decide +kernel⟩
abbrev s__law_signed : Stmt := topS 66
abbrev N__law_signed : List Str := ["well", "n", "one", "two", "middle", "x", "y"]
theorem sc__law_signed : FnScope N__law_signed ["well", "n"] (defScope s__law_signed) := ⟨rfl, rfl, rfl, by decide +kernel, rfl, by decide +kernel, by decide +kernel⟩
abbrev s__law_some_parting : Stmt := topS 67
abbrev N__law_some_parting : List Str := ["well", "n", "parting", "way", "start", "at", "weight", "chance", "half", "first", "second", "each"]
theorem sc__law_some_parting : FnScope N__law_some_parting ["well", "n"] (defScope s__law_some_parting) := ⟨rfl, rfl, rfl, by decide +kernel, rfl, by decide +kernel, by decide +kernel⟩
abbrev s__law_some_trial : Stmt := topS 68
abbrev N__law_some_trial : List Str := ["well", "n", "trial", "way", "many", "at", "row"]
theorem sc__law_some_trial : FnScope N__law_some_trial ["well", "n"] (defScope s__law_some_trial) := ⟨rfl, rfl, rfl, by decide +kernel, rfl, by decide +kernel, by decide +kernel⟩
abbrev s__law_right : Stmt := topS 69
abbrev N__law_right : List Str := ["well", "n", "m", "world", "turn", "some", "chance", "start", "parting", "trial", "told", "due", "odd"]
theorem sc__law_right : FnScope N__law_right ["well"] (defScope s__law_right) := ⟨rfl, rfl, rfl, by decide +kernel, rfl, by decide +kernel, by decide +kernel⟩
abbrev s_law : Stmt := topS 70
abbrev N_law : List Str := ["script", "lap"]
theorem sc_law : FnScope N_law ["script"] (defScope s_law) := ⟨rfl, rfl, rfl, by decide +kernel, rfl, by decide +kernel, by decide +kernel⟩
def V_ONE : D := .tup [.int 1, .int 1]
def V_MOST_SIGNALS : D := .int 6
local macro_rules | `(tactic| walk_at "dv") => `(tactic| simp only [startR, cRepU, fIStar, fIZipG, fParDN, cInP, fInP, lstOf, fIns, fExt, fIsN, fIsNotN, isNonS, fAug, fAddW, fSubW, fGtW, fMul2, fModM, cAddW, cEqP, fEqP, fNeP, fInI, fIsiW, Option.bind_some, fRevT, fMk, fBare, fAtt, fIsX, fIsXT, fRaise, fRaise0, fTry, clD, suiteD, kNo, kBut, fXatt, fExprX, fCallX, kDX, gRepr2, cRepr2, datOf, errOf, kD, fin, fSeq, fNext, fDrop, fNRep, fNRg, fParN0, fPar3, fPar3N, fAsg, fRet, fIfS, fNever, fPar, fNew, fApp, fVar, fC, fOp, fTest, fTAnd, fTOr, fTNot, fVAnd, fVOr, fVNot, fNeg, fIf, fChain, fANil, fACons, fTup, fLst, fCB, fNLst, fOfN, fYes, fIsi, fONone, fOSome, fSl, sliceF,
  gF, gA, cI, fI, c0, cAdd, fAdd, fIx, cRepT, fRepT, fEq, fNe, fNotIn, intsOf, blsOf, allD, seqOf, tupOf, fLen, cA0, f1L, gSum, fTupleOf, fListOf, fA1, fA2, cDm, gN, gsNil_eq, gsCons_eq, gT_eq, gSb_eq, isB, itemsOf, fISeq, fIRng, fIEnum, fIZip, fIZipTL, fFor, fLc, wipeR, fCall, fCallK, fRetN, kN, fCallN, fCallOn, kwS, pick, gRepr, cRepr, List.filterMap_cons_some, List.filterMap_nil,
  List.map_cons, List.map_nil, List.length_cons, List.length_nil, List.replicate_succ, List.replicate_zero, List.cons_append, List.nil_append, List.append_nil, List.getElem?_cons_zero, List.getElem?_cons_succ, List.getElem?_nil, List.set_cons_zero, List.set_cons_succ, List.set_nil, List.take_succ_cons, List.take_zero, List.take_nil,
  Option.map_some, Option.map_none, Option.some.injEq, Option.get_some, exists_eq_left', exists_eq_left, exists_eq_right, true_and, and_true, if_true, if_false, reduceCtorEq, ite_true, ite_false, S.d.injEq, S.m.injEq, D.int.injEq, D.tup.injEq, D.lst.injEq, D.bl.injEq, D.str.injEq, List.cons.injEq, exists_and_left, exists_and_right,
  Nat.sub_zero, Nat.reduceSub, Nat.reduceAdd, Nat.zero_add, Nat.add_zero, Bool.not_true, Bool.not_false, Bool.false_eq_true, decide_eq_true_eq, Nat.reduceLT, Nat.reduceLeDiff, Nat.le_refl, List.take_length, Int.reduceLT, Int.reduceToNat, Nat.lt_irrefl, gt_iff_lt, Nat.not_lt_zero, Int.cast_ofNat_Int, decide_true, decide_false, and_assoc])

def T_lowest : TF := fun ss μ P => ∃ a b : Int, ss = [.d (.int a), .d (.int b)] ∧ (0 < b ∧ b.natAbs < 2 ^ 8000) ∧ P (frD (Rat.divInt a b)) μ
theorem mon_lowest : MonF T_lowest := fun ss μ P P' k ⟨a, b, e, h, q⟩ => ⟨a, b, e, h, k _ _ q⟩
theorem ok_lowest (t : Top K mg "lowest" s_lowest ["above", "below"]) (g_gcd : mg "gcd" = some (.builtin "math.gcd")) :
    DefOk P w K mg base "lowest" 1 2 T_lowest := by
  have nd := (sc_lowest).nd
  refine ok_defD (k := 0) t sc_lowest mon_lowest (fun f cdv A outer s H E hr =>
    (pds_cons (pds_set (pd_Bf cr_gcd snd_gcd mon_gA (by rfl) g_gcd (pda_cons (pd_var (pv 0)) (pda_cons (pd_var (pv 1)) pda_nil))) (fun _ h => ps_set (i := 2) nd rfl (by first | exact Or.inl rfl | exact Or.inr rfl) h))
      (pds_one (pd_ret (pd_tup (pda_cons (pd_op op_fdivW mon_gF snd_I (pd_var (pv 0)) (pd_var (pv 2))) (pda_cons (pd_op op_fdivW mon_gF snd_I (pd_var (pv 1)) (pd_var (pv 2))) pda_nil))))))) ?_
  intro ss μ Q hl h
  obtain ⟨a, b, rfl, ⟨h1, h2⟩, q⟩ := h
  rw [low_div a b h1] at q
  walk_at "dv"
  exact ⟨gcd_ok h1 h2 _, gcd_ok h1 h2 _, q⟩
def T_is_whole : TF := fun ss μ P => ∃ d : D, ss = [.d d] ∧ fit d ∧ P (.bl (isWhB d)) μ
theorem mon_is_whole : MonF T_is_whole := fun ss μ P P' k ⟨a, e, h, q⟩ => ⟨a, e, h, k _ _ q⟩
theorem ok_is_whole (t : Top K mg "is_whole" s_is_whole ["value"]) (m_bool : mg "bool" = none) (m_int : mg "int" = none) (m_isinstance : mg "isinstance" = none) :
    DefOk P w K mg base "is_whole" 1 1 T_is_whole := by
  have nd := (sc_is_whole).nd
  refine ok_defD (k := 0) t sc_is_whole mon_is_whole (fun f cdv A outer s H E hr =>
    (pds_one (pd_ret (pd_and (pd_isiW (T := "int") (pd_var (pv 0)) (by rfl) m_isinstance (by rfl) m_int bt_int (by decide) (by decide)) (pd_one (pd_not (pd_isiW (T := "bool") (pd_var (pv 0)) (by rfl) m_isinstance (by rfl) m_bool bt_bool (by decide) (by decide)))))))) ?_
  intro ss μ Q hl h
  obtain ⟨d, rfl, hf, q⟩ := h
  walk_at "dv"
  rw [bw_int hf]
  walk_at "dv"
  rw [bw_bool hf]
  walk_at "dv"
  cases d <;> exact q
def T__law_is_whole : TF := fun ss μ P => ∃ d : D, ss = [.d d] ∧ fit d ∧ P (.bl (isWhB d)) μ
theorem mon__law_is_whole : MonF T__law_is_whole := fun ss μ P P' k ⟨a, e, h, q⟩ => ⟨a, e, h, k _ _ q⟩
theorem ok__law_is_whole (t : Top K mg "_law_is_whole" s__law_is_whole ["thing"]) (m_bool : mg "bool" = none) (m_int : mg "int" = none) (m_isinstance : mg "isinstance" = none) :
    DefOk P w K mg base "_law_is_whole" 1 1 T__law_is_whole := by
  have nd := (sc__law_is_whole).nd
  refine ok_defD (k := 0) t sc__law_is_whole mon__law_is_whole (fun f cdv A outer s H E hr =>
    (pds_one (pd_ret (pd_and (pd_isiW (T := "int") (pd_var (pv 0)) (by rfl) m_isinstance (by rfl) m_int bt_int (by decide) (by decide)) (pd_one (pd_not (pd_isiW (T := "bool") (pd_var (pv 0)) (by rfl) m_isinstance (by rfl) m_bool bt_bool (by decide) (by decide)))))))) ?_
  intro ss μ Q hl h
  obtain ⟨d, rfl, hf, q⟩ := h
  walk_at "dv"
  rw [bw_int hf]
  walk_at "dv"
  rw [bw_bool hf]
  walk_at "dv"
  cases d <;> exact q
def T_is_fraction : TF := fun ss μ P => ∃ d : D, ss = [.d d] ∧ fit d ∧ P (.bl (isFr d)) μ
theorem mon_is_fraction : MonF T_is_fraction := fun ss μ P P' k ⟨a, e, h, q⟩ => ⟨a, e, h, k _ _ q⟩
theorem ok_is_fraction (t : Top K mg "is_fraction" s_is_fraction ["value"]) (C_is_whole : DefOk P w K mg base "is_whole" 1 1 T_is_whole) (g_gcd : mg "gcd" = some (.builtin "math.gcd")) (m_isinstance : mg "isinstance" = none) (m_len : mg "len" = none) (m_tuple : mg "tuple" = none) :
    DefOk P w K mg base "is_fraction" 2 1 T_is_fraction := by
  have nd := (sc_is_fraction).nd
  refine ok_defD (k := 1) t sc_is_fraction mon_is_fraction (fun f cdv A outer s H E hr =>
    (pds_cons (pds_if (ptd_w (pdw_or (ptd_not (ptd_val (pd_isiW (T := "tuple") (pd_var (pv 0)) (by rfl) m_isinstance (by rfl) m_tuple bt_tuple (by decide) (by decide)))) (pdw_or1 (ptd_cmp op_ne mon_gF snd_ne (nomark _) (pd_B call_len_seq snd_len mon_gA (by rfl) m_len bt_len (pda_cons (pd_var (pv 0)) pda_nil)) pd_int)))) (pds_one (pd_ret pd_bl)) pds_nil)
      (pds_cons (pds_asg (pd_var (pv 0)) (pdg_tup (n := 2) rfl (pdgs_cons (pdg_name (pg_name (i := 1) nd rfl (by first | exact Or.inl rfl | exact Or.inr rfl))) (pdgs_cons (pdg_name (pg_name (i := 2) nd rfl (by first | exact Or.inl rfl | exact Or.inr rfl))) pdgs_nil))))
      (pds_cons (pds_if (ptd_w (pdw_or (ptd_not (ptd_val (pd_callD C_is_whole (hr.mono (by decide)) (by rfl) (pda_cons (pd_var (pv 1)) pda_nil)))) (pdw_or1 (ptd_not (ptd_val (pd_callD C_is_whole (hr.mono (by decide)) (by rfl) (pda_cons (pd_var (pv 2)) pda_nil))))))) (pds_one (pd_ret pd_bl)) pds_nil)
      (pds_one (pd_ret (pd_and (pd_cmp op_gt mon_gF snd_B0 (nomark _) (pd_var (pv 2)) pd_int) (pd_one (pd_cmp (eq_ok hr.units) mon_gF snd_eq (nomark _) (pd_Bf cr_gcd snd_gcd mon_gA (by rfl) g_gcd (pda_cons (pd_var (pv 1)) (pda_cons (pd_var (pv 2)) pda_nil))) pd_int))))))))) ?_
  intro ss μ Q hl h
  obtain ⟨d, rfl, hf, q⟩ := h
  by_cases ht : ∃ ds, d = .tup ds
  · obtain ⟨ds, rfl⟩ := ht
    walk_at "dv"
    rw [bw_tup hf]
    simp only [isTupB]
    walk_at "dv"
    by_cases h2 : ds.length = 2
    · match ds, h2 with
      | [a, b], _ =>
        walk_at "dv"
        have fa := fitA_iff.mp hf.2
        refine ⟨a, rfl, fa a (by simp), ?_⟩
        walk_at "dv"
        cases ea : isWhB a with
        | false => rw [isFr_wh (.inl ea)] at q; exact q
        | true =>
          walk_at "dv"
          refine ⟨b, rfl, fa b (by simp), ?_⟩
          walk_at "dv"
          cases eb : isWhB b with
          | false => rw [isFr_wh (.inr eb)] at q; exact q
          | true =>
            obtain ⟨i, rfl⟩ := wh_int ea
            obtain ⟨j, rfl⟩ := wh_int eb
            walk_at "dv"
            rw [isFr_int] at q
            by_cases hj : 0 < j
            · rw [if_pos hj]
              simp only [hj, true_and] at q
              have e : decide (((Nat.gcd i.natAbs j.natAbs : Nat) : Int) = 1) = decide (Nat.gcd i.natAbs j.natAbs = 1) := by
                rw [decide_eq_decide]; omega
              rw [e]
              exact q
            · rw [if_neg hj]
              simp only [hj, false_and, decide_false] at q
              exact q
    · rw [isFr_len h2] at q
      have e : (!decide ((ds.length : Int) = 2)) = true := by simp; omega
      rw [e]
      walk_at "dv"
      exact q
  · have e := not_tup ht
    rw [isFr_tup e] at q
    walk_at "dv"
    rw [bw_tup hf, e]
    walk_at "dv"
    exact q
def T_is_row : TF := fun ss μ P => ∃ d : D, ∃ n : Nat, ss = [.d d, .d (.int (n : Int))] ∧ fit d ∧ P (.bl (isRow n d)) μ
theorem mon_is_row : MonF T_is_row := fun ss μ P P' k ⟨a, b, e, h, q⟩ => ⟨a, b, e, h, k _ _ q⟩
theorem ok_is_row (t : Top K mg "is_row" s_is_row ["value", "many"]) (C_is_fraction : DefOk P w K mg base "is_fraction" 2 1 T_is_fraction) (m_all : mg "all" = none) (m_isinstance : mg "isinstance" = none) (m_len : mg "len" = none) (m_tuple : mg "tuple" = none) :
    DefOk P w K mg base "is_row" 3 2 T_is_row := by
  have nd := (sc_is_row).nd
  refine ok_defD (k := 2) t sc_is_row mon_is_row (fun f cdv A outer s H E hr =>
    (pds_cons (pds_if (ptd_w (pdw_or (ptd_not (ptd_val (pd_isiW (T := "tuple") (pd_var (pv 0)) (by rfl) m_isinstance (by rfl) m_tuple bt_tuple (by decide) (by decide)))) (pdw_or1 (ptd_cmp op_ne mon_gF snd_ne (nomark _) (pd_B call_len_seq snd_len mon_gA (by rfl) m_len bt_len (pda_cons (pd_var (pv 0)) pda_nil)) (pd_var (pv 1)))))) (pds_one (pd_ret pd_bl)) pds_nil)
      (pds_one (pd_ret (pd_B (cr_all rfl) snd_all mon_gA (by rfl) m_all bt_all (pda_cons (pd_of_N (pdn_lc (own := [("number", 2)]) rfl nd (pdi_seq (pd_var (pv 0))) (blkOk_by (N := N_is_row) (sc := defScope s_is_row) (by decide +kernel)) (fun _ _ _ _ _ => (pdg_name (pg_name (i := 2) nd rfl (by first | exact Or.inl rfl | exact Or.inr rfl)))) (fun _ _ _ _ _ => pdts_nil) (fun _ _ _ _ _ => (pd_callD C_is_fraction (hr.mono (by decide)) (by rfl) (pda_cons (pd_var (pv 2)) pda_nil))) (by decide))) pda_nil)))))) ?_
  intro ss μ Q hl h
  obtain ⟨d, n, rfl, hf, q⟩ := h
  by_cases ht : ∃ ds, d = .tup ds
  · obtain ⟨ds, rfl⟩ := ht
    have fa := fitA_iff.mp hf.2
    have hl := hf.1
    rw [isRow_tup] at q
    walk_at "dv"
    rw [bw_tup hf]
    simp only [isTupB]
    walk_at "dv"
    by_cases h2 : ds.length = n
    · have e : (!decide ((ds.length : Int) = (n : Int))) = false := by simp; omega
      rw [e]
      walk_at "dv"
      refine lc_all (fun d => .bl (isFr d)) μ (fun _ => trivial) ds _ (fun a ha acc P P2 k => ?_) (by omega) ?_
      · walk_at "dv"
        exact ⟨a, rfl, fa a ha, k⟩
      · rw [all_bl]
        walk_at "dv"
        rw [decide_eq_true h2] at q
        exact q
    · have e : (!decide ((ds.length : Int) = (n : Int))) = true := by simp; omega
      rw [e]
      walk_at "dv"
      rw [decide_eq_false h2] at q
      exact q
  · have e := not_tup ht
    rw [isRow_not e] at q
    walk_at "dv"
    rw [bw_tup hf, e]
    walk_at "dv"
    exact q
def Sm (r : Rat) : Prop := Z 3000 r
theorem lt_iff' (r s : Rat) : decide (r < s) = decide (r.num * ↑s.den < s.num * ↑r.den) := by
  rw [decide_eq_decide]
  exact Rat.lt_iff r s
theorem den_ok {b : Nat} {r : Rat} (h : Z b r) : ((r.den : Int)).natAbs < 2 ^ b := by rw [Int.natAbs_natCast]; exact h.1
def T_is_less : TF := fun ss μ P => ∃ r s : Rat, ss = [.d (frD r), .d (frD s)] ∧ (Sm r ∧ Sm s) ∧ P (.bl (decide (r < s))) μ
theorem mon_is_less : MonF T_is_less := fun ss μ P P' k ⟨a, b, e, h, q⟩ => ⟨a, b, e, h, k _ _ q⟩
theorem ok_is_less (t : Top K mg "is_less" s_is_less ["left", "right"]) :
    DefOk P w K mg base "is_less" 1 2 T_is_less := by
  have nd := (sc_is_less).nd
  refine ok_defD (k := 0) t sc_is_less mon_is_less (fun f cdv A outer s H E hr =>
    (pds_one (pd_ret (pd_cmp op_lt mon_gF snd_B0 (nomark _) (pd_op op_mulW mon_gF snd_I (pd_ix ix_ok mon_gF snd_ix (fun _ _ => rfl) (pd_var (pv 0)) pd_int) (pd_ix ix_ok mon_gF snd_ix (fun _ _ => rfl) (pd_var (pv 1)) pd_int)) (pd_op op_mulW mon_gF snd_I (pd_ix ix_ok mon_gF snd_ix (fun _ _ => rfl) (pd_var (pv 1)) pd_int) (pd_ix ix_ok mon_gF snd_ix (fun _ _ => rfl) (pd_var (pv 0)) pd_int)))))) ?_
  intro ss μ Q hl h
  obtain ⟨r, s, rfl, ⟨h1, h2⟩, q⟩ := h
  unfold frD
  walk_at "dv"
  refine ⟨mul_ok h1.2 (den_ok h2) (by decide), mul_ok h2.2 (den_ok h1) (by decide), ?_⟩
  rw [lt_iff'] at q
  exact q
def T__law_below : TF := fun ss μ P => ∃ r s : Rat, ss = [.d (frD r), .d (frD s)] ∧ (Sm r ∧ Sm s) ∧ P (.bl (decide (r < s))) μ
theorem mon__law_below : MonF T__law_below := fun ss μ P P' k ⟨a, b, e, h, q⟩ => ⟨a, b, e, h, k _ _ q⟩
theorem ok__law_below (t : Top K mg "_law_below" s__law_below ["x", "y"]) :
    DefOk P w K mg base "_law_below" 1 2 T__law_below := by
  have nd := (sc__law_below).nd
  refine ok_defD (k := 0) t sc__law_below mon__law_below (fun f cdv A outer s H E hr =>
    (pds_one (pd_ret (pd_cmp op_lt mon_gF snd_B0 (nomark _) (pd_op op_mulW mon_gF snd_I (pd_ix ix_ok mon_gF snd_ix (fun _ _ => rfl) (pd_var (pv 0)) pd_int) (pd_ix ix_ok mon_gF snd_ix (fun _ _ => rfl) (pd_var (pv 1)) pd_int)) (pd_op op_mulW mon_gF snd_I (pd_ix ix_ok mon_gF snd_ix (fun _ _ => rfl) (pd_var (pv 1)) pd_int) (pd_ix ix_ok mon_gF snd_ix (fun _ _ => rfl) (pd_var (pv 0)) pd_int)))))) ?_
  intro ss μ Q hl h
  obtain ⟨r, s, rfl, ⟨h1, h2⟩, q⟩ := h
  unfold frD
  walk_at "dv"
  refine ⟨mul_ok h1.2 (den_ok h2) (by decide), mul_ok h2.2 (den_ok h1) (by decide), ?_⟩
  rw [lt_iff'] at q
  exact q

/-! ### the sum of products, term by term -/
def accP : Int → Int → List Rat → List Rat → Int × Int
  | a, b, x :: xs, y :: ys => accP (a * x.den * y.den + x.num * y.num * b) (b * x.den * y.den) xs ys
  | a, b, _, _ => (a, b)
theorem accP_val : ∀ (xs ys : List Rat) (a b : Int), 0 < b → Rat.divInt (accP a b xs ys).1 (accP a b xs ys).2 = Rat.divInt a b + dotR xs ys
  | [], ys, a, b, _ => by simp only [accP, dotR]; rw [Rat.add_zero]
  | x :: xs, [], a, b, _ => by simp only [accP, dotR]; rw [Rat.add_zero]
  | x :: xs, y :: ys, a, b, h => by
    have hx := den_pos x
    have hy := den_pos y
    have h1 : 0 < (x.den : Int) * y.den := Int.mul_pos hx hy
    have h2 : 0 < b * x.den * y.den := Int.mul_pos (Int.mul_pos h hx) hy
    simp only [accP, dotR]
    rw [accP_val xs ys _ _ h2, ← Rat.add_assoc, mul_divInt, Rat.divInt_add_divInt _ _ (by omega) (by omega)]
    congr 2
    · rw [Int.mul_assoc a]
    · rw [Int.mul_assoc]
theorem accP_pos : ∀ (xs ys : List Rat) (a b : Int), 0 < b → 0 < (accP a b xs ys).2
  | [], ys, a, b, h => h
  | x :: xs, [], a, b, h => h
  | x :: xs, y :: ys, a, b, h => accP_pos xs ys _ _ (Int.mul_pos (Int.mul_pos h (den_pos x)) (den_pos y))
/-- the sizes on the way: t bits, each term makes it z more -/
structure AccOk (t : Nat) (a b : Int) : Prop where
  pos : 0 < b
  la : a.natAbs < 2 ^ t
  lb : b.natAbs < 2 ^ t
theorem AccOk.step {t z : Nat} {a b : Int} {x y : Rat} (h : AccOk t a b) (hx : Z z x) (hy : Z z y) : AccOk (t + 2 * z + 1) (a * x.den * y.den + x.num * y.num * b) (b * x.den * y.den) := by
  refine ⟨Int.mul_pos (Int.mul_pos h.pos (den_pos x)) (den_pos y), add_lt' ?_ ?_, up_lt (mul_lt' (mul_lt' h.lb (den_ok hx)) (den_ok hy)) (by omega)⟩
  · exact up_lt (mul_lt' (mul_lt' h.la (den_ok hx)) (den_ok hy)) (by omega)
  · exact up_lt (mul_lt' (mul_lt' hx.2 hy.2) h.lb) (by omega)
theorem AccOk.up {t u : Nat} {a b : Int} (h : AccOk t a b) (l : t ≤ u) : AccOk u a b := ⟨h.pos, up_lt h.la l, up_lt h.lb l⟩
theorem acc_end : ∀ (xs ys : List Rat) (t z : Nat) (a b : Int), AccOk t a b → (∀ r ∈ xs, Z z r) → (∀ r ∈ ys, Z z r) → AccOk (t + xs.length * (2 * z + 1)) (accP a b xs ys).1 (accP a b xs ys).2
  | [], ys, t, z, a, b, h, _, _ => h.up (by omega)
  | x :: xs, [], t, z, a, b, h, _, _ => h.up (by omega)
  | x :: xs, y :: ys, t, z, a, b, h, hx, hy => by
    refine (acc_end xs ys (t + 2 * z + 1) z _ _ (h.step (hx x (by simp)) (hy y (by simp))) (fun r hr => hx r (List.mem_cons_of_mem _ hr)) fun r hr => hy r (List.mem_cons_of_mem _ hr)).up ?_
    rw [List.length_cons, Nat.add_mul]
    omega
theorem fr_one : frD 1 = .tup [.int 1, .int 1] := rfl
theorem z_one : Z 128 1 := by constructor <;> decide

def T_row_product : TF := fun ss μ P => ∃ xs ys : List Rat, (ss = [.d (rowD xs), .d (rowD ys)] ∨ ss = [.d (rowL xs), .d (rowD ys)]) ∧ (xs.length ≤ 8 ∧ (∀ r ∈ xs, Z 128 r) ∧ ∀ r ∈ ys, Z 128 r) ∧ P (frD (dotR xs ys)) μ
theorem mon_row_product : MonF T_row_product := fun ss μ P P' k ⟨a, b, e, h, q⟩ => ⟨a, b, e, h, k _ _ q⟩
theorem ok_row_product (t : Top K mg "row_product" s_row_product ["row", "other"]) (C_lowest : DefOk P w K mg base "lowest" 1 2 T_lowest) (m_zip : mg "zip" = none) :
    DefOk P w K mg base "row_product" 2 2 T_row_product := by
  have nd := (sc_row_product).nd
  refine ok_defD (k := 1) t sc_row_product mon_row_product (fun f cdv A outer s H E hr =>
    (pds_cons (pds_asg (pd_tup (pda_cons pd_int (pda_cons pd_int pda_nil))) (pdg_tup (n := 2) rfl (pdgs_cons (pdg_name (pg_name (i := 2) nd rfl (by first | exact Or.inl rfl | exact Or.inr rfl))) (pdgs_cons (pdg_name (pg_name (i := 3) nd rfl (by first | exact Or.inl rfl | exact Or.inr rfl))) pdgs_nil))))
      (pds_cons (pds_for PassesOwn.never rfl (pdi_zipG (by rfl) m_zip (pda_cons (pd_var (pv 0)) (pda_cons (pd_var (pv 1)) pda_nil))) (pdg_tup (n := 2) rfl (pdgs_cons (pdg_tup (n := 2) rfl (pdgs_cons (pdg_name (pg_name (i := 4) nd rfl (by first | exact Or.inl rfl | exact Or.inr rfl))) (pdgs_cons (pdg_name (pg_name (i := 5) nd rfl (by first | exact Or.inl rfl | exact Or.inr rfl))) pdgs_nil))) (pdgs_cons (pdg_tup (n := 2) rfl (pdgs_cons (pdg_name (pg_name (i := 6) nd rfl (by first | exact Or.inl rfl | exact Or.inr rfl))) (pdgs_cons (pdg_name (pg_name (i := 7) nd rfl (by first | exact Or.inl rfl | exact Or.inr rfl))) pdgs_nil))) pdgs_nil))) (pds_cons (pds_set (pd_op addW_ok mon_gF snd_addW (pd_op op_mulW mon_gF snd_I (pd_op op_mulW mon_gF snd_I (pd_var (pv 2)) (pd_var (pv 5))) (pd_var (pv 7))) (pd_op op_mulW mon_gF snd_I (pd_op op_mulW mon_gF snd_I (pd_var (pv 4)) (pd_var (pv 6))) (pd_var (pv 3)))) (fun _ h => ps_set (i := 2) nd rfl (by first | exact Or.inl rfl | exact Or.inr rfl) h))
      (pds_one (pds_set (pd_op op_mulW mon_gF snd_I (pd_op op_mulW mon_gF snd_I (pd_var (pv 3)) (pd_var (pv 5))) (pd_var (pv 7))) (fun _ h => ps_set (i := 3) nd rfl (by first | exact Or.inl rfl | exact Or.inr rfl) h)))))
      (pds_one (pd_ret (pd_callD C_lowest (hr.mono (by decide)) (by rfl) (pda_cons (pd_var (pv 2)) (pda_cons (pd_var (pv 3)) pda_nil)))))))) ?_
  intro ss μ Q hl h
  obtain ⟨xs, ys, e, ⟨h1, h2, h3⟩, q⟩ := h
  have key : ∀ (X : D) (us vs : List Rat) (a b : Int) (t : Nat) (s4 s5 s6 s7 : Option S) (k : K4), (∀ r ∈ us, Z 128 r) → (∀ r ∈ vs, Z 128 r) → AccOk t a b → t + us.length * 257 ≤ 3000 → (∀ (a' b' : Int) s4 s5 s6 s7, (a', b') = accP a b us vs → k.nx [some (.d X), some (.d (rowD ys)), some (.d (.int a')), some (.d (.int b')), s4, s5, s6, s7] μ) →
      loopS (gT 2 (gsCons (gT 2 (gsCons (gN 4) (gsCons (gN 5) gsNil))) (gsCons (gT 2 (gsCons (gN 6) (gsCons (gN 7) gsNil))) gsNil)))
        (fSeq (fAsg (fOp (gF cAddW fAddW) (fOp (gF (cI CMulW) (fI fun i j => D.int (i * j))) (fOp (gF (cI CMulW) (fI fun i j => D.int (i * j))) (fVar 2) (fVar 5)) (fVar 7)) (fOp (gF (cI CMulW) (fI fun i j => D.int (i * j))) (fOp (gF (cI CMulW) (fI fun i j => D.int (i * j))) (fVar 4) (fVar 6)) (fVar 3))) (gN 2))
          (fAsg (fOp (gF (cI CMulW) (fI fun i j => D.int (i * j))) (fOp (gF (cI CMulW) (fI fun i j => D.int (i * j))) (fVar 3) (fVar 5)) (fVar 7)) (gN 3)))
        (fun μ' => True) (zipD (us.map frD) (vs.map frD)) [some (.d X), some (.d (rowD ys)), some (.d (.int a)), some (.d (.int b)), s4, s5, s6, s7] μ k := by
    intro X us
    induction us with
    | nil => intro vs a b t s4 s5 s6 s7 k _ _ _ _ hk; exact ⟨trivial, hk a b _ _ _ _ rfl⟩
    | cons x us ih =>
      intro vs a b t s4 s5 s6 s7 k hx hy ha hi hk
      cases vs with
      | nil => exact ⟨trivial, hk a b _ _ _ _ rfl⟩
      | cons y vs =>
        have zx := hx x (by simp)
        have zy := hy y (by simp)
        rw [List.length_cons] at hi
        refine ⟨trivial, ?_⟩
        rw [show frD y = D.tup [.int y.num, .int (y.den : Int)] from rfl, show frD x = D.tup [.int x.num, .int (x.den : Int)] from rfl]
        walk_at "dv"
        have m1 := mul_lt' ha.la (den_ok zx)
        have m2 := mul_lt' zx.2 zy.2
        have m3 := mul_lt' ha.lb (den_ok zx)
        refine ⟨mul_ok ha.la (den_ok zx) (by omega), mul_ok m1 (den_ok zy) (by omega), mul_ok zx.2 zy.2 (by decide), mul_ok m2 ha.lb (by omega), mul_ok ha.lb (den_ok zx) (by omega), mul_ok m3 (den_ok zy) (by omega), ?_⟩
        exact ih vs _ _ (t + 2 * 128 + 1) _ _ _ _ k (fun r hr => hx r (List.mem_cons_of_mem _ hr)) (fun r hr => hy r (List.mem_cons_of_mem _ hr)) (ha.step zx zy) (by omega) fun a' b' t4 t5 t6 t7 e => hk a' b' t4 t5 t6 t7 e
  have a0 : AccOk 1 0 1 := ⟨by decide, by decide, by decide⟩
  have v := accP_val xs ys 0 1 (by decide)
  have v : Rat.divInt (accP 0 1 xs ys).1 (accP 0 1 xs ys).2 = dotR xs ys := by
    rw [v, show Rat.divInt 0 1 = 0 from rfl, Rat.zero_add]
  have p := accP_pos xs ys 0 1 (by decide)
  have l := (acc_end xs ys 1 128 0 1 a0 h2 h3).lb
  rcases e with rfl | rfl
  · unfold rowD
    walk_at "dv"
    refine key _ xs ys 0 1 1 none none none none _ h2 h3 a0 (by omega) fun a' b' s4 s5 s6 s7 e => ?_
    rw [← e] at p v l
    walk_at "dv"
    refine ⟨a', b', rfl, ⟨p, up_lt l (by omega)⟩, ?_⟩
    rw [show Rat.divInt a' b' = Rat.divInt (a', b').1 (a', b').2 from rfl, v]
    walk_at "dv"
    exact q
  · unfold rowD rowL
    walk_at "dv"
    refine key _ xs ys 0 1 1 none none none none _ h2 h3 a0 (by omega) fun a' b' s4 s5 s6 s7 e => ?_
    rw [← e] at p v l
    walk_at "dv"
    refine ⟨a', b', rfl, ⟨p, up_lt l (by omega)⟩, ?_⟩
    rw [show Rat.divInt a' b' = Rat.divInt (a', b').1 (a', b').2 from rfl, v]
    walk_at "dv"
    exact q
end K2

/-! part Qm -/
set_option Elab.async false
set_option linter.all false
set_option maxRecDepth 100000
set_option autoImplicit false
set_option exponentiation.threshold 9000
namespace K2
open PySem PySem.Spec L2 DV
/-! ### what the program tells -/
def isTabB (m n : Nat) : D → Bool
  | .tup ds => decide (ds.length = m) && ds.all (isRow n)
  | _ => false
def isSetB : D → Bool
  | .tup [.tup (.tup cs :: rs), w] => decide (rs.length + 1 ≤ 5) && (decide (2 ≤ cs.length) && decide (cs.length ≤ 4)) && (isTabB (rs.length + 1) cs.length (.tup (.tup cs :: rs)) && isTabB (rs.length + 1) cs.length w)
  | _ => false
def wOf : D → Rat
  | .tup [w, _] => (decFr w).getD 0
  | _ => 0
def bOf : D → List Rat
  | .tup [_, b] => (decRow b).getD []
  | _ => []
def isPartB (n : Nat) : D → Bool
  | .tup [w, b] => isFr w && decide (0 < ((decFr w).getD 0).num) && isCh n b
  | _ => false
def partD (p : Rat × List Rat) : D := .tup [frD p.1, rowD p.2]
structure Part (n : Nat) (p : Rat × List Rat) : Prop where
  pos : 0 < p.1.num
  bel : Bel p.2 n
theorem wOf_part (p : Rat × List Rat) : wOf (partD p) = p.1 := by
  show (decFr (frD p.1)).getD 0 = p.1
  rw [decFr_frD]; rfl
theorem bOf_part (p : Rat × List Rat) : bOf (partD p) = p.2 := by
  show (decRow (rowD p.2)).getD [] = p.2
  rw [decRow_row]; rfl
theorem isFr_some {d : D} (h : isFr d = true) : ∃ r, d = frD r := by
  unfold isFr at h
  obtain ⟨r, hr⟩ := Option.isSome_iff_exists.mp h
  exact ⟨r, decFr_some hr⟩
theorem isFr_frD (r : Rat) : isFr (frD r) = true := by unfold isFr; rw [decFr_frD]; rfl
theorem isPart_part {n : Nat} {d : D} (h : isPartB n d = true) : ∃ p, d = partD p ∧ Part n p := by
  unfold isPartB at h
  split at h
  · rename_i w b
    simp only [Bool.and_eq_true, decide_eq_true_eq] at h
    obtain ⟨r, rfl⟩ := isFr_some h.1.1
    obtain ⟨rs, rfl, hb⟩ := isCh_bel h.2
    rw [decFr_frD] at h
    exact ⟨(r, rs), rfl, h.1.2, hb⟩
  · cases h
theorem part_isPart {n : Nat} {p : Rat × List Rat} (h : Part n p) : isPartB n (partD p) = true := by
  show (isFr (frD p.1) && decide (0 < ((decFr (frD p.1)).getD 0).num) && isCh n (rowD p.2)) = true
  rw [isFr_frD, decFr_frD, bel_isCh h.bel]
  simpa using h.pos
theorem parts_of {n : Nat} : ∀ {ds : List D}, ds.all (isPartB n) = true → ∃ ps : List (Rat × List Rat), ds = ps.map partD ∧ ∀ p ∈ ps, Part n p
  | [], _ => ⟨[], rfl, fun p h => (nomatch h)⟩
  | d :: r, h => by
    rw [List.all_cons, Bool.and_eq_true] at h
    obtain ⟨p, rfl, hp⟩ := isPart_part h.1
    obtain ⟨ps, rfl, hs⟩ := parts_of h.2
    exact ⟨p :: ps, rfl, fun q hq => by
      rcases List.mem_cons.mp hq with e | e
      · exact e ▸ hp
      · exact hs q e⟩
def colR (bs : List (List Rat)) (i : Nat) : List Rat := bs.map fun b => b.getD i 0
/-- the means of the columns; none of no rows -/
def mixR (n : Nat) (ws : List Rat) (bs : List (List Rat)) : List Rat := if bs = [] then [] else (List.range n).map fun i => dotR ws (colR bs i)
def isSplB (start : List Rat) : D → Bool
  | .tup ds => ds.all (isPartB start.length) && (ascB (ds.map bOf) && decide (mixR start.length (ds.map wOf) (ds.map bOf) = start))
  | _ => false
def isExpB (n : Nat) : D → Bool
  | .tup (.tup cs :: r) => decide (r.length + 1 = n) && (decide (1 ≤ cs.length) && decide (cs.length ≤ 6)) && (D.tup cs :: r).all (isCh cs.length)
  | _ => false
theorem map_wOf (ps : List (Rat × List Rat)) : (ps.map partD).map wOf = ps.map (·.1) := by
  rw [List.map_map]; exact List.map_congr_left fun p _ => wOf_part p
theorem map_bOf (ps : List (Rat × List Rat)) : (ps.map partD).map bOf = ps.map (·.2) := by
  rw [List.map_map]; exact List.map_congr_left fun p _ => bOf_part p
theorem isTab_not {m n : Nat} {d : D} (h : isTupB d = false) : isTabB m n d = false := by
  cases d <;> first | rfl | cases h
theorem isSet_not {d : D} (h : isTupB d = false) : isSetB d = false := by
  cases d <;> first | rfl | cases h
theorem isSet_len {ds : List D} (h : ds.length ≠ 2) : isSetB (.tup ds) = false := by
  cases e : isSetB (.tup ds) with
  | false => rfl
  | true =>
    unfold isSetB at e
    split at e
    · rename_i q; injection q with q; rw [q] at h; exact absurd rfl h
    · cases e
theorem isSet_p {p w : D} (h : isTupB p = false) : isSetB (.tup [p, w]) = false := by
  cases p <;> first | rfl | cases h
theorem isSet_nil {w : D} : isSetB (.tup [.tup [], w]) = false := rfl
theorem isSet_row {r w : D} {rs : List D} (h : isTupB r = false) : isSetB (.tup [.tup (r :: rs), w]) = false := by
  cases r <;> first | rfl | cases h
theorem isSet_eq {cs rs : List D} {w : D} : isSetB (.tup [.tup (.tup cs :: rs), w]) = (decide (rs.length + 1 ≤ 5) && (decide (2 ≤ cs.length) && decide (cs.length ≤ 4)) && (isTabB (rs.length + 1) cs.length (.tup (.tup cs :: rs)) && isTabB (rs.length + 1) cs.length w)) := rfl
/-- a right setting of n states -/
def WorldN (n : Nat) (d : D) : Prop := isSetB d = true ∧ ∃ cs rs w, d = .tup [.tup (.tup cs :: rs), w] ∧ cs.length = n
theorem WorldN.n2 {n : Nat} {d : D} (h : WorldN n d) : 2 ≤ n ∧ n ≤ 4 := by
  obtain ⟨h, cs, rs, w, rfl, rfl⟩ := h
  rw [isSet_eq] at h
  simp only [Bool.and_eq_true, decide_eq_true_eq] at h
  omega
/-- a split, part by part: the size of each -/
def ZP (b : Nat) (p : Rat × List Rat) : Prop := Z b p.1 ∧ ∀ r ∈ p.2, Z b r
theorem part_fit {p : Rat × List Rat} (h : fit (partD p)) : ZP 128 p := by
  obtain ⟨_, h1, h2, _⟩ := h
  exact ⟨fr_fit h1, row_fit h2⟩
theorem fit_part {p : Rat × List Rat} (h : ZP 128 p) (l : p.2.length ≤ 1000) : fit (partD p) := ⟨by simp, fit_fr h.1, fit_row l h.2, trivial⟩
/-- how long a tuple is at its top -/
def tl : D → Nat
  | .tup ds => ds.length
  | _ => 0
/-! ### data as == reads it -/
structure Sh (k : Nat) (d : D) : Prop where
  pl : d.plain = true
  ly : PyData.canLay0 d.py = true
  dp : PyData.depth d.py ≤ k
theorem Sh.mono {k l : Nat} {d : D} (h : Sh k d) (q : k ≤ l) : Sh l d := ⟨h.pl, h.ly, Nat.le_trans h.dp q⟩
theorem Sh.shaped {k : Nat} {d : D} (h : Sh k d) (q : k ≤ 64) : shapedD d := by
  refine ⟨h.pl, ?_⟩
  unfold SeqAt.shaped
  rw [h.ly, decide_eq_true (Nat.le_trans h.dp q)]
  rfl
theorem shA {k : Nat} : ∀ {ds : List D}, (∀ d ∈ ds, Sh k d) → plainA ds = true ∧ PyData.canLayAll0 (pyA ds) = true ∧ PyData.depthAll (pyA ds) ≤ k
  | [], _ => ⟨rfl, rfl, Nat.zero_le _⟩
  | d :: r, h => by
    have a := h d (by simp)
    obtain ⟨b1, b2, b3⟩ := shA fun x hx => h x (List.mem_cons_of_mem _ hx)
    refine ⟨?_, ?_, ?_⟩
    · show (d.plain && plainA r) = true
      rw [a.pl, b1]; rfl
    · show (PyData.canLay0 d.py && PyData.canLayAll0 (pyA r)) = true
      rw [a.ly, b2]; rfl
    · show max (PyData.depth d.py) (PyData.depthAll (pyA r)) ≤ k
      exact Nat.max_le.mpr ⟨a.dp, b3⟩
theorem sh_tup {k : Nat} {ds : List D} (h : ∀ d ∈ ds, Sh k d) : Sh (k + 1) (.tup ds) := by
  obtain ⟨b1, b2, b3⟩ := shA h
  exact ⟨b1, b2, Nat.succ_le_succ b3⟩
theorem sh_lst {k : Nat} {ds : List D} (h : ∀ d ∈ ds, Sh k d) : Sh (k + 1) (.lst ds) := by
  obtain ⟨b1, b2, b3⟩ := shA h
  exact ⟨b1, b2, Nat.succ_le_succ b3⟩
theorem sh_int (i : Int) : Sh 0 (.int i) := ⟨rfl, rfl, Nat.le_refl _⟩
theorem sh_fr (r : Rat) : Sh 1 (frD r) := sh_tup fun d h => by
  simp only [List.mem_cons, List.not_mem_nil, or_false] at h
  rcases h with rfl | rfl <;> exact sh_int _
theorem sh_row (rs : List Rat) : Sh 2 (rowD rs) := sh_tup fun d h => by
  obtain ⟨r, _, rfl⟩ := List.mem_map.mp h
  exact sh_fr r
theorem sh_rowL (rs : List Rat) : Sh 2 (rowL rs) := sh_lst fun d h => by
  obtain ⟨r, _, rfl⟩ := List.mem_map.mp h
  exact sh_fr r
theorem eqv_fr (r s : Rat) : PyData.eqv (frD r).py (frD s).py = decide (r = s) := by
  show PyData.eqv (.tuple [.int r.num, .int (r.den : Int)]) (.tuple [.int s.num, .int (s.den : Int)]) = _
  rw [eqv_pair, decide_eq_decide]
  constructor
  · rintro ⟨h1, h2⟩; exact Rat.ext h1 (by omega)
  · rintro rfl; exact ⟨rfl, rfl⟩
theorem eqv_map {α : Type} [DecidableEq α] {f : α → D} (h : ∀ a b, PyData.eqv (f a).py (f b).py = decide (a = b)) : ∀ xs ys : List α, PyData.eqvAll (pyA (xs.map f)) (pyA (ys.map f)) = decide (xs = ys)
  | [], [] => rfl
  | [], y :: ys => rfl
  | x :: xs, [] => rfl
  | x :: xs, y :: ys => by
    show (PyData.eqv (f x).py (f y).py && PyData.eqvAll (pyA (xs.map f)) (pyA (ys.map f))) = _
    rw [h, eqv_map h xs ys, ← Bool.decide_and, decide_eq_decide, List.cons.injEq]
theorem eqv_row (xs ys : List Rat) : PyData.eqv (rowD xs).py (rowD ys).py = decide (xs = ys) := eqv_map eqv_fr xs ys
end K2

/-! part Q2 -/
set_option Elab.async false
set_option linter.all false
set_option maxRecDepth 100000
set_option autoImplicit false
set_option exponentiation.threshold 9000
set_option maxHeartbeats 1000000
namespace K2
open PySem PySem.Spec L2 DV
open PyProof.Rows (envOfC)
variable {P : Program} {w : World} {K : PySem.W.Frag} {mg : Str → Option Value} {base : Heap}

local macro_rules | `(tactic| walk_at "dv") => `(tactic| simp only [startR, cRepU, fIStar, fIZipG, fParDN, cInP, fInP, lstOf, fIns, fExt, fIsN, fIsNotN, isNonS, fAug, fAddW, fSubW, fGtW, fMul2, fModM, cAddW, cEqP, fEqP, fNeP, fInI, fIsiW, Option.bind_some, fRevT, fMk, fBare, fAtt, fIsX, fIsXT, fRaise, fRaise0, fTry, clD, suiteD, kNo, kBut, fXatt, fExprX, fCallX, kDX, gRepr2, cRepr2, datOf, errOf, kD, fin, fSeq, fNext, fDrop, fNRep, fNRg, fParN0, fPar3, fPar3N, fAsg, fRet, fIfS, fNever, fPar, fNew, fApp, fVar, fC, fOp, fTest, fTAnd, fTOr, fTNot, fVAnd, fVOr, fVNot, fNeg, fIf, fChain, fANil, fACons, fTup, fLst, fCB, fNLst, fOfN, fYes, fIsi, fONone, fOSome, fSl, sliceF,
  gF, gA, cI, fI, c0, cAdd, fAdd, fIx, cRepT, fRepT, fEq, fNe, fNotIn, intsOf, blsOf, allD, seqOf, tupOf, fLen, cA0, f1L, gSum, fTupleOf, fListOf, fA1, fA2, cDm, gN, gsNil_eq, gsCons_eq, gT_eq, gSb_eq, isB, itemsOf, fISeq, fIRng, fIEnum, fIZip, fIZipTL, fFor, fLc, wipeR, fCall, fCallK, fRetN, kN, fCallN, fCallOn, kwS, pick, gRepr, cRepr, List.filterMap_cons_some, List.filterMap_nil,
  List.map_cons, List.map_nil, List.length_cons, List.length_nil, List.replicate_succ, List.replicate_zero, List.cons_append, List.nil_append, List.append_nil, List.getElem?_cons_zero, List.getElem?_cons_succ, List.getElem?_nil, List.set_cons_zero, List.set_cons_succ, List.set_nil, List.take_succ_cons, List.take_zero, List.take_nil,
  Option.map_some, Option.map_none, Option.some.injEq, Option.get_some, exists_eq_left', exists_eq_left, exists_eq_right, true_and, and_true, if_true, if_false, reduceCtorEq, ite_true, ite_false, S.d.injEq, S.m.injEq, D.int.injEq, D.tup.injEq, D.lst.injEq, D.bl.injEq, D.str.injEq, List.cons.injEq, exists_and_left, exists_and_right,
  Nat.sub_zero, Nat.reduceSub, Nat.reduceAdd, Nat.zero_add, Nat.add_zero, Bool.not_true, Bool.not_false, Bool.false_eq_true, decide_eq_true_eq, Nat.reduceLT, Nat.reduceLeDiff, Nat.le_refl, List.take_length, Int.reduceLT, Int.reduceToNat, Nat.lt_irrefl, gt_iff_lt, Nat.not_lt_zero, Int.cast_ofNat_Int, decide_true, decide_false, and_assoc])

theorem rep_one (n : Nat) : (List.replicate n V_ONE) = (List.replicate n (1 : Rat)).map frD := by
  rw [List.map_replicate]; rfl
theorem z_rep {n : Nat} : ∀ r ∈ List.replicate n (1 : Rat), Z 128 r := fun r h => by
  rw [(List.mem_replicate.mp h).2]; exact z_one
theorem eq_one (r : Rat) : decide (r.num = 1 ∧ (r.den : Int) = 1) = decide (r = 1) := by
  rw [decide_eq_decide]
  constructor
  · rintro ⟨h1, h2⟩; exact Rat.ext h1 (by rw [show (1 : Rat).den = 1 from rfl]; omega)
  · rintro rfl; exact ⟨rfl, rfl⟩
def T_row_sum : TF := fun ss μ P => ∃ xs : List Rat, ss = [.d (rowD xs)] ∧ (1 ≤ xs.length ∧ xs.length ≤ 8 ∧ ∀ r ∈ xs, Z 128 r) ∧ P (frD (sumR xs)) μ
theorem mon_row_sum : MonF T_row_sum := fun ss μ P P' k ⟨a, e, h, q⟩ => ⟨a, e, h, k _ _ q⟩
theorem ok_row_sum (t : Top K mg "row_sum" s_row_sum ["row"]) (C_row_product : DefOk P w K mg base "row_product" 2 2 T_row_product) (C_ONE : ConstOk K mg "ONE" V_ONE) (m_len : mg "len" = none) :
    DefOk P w K mg base "row_sum" 3 1 T_row_sum := by
  have nd := (sc_row_sum).nd
  refine ok_defD (k := 2) t sc_row_sum mon_row_sum (fun f cdv A outer s H E hr =>
    (pds_one (pd_ret (pd_callD C_row_product (hr.mono (by decide)) (by rfl) (pda_cons (pd_var (pv 0)) (pda_cons (pd_op repU_ok mon_gF snd_repU (pd_tup (pda_cons (pd_glob C_ONE (by rfl)) pda_nil)) (pd_B call_len_seq snd_len mon_gA (by rfl) m_len bt_len (pda_cons (pd_var (pv 0)) pda_nil))) pda_nil)))))) ?_
  intro ss μ Q hl h
  obtain ⟨xs, rfl, ⟨h0, h1, h2⟩, q⟩ := h
  unfold rowD
  walk_at "dv"
  rw [List.length_map]
  refine ⟨by simp, by omega, by omega, ?_⟩
  refine ⟨xs, List.replicate xs.length 1, .inl ?_, ⟨h1, h2, z_rep⟩, ?_⟩
  · unfold rowD
    rw [flat_rep, Int.toNat_natCast, rep_one]
  · rw [dot_ones xs _ (Nat.le_refl _)]
    walk_at "dv"
    exact q
def T_is_row_of_chances : TF := fun ss μ P => ∃ (d : D) (n : Nat), ss = [.d d, .d (.int (n : Int))] ∧ (fit d ∧ 1 ≤ n ∧ n ≤ 8) ∧ P (.bl (isCh n d)) μ
theorem mon_is_row_of_chances : MonF T_is_row_of_chances := fun ss μ P P' k ⟨a, b, e, h, q⟩ => ⟨a, b, e, h, k _ _ q⟩
theorem ok_is_row_of_chances (t : Top K mg "is_row_of_chances" s_is_row_of_chances ["value", "many"]) (C_is_row : DefOk P w K mg base "is_row" 3 2 T_is_row) (C_row_sum : DefOk P w K mg base "row_sum" 3 1 T_row_sum) (C_ONE : ConstOk K mg "ONE" V_ONE) (m_all : mg "all" = none) :
    DefOk P w K mg base "is_row_of_chances" 4 2 T_is_row_of_chances := by
  have nd := (sc_is_row_of_chances).nd
  refine ok_defD (k := 3) t sc_is_row_of_chances mon_is_row_of_chances (fun f cdv A outer s H E hr =>
    (pds_cons (pds_if (ptd_not (ptd_val (pd_callD C_is_row (hr.mono (by decide)) (by rfl) (pda_cons (pd_var (pv 0)) (pda_cons (pd_var (pv 1)) pda_nil))))) (pds_one (pd_ret pd_bl)) pds_nil)
      (pds_one (pd_ret (pd_and (pd_B (cr_all rfl) snd_all mon_gA (by rfl) m_all bt_all (pda_cons (pd_of_N (pdn_lc (own := [("above", 2), ("_", 3)]) rfl nd (pdi_seq (pd_var (pv 0))) (blkOk_by (N := N_is_row_of_chances) (sc := defScope s_is_row_of_chances) (by decide +kernel)) (fun _ _ _ _ _ => (pdg_tup (n := 2) rfl (pdgs_cons (pdg_name (pg_name (i := 2) nd rfl (by first | exact Or.inl rfl | exact Or.inr rfl))) (pdgs_cons (pdg_name (pg_name (i := 3) nd rfl (by first | exact Or.inl rfl | exact Or.inr rfl))) pdgs_nil)))) (fun _ _ _ _ _ => pdts_nil) (fun _ _ _ _ _ => (pd_cmp op_ge mon_gF snd_B0 (nomark _) (pd_var (pv 2)) pd_int)) (by decide))) pda_nil)) (pd_one (pd_cmp (eq_ok hr.units) mon_gF snd_eq (nomark _) (pd_callD C_row_sum (hr.mono (by decide)) (by rfl) (pda_cons (pd_var (pv 0)) pda_nil)) (pd_glob C_ONE (by rfl))))))))) ?_
  intro ss μ Q hl h
  obtain ⟨d, n, rfl, ⟨hf, hn0, hn⟩, q⟩ := h
  unfold V_ONE
  walk_at "dv"
  refine ⟨d, n, rfl, hf, ?_⟩
  walk_at "dv"
  cases e : isRow n d with
  | false => rw [isCh_no e] at q; walk_at "dv"; exact q
  | true =>
    obtain ⟨rs, rfl, hr⟩ := isRow_some e
    have hz := row_fit hf
    rw [isCh_row, decide_eq_true hr, Bool.true_and] at q
    unfold rowD
    walk_at "dv"
    refine lc_map frD (fun r => .bl (decide (0 ≤ r.num))) μ (fun _ => trivial) rs _ (fun r hr acc P P2 h => ?_) (by omega) ?_
    · unfold frD
      walk_at "dv"
      exact h
    · rw [all_bl]
      walk_at "dv"
      cases e2 : rs.all (fun r => decide (0 ≤ r.num)) with
      | false => rw [e2] at q; walk_at "dv"; exact q
      | true =>
        rw [e2] at q
        walk_at "dv"
        refine ⟨rs, rfl, ⟨by omega, by omega, hz⟩, ?_⟩
        unfold frD
        walk_at "dv"
        rw [eq_one]
        exact q
def T_is_table : TF := fun ss μ P => ∃ (d : D) (m n : Nat), ss = [.d d, .d (.int (m : Int)), .d (.int (n : Int))] ∧ fit d ∧ P (.bl (isTabB m n d)) μ
theorem mon_is_table : MonF T_is_table := fun ss μ P P' k ⟨a, b, c, e, h, q⟩ => ⟨a, b, c, e, h, k _ _ q⟩
theorem ok_is_table (t : Top K mg "is_table" s_is_table ["value", "many", "states"]) (C_is_row : DefOk P w K mg base "is_row" 3 2 T_is_row) (m_all : mg "all" = none) (m_isinstance : mg "isinstance" = none) (m_len : mg "len" = none) (m_tuple : mg "tuple" = none) :
    DefOk P w K mg base "is_table" 4 3 T_is_table := by
  have nd := (sc_is_table).nd
  refine ok_defD (k := 3) t sc_is_table mon_is_table (fun f cdv A outer s H E hr =>
    (pds_cons (pds_if (ptd_w (pdw_or (ptd_not (ptd_val (pd_isiW (T := "tuple") (pd_var (pv 0)) (by rfl) m_isinstance (by rfl) m_tuple bt_tuple (by decide) (by decide)))) (pdw_or1 (ptd_cmp op_ne mon_gF snd_ne (nomark _) (pd_B call_len_seq snd_len mon_gA (by rfl) m_len bt_len (pda_cons (pd_var (pv 0)) pda_nil)) (pd_var (pv 1)))))) (pds_one (pd_ret pd_bl)) pds_nil)
      (pds_one (pd_ret (pd_B (cr_all rfl) snd_all mon_gA (by rfl) m_all bt_all (pda_cons (pd_of_N (pdn_lc (own := [("row", 3)]) rfl nd (pdi_seq (pd_var (pv 0))) (blkOk_by (N := N_is_table) (sc := defScope s_is_table) (by decide +kernel)) (fun _ _ _ _ _ => (pdg_name (pg_name (i := 3) nd rfl (by first | exact Or.inl rfl | exact Or.inr rfl)))) (fun _ _ _ _ _ => pdts_nil) (fun _ _ _ _ _ => (pd_callD C_is_row (hr.mono (by decide)) (by rfl) (pda_cons (pd_var (pv 3)) (pda_cons (pd_var (pv 2)) pda_nil)))) (by decide))) pda_nil)))))) ?_
  intro ss μ Q hl h
  obtain ⟨d, m, n, rfl, hf, q⟩ := h
  by_cases ht : ∃ ds, d = .tup ds
  · obtain ⟨ds, rfl⟩ := ht
    have fa := fitA_iff.mp hf.2
    have hl := hf.1
    change Q (.bl (decide (ds.length = m) && ds.all (isRow n))) μ at q
    walk_at "dv"
    rw [bw_tup hf]
    simp only [isTupB]
    walk_at "dv"
    by_cases h2 : ds.length = m
    · have e : (!decide ((ds.length : Int) = (m : Int))) = false := by simp; omega
      rw [e]
      walk_at "dv"
      refine lc_all (fun d => .bl (isRow n d)) μ (fun _ => trivial) ds _ (fun a ha acc P P2 k => ?_) (by omega) ?_
      · walk_at "dv"
        exact ⟨a, n, rfl, fa a ha, k⟩
      · rw [all_bl]
        walk_at "dv"
        rw [decide_eq_true h2] at q
        exact q
    · have e : (!decide ((ds.length : Int) = (m : Int))) = true := by simp; omega
      rw [e]
      walk_at "dv"
      rw [decide_eq_false h2] at q
      exact q
  · have e := not_tup ht
    rw [isTab_not e] at q
    walk_at "dv"
    rw [bw_tup hf, e]
    walk_at "dv"
    exact q
def T_is_setting : TF := fun ss μ P => ∃ d : D, ss = [.d d] ∧ fit d ∧ P (.bl (isSetB d)) μ
theorem mon_is_setting : MonF T_is_setting := fun ss μ P P' k ⟨a, e, h, q⟩ => ⟨a, e, h, k _ _ q⟩
theorem okT_is_setting (t : Top K mg "is_setting" s_is_setting ["value"]) (C_is_table : DefOk P w K mg base "is_table" 4 3 T_is_table) (m_isinstance : mg "isinstance" = none) (m_len : mg "len" = none) (m_tuple : mg "tuple" = none) :
    DefOkT P w K mg base "is_setting" s_is_setting ["value"] 5 T_is_setting := by
  have nd := (sc_is_setting).nd
  refine ok_defT (k := 4) t sc_is_setting mon_is_setting (fun f cdv A outer s H E hr =>
    (pds_cons (pds_if (ptd_w (pdw_or (ptd_not (ptd_val (pd_isiW (T := "tuple") (pd_var (pv 0)) (by rfl) m_isinstance (by rfl) m_tuple bt_tuple (by decide) (by decide)))) (pdw_or1 (ptd_cmp op_ne mon_gF snd_ne (nomark _) (pd_B call_len_seq snd_len mon_gA (by rfl) m_len bt_len (pda_cons (pd_var (pv 0)) pda_nil)) pd_int)))) (pds_one (pd_ret pd_bl)) pds_nil)
      (pds_cons (pds_asg (pd_var (pv 0)) (pdg_tup (n := 2) rfl (pdgs_cons (pdg_name (pg_name (i := 1) nd rfl (by first | exact Or.inl rfl | exact Or.inr rfl))) (pdgs_cons (pdg_name (pg_name (i := 2) nd rfl (by first | exact Or.inl rfl | exact Or.inr rfl))) pdgs_nil))))
      (pds_cons (pds_if (ptd_w (pdw_or (ptd_not (ptd_val (pd_isiW (T := "tuple") (pd_var (pv 1)) (by rfl) m_isinstance (by rfl) m_tuple bt_tuple (by decide) (by decide)))) (pdw_or1 (ptd_not (ptd_chain op_le op_le mon_gF mon_gF snd_B0 snd_B0 (by with_unfolding_all rfl) pd_int (pd_B call_len_seq snd_len mon_gA (by rfl) m_len bt_len (pda_cons (pd_var (pv 1)) pda_nil)) pd_int))))) (pds_one (pd_ret pd_bl)) pds_nil)
      (pds_cons (pds_if (ptd_w (pdw_or (ptd_not (ptd_val (pd_isiW (T := "tuple") (pd_ix ix_ok mon_gF snd_ix (fun _ _ => rfl) (pd_var (pv 1)) pd_int) (by rfl) m_isinstance (by rfl) m_tuple bt_tuple (by decide) (by decide)))) (pdw_or1 (ptd_not (ptd_chain op_le op_le mon_gF mon_gF snd_B0 snd_B0 (by with_unfolding_all rfl) pd_int (pd_B call_len_seq snd_len mon_gA (by rfl) m_len bt_len (pda_cons (pd_ix ix_ok mon_gF snd_ix (fun _ _ => rfl) (pd_var (pv 1)) pd_int) pda_nil)) pd_int))))) (pds_one (pd_ret pd_bl)) pds_nil)
      (pds_cons (pds_par (pda_cons (pd_B call_len_seq snd_len mon_gA (by rfl) m_len bt_len (pda_cons (pd_var (pv 1)) pda_nil)) (pda_cons (pd_B call_len_seq snd_len mon_gA (by rfl) m_len bt_len (pda_cons (pd_ix ix_ok mon_gF snd_ix (fun _ _ => rfl) (pd_var (pv 1)) pd_int) pda_nil)) pda_nil)) (fun _ h => ps_par (i := 3) (j := 4) rfl nd rfl rfl (by decide) rfl rfl h rfl))
      (pds_one (pd_ret (pd_and (pd_callD C_is_table (hr.mono (by decide)) (by rfl) (pda_cons (pd_var (pv 1)) (pda_cons (pd_var (pv 3)) (pda_cons (pd_var (pv 4)) pda_nil)))) (pd_one (pd_callD C_is_table (hr.mono (by decide)) (by rfl) (pda_cons (pd_var (pv 2)) (pda_cons (pd_var (pv 3)) (pda_cons (pd_var (pv 4)) pda_nil)))))))))))))) ?_
  intro ss μ Q hl h
  obtain ⟨d, rfl, hf, q⟩ := h
  by_cases ht : ∃ ds, d = .tup ds
  · obtain ⟨ds, rfl⟩ := ht
    have fa := fitA_iff.mp hf.2
    have hl := hf.1
    walk_at "dv"
    rw [bw_tup hf]
    simp only [isTupB]
    walk_at "dv"
    by_cases h2 : ds.length = 2
    · match ds, h2 with
      | [p, v], _ =>
        have fp := fa p (by simp)
        have fw := fa v (by simp)
        walk_at "dv"
        rw [bw_tup fp]
        by_cases hp : ∃ rs, p = .tup rs
        · obtain ⟨rs, rfl⟩ := hp
          simp only [isTupB]
          walk_at "dv"
          cases rs with
          | nil =>
            rw [isSet_nil] at q
            walk_at "dv"
            exact q
          | cons r rs =>
            walk_at "dv"
            have fr := fitA_iff.mp fp.2 r (by simp)
            rw [if_pos (by omega)]
            by_cases h5 : rs.length + 1 ≤ 5
            · have e1 : (!decide (((rs.length + 1 : Nat) : Int) ≤ 5)) = false := by simp; omega
              rw [e1]
              walk_at "dv"
              rw [bw_tup fr]
              by_cases hr : ∃ cs, r = .tup cs
              · obtain ⟨cs, rfl⟩ := hr
                simp only [isTupB]
                rw [isSet_eq, decide_eq_true h5] at q
                walk_at "dv"
                by_cases h2 : 2 ≤ cs.length
                · rw [if_pos (by omega)]
                  by_cases h4 : cs.length ≤ 4
                  · have e2 : (!decide ((cs.length : Int) ≤ 4)) = false := by simp; omega
                    rw [e2]
                    rw [decide_eq_true h2, decide_eq_true h4] at q
                    walk_at "dv"
                    refine ⟨_, rs.length + 1, cs.length, rfl, fp, ?_⟩
                    walk_at "dv"
                    cases e3 : isTabB (rs.length + 1) cs.length (.tup (.tup cs :: rs)) with
                    | false => rw [e3] at q; walk_at "dv"; exact q
                    | true =>
                      rw [e3] at q
                      walk_at "dv"
                      refine ⟨_, rs.length + 1, cs.length, rfl, fw, ?_⟩
                      walk_at "dv"
                      exact q
                  · have e2 : (!decide ((cs.length : Int) ≤ 4)) = true := by simp; omega
                    rw [e2]
                    rw [decide_eq_true h2, decide_eq_false h4] at q
                    walk_at "dv"
                    exact q
                · rw [if_neg (by omega)]
                  rw [decide_eq_false h2] at q
                  first | exact q | (walk_at "dv"; exact q)
              · have e := not_tup hr
                rw [isSet_row e] at q
                rw [e]
                walk_at "dv"
                exact q
            · have e1 : (!decide (((rs.length + 1 : Nat) : Int) ≤ 5)) = true := by simp; omega
              have e2 : isSetB (.tup [.tup (r :: rs), v]) = false := by
                cases hr : isTupB r with
                | false => exact isSet_row hr
                | true =>
                  cases r with
                  | tup cs => rw [isSet_eq, decide_eq_false h5]; rfl
                  | _ => cases hr
              rw [e2] at q
              rw [e1]
              walk_at "dv"
              exact q
        · have e := not_tup hp
          rw [isSet_p e] at q
          rw [e]
          walk_at "dv"
          exact q
    · rw [isSet_len h2] at q
      have e : (!decide ((ds.length : Int) = 2)) = true := by simp; omega
      rw [e]
      walk_at "dv"
      exact q
  · have e := not_tup ht
    rw [isSet_not e] at q
    walk_at "dv"
    rw [bw_tup hf, e]
    walk_at "dv"
    exact q
theorem ok_is_setting (t : Top K mg "is_setting" s_is_setting ["value"]) (C_is_table : DefOk P w K mg base "is_table" 4 3 T_is_table) (m_isinstance : mg "isinstance" = none) (m_len : mg "len" = none) (m_tuple : mg "tuple" = none) :
    DefOk P w K mg base "is_setting" 5 1 T_is_setting := (okT_is_setting t C_is_table m_isinstance m_len m_tuple).ok
def T_state_count : TF := fun ss μ P => ∃ (d : D) (n : Nat), ss = [.d d] ∧ (fit d ∧ WorldN n d) ∧ P (.int (n : Int)) μ
theorem mon_state_count : MonF T_state_count := fun ss μ P P' k ⟨a, b, e, h, q⟩ => ⟨a, b, e, h, k _ _ q⟩
theorem ok_state_count (t : Top K mg "state_count" s_state_count ["setting"]) (m_len : mg "len" = none) :
    DefOk P w K mg base "state_count" 1 1 T_state_count := by
  have nd := (sc_state_count).nd
  refine ok_defD (k := 0) t sc_state_count mon_state_count (fun f cdv A outer s H E hr =>
    (pds_one (pd_ret (pd_B call_len_seq snd_len mon_gA (by rfl) m_len bt_len (pda_cons (pd_ix ix_ok mon_gF snd_ix (fun _ _ => rfl) (pd_ix ix_ok mon_gF snd_ix (fun _ _ => rfl) (pd_var (pv 0)) pd_int) pd_int) pda_nil))))) ?_
  intro ss μ Q hl h
  obtain ⟨_, n, rfl, ⟨hf, hw, cs, rs, v, rfl, rfl⟩, q⟩ := h
  walk_at "dv"
  exact q
def T_check_setting : TF := fun ss μ P => ∃ d : D, ss = [.d d] ∧ (fit d ∧ isSetB d = true) ∧ P .non μ
theorem mon_check_setting : MonF T_check_setting := fun ss μ P P' k ⟨a, e, h, q⟩ => ⟨a, e, h, k _ _ q⟩
theorem ok_check_setting (t : Top K mg "check_setting" s_check_setting ["setting"]) (C_is_setting : DefOk P w K mg base "is_setting" 5 1 T_is_setting) :
    DefOk P w K mg base "check_setting" 6 1 T_check_setting := by
  have nd := (sc_check_setting).nd
  refine ok_defD (k := 5) t sc_check_setting mon_check_setting (fun f cdv A outer s H E hr =>
    (pds_one (pds_if (ptd_not (ptd_val (pd_callD C_is_setting (hr.mono (by decide)) (by rfl) (pda_cons (pd_var (pv 0)) pda_nil)))) (pds_one pds_never) pds_nil))) ?_
  intro ss μ Q hl h
  obtain ⟨d, rfl, ⟨hf, hw⟩, q⟩ := h
  walk_at "dv"
  refine ⟨d, rfl, hf, ?_⟩
  rw [hw]
  walk_at "dv"
  exact q
def T_check_belief : TF := fun ss μ P => ∃ (d : D) (n : Nat) (rs : List Rat), ss = [.d d, .d (rowD rs)] ∧ (fit d ∧ WorldN n d ∧ Bel rs n ∧ fit (rowD rs)) ∧ P .non μ
theorem mon_check_belief : MonF T_check_belief := fun ss μ P P' k ⟨a, b, c, e, h, q⟩ => ⟨a, b, c, e, h, k _ _ q⟩
theorem ok_check_belief (t : Top K mg "check_belief" s_check_belief ["setting", "belief"]) (C_is_row_of_chances : DefOk P w K mg base "is_row_of_chances" 4 2 T_is_row_of_chances) (C_state_count : DefOk P w K mg base "state_count" 1 1 T_state_count) :
    DefOk P w K mg base "check_belief" 5 2 T_check_belief := by
  have nd := (sc_check_belief).nd
  refine ok_defD (k := 4) t sc_check_belief mon_check_belief (fun f cdv A outer s H E hr =>
    (pds_one (pds_if (ptd_not (ptd_val (pd_callD C_is_row_of_chances (hr.mono (by decide)) (by rfl) (pda_cons (pd_var (pv 1)) (pda_cons (pd_callD C_state_count (hr.mono (by decide)) (by rfl) (pda_cons (pd_var (pv 0)) pda_nil)) pda_nil))))) (pds_one pds_never) pds_nil))) ?_
  intro ss μ Q hl h
  obtain ⟨d, n, rs, rfl, ⟨hf, hw, hb, hr⟩, q⟩ := h
  walk_at "dv"
  refine ⟨d, n, rfl, ⟨hf, hw⟩, ?_⟩
  walk_at "dv"
  refine ⟨rowD rs, n, rfl, ⟨hr, by have := hw.n2; omega, by have := hw.n2; omega⟩, ?_⟩
  rw [bel_isCh hb]
  walk_at "dv"
  exact q
def T_is_belief : TF := fun ss μ P => ∃ (d : D) (n : Nat) (x : D), ss = [.d d, .d x] ∧ (fit d ∧ WorldN n d ∧ fit x) ∧ P (.bl (isCh n x)) μ
theorem mon_is_belief : MonF T_is_belief := fun ss μ P P' k ⟨a, b, c, e, h, q⟩ => ⟨a, b, c, e, h, k _ _ q⟩
theorem okT_is_belief (t : Top K mg "is_belief" s_is_belief ["setting", "value"]) (C_check_setting : DefOk P w K mg base "check_setting" 6 1 T_check_setting) (C_is_row_of_chances : DefOk P w K mg base "is_row_of_chances" 4 2 T_is_row_of_chances) (C_state_count : DefOk P w K mg base "state_count" 1 1 T_state_count) :
    DefOkT P w K mg base "is_belief" s_is_belief ["setting", "value"] 7 T_is_belief := by
  have nd := (sc_is_belief).nd
  refine ok_defT (k := 6) t sc_is_belief mon_is_belief (fun f cdv A outer s H E hr =>
    (pds_cons (pds_expr (pd_callD C_check_setting (hr.mono (by decide)) (by rfl) (pda_cons (pd_var (pv 0)) pda_nil)))
      (pds_one (pd_ret (pd_callD C_is_row_of_chances (hr.mono (by decide)) (by rfl) (pda_cons (pd_var (pv 1)) (pda_cons (pd_callD C_state_count (hr.mono (by decide)) (by rfl) (pda_cons (pd_var (pv 0)) pda_nil)) pda_nil))))))) ?_
  intro ss μ Q hl h
  obtain ⟨d, n, x, rfl, ⟨hf, hw, hx⟩, q⟩ := h
  walk_at "dv"
  refine ⟨d, rfl, ⟨hf, hw.1⟩, ?_⟩
  walk_at "dv"
  refine ⟨d, n, rfl, ⟨hf, hw⟩, ?_⟩
  walk_at "dv"
  refine ⟨x, n, rfl, ⟨hx, by have := hw.n2; omega, by have := hw.n2; omega⟩, ?_⟩
  walk_at "dv"
  exact q
theorem ok_is_belief (t : Top K mg "is_belief" s_is_belief ["setting", "value"]) (C_check_setting : DefOk P w K mg base "check_setting" 6 1 T_check_setting) (C_is_row_of_chances : DefOk P w K mg base "is_row_of_chances" 4 2 T_is_row_of_chances) (C_state_count : DefOk P w K mg base "state_count" 1 1 T_state_count) :
    DefOk P w K mg base "is_belief" 7 2 T_is_belief := (okT_is_belief t C_check_setting C_is_row_of_chances C_state_count).ok
end K2

/-! part Q3 -/
set_option Elab.async false
set_option linter.all false
set_option maxRecDepth 100000
set_option autoImplicit false
set_option exponentiation.threshold 9000
set_option maxHeartbeats 1000000
namespace K2
open PySem PySem.Spec L2 DV
open PyProof.Rows (envOfC)
variable {P : Program} {w : World} {K : PySem.W.Frag} {mg : Str → Option Value} {base : Heap}

local macro_rules | `(tactic| walk_at "dv") => `(tactic| simp only [startR, cRepU, fIStar, fIZipG, fParDN, cInP, fInP, lstOf, fIns, fExt, fIsN, fIsNotN, isNonS, fAug, fAddW, fSubW, fGtW, fMul2, fModM, cAddW, cEqP, fEqP, fNeP, fInI, fIsiW, Option.bind_some, fRevT, fMk, fBare, fAtt, fIsX, fIsXT, fRaise, fRaise0, fTry, clD, suiteD, kNo, kBut, fXatt, fExprX, fCallX, kDX, gRepr2, cRepr2, datOf, errOf, kD, fin, fSeq, fNext, fDrop, fNRep, fNRg, fParN0, fPar3, fPar3N, fAsg, fRet, fIfS, fNever, fPar, fNew, fApp, fVar, fC, fOp, fTest, fTAnd, fTOr, fTNot, fVAnd, fVOr, fVNot, fNeg, fIf, fChain, fANil, fACons, fTup, fLst, fCB, fNLst, fOfN, fYes, fIsi, fONone, fOSome, fSl, sliceF,
  gF, gA, cI, fI, c0, cAdd, fAdd, fIx, cRepT, fRepT, fEq, fNe, fNotIn, intsOf, blsOf, allD, seqOf, tupOf, fLen, cA0, f1L, gSum, fTupleOf, fListOf, fA1, fA2, cDm, gN, gsNil_eq, gsCons_eq, gT_eq, gSb_eq, isB, itemsOf, fISeq, fIRng, fIEnum, fIZip, fIZipTL, fFor, fLc, wipeR, fCall, fCallK, fRetN, kN, fCallN, fCallOn, kwS, pick, gRepr, cRepr, List.filterMap_cons_some, List.filterMap_nil,
  List.map_cons, List.map_nil, List.length_cons, List.length_nil, List.replicate_succ, List.replicate_zero, List.cons_append, List.nil_append, List.append_nil, List.getElem?_cons_zero, List.getElem?_cons_succ, List.getElem?_nil, List.set_cons_zero, List.set_cons_succ, List.set_nil, List.take_succ_cons, List.take_zero, List.take_nil,
  Option.map_some, Option.map_none, Option.some.injEq, Option.get_some, exists_eq_left', exists_eq_left, exists_eq_right, true_and, and_true, if_true, if_false, reduceCtorEq, ite_true, ite_false, S.d.injEq, S.m.injEq, D.int.injEq, D.tup.injEq, D.lst.injEq, D.bl.injEq, D.str.injEq, List.cons.injEq, exists_and_left, exists_and_right,
  Nat.sub_zero, Nat.reduceSub, Nat.reduceAdd, Nat.zero_add, Nat.add_zero, Bool.not_true, Bool.not_false, Bool.false_eq_true, decide_eq_true_eq, Nat.reduceLT, Nat.reduceLeDiff, Nat.le_refl, List.take_length, Int.reduceLT, Int.reduceToNat, Nat.lt_irrefl, gt_iff_lt, Nat.not_lt_zero, Int.cast_ofNat_Int, decide_true, decide_false, and_assoc])

theorem z_sm {r : Rat} (h : Z 128 r) : Sm r := Z.mono h (by decide)
def T_is_row_less : TF := fun ss μ P => ∃ xs ys : List Rat, ss = [.d (rowD xs), .d (rowD ys)] ∧ ((∀ r ∈ xs, Z 128 r) ∧ ∀ r ∈ ys, Z 128 r) ∧ P (.bl (lexLt xs ys)) μ
theorem mon_is_row_less : MonF T_is_row_less := fun ss μ P P' k ⟨a, b, e, h, q⟩ => ⟨a, b, e, h, k _ _ q⟩
theorem ok_is_row_less (t : Top K mg "is_row_less" s_is_row_less ["row", "other"]) (C_is_less : DefOk P w K mg base "is_less" 1 2 T_is_less) (m_zip : mg "zip" = none) :
    DefOk P w K mg base "is_row_less" 2 2 T_is_row_less := by
  have nd := (sc_is_row_less).nd
  refine ok_defD (k := 1) t sc_is_row_less mon_is_row_less (fun f cdv A outer s H E hr =>
    (pds_cons (pds_for PassesOwn.never rfl (pdi_zipG (by rfl) m_zip (pda_cons (pd_var (pv 0)) (pda_cons (pd_var (pv 1)) pda_nil))) (pdg_tup (n := 2) rfl (pdgs_cons (pdg_name (pg_name (i := 2) nd rfl (by first | exact Or.inl rfl | exact Or.inr rfl))) (pdgs_cons (pdg_name (pg_name (i := 3) nd rfl (by first | exact Or.inl rfl | exact Or.inr rfl))) pdgs_nil))) (pds_one (pds_if (ptd_cmp (op_neD hr.units) mon_gF snd_neP (nomark _) (pd_var (pv 2)) (pd_var (pv 3))) (pds_one (pd_ret (pd_callD C_is_less (hr.mono (by decide)) (by rfl) (pda_cons (pd_var (pv 2)) (pda_cons (pd_var (pv 3)) pda_nil))))) pds_nil)))
      (pds_one (pd_ret pd_bl)))) ?_
  intro ss μ Q hl h
  obtain ⟨xs, ys, rfl, ⟨h2, h3⟩, q⟩ := h
  have key : ∀ (us vs : List Rat) (s2 s3 : Option S) (k : K4), (∀ r ∈ us, Z 128 r) → (∀ r ∈ vs, Z 128 r) → (lexLt us vs = false → ∀ s2 s3, k.nx [some (.d (rowD xs)), some (.d (rowD ys)), s2, s3] μ) → (k.rt (.d (.bl (lexLt us vs))) μ) →
      loopS (gT 2 (gsCons (gN 2) (gsCons (gN 3) gsNil))) (fIfS (fTest (fOp (gF cEqP fNeP) (fVar 2) (fVar 3))) (fRet (fCall 2 T_is_less (fACons (fVar 2) (fACons (fVar 3) fANil)))) fNext) (fun μ' => True) (zipD (us.map frD) (vs.map frD)) [some (.d (rowD xs)), some (.d (rowD ys)), s2, s3] μ k := by
    intro us
    induction us with
    | nil => intro vs s2 s3 k _ _ hk _; exact ⟨trivial, hk rfl _ _⟩
    | cons x us ih =>
      intro vs s2 s3 k hx hy hk hr
      cases vs with
      | nil => exact ⟨trivial, hk rfl _ _⟩
      | cons y vs =>
        have zx := hx x (by simp)
        have zy := hy y (by simp)
        refine ⟨trivial, ?_⟩
        walk_at "dv"
        refine ⟨fun _ e => e ▸ (sh_fr x).shaped (by decide), fun _ e => e ▸ (sh_fr y).shaped (by decide), ?_⟩
        rw [eqv_fr]
        simp only [lexLt] at hk hr
        by_cases e : x = y
        · rw [if_pos e] at hk hr
          rw [decide_eq_true e]
          walk_at "dv"
          exact ih vs _ _ k (fun r hr => hx r (List.mem_cons_of_mem _ hr)) (fun r hr => hy r (List.mem_cons_of_mem _ hr)) hk hr
        · rw [if_neg e] at hk hr
          rw [decide_eq_false e]
          walk_at "dv"
          exact ⟨x, y, rfl, ⟨z_sm zx, z_sm zy⟩, hr⟩
  unfold rowD
  walk_at "dv"
  refine key xs ys none none _ h2 h3 (fun e s2 s3 => ?_) ?_
  · walk_at "dv"
    rw [e] at q
    exact q
  · walk_at "dv"
    exact q
def T__law_row_below : TF := fun ss μ P => ∃ xs ys : List Rat, ss = [.d (rowD xs), .d (rowD ys)] ∧ ((∀ r ∈ xs, Z 128 r) ∧ ∀ r ∈ ys, Z 128 r) ∧ P (.bl (lexLt xs ys)) μ
theorem mon__law_row_below : MonF T__law_row_below := fun ss μ P P' k ⟨a, b, e, h, q⟩ => ⟨a, b, e, h, k _ _ q⟩
theorem ok__law_row_below (t : Top K mg "_law_row_below" s__law_row_below ["one", "two"]) (C__law_below : DefOk P w K mg base "_law_below" 1 2 T__law_below) (m_zip : mg "zip" = none) :
    DefOk P w K mg base "_law_row_below" 2 2 T__law_row_below := by
  have nd := (sc__law_row_below).nd
  refine ok_defD (k := 1) t sc__law_row_below mon__law_row_below (fun f cdv A outer s H E hr =>
    (pds_cons (pds_for PassesOwn.never rfl (pdi_zipG (by rfl) m_zip (pda_cons (pd_var (pv 0)) (pda_cons (pd_var (pv 1)) pda_nil))) (pdg_tup (n := 2) rfl (pdgs_cons (pdg_name (pg_name (i := 2) nd rfl (by first | exact Or.inl rfl | exact Or.inr rfl))) (pdgs_cons (pdg_name (pg_name (i := 3) nd rfl (by first | exact Or.inl rfl | exact Or.inr rfl))) pdgs_nil))) (pds_one (pds_if (ptd_cmp (op_neD hr.units) mon_gF snd_neP (nomark _) (pd_var (pv 2)) (pd_var (pv 3))) (pds_one (pd_ret (pd_callD C__law_below (hr.mono (by decide)) (by rfl) (pda_cons (pd_var (pv 2)) (pda_cons (pd_var (pv 3)) pda_nil))))) pds_nil)))
      (pds_one (pd_ret pd_bl)))) ?_
  intro ss μ Q hl h
  obtain ⟨xs, ys, rfl, ⟨h2, h3⟩, q⟩ := h
  have key : ∀ (us vs : List Rat) (s2 s3 : Option S) (k : K4), (∀ r ∈ us, Z 128 r) → (∀ r ∈ vs, Z 128 r) → (lexLt us vs = false → ∀ s2 s3, k.nx [some (.d (rowD xs)), some (.d (rowD ys)), s2, s3] μ) → (k.rt (.d (.bl (lexLt us vs))) μ) →
      loopS (gT 2 (gsCons (gN 2) (gsCons (gN 3) gsNil))) (fIfS (fTest (fOp (gF cEqP fNeP) (fVar 2) (fVar 3))) (fRet (fCall 2 T__law_below (fACons (fVar 2) (fACons (fVar 3) fANil)))) fNext) (fun μ' => True) (zipD (us.map frD) (vs.map frD)) [some (.d (rowD xs)), some (.d (rowD ys)), s2, s3] μ k := by
    intro us
    induction us with
    | nil => intro vs s2 s3 k _ _ hk _; exact ⟨trivial, hk rfl _ _⟩
    | cons x us ih =>
      intro vs s2 s3 k hx hy hk hr
      cases vs with
      | nil => exact ⟨trivial, hk rfl _ _⟩
      | cons y vs =>
        have zx := hx x (by simp)
        have zy := hy y (by simp)
        refine ⟨trivial, ?_⟩
        walk_at "dv"
        refine ⟨fun _ e => e ▸ (sh_fr x).shaped (by decide), fun _ e => e ▸ (sh_fr y).shaped (by decide), ?_⟩
        rw [eqv_fr]
        simp only [lexLt] at hk hr
        by_cases e : x = y
        · rw [if_pos e] at hk hr
          rw [decide_eq_true e]
          walk_at "dv"
          exact ih vs _ _ k (fun r hr => hx r (List.mem_cons_of_mem _ hr)) (fun r hr => hy r (List.mem_cons_of_mem _ hr)) hk hr
        · rw [if_neg e] at hk hr
          rw [decide_eq_false e]
          walk_at "dv"
          exact ⟨x, y, rfl, ⟨z_sm zx, z_sm zy⟩, hr⟩
  unfold rowD
  walk_at "dv"
  refine key xs ys none none _ h2 h3 (fun e s2 s3 => ?_) ?_
  · walk_at "dv"
    rw [e] at q
    exact q
  · walk_at "dv"
    exact q
end K2

/-! part Q4 -/
set_option Elab.async false
set_option linter.all false
set_option maxRecDepth 100000
set_option autoImplicit false
set_option exponentiation.threshold 9000
set_option maxHeartbeats 1000000
namespace K2
open PySem PySem.Spec L2 DV
open PyProof.Rows (envOfC)
variable {P : Program} {w : World} {K : PySem.W.Frag} {mg : Str → Option Value} {base : Heap}

local macro_rules | `(tactic| walk_at "dv") => `(tactic| simp only [startR, cRepU, fIStar, fIZipG, fParDN, cInP, fInP, lstOf, fIns, fExt, fIsN, fIsNotN, isNonS, fAug, fAddW, fSubW, fGtW, fMul2, fModM, cAddW, cEqP, fEqP, fNeP, fInI, fIsiW, Option.bind_some, fRevT, fMk, fBare, fAtt, fIsX, fIsXT, fRaise, fRaise0, fTry, clD, suiteD, kNo, kBut, fXatt, fExprX, fCallX, kDX, gRepr2, cRepr2, datOf, errOf, kD, fin, fSeq, fNext, fDrop, fNRep, fNRg, fParN0, fPar3, fPar3N, fAsg, fRet, fIfS, fNever, fPar, fNew, fApp, fVar, fC, fOp, fTest, fTAnd, fTOr, fTNot, fVAnd, fVOr, fVNot, fNeg, fIf, fChain, fANil, fACons, fTup, fLst, fCB, fNLst, fOfN, fYes, fIsi, fONone, fOSome, fSl, sliceF,
  gF, gA, cI, fI, c0, cAdd, fAdd, fIx, cRepT, fRepT, fEq, fNe, fNotIn, intsOf, blsOf, allD, seqOf, tupOf, fLen, cA0, f1L, gSum, fTupleOf, fListOf, fA1, fA2, cDm, gN, gsNil_eq, gsCons_eq, gT_eq, gSb_eq, isB, itemsOf, fISeq, fIRng, fIEnum, fIZip, fIZipTL, fFor, fLc, wipeR, fCall, fCallK, fRetN, kN, fCallN, fCallOn, kwS, pick, gRepr, cRepr, List.filterMap_cons_some, List.filterMap_nil,
  List.map_cons, List.map_nil, List.length_cons, List.length_nil, List.replicate_succ, List.replicate_zero, List.cons_append, List.nil_append, List.append_nil, List.getElem?_cons_zero, List.getElem?_cons_succ, List.getElem?_nil, List.set_cons_zero, List.set_cons_succ, List.set_nil, List.take_succ_cons, List.take_zero, List.take_nil,
  Option.map_some, Option.map_none, Option.some.injEq, Option.get_some, exists_eq_left', exists_eq_left, exists_eq_right, true_and, and_true, if_true, if_false, reduceCtorEq, ite_true, ite_false, S.d.injEq, S.m.injEq, D.int.injEq, D.tup.injEq, D.lst.injEq, D.bl.injEq, D.str.injEq, List.cons.injEq, exists_and_left, exists_and_right,
  Nat.sub_zero, Nat.reduceSub, Nat.reduceAdd, Nat.zero_add, Nat.add_zero, Bool.not_true, Bool.not_false, Bool.false_eq_true, decide_eq_true_eq, Nat.reduceLT, Nat.reduceLeDiff, Nat.le_refl, List.take_length, Int.reduceLT, Int.reduceToNat, Nat.lt_irrefl, gt_iff_lt, Nat.not_lt_zero, Int.cast_ofNat_Int, decide_true, decide_false, and_assoc])

theorem zipD_map {α β : Type} (f : α → D) (g : β → D) : ∀ (as : List α) (bs : List β), zipD (as.map f) (bs.map g) = (as.zip bs).map fun p => .tup [f p.1, g p.2]
  | [], bs => by cases bs <;> rfl
  | a :: as, [] => rfl
  | a :: as, b :: bs => by
    rw [List.map_cons, List.map_cons, List.zip_cons_cons, List.map_cons]
    simp only [zipD]
    rw [zipD_map f g as bs]
theorem cut_one (ds : List D) : cutD ds (some 1) none = ds.drop 1 := by
  cases ds with
  | nil => rfl
  | cons d ds =>
    unfold cutD HT.sIx
    simp
theorem asc_all : ∀ bs : List (List Rat), (bs.zip (bs.drop 1)).all (fun p => lexLt p.1 p.2) = ascB bs
  | [] => rfl
  | [a] => rfl
  | a :: b :: r => by
    have := asc_all (b :: r)
    simp only [List.drop_succ_cons, List.drop_zero] at this ⊢
    rw [List.zip_cons_cons, List.all_cons, this]
    rfl
theorem col_fr {bs : List (List Rat)} {n i : Nat} (h : ∀ b ∈ bs, b.length = n) (hi : i < n) : D.tup (colD (bs.map fun b => b.map frD) i) = rowD (colR bs i) := by
  unfold colD rowD colR
  rw [List.map_map, List.map_map]
  congr 1
  apply List.map_congr_left
  intro b hb
  have := h b hb
  simp only [Function.comp_apply, List.getD_eq_getElem?_getD, List.getElem?_map]
  rw [List.getElem?_eq_getElem (by omega)]
  rfl
theorem cols_fr {bs : List (List Rat)} {n : Nat} (h : ∀ b ∈ bs, b.length = n) : colsD n (bs.map fun b => b.map frD) = (List.range n).map fun i => rowD (colR bs i) := by
  unfold colsD
  apply List.map_congr_left
  intro i hi
  exact col_fr h (List.mem_range.mp hi)
theorem z_nil : Z 128 0 := by constructor <;> decide
theorem col_z {bs : List (List Rat)} {i : Nat} (h : ∀ b ∈ bs, ∀ r ∈ b, Z 128 r) : ∀ r ∈ colR bs i, Z 128 r := fun r hr => by
  unfold colR at hr
  obtain ⟨b, hb, rfl⟩ := List.mem_map.mp hr
  rw [List.getD_eq_getElem?_getD]
  cases e : b[i]? with
  | none => exact z_nil
  | some x => exact h b hb x (List.mem_of_getElem? e)
def T_are_ascending : TF := fun ss μ P => ∃ bs : List (List Rat), ss = [.d (.lst (bs.map rowD))] ∧ (bs.length ≤ 1000 ∧ ∀ b ∈ bs, ∀ r ∈ b, Z 128 r) ∧ P (.bl (ascB bs)) μ
theorem mon_are_ascending : MonF T_are_ascending := fun ss μ P P' k ⟨a, e, h, q⟩ => ⟨a, e, h, k _ _ q⟩
theorem ok_are_ascending (t : Top K mg "are_ascending" s_are_ascending ["rows"]) (C_is_row_less : DefOk P w K mg base "is_row_less" 2 2 T_is_row_less) (m_all : mg "all" = none) (m_zip : mg "zip" = none) :
    DefOk P w K mg base "are_ascending" 3 1 T_are_ascending := by
  have nd := (sc_are_ascending).nd
  refine ok_defD (k := 2) t sc_are_ascending mon_are_ascending (fun f cdv A outer s H E hr =>
    (pds_one (pd_ret (pd_B (cr_all rfl) snd_all mon_gA (by rfl) m_all bt_all (pda_cons (pd_of_N (pdn_lc (own := [("row", 1), ("other", 2)]) rfl nd (pdi_zipG (by rfl) m_zip (pda_cons (pd_var (pv 0)) (pda_cons (pd_slice (pd_var (pv 0)) (pdo_some pd_int) pdo_none) pda_nil))) (blkOk_by (N := N_are_ascending) (sc := defScope s_are_ascending) (by decide +kernel)) (fun _ _ _ _ _ => (pdg_tup (n := 2) rfl (pdgs_cons (pdg_name (pg_name (i := 1) nd rfl (by first | exact Or.inl rfl | exact Or.inr rfl))) (pdgs_cons (pdg_name (pg_name (i := 2) nd rfl (by first | exact Or.inl rfl | exact Or.inr rfl))) pdgs_nil)))) (fun _ _ _ _ _ => pdts_nil) (fun _ _ _ _ _ => (pd_callD C_is_row_less (hr.mono (by decide)) (by rfl) (pda_cons (pd_var (pv 1)) (pda_cons (pd_var (pv 2)) pda_nil)))) (by decide))) pda_nil))))) ?_
  intro ss μ Q hl h
  obtain ⟨bs, rfl, ⟨h1, h2⟩, q⟩ := h
  walk_at "dv"
  rw [cut_one, ← List.map_drop, zipD_map]
  refine lc_map (fun p : List Rat × List Rat => D.tup [rowD p.1, rowD p.2]) (fun p => .bl (lexLt p.1 p.2)) μ (fun _ => trivial) _ _ (fun p hp acc P P2 h => ?_) (by rw [List.length_zip]; omega) ?_
  · walk_at "dv"
    refine ⟨p.1, p.2, rfl, ⟨h2 _ (List.of_mem_zip hp).1, h2 _ (List.mem_of_mem_drop (List.of_mem_zip hp).2)⟩, h⟩
  · rw [all_bl, asc_all]
    walk_at "dv"
    exact q
def T_row_mix : TF := fun ss μ P => ∃ (ws : List Rat) (bs : List (List Rat)) (n : Nat), ss = [.d (rowL ws), .d (.lst (bs.map rowD))] ∧ (ws.length ≤ 8 ∧ bs.length ≤ 8 ∧ n ≤ 100 ∧ (∀ b ∈ bs, b.length = n) ∧ (∀ r ∈ ws, Z 128 r) ∧ ∀ b ∈ bs, ∀ r ∈ b, Z 128 r) ∧ P (rowD (mixR n ws bs)) μ
theorem mon_row_mix : MonF T_row_mix := fun ss μ P P' k ⟨a, b, c, e, h, q⟩ => ⟨a, b, c, e, h, k _ _ q⟩
theorem ok_row_mix (t : Top K mg "row_mix" s_row_mix ["shares", "rows"]) (C_row_product : DefOk P w K mg base "row_product" 2 2 T_row_product) (m_tuple : mg "tuple" = none) (m_zip : mg "zip" = none) :
    DefOk P w K mg base "row_mix" 3 2 T_row_mix := by
  have nd := (sc_row_mix).nd
  refine ok_defD (k := 2) t sc_row_mix mon_row_mix (fun f cdv A outer s H E hr =>
    (pds_one (pd_ret (pd_Ty call_tuple_of snd_tupleOf mon_gA (by rfl) m_tuple bt_tuple (pda_cons (pd_of_N (pdn_lc (own := [("column", 2)]) rfl nd (pdi_star (by rfl) m_zip (pd_var (pv 1))) (blkOk_by (N := N_row_mix) (sc := defScope s_row_mix) (by decide +kernel)) (fun _ _ _ _ _ => (pdg_name (pg_name (i := 2) nd rfl (by first | exact Or.inl rfl | exact Or.inr rfl)))) (fun _ _ _ _ _ => pdts_nil) (fun _ _ _ _ _ => (pd_callD C_row_product (hr.mono (by decide)) (by rfl) (pda_cons (pd_var (pv 0)) (pda_cons (pd_var (pv 2)) pda_nil)))) (by decide))) pda_nil))))) ?_
  intro ss μ Q hl h
  obtain ⟨ws, bs, n, rfl, ⟨h1, h2, hn, h3, h4, h5⟩, q⟩ := h
  walk_at "dv"
  refine ⟨bs.map fun b => b.map frD, ?_, by simpa using h2, if bs = [] then 0 else n, fun e => ?_, fun r hr => ?_, ?_⟩
  · rw [List.map_map]; rfl
  · have : bs = [] := by simpa using e
    rw [if_pos this]
  · obtain ⟨b, hb, rfl⟩ := List.mem_map.mp hr
    rw [if_neg (fun e => by rw [e] at hb; cases hb), List.length_map]
    exact h3 b hb
  · have e : colsD (if bs = [] then 0 else n) (bs.map fun b => b.map frD) = (List.range (if bs = [] then 0 else n)).map fun i => rowD (colR bs i) := by
      by_cases hb : bs = []
      · rw [if_pos hb]; rfl
      · rw [if_neg hb]; exact cols_fr h3
    rw [e]
    refine lc_map (fun i => rowD (colR bs i)) (fun i => frD (dotR ws (colR bs i))) μ (fun _ => trivial) _ _ (fun i hi acc P P2 h => ?_) (by rw [List.length_range]; split <;> omega) ?_
    · walk_at "dv"
      exact ⟨ws, colR bs i, .inr rfl, ⟨h1, h4, col_z h5⟩, h⟩
    · walk_at "dv"
      have e2 : rowD (mixR n ws bs) = .tup ((List.range (if bs = [] then 0 else n)).map fun i => frD (dotR ws (colR bs i))) := by
        unfold mixR rowD
        by_cases hb : bs = []
        · rw [if_pos hb, if_pos hb]; rfl
        · rw [if_neg hb, if_neg hb, List.map_map]; rfl
      rw [e2] at q
      exact q
def T_mean_of : TF := fun ss μ P => ∃ (ps : List (Rat × List Rat)) (n : Nat), ss = [.d (.tup (ps.map partD))] ∧ (ps.length ≤ 8 ∧ n ≤ 100 ∧ (∀ p ∈ ps, p.2.length = n) ∧ (∀ p ∈ ps, ZP 128 p)) ∧ P (rowD (mixR n (ps.map (·.1)) (ps.map (·.2)))) μ
theorem mon_mean_of : MonF T_mean_of := fun ss μ P P' k ⟨a, b, e, h, q⟩ => ⟨a, b, e, h, k _ _ q⟩
theorem ok_mean_of (t : Top K mg "mean_of" s_mean_of ["split"]) (C_row_mix : DefOk P w K mg base "row_mix" 3 2 T_row_mix) :
    DefOk P w K mg base "mean_of" 4 1 T_mean_of := by
  have nd := (sc_mean_of).nd
  refine ok_defD (k := 3) t sc_mean_of mon_mean_of (fun f cdv A outer s H E hr =>
    (pds_one (pd_ret (pd_callD C_row_mix (hr.mono (by decide)) (by rfl) (pda_cons (pd_of_N (pdn_lc (own := [("weight", 1), ("_", 2)]) rfl nd (pdi_seq (pd_var (pv 0))) (blkOk_by (N := N_mean_of) (sc := defScope s_mean_of) (by decide +kernel)) (fun _ _ _ _ _ => (pdg_tup (n := 2) rfl (pdgs_cons (pdg_name (pg_name (i := 1) nd rfl (by first | exact Or.inl rfl | exact Or.inr rfl))) (pdgs_cons (pdg_name (pg_name (i := 2) nd rfl (by first | exact Or.inl rfl | exact Or.inr rfl))) pdgs_nil)))) (fun _ _ _ _ _ => pdts_nil) (fun _ _ _ _ _ => (pd_var (pv 1))) (by decide))) (pda_cons (pd_of_N (pdn_lc (own := [("_", 2), ("belief", 3)]) rfl nd (pdi_seq (pd_var (pv 0))) (blkOk_by (N := N_mean_of) (sc := defScope s_mean_of) (by decide +kernel)) (fun _ _ _ _ _ => (pdg_tup (n := 2) rfl (pdgs_cons (pdg_name (pg_name (i := 2) nd rfl (by first | exact Or.inl rfl | exact Or.inr rfl))) (pdgs_cons (pdg_name (pg_name (i := 3) nd rfl (by first | exact Or.inl rfl | exact Or.inr rfl))) pdgs_nil)))) (fun _ _ _ _ _ => pdts_nil) (fun _ _ _ _ _ => (pd_var (pv 3))) (by decide))) pda_nil)))))) ?_
  intro ss μ Q hl h
  obtain ⟨ps, n, rfl, ⟨h1, hn, h3, h4⟩, q⟩ := h
  walk_at "dv"
  refine lc_map partD (fun p => frD p.1) μ (fun _ => trivial) _ _ (fun p hp acc P P2 h => ?_) (by omega) ?_
  · unfold partD
    walk_at "dv"
    exact h
  refine lc_map partD (fun p => rowD p.2) μ (fun _ => trivial) _ _ (fun p hp acc P P2 h => ?_) (by omega) ?_
  · unfold partD
    walk_at "dv"
    exact h
  refine ⟨ps.map (·.1), ps.map (·.2), n, ?_, ⟨by simpa using h1, by simpa using h1, hn, fun b hb => ?_, fun r hr => ?_, fun b hb r hr => ?_⟩, ?_⟩
  · unfold rowL
    rw [List.map_map, List.map_map]
    rfl
  · obtain ⟨p, hp, rfl⟩ := List.mem_map.mp hb
    exact h3 p hp
  · obtain ⟨p, hp, rfl⟩ := List.mem_map.mp hr
    exact (h4 p hp).1
  · obtain ⟨p, hp, rfl⟩ := List.mem_map.mp hb
    exact (h4 p hp).2 r hr
  · walk_at "dv"
    exact q
def T_is_part : TF := fun ss μ P => ∃ (d : D) (n : Nat), ss = [.d d, .d (.int (n : Int))] ∧ (fit d ∧ 1 ≤ n ∧ n ≤ 8) ∧ P (.bl (isPartB n d)) μ
theorem mon_is_part : MonF T_is_part := fun ss μ P P' k ⟨a, b, e, h, q⟩ => ⟨a, b, e, h, k _ _ q⟩
theorem ok_is_part (t : Top K mg "is_part" s_is_part ["value", "states"]) (C_is_fraction : DefOk P w K mg base "is_fraction" 2 1 T_is_fraction) (C_is_row_of_chances : DefOk P w K mg base "is_row_of_chances" 4 2 T_is_row_of_chances) (m_isinstance : mg "isinstance" = none) (m_len : mg "len" = none) (m_tuple : mg "tuple" = none) :
    DefOk P w K mg base "is_part" 5 2 T_is_part := by
  have nd := (sc_is_part).nd
  refine ok_defD (k := 4) t sc_is_part mon_is_part (fun f cdv A outer s H E hr =>
    (pds_cons (pds_if (ptd_w (pdw_or (ptd_not (ptd_val (pd_isiW (T := "tuple") (pd_var (pv 0)) (by rfl) m_isinstance (by rfl) m_tuple bt_tuple (by decide) (by decide)))) (pdw_or1 (ptd_cmp op_ne mon_gF snd_ne (nomark _) (pd_B call_len_seq snd_len mon_gA (by rfl) m_len bt_len (pda_cons (pd_var (pv 0)) pda_nil)) pd_int)))) (pds_one (pd_ret pd_bl)) pds_nil)
      (pds_cons (pds_asg (pd_var (pv 0)) (pdg_tup (n := 2) rfl (pdgs_cons (pdg_name (pg_name (i := 2) nd rfl (by first | exact Or.inl rfl | exact Or.inr rfl))) (pdgs_cons (pdg_name (pg_name (i := 3) nd rfl (by first | exact Or.inl rfl | exact Or.inr rfl))) pdgs_nil))))
      (pds_one (pd_ret (pd_and (pd_callD C_is_fraction (hr.mono (by decide)) (by rfl) (pda_cons (pd_var (pv 2)) pda_nil)) (pd_and (pd_cmp op_gt mon_gF snd_B0 (nomark _) (pd_ix ix_ok mon_gF snd_ix (fun _ _ => rfl) (pd_var (pv 2)) pd_int) pd_int) (pd_one (pd_callD C_is_row_of_chances (hr.mono (by decide)) (by rfl) (pda_cons (pd_var (pv 3)) (pda_cons (pd_var (pv 1)) pda_nil))))))))))) ?_
  intro ss μ Q hl h
  obtain ⟨d, n, rfl, ⟨hf, hn0, hn⟩, q⟩ := h
  by_cases ht : ∃ ds, d = .tup ds
  · obtain ⟨ds, rfl⟩ := ht
    have fa := fitA_iff.mp hf.2
    walk_at "dv"
    rw [bw_tup hf]
    simp only [isTupB]
    walk_at "dv"
    by_cases h2 : ds.length = 2
    · match ds, h2 with
      | [u, b], _ =>
        have fu := fa u (by simp)
        have fb := fa b (by simp)
        change Q (.bl (isFr u && decide (0 < ((decFr u).getD 0).num) && isCh n b)) μ at q
        walk_at "dv"
        refine ⟨u, rfl, fu, ?_⟩
        walk_at "dv"
        cases e : isFr u with
        | false => rw [e] at q; walk_at "dv"; exact q
        | true =>
          obtain ⟨r, rfl⟩ := isFr_some e
          rw [decFr_frD, isFr_frD] at q
          change Q (.bl (true && decide (0 < r.num) && isCh n b)) μ at q
          unfold frD
          walk_at "dv"
          by_cases hr : 0 < r.num
          · rw [decide_eq_true hr] at q
            rw [if_pos hr]
            refine ⟨b, n, rfl, ⟨fb, hn0, hn⟩, ?_⟩
            walk_at "dv"
            exact q
          · rw [decide_eq_false hr] at q
            rw [if_neg hr]
            exact q
    · have e : (!decide ((ds.length : Int) = 2)) = true := by simp; omega
      have e2 : isPartB n (.tup ds) = false := by
        cases e : isPartB n (.tup ds) with
        | false => rfl
        | true =>
          obtain ⟨p, hp, _⟩ := isPart_part e
          injection hp with hp
          rw [hp] at h2
          exact absurd rfl h2
      rw [e2] at q
      rw [e]
      walk_at "dv"
      exact q
  · have e := not_tup ht
    have e2 : isPartB n d = false := by
      cases d <;> first | rfl | cases e
    rw [e2] at q
    walk_at "dv"
    rw [bw_tup hf, e]
    walk_at "dv"
    exact q
theorem all_part {n : Nat} {ps : List (Rat × List Rat)} (h : ∀ p ∈ ps, Part n p) : (ps.map partD).all (isPartB n) = true := by
  rw [List.all_map, List.all_eq_true]
  exact fun p hp => part_isPart (h p hp)
theorem isSpl_not {st : List Rat} {d : D} (h : isTupB d = false) : isSplB st d = false := by
  cases d <;> first | rfl | cases h
theorem isExp_not {n : Nat} {d : D} (h : isTupB d = false) : isExpB n d = false := by
  cases d <;> first | rfl | cases h
def T_is_split_for : TF := fun ss μ P => ∃ (st : List Rat) (d : D), ss = [.d (rowD st), .d d] ∧ (fit d ∧ tl d ≤ 8 ∧ 1 ≤ st.length ∧ st.length ≤ 8) ∧ P (.bl (isSplB st d)) μ
theorem mon_is_split_for : MonF T_is_split_for := fun ss μ P P' k ⟨a, b, e, h, q⟩ => ⟨a, b, e, h, k _ _ q⟩
theorem ok_is_split_for (t : Top K mg "is_split_for" s_is_split_for ["prior", "value"]) (C_are_ascending : DefOk P w K mg base "are_ascending" 3 1 T_are_ascending) (C_is_part : DefOk P w K mg base "is_part" 5 2 T_is_part) (C_mean_of : DefOk P w K mg base "mean_of" 4 1 T_mean_of) (m_all : mg "all" = none) (m_isinstance : mg "isinstance" = none) (m_len : mg "len" = none) (m_tuple : mg "tuple" = none) :
    DefOk P w K mg base "is_split_for" 6 2 T_is_split_for := by
  have nd := (sc_is_split_for).nd
  refine ok_defD (k := 5) t sc_is_split_for mon_is_split_for (fun f cdv A outer s H E hr =>
    (pds_cons (pds_if (ptd_not (ptd_val (pd_isiW (T := "tuple") (pd_var (pv 1)) (by rfl) m_isinstance (by rfl) m_tuple bt_tuple (by decide) (by decide)))) (pds_one (pd_ret pd_bl)) pds_nil)
      (pds_cons (pds_if (ptd_not (ptd_val (pd_B (cr_all rfl) snd_all mon_gA (by rfl) m_all bt_all (pda_cons (pd_of_N (pdn_lc (own := [("part", 2)]) rfl nd (pdi_seq (pd_var (pv 1))) (blkOk_by (N := N_is_split_for) (sc := defScope s_is_split_for) (by decide +kernel)) (fun _ _ _ _ _ => (pdg_name (pg_name (i := 2) nd rfl (by first | exact Or.inl rfl | exact Or.inr rfl)))) (fun _ _ _ _ _ => pdts_nil) (fun _ _ _ _ _ => (pd_callD C_is_part (hr.mono (by decide)) (by rfl) (pda_cons (pd_var (pv 2)) (pda_cons (pd_B call_len_seq snd_len mon_gA (by rfl) m_len bt_len (pda_cons (pd_var (pv 0)) pda_nil)) pda_nil)))) (by decide))) pda_nil)))) (pds_one (pd_ret pd_bl)) pds_nil)
      (pds_one (pd_ret (pd_and (pd_callD C_are_ascending (hr.mono (by decide)) (by rfl) (pda_cons (pd_of_N (pdn_lc (own := [("_", 3), ("belief", 4)]) rfl nd (pdi_seq (pd_var (pv 1))) (blkOk_by (N := N_is_split_for) (sc := defScope s_is_split_for) (by decide +kernel)) (fun _ _ _ _ _ => (pdg_tup (n := 2) rfl (pdgs_cons (pdg_name (pg_name (i := 3) nd rfl (by first | exact Or.inl rfl | exact Or.inr rfl))) (pdgs_cons (pdg_name (pg_name (i := 4) nd rfl (by first | exact Or.inl rfl | exact Or.inr rfl))) pdgs_nil)))) (fun _ _ _ _ _ => pdts_nil) (fun _ _ _ _ _ => (pd_var (pv 4))) (by decide))) pda_nil)) (pd_one (pd_cmp (op_eqD hr.units) mon_gF snd_eqP (nomark _) (pd_callD C_mean_of (hr.mono (by decide)) (by rfl) (pda_cons (pd_var (pv 1)) pda_nil)) (pd_var (pv 0)))))))))) ?_
  intro ss μ Q hl h
  obtain ⟨st, d, rfl, ⟨hf, ht8, hn0, hn⟩, q⟩ := h
  by_cases ht : ∃ ds, d = .tup ds
  · obtain ⟨ds, rfl⟩ := ht
    have fa := fitA_iff.mp hf.2
    have hl8 : ds.length ≤ 8 := ht8
    change Q (.bl (ds.all (isPartB st.length) && (ascB (ds.map bOf) && decide (mixR st.length (ds.map wOf) (ds.map bOf) = st)))) μ at q
    unfold rowD
    walk_at "dv"
    rw [bw_tup hf]
    simp only [isTupB]
    walk_at "dv"
    refine lc_all (fun d => .bl (isPartB st.length d)) μ (fun _ => trivial) ds _ (fun a ha acc P P2 k => ?_) (by omega) ?_
    · walk_at "dv"
      rw [List.length_map]
      exact ⟨a, st.length, rfl, ⟨fa a ha, hn0, hn⟩, k⟩
    · rw [all_bl]
      walk_at "dv"
      cases e : ds.all (isPartB st.length) with
      | false => rw [e] at q; walk_at "dv"; exact q
      | true =>
        obtain ⟨ps, rfl, hp⟩ := parts_of e
        rw [e, map_wOf, map_bOf] at q
        have zp : ∀ p ∈ ps, ZP 128 p := fun p hp => part_fit (fa _ (List.mem_map_of_mem hp))
        rw [List.length_map] at hl8
        walk_at "dv"
        refine lc_map partD (fun p => rowD p.2) μ (fun _ => trivial) _ _ (fun p hp acc P P2 h => ?_) (by omega) ?_
        · unfold partD
          walk_at "dv"
          exact h
        refine ⟨ps.map (·.2), ?_, ⟨by rw [List.length_map]; omega, fun b hb r hr => ?_⟩, ?_⟩
        · rw [List.map_map]; rfl
        · obtain ⟨p, hp, rfl⟩ := List.mem_map.mp hb
          exact (zp p hp).2 r hr
        · walk_at "dv"
          cases e2 : ascB (ps.map (·.2)) with
          | false => rw [e2] at q; walk_at "dv"; exact q
          | true =>
            rw [e2] at q
            walk_at "dv"
            refine ⟨ps, st.length, rfl, ⟨hl8, by omega, fun p h => (hp p h).bel.len, zp⟩, ?_⟩
            walk_at "dv"
            refine ⟨fun _ e => e ▸ (sh_row _).shaped (by decide), fun _ e => e ▸ (sh_row st).shaped (by decide), ?_⟩
            rw [show D.tup (st.map frD) = rowD st from rfl, eqv_row]
            exact q
  · have e := not_tup ht
    rw [isSpl_not e] at q
    walk_at "dv"
    rw [bw_tup hf, e]
    walk_at "dv"
    exact q
def T_is_split : TF := fun ss μ P => ∃ (c : D) (n : Nat) (st : List Rat) (d : D), ss = [.d c, .d (rowD st), .d d] ∧ (fit c ∧ WorldN n c ∧ Bel st n ∧ fit (rowD st) ∧ fit d ∧ tl d ≤ 8) ∧ P (.bl (isSplB st d)) μ
theorem mon_is_split : MonF T_is_split := fun ss μ P P' k ⟨a, b, c, d, e, h, q⟩ => ⟨a, b, c, d, e, h, k _ _ q⟩
theorem okT_is_split (t : Top K mg "is_split" s_is_split ["setting", "prior", "value"]) (C_check_belief : DefOk P w K mg base "check_belief" 5 2 T_check_belief) (C_check_setting : DefOk P w K mg base "check_setting" 6 1 T_check_setting) (C_is_split_for : DefOk P w K mg base "is_split_for" 6 2 T_is_split_for) :
    DefOkT P w K mg base "is_split" s_is_split ["setting", "prior", "value"] 7 T_is_split := by
  have nd := (sc_is_split).nd
  refine ok_defT (k := 6) t sc_is_split mon_is_split (fun f cdv A outer s H E hr =>
    (pds_cons (pds_expr (pd_callD C_check_setting (hr.mono (by decide)) (by rfl) (pda_cons (pd_var (pv 0)) pda_nil)))
      (pds_cons (pds_expr (pd_callD C_check_belief (hr.mono (by decide)) (by rfl) (pda_cons (pd_var (pv 0)) (pda_cons (pd_var (pv 1)) pda_nil))))
      (pds_one (pd_ret (pd_callD C_is_split_for (hr.mono (by decide)) (by rfl) (pda_cons (pd_var (pv 1)) (pda_cons (pd_var (pv 2)) pda_nil)))))))) ?_
  intro ss μ Q hl h
  obtain ⟨c, n, st, d, rfl, ⟨hf, hw, hb, hs, hd, ht⟩, q⟩ := h
  have := hw.n2
  have := hb.len
  walk_at "dv"
  refine ⟨c, rfl, ⟨hf, hw.1⟩, ?_⟩
  walk_at "dv"
  refine ⟨c, n, st, rfl, ⟨hf, hw, hb, hs⟩, ?_⟩
  walk_at "dv"
  refine ⟨st, d, rfl, ⟨hd, ht, by omega, by omega⟩, ?_⟩
  walk_at "dv"
  exact q
theorem ok_is_split (t : Top K mg "is_split" s_is_split ["setting", "prior", "value"]) (C_check_belief : DefOk P w K mg base "check_belief" 5 2 T_check_belief) (C_check_setting : DefOk P w K mg base "check_setting" 6 1 T_check_setting) (C_is_split_for : DefOk P w K mg base "is_split_for" 6 2 T_is_split_for) :
    DefOk P w K mg base "is_split" 7 3 T_is_split := (okT_is_split t C_check_belief C_check_setting C_is_split_for).ok
def T_is_experiment_for : TF := fun ss μ P => ∃ (n : Nat) (d : D), ss = [.d (.int (n : Int)), .d d] ∧ (fit d ∧ 1 ≤ n) ∧ P (.bl (isExpB n d)) μ
theorem mon_is_experiment_for : MonF T_is_experiment_for := fun ss μ P P' k ⟨a, b, e, h, q⟩ => ⟨a, b, e, h, k _ _ q⟩
theorem ok_is_experiment_for (t : Top K mg "is_experiment_for" s_is_experiment_for ["states", "value"]) (C_is_row_of_chances : DefOk P w K mg base "is_row_of_chances" 4 2 T_is_row_of_chances) (C_MOST_SIGNALS : ConstOk K mg "MOST_SIGNALS" V_MOST_SIGNALS) (m_all : mg "all" = none) (m_isinstance : mg "isinstance" = none) (m_len : mg "len" = none) (m_tuple : mg "tuple" = none) :
    DefOk P w K mg base "is_experiment_for" 5 2 T_is_experiment_for := by
  have nd := (sc_is_experiment_for).nd
  refine ok_defD (k := 4) t sc_is_experiment_for mon_is_experiment_for (fun f cdv A outer s H E hr =>
    (pds_cons (pds_if (ptd_w (pdw_or (ptd_not (ptd_val (pd_isiW (T := "tuple") (pd_var (pv 1)) (by rfl) m_isinstance (by rfl) m_tuple bt_tuple (by decide) (by decide)))) (pdw_or1 (ptd_cmp op_ne mon_gF snd_ne (nomark _) (pd_B call_len_seq snd_len mon_gA (by rfl) m_len bt_len (pda_cons (pd_var (pv 1)) pda_nil)) (pd_var (pv 0)))))) (pds_one (pd_ret pd_bl)) pds_nil)
      (pds_cons (pds_if (ptd_w (pdw_or (ptd_not (ptd_val (pd_isiW (T := "tuple") (pd_ix ix_ok mon_gF snd_ix (fun _ _ => rfl) (pd_var (pv 1)) pd_int) (by rfl) m_isinstance (by rfl) m_tuple bt_tuple (by decide) (by decide)))) (pdw_or1 (ptd_not (ptd_chain op_le op_le mon_gF mon_gF snd_B0 snd_B0 (by with_unfolding_all rfl) pd_int (pd_B call_len_seq snd_len mon_gA (by rfl) m_len bt_len (pda_cons (pd_ix ix_ok mon_gF snd_ix (fun _ _ => rfl) (pd_var (pv 1)) pd_int) pda_nil)) (pd_glob C_MOST_SIGNALS (by rfl))))))) (pds_one (pd_ret pd_bl)) pds_nil)
      (pds_one (pd_ret (pd_B (cr_all rfl) snd_all mon_gA (by rfl) m_all bt_all (pda_cons (pd_of_N (pdn_lc (own := [("row", 2)]) rfl nd (pdi_seq (pd_var (pv 1))) (blkOk_by (N := N_is_experiment_for) (sc := defScope s_is_experiment_for) (by decide +kernel)) (fun _ _ _ _ _ => (pdg_name (pg_name (i := 2) nd rfl (by first | exact Or.inl rfl | exact Or.inr rfl)))) (fun _ _ _ _ _ => pdts_nil) (fun _ _ _ _ _ => (pd_callD C_is_row_of_chances (hr.mono (by decide)) (by rfl) (pda_cons (pd_var (pv 2)) (pda_cons (pd_B call_len_seq snd_len mon_gA (by rfl) m_len bt_len (pda_cons (pd_ix ix_ok mon_gF snd_ix (fun _ _ => rfl) (pd_var (pv 1)) pd_int) pda_nil)) pda_nil)))) (by decide))) pda_nil))))))) ?_
  intro ss μ Q hl h
  obtain ⟨n, d, rfl, ⟨hf, hn⟩, q⟩ := h
  by_cases ht : ∃ ds, d = .tup ds
  · obtain ⟨ds, rfl⟩ := ht
    have fa := fitA_iff.mp hf.2
    have hl := hf.1
    unfold V_MOST_SIGNALS
    walk_at "dv"
    rw [bw_tup hf]
    simp only [isTupB]
    walk_at "dv"
    by_cases h2 : ds.length = n
    · have e : (!decide ((ds.length : Int) = (n : Int))) = false := by simp; omega
      rw [e]
      walk_at "dv"
      cases ds with
      | nil => rw [List.length_nil] at h2; omega
      | cons c r =>
        have fc := fa c (by simp)
        walk_at "dv"
        rw [bw_tup fc]
        by_cases hc : ∃ cs, c = .tup cs
        · obtain ⟨cs, rfl⟩ := hc
          change Q (.bl (decide (r.length + 1 = n) && (decide (1 ≤ cs.length) && decide (cs.length ≤ 6)) && (D.tup cs :: r).all (isCh cs.length))) μ at q
          rw [List.length_cons] at h2
          rw [decide_eq_true h2, Bool.true_and] at q
          simp only [isTupB]
          walk_at "dv"
          by_cases h1 : 1 ≤ cs.length
          · rw [if_pos (by omega)]
            rw [decide_eq_true h1, Bool.true_and] at q
            by_cases h6 : cs.length ≤ 6
            · have e1 : (!decide ((cs.length : Int) ≤ 6)) = false := by simp; omega
              rw [e1]
              rw [decide_eq_true h6, Bool.true_and] at q
              walk_at "dv"
              refine lc_all (fun d => .bl (isCh cs.length d)) μ (fun _ => trivial) _ _ (fun a ha acc P P2 k => ?_) (by omega) ?_
              · walk_at "dv"
                exact ⟨a, cs.length, rfl, ⟨fa a ha, h1, by omega⟩, k⟩
              · rw [all_bl]
                walk_at "dv"
                exact q
            · have e1 : (!decide ((cs.length : Int) ≤ 6)) = true := by simp; omega
              rw [e1]
              rw [decide_eq_false h6] at q
              walk_at "dv"
              exact q
          · rw [if_neg (by omega)]
            rw [decide_eq_false h1] at q
            exact q
        · have e := not_tup hc
          have e2 : isExpB n (.tup (c :: r)) = false := by
            cases c <;> first | rfl | cases e
          rw [e2] at q
          rw [e]
          walk_at "dv"
          exact q
    · have e : (!decide ((ds.length : Int) = (n : Int))) = true := by simp; omega
      have e2 : isExpB n (.tup ds) = false := by
        cases ds with
        | nil => rfl
        | cons c r =>
          cases c with
          | tup cs =>
            rw [List.length_cons] at h2
            show (decide (r.length + 1 = n) && _ && _) = false
            rw [decide_eq_false h2]; rfl
          | _ => rfl
      rw [e2] at q
      rw [e]
      walk_at "dv"
      exact q
  · have e := not_tup ht
    rw [isExp_not e] at q
    unfold V_MOST_SIGNALS
    walk_at "dv"
    rw [bw_tup hf, e]
    walk_at "dv"
    exact q
def T_is_experiment : TF := fun ss μ P => ∃ (c : D) (n : Nat) (d : D), ss = [.d c, .d d] ∧ (fit c ∧ WorldN n c ∧ fit d) ∧ P (.bl (isExpB n d)) μ
theorem mon_is_experiment : MonF T_is_experiment := fun ss μ P P' k ⟨a, b, c, e, h, q⟩ => ⟨a, b, c, e, h, k _ _ q⟩
theorem okT_is_experiment (t : Top K mg "is_experiment" s_is_experiment ["setting", "value"]) (C_check_setting : DefOk P w K mg base "check_setting" 6 1 T_check_setting) (C_is_experiment_for : DefOk P w K mg base "is_experiment_for" 5 2 T_is_experiment_for) (C_state_count : DefOk P w K mg base "state_count" 1 1 T_state_count) :
    DefOkT P w K mg base "is_experiment" s_is_experiment ["setting", "value"] 7 T_is_experiment := by
  have nd := (sc_is_experiment).nd
  refine ok_defT (k := 6) t sc_is_experiment mon_is_experiment (fun f cdv A outer s H E hr =>
    (pds_cons (pds_expr (pd_callD C_check_setting (hr.mono (by decide)) (by rfl) (pda_cons (pd_var (pv 0)) pda_nil)))
      (pds_one (pd_ret (pd_callD C_is_experiment_for (hr.mono (by decide)) (by rfl) (pda_cons (pd_callD C_state_count (hr.mono (by decide)) (by rfl) (pda_cons (pd_var (pv 0)) pda_nil)) (pda_cons (pd_var (pv 1)) pda_nil))))))) ?_
  intro ss μ Q hl h
  obtain ⟨c, n, d, rfl, ⟨hf, hw, hd⟩, q⟩ := h
  have := hw.n2
  walk_at "dv"
  refine ⟨c, rfl, ⟨hf, hw.1⟩, ?_⟩
  walk_at "dv"
  refine ⟨c, n, rfl, ⟨hf, hw⟩, ?_⟩
  walk_at "dv"
  refine ⟨n, d, rfl, ⟨hd, by omega⟩, ?_⟩
  walk_at "dv"
  exact q
theorem ok_is_experiment (t : Top K mg "is_experiment" s_is_experiment ["setting", "value"]) (C_check_setting : DefOk P w K mg base "check_setting" 6 1 T_check_setting) (C_is_experiment_for : DefOk P w K mg base "is_experiment_for" 5 2 T_is_experiment_for) (C_state_count : DefOk P w K mg base "state_count" 1 1 T_state_count) :
    DefOk P w K mg base "is_experiment" 7 2 T_is_experiment := (okT_is_experiment t C_check_setting C_is_experiment_for C_state_count).ok
end K2

/-! part Q5 -/
set_option Elab.async false
set_option linter.all false
set_option maxRecDepth 100000
set_option autoImplicit false
set_option exponentiation.threshold 9000
set_option maxHeartbeats 1000000
namespace K2
open PySem PySem.Spec L2 DV
open PyProof.Rows (envOfC)
variable {P : Program} {w : World} {K : PySem.W.Frag} {mg : Str → Option Value} {base : Heap}

local macro_rules | `(tactic| walk_at "dv") => `(tactic| simp only [startR, cRepU, fIStar, fIZipG, fParDN, cInP, fInP, lstOf, fIns, fExt, fIsN, fIsNotN, isNonS, fAug, fAddW, fSubW, fGtW, fMul2, fModM, cAddW, cEqP, fEqP, fNeP, fInI, fIsiW, Option.bind_some, fRevT, fMk, fBare, fAtt, fIsX, fIsXT, fRaise, fRaise0, fTry, clD, suiteD, kNo, kBut, fXatt, fExprX, fCallX, kDX, gRepr2, cRepr2, datOf, errOf, kD, fin, fSeq, fNext, fDrop, fNRep, fNRg, fParN0, fPar3, fPar3N, fAsg, fRet, fIfS, fNever, fPar, fNew, fApp, fVar, fC, fOp, fTest, fTAnd, fTOr, fTNot, fVAnd, fVOr, fVNot, fNeg, fIf, fChain, fANil, fACons, fTup, fLst, fCB, fNLst, fOfN, fYes, fIsi, fONone, fOSome, fSl, sliceF,
  gF, gA, cI, fI, c0, cAdd, fAdd, fIx, cRepT, fRepT, fEq, fNe, fNotIn, intsOf, blsOf, allD, seqOf, tupOf, fLen, cA0, f1L, gSum, fTupleOf, fListOf, fA1, fA2, cDm, gN, gsNil_eq, gsCons_eq, gT_eq, gSb_eq, isB, itemsOf, fISeq, fIRng, fIEnum, fIZip, fIZipTL, fFor, fLc, wipeR, fCall, fCallK, fRetN, kN, fCallN, fCallOn, kwS, pick, gRepr, cRepr, List.filterMap_cons_some, List.filterMap_nil,
  List.map_cons, List.map_nil, List.length_cons, List.length_nil, List.replicate_succ, List.replicate_zero, List.cons_append, List.nil_append, List.append_nil, List.getElem?_cons_zero, List.getElem?_cons_succ, List.getElem?_nil, List.set_cons_zero, List.set_cons_succ, List.set_nil, List.take_succ_cons, List.take_zero, List.take_nil,
  Option.map_some, Option.map_none, Option.some.injEq, Option.get_some, exists_eq_left', exists_eq_left, exists_eq_right, true_and, and_true, if_true, if_false, reduceCtorEq, ite_true, ite_false, S.d.injEq, S.m.injEq, D.int.injEq, D.tup.injEq, D.lst.injEq, D.bl.injEq, D.str.injEq, List.cons.injEq, exists_and_left, exists_and_right,
  Nat.sub_zero, Nat.reduceSub, Nat.reduceAdd, Nat.zero_add, Nat.add_zero, Bool.not_true, Bool.not_false, Bool.false_eq_true, decide_eq_true_eq, Nat.reduceLT, Nat.reduceLeDiff, Nat.le_refl, List.take_length, Int.reduceLT, Int.reduceToNat, Nat.lt_irrefl, gt_iff_lt, Nat.not_lt_zero, Int.cast_ofNat_Int, decide_true, decide_false, and_assoc])

def T__law_well : TFN := fun ss μ P => ∃ (ns : List Int) (lap : Nat), ss = [.d (.lst (ns.map D.int)), .d (.int (lap : Int))] ∧ (ns.length ≤ 1000) ∧ ∀ w', IsW w' → P w' μ
theorem mon__law_well : MonFN T__law_well := fun ss μ P P' k ⟨a, b, e, h, q⟩ => ⟨a, b, e, h, fun r h1 => k _ _ (q r h1)⟩
theorem ok__law_well (t : Top K mg "_law_well" s__law_well ["script", "lap"]) (m_abs : mg "abs" = none) (m_int : mg "int" = none) (m_len : mg "len" = none) :
    DefOkN P w K mg base "_law_well" 1 2 T__law_well := by
  have nd := (sc__law_well).nd
  refine ok_defN (k := 0) t sc__law_well mon__law_well (fun f cdv A outer s H E hr =>
    (pds_cons (pds_set (pd_op addW_ok mon_gF snd_addW pd_int (pd_op op_mul mon_gF snd_I pd_int (pd_var (pv 1)))) (fun _ h => ps_set (i := 2) nd rfl (by first | exact Or.inl rfl | exact Or.inr rfl) h))
      (pds_cons (pds_for PassesOwn.never rfl (pdi_seq (pd_slice (pd_var (pv 0)) pdo_none (pdo_some pd_int))) (pdg_name (pg_name (i := 3) nd rfl (by first | exact Or.inl rfl | exact Or.inr rfl))) (pds_one (pds_set (pd_op op_mod mon_gF snd_I (pd_Ty call_int1 snd_int1 mon_gA (by rfl) m_int bt_int (pda_cons (pd_op addW_ok mon_gF snd_addW (pd_op addW_ok mon_gF snd_addW (pd_op op_mul mon_gF snd_I (pd_var (pv 2)) pd_int) (pd_op op_mul mon_gF snd_I (pd_op op_mod mon_gF snd_I (pd_Ty call_int1 snd_int1 mon_gA (by rfl) m_int bt_int (pda_cons (pd_var (pv 3)) pda_nil)) pd_int) pd_int)) pd_int) pda_nil)) pd_int) (fun _ h => ps_set (i := 2) nd rfl (by first | exact Or.inl rfl | exact Or.inr rfl) h))))
      (pds_cons (pds_set (pd_if (ptd_cmp op_lt mon_gF snd_B0 (nomark _) (pd_var (pv 1)) (pd_B call_len_seq snd_len mon_gA (by rfl) m_len bt_len (pda_cons (pd_var (pv 0)) pda_nil))) (pd_Ty call_int1 snd_int1 mon_gA (by rfl) m_int bt_int (pda_cons (pd_ix ix_ok mon_gF snd_ix (fun _ _ => rfl) (pd_var (pv 0)) (pd_var (pv 1))) pda_nil)) pd_int) (fun _ h => ps_set (i := 4) nd rfl (by first | exact Or.inl rfl | exact Or.inr rfl) h))
      (pds_cons (pds_set (pd_op op_mod mon_gF snd_I (pd_Ty call_int1 snd_int1 mon_gA (by rfl) m_int bt_int (pda_cons (pd_op addW_ok mon_gF snd_addW (pd_op addW_ok mon_gF snd_addW (pd_op op_mul mon_gF snd_I (pd_var (pv 2)) pd_int) (pd_op op_mul mon_gF snd_I (pd_op op_mod mon_gF snd_I (pd_Ty call_int1 snd_int1 mon_gA (by rfl) m_int bt_int (pda_cons (pd_var (pv 4)) pda_nil)) pd_int) pd_int)) pd_int) pda_nil)) pd_int) (fun _ h => ps_set (i := 2) nd rfl (by first | exact Or.inl rfl | exact Or.inr rfl) h))
      (pds_one (pd_retN (pdn_lst (pda_cons (pd_if (ptd_w (pdw_or (ptd_cmp op_lt mon_gF snd_B0 (nomark _) (pd_var (pv 4)) pd_int) (pdw_or1 (ptd_cmp op_ge mon_gF snd_B0 (nomark _) (pd_var (pv 4)) (pd_op op_pow mon_gF snd_I pd_int pd_int))))) (pd_B call_abs snd_abs mon_gA (by rfl) m_abs bt_abs (pda_cons (pd_var (pv 4)) pda_nil)) pd_int) (pda_cons (pd_var (pv 2)) (pda_cons pd_int pda_nil))))))))))) ?_
  intro ss μ Q hl h
  obtain ⟨ns, lap, rfl, hn, q⟩ := h
  have p1 : (0 : Int) < 2147483477 := by decide
  have cm : ∀ x c : Int, 0 ≤ c → c < 2 ^ 30 → CMul x c := fun x c h1 h2 => .inr ⟨by omega, by omega⟩
  have c1 : CMul 6841 (lap : Int) := .inl ⟨by decide, by decide⟩
  have fin0 : ∀ w', IsW w' → ¬ False ∧ ∃ ds, (μ ++ [w'])[μ.length]? = some ds ∧ Q ds (List.take μ.length (μ ++ [w'])) := fun w' hw' => ⟨id, w', get_last, by rw [List.take_left]; exact q w' hw'⟩
  walk_at "dv"
  refine ⟨c1, ?_⟩
  obtain ⟨is, e⟩ := cut_map D.int ns none (some 12)
  rw [e]
  refine loop_inv D.int (fun _ ρ μ' => μ = μ' ∧ ∃ (a : Int) (s3 : Option S), ρ = [some (.d (.lst (ns.map D.int))), some (.d (.int (lap : Int))), some (.d (.int a)), s3, none]) is 0 _ _ ?_ ?_ ⟨rfl, _, _, rfl⟩
  · rintro i x _ _ _ ⟨rfl, a, s3, rfl⟩
    refine ⟨trivial, fun k' _ hk => ?_⟩
    walk_at "dv"
    refine ⟨cm _ _ (by decide) (by decide), cm _ _ (by decide) (by decide), ?_⟩
    exact hk _ _ ⟨rfl, _, _, rfl⟩
  · rintro _ _ ⟨rfl, a, s3, rfl⟩
    refine ⟨trivial, ?_⟩
    have cp : CPow 10 15 := ⟨by decide, by decide, by decide⟩
    have fin : ∀ (x : Int), IsW [.int (if x < 0 then -x else x), .int ((a * 61 + x % 2147483477 * 28657 + 11) % 2147483477), .int 0] := fun x => ⟨_, _, _, rfl, by split <;> omega⟩
    have fin2 : ∀ (x : Int), IsW [.int 0, .int ((a * 61 + x % 2147483477 * 28657 + 11) % 2147483477), .int 0] := fun x => ⟨_, _, _, rfl, by decide⟩
    walk_at "dv"
    by_cases c : (lap : Int) < ((ns.map D.int).length : Int)
    · rw [if_pos c]
      have c2 : lap < ns.length := by rw [List.length_map] at c; omega
      rw [if_neg (by omega), Int.toNat_natCast, List.getElem?_map, List.getElem?_eq_getElem c2]
      generalize ns[lap] = x at *
      walk_at "dv"
      refine ⟨cm _ _ (by decide) (by decide), cm _ _ (by decide) (by decide), ?_⟩
      by_cases d : x < 0
      · rw [if_pos d]; exact fin0 _ (fin x)
      · rw [if_neg d]
        refine ⟨cp, ?_⟩
        by_cases d2 : 10 ^ 15 ≤ x
        · rw [if_pos d2]; exact fin0 _ (fin x)
        · rw [if_neg d2]; exact fin0 _ (fin2 x)
    · rw [if_neg c]
      refine ⟨cm _ _ (by decide) (by decide), cm _ _ (by decide) (by decide), cp, ?_⟩
      rw [if_neg (by decide)]
      exact fin0 _ (fin2 0)
def T__law_draw : TF := fun ss μ P => ∃ w ms few, ss = [.m 0, .d (.int few)] ∧ μ = w :: ms ∧ (IsW w ∧ 0 < few ∧ few < 2 ^ 100) ∧ ∀ r w', IsW w' → 0 ≤ r → r < few → P (.int r) (w' :: ms)
theorem mon__law_draw : MonF T__law_draw := fun ss μ P P' k ⟨a, b, c, e, e2, h, q⟩ => ⟨a, b, c, e, e2, h, fun r w' h1 h2 h3 => k _ _ (q r w' h1 h2 h3)⟩
theorem ok__law_draw (t : Top K mg "_law_draw" s__law_draw ["well", "few"]) (m_divmod : mg "divmod" = none) (m_int : mg "int" = none) :
    DefOk P w K mg base "_law_draw" 1 2 T__law_draw := by
  have nd := (sc__law_draw).nd
  refine ok_defD (k := 0) t sc__law_draw mon__law_draw (fun f cdv A outer s H E hr =>
    (pds_cons (pds_if (ptd_cmp op_gt mon_gF snd_B0 (nomark _) (pd_ix ix_ok mon_gF snd_ix (fun _ _ => rfl) (pd_var (pv 0)) pd_int) pd_int) (pds_cons (pds_asg (pd_B call_divmodW snd_divmod mon_gA (by rfl) m_divmod bt_divmod (pda_cons (pd_ix ix_ok mon_gF snd_ix (fun _ _ => rfl) (pd_var (pv 0)) pd_int) (pda_cons (pd_var (pv 1)) pda_nil))) (pdg_tup (n := 2) rfl (pdgs_cons (pdg_sub (pd_var (pv 0)) pd_int) (pdgs_cons (pdg_name (pg_name (i := 2) nd rfl (by first | exact Or.inl rfl | exact Or.inr rfl))) pdgs_nil))))
      (pds_one (pd_ret (pd_var (pv 2))))) pds_nil)
      (pds_cons (pds_asg (pd_op addW_ok mon_gF snd_addW (pd_ix ix_ok mon_gF snd_ix (fun _ _ => rfl) (pd_var (pv 0)) pd_int) pd_int) (pdg_sub (pd_var (pv 0)) pd_int))
      (pds_cons (pds_set (pd_op op_mod mon_gF snd_I (pd_Ty call_int1 snd_int1 mon_gA (by rfl) m_int bt_int (pda_cons (pd_op addW_ok mon_gF snd_addW (pd_op op_mul mon_gF snd_I (pd_ix ix_ok mon_gF snd_ix (fun _ _ => rfl) (pd_var (pv 0)) pd_int) pd_int) (pd_op op_mul mon_gF snd_I pd_int (pd_ix ix_ok mon_gF snd_ix (fun _ _ => rfl) (pd_var (pv 0)) pd_int))) pda_nil)) pd_int) (fun _ h => ps_set (i := 3) nd rfl (by first | exact Or.inl rfl | exact Or.inr rfl) h))
      (pds_cons (pds_asg (pd_op op_mod mon_gF snd_I (pd_Ty call_int1 snd_int1 mon_gA (by rfl) m_int bt_int (pda_cons (pd_op addW_ok mon_gF snd_addW (pd_op op_mul mon_gF snd_I (pd_var (pv 3)) (pd_op addW_ok mon_gF snd_addW (pd_op op_mod mon_gF snd_I (pd_Ty call_int1 snd_int1 mon_gA (by rfl) m_int bt_int (pda_cons (pd_var (pv 3)) pda_nil)) pd_int) pd_int)) (pd_ix ix_ok mon_gF snd_ix (fun _ _ => rfl) (pd_var (pv 0)) pd_int)) pda_nil)) pd_int) (pdg_sub (pd_var (pv 0)) pd_int))
      (pds_one (pd_ret (pd_op op_mod mon_gF snd_I (pd_Ty call_int1 snd_int1 mon_gA (by rfl) m_int bt_int (pda_cons (pd_op op_fdivW mon_gF snd_I (pd_ix ix_ok mon_gF snd_ix (fun _ _ => rfl) (pd_var (pv 0)) pd_int) pd_int) pda_nil)) (pd_var (pv 1)))))))))) ?_
  intro ss μ Q hl h
  obtain ⟨_, ms, few, rfl, rfl, ⟨⟨a, b, c, rfl, ha⟩, h1, h2⟩, q⟩ := h
  have p1 : (0 : Int) < 2147483477 := by decide
  have p2 : (0 : Int) < 4999 := by decide
  have c1 : CMul b 44497 := .inr ⟨by decide, by decide⟩
  have c2 : CMul 13007 (c + 1) := .inl ⟨by decide, by decide⟩
  have c4 : ∀ x y : Int, CMul (x % 2147483477) y := fun x y => .inl ⟨by have := Int.emod_nonneg x (show (2147483477 : Int) ≠ 0 by decide); omega, by have := Int.emod_lt_of_pos x p1; omega⟩
  have c5 : ∀ x : Int, CDivW x 1013 := fun x => ⟨by decide, by decide⟩
  walk_at "dv"
  by_cases hc : 0 < a
  · rw [if_pos hc]
    exact ⟨h1, h2, by decide, q _ _ ⟨_, _, _, rfl, Int.ediv_nonneg ha (by omega)⟩ (Int.emod_nonneg _ (by omega)) (Int.emod_lt_of_pos _ h1)⟩
  · rw [if_neg hc]
    exact ⟨by decide, c1, c2, c4 _ _, by decide, c5 _, h1, q _ _ ⟨_, _, _, rfl, ha⟩ (Int.emod_nonneg _ (by omega)) (Int.emod_lt_of_pos _ h1)⟩
def T__law_one : TF := fun ss μ P => ∃ w ms ds, (ss = [.m 0, .d (.tup ds)] ∨ ss = [.m 0, .d (.lst ds)]) ∧ μ = w :: ms ∧ (IsW w ∧ ds ≠ [] ∧ ds.length ≤ 1000) ∧ ∀ d w', IsW w' → d ∈ ds → P d (w' :: ms)
theorem mon__law_one : MonF T__law_one := fun ss μ P P' k ⟨a, b, c, e, e2, h, q⟩ => ⟨a, b, c, e, e2, h, fun r w' h1 h2 => k _ _ (q r w' h1 h2)⟩
theorem ok__law_one (t : Top K mg "_law_one" s__law_one ["well", "some"]) (C__law_draw : DefOk P w K mg base "_law_draw" 1 2 T__law_draw) (m_len : mg "len" = none) :
    DefOk P w K mg base "_law_one" 2 2 T__law_one := by
  have nd := (sc__law_one).nd
  refine ok_defD (k := 1) t sc__law_one mon__law_one (fun f cdv A outer s H E hr =>
    (pds_one (pd_ret (pd_ix ix_ok mon_gF snd_ix (fun _ _ => rfl) (pd_var (pv 1)) (pd_callD C__law_draw (hr.mono (by decide)) (by rfl) (pda_cons (pd_var (pv 0)) (pda_cons (pd_B call_len_seq snd_len mon_gA (by rfl) m_len bt_len (pda_cons (pd_var (pv 1)) pda_nil)) pda_nil))))))) ?_
  intro ss μ Q hl h
  obtain ⟨w0, ms, ds, e, rfl, ⟨hw, h1, h2⟩, q⟩ := h
  have hp : (0 : Int) < (ds.length : Int) := by
    cases ds with
    | nil => exact absurd rfl h1
    | cons a l => rw [List.length_cons]; omega
  rcases e with rfl | rfl
  · walk_at "dv"
    refine ⟨w0, ms, _, rfl, rfl, ⟨hw, hp, by omega⟩, fun r w' hw' r0 r1 => ?_⟩
    walk_at "dv"
    rw [if_neg (by omega)]
    have hr : r.toNat < ds.length := by omega
    rw [List.getElem?_eq_getElem hr]
    walk_at "dv"
    exact q _ _ hw' (List.getElem_mem hr)
  · walk_at "dv"
    refine ⟨w0, ms, _, rfl, rfl, ⟨hw, hp, by omega⟩, fun r w' hw' r0 r1 => ?_⟩
    walk_at "dv"
    rw [if_neg (by omega)]
    have hr : r.toNat < ds.length := by omega
    rw [List.getElem?_eq_getElem hr]
    walk_at "dv"
    exact q _ _ hw' (List.getElem_mem hr)
/-- the odd things -/
def oddL : List D := [D.non, .bl true, .bl false, .int 0, .int 1, .int 2, .int (-1), .int 7, .int 3, .int 4, .str "", .str "a", .str "gains", .str "0", .tup [], .tup [.int 0], .tup [.int 1], .tup [.int 0, .int 1], .tup [.int 1, .int 2], .tup [.int 2, .int 4], .tup [.int 1, .int 1], .tup [.int 1, .int 0], .tup [.int 3, .int (-2)], .tup [.bl true, .int 1], .tup [.int 1, .bl true], .tup [.tup [.int 0, .int 1]], .tup [.tup [.int 1, .int 1]], .tup [.tup [.tup [.int 1, .int 1]]], .tup [.tup [.int 1, .int 2], .tup [.int 1, .int 2]], .tup [.tup [.int 0, .int 1], .tup [.int 1, .int 1]], .tup [.tup [.int 1, .int 1], .tup [.int 0, .int 1]], .tup [.tup [.int 3, .int 2], .tup [.int (-1), .int 2]], .lst [], .lst [.int 1], .lst [.tup [.int 1, .int 1]], .tup [.tup [.tup [.int 1, .int 1], .tup [.tup [.int 1, .int 2], .tup [.int 1, .int 2]]]], .dct [] [], .dct [.inr "a"] [.int 1], .tup [D.non], .tup [.tup []], .tup [.tup [.int 0, .int 1], .int 1], .int (10 ^ Int.toNat 20), .tup [.int 0, .int 1, .int 2], .tup [.int 1, .int 0, .int 2], .tup [.tup [.int 1, .int 3], .tup [.int 1, .int 3], .tup [.int 1, .int 3]], .tup [.tup [], .tup []], .tup [.tup [.tup [.tup [.int 1, .int 1]]], .tup [.tup [.tup [.int 1, .int 1]]]]]
def T__law_odd : TF := fun ss μ P => ∃ w ms, ss = [.m 0] ∧ μ = w :: ms ∧ (IsW w) ∧ ∀ d w', IsW w' → d ∈ oddL → P d (w' :: ms)
theorem mon__law_odd : MonF T__law_odd := fun ss μ P P' k ⟨a, b, e, e2, h, q⟩ => ⟨a, b, e, e2, h, fun d w' h1 h2 => k _ _ (q d w' h1 h2)⟩
theorem ok__law_odd (t : Top K mg "_law_odd" s__law_odd ["well"]) (C__law_one : DefOk P w K mg base "_law_one" 2 2 T__law_one) :
    DefOk P w K mg base "_law_odd" 3 1 T__law_odd := by
  have nd := (sc__law_odd).nd
  refine ok_defD (k := 2) t sc__law_odd mon__law_odd (fun f cdv A outer s H E hr =>
    (pds_one (pd_ret (pd_callD C__law_one (hr.mono (by decide)) (by rfl) (pda_cons (pd_var (pv 0)) (pda_cons (pdl_tup (ds := oddL) (pdl_cons pd_non (pdl_cons pd_bl (pdl_cons pd_bl (pdl_cons pd_int (pdl_cons pd_int (pdl_cons pd_int (pdl_cons pdl_neg (pdl_cons pd_int (pdl_cons pd_int (pdl_cons pd_int (pdl_cons pd_str (pdl_cons pd_str (pdl_cons pd_str (pdl_cons pd_str (pdl_cons (pdl_tup pdl_nil) (pdl_cons (pdl_tup (pdl_cons pd_int pdl_nil)) (pdl_cons (pdl_tup (pdl_cons pd_int pdl_nil)) (pdl_cons (pdl_tup (pdl_cons pd_int (pdl_cons pd_int pdl_nil))) (pdl_cons (pdl_tup (pdl_cons pd_int (pdl_cons pd_int pdl_nil))) (pdl_cons (pdl_tup (pdl_cons pd_int (pdl_cons pd_int pdl_nil))) (pdl_cons (pdl_tup (pdl_cons pd_int (pdl_cons pd_int pdl_nil))) (pdl_cons (pdl_tup (pdl_cons pd_int (pdl_cons pd_int pdl_nil))) (pdl_cons (pdl_tup (pdl_cons pd_int (pdl_cons pdl_neg pdl_nil))) (pdl_cons (pdl_tup (pdl_cons pd_bl (pdl_cons pd_int pdl_nil))) (pdl_cons (pdl_tup (pdl_cons pd_int (pdl_cons pd_bl pdl_nil))) (pdl_cons (pdl_tup (pdl_cons (pdl_tup (pdl_cons pd_int (pdl_cons pd_int pdl_nil))) pdl_nil)) (pdl_cons (pdl_tup (pdl_cons (pdl_tup (pdl_cons pd_int (pdl_cons pd_int pdl_nil))) pdl_nil)) (pdl_cons (pdl_tup (pdl_cons (pdl_tup (pdl_cons (pdl_tup (pdl_cons pd_int (pdl_cons pd_int pdl_nil))) pdl_nil)) pdl_nil)) (pdl_cons (pdl_tup (pdl_cons (pdl_tup (pdl_cons pd_int (pdl_cons pd_int pdl_nil))) (pdl_cons (pdl_tup (pdl_cons pd_int (pdl_cons pd_int pdl_nil))) pdl_nil))) (pdl_cons (pdl_tup (pdl_cons (pdl_tup (pdl_cons pd_int (pdl_cons pd_int pdl_nil))) (pdl_cons (pdl_tup (pdl_cons pd_int (pdl_cons pd_int pdl_nil))) pdl_nil))) (pdl_cons (pdl_tup (pdl_cons (pdl_tup (pdl_cons pd_int (pdl_cons pd_int pdl_nil))) (pdl_cons (pdl_tup (pdl_cons pd_int (pdl_cons pd_int pdl_nil))) pdl_nil))) (pdl_cons (pdl_tup (pdl_cons (pdl_tup (pdl_cons pd_int (pdl_cons pd_int pdl_nil))) (pdl_cons (pdl_tup (pdl_cons pdl_neg (pdl_cons pd_int pdl_nil))) pdl_nil))) (pdl_cons (pdl_lst pdl_nil) (pdl_cons (pdl_lst (pdl_cons pd_int pdl_nil)) (pdl_cons (pdl_lst (pdl_cons (pdl_tup (pdl_cons pd_int (pdl_cons pd_int pdl_nil))) pdl_nil)) (pdl_cons (pdl_tup (pdl_cons (pdl_tup (pdl_cons (pdl_tup (pdl_cons pd_int (pdl_cons pd_int pdl_nil))) (pdl_cons (pdl_tup (pdl_cons (pdl_tup (pdl_cons pd_int (pdl_cons pd_int pdl_nil))) (pdl_cons (pdl_tup (pdl_cons pd_int (pdl_cons pd_int pdl_nil))) pdl_nil))) pdl_nil))) pdl_nil)) (pdl_cons pd_dct0 (pdl_cons pd_dct1 (pdl_cons (pdl_tup (pdl_cons pd_non pdl_nil)) (pdl_cons (pdl_tup (pdl_cons (pdl_tup pdl_nil) pdl_nil)) (pdl_cons (pdl_tup (pdl_cons (pdl_tup (pdl_cons pd_int (pdl_cons pd_int pdl_nil))) (pdl_cons pd_int pdl_nil))) (pdl_cons (pdl_pow ⟨by decide, by decide, by decide⟩) (pdl_cons (pdl_tup (pdl_cons pd_int (pdl_cons pd_int (pdl_cons pd_int pdl_nil)))) (pdl_cons (pdl_tup (pdl_cons pd_int (pdl_cons pd_int (pdl_cons pd_int pdl_nil)))) (pdl_cons (pdl_tup (pdl_cons (pdl_tup (pdl_cons pd_int (pdl_cons pd_int pdl_nil))) (pdl_cons (pdl_tup (pdl_cons pd_int (pdl_cons pd_int pdl_nil))) (pdl_cons (pdl_tup (pdl_cons pd_int (pdl_cons pd_int pdl_nil))) pdl_nil)))) (pdl_cons (pdl_tup (pdl_cons (pdl_tup pdl_nil) (pdl_cons (pdl_tup pdl_nil) pdl_nil))) (pdl_cons (pdl_tup (pdl_cons (pdl_tup (pdl_cons (pdl_tup (pdl_cons (pdl_tup (pdl_cons pd_int (pdl_cons pd_int pdl_nil))) pdl_nil)) pdl_nil)) (pdl_cons (pdl_tup (pdl_cons (pdl_tup (pdl_cons (pdl_tup (pdl_cons pd_int (pdl_cons pd_int pdl_nil))) pdl_nil)) pdl_nil)) pdl_nil))) pdl_nil)))))))))))))))))))))))))))))))))))))))))))))))) pda_nil)))))) ?_
  intro ss μ Q hl h
  obtain ⟨w0, ms, rfl, rfl, hw, q⟩ := h
  walk_at "dv"
  refine ⟨w0, ms, oddL, .inl rfl, rfl, ⟨hw, by decide, by decide⟩, fun d w' h1 h2 => ?_⟩
  show Q d (List.take (ms.length + 1) (w' :: ms))
  rw [List.take_of_length_le (by simp)]
  exact q d w' h1 h2

theorem mod_ok {i j : Int} (h : 0 < j) : (fun (_ j : Int) => 0 < j) i j := h

def T__law_lean : TF := fun ss μ P => ∃ a b : Int, ss = [.d (.int a), .d (.int b)] ∧ (0 < b ∧ b.natAbs < 2 ^ 8000) ∧ P (frD (Rat.divInt a b)) μ
theorem mon__law_lean : MonF T__law_lean := fun ss μ P P' k ⟨a, b, e, h, q⟩ => ⟨a, b, e, h, k _ _ q⟩
theorem ok__law_lean (t : Top K mg "_law_lean" s__law_lean ["top", "base"]) (m_abs : mg "abs" = none) (m_int : mg "int" = none) :
    DefOk P w K mg base "_law_lean" 1 2 T__law_lean := by
  have nd := (sc__law_lean).nd
  refine ok_defD (k := 0) t sc__law_lean mon__law_lean (fun f cdv A outer s H E hr =>
    (pds_cons (pds_par (pda_cons (pd_B call_abs snd_abs mon_gA (by rfl) m_abs bt_abs (pda_cons (pd_var (pv 0)) pda_nil)) (pda_cons (pd_B call_abs snd_abs mon_gA (by rfl) m_abs bt_abs (pda_cons (pd_var (pv 1)) pda_nil)) pda_nil)) (fun _ h => ps_par (i := 2) (j := 3) rfl nd rfl rfl (by decide) rfl rfl h rfl))
      (pds_cons (pds_while PassesOwn.never (ptd_cmp op_gt mon_gF snd_B0 (nomark _) (pd_var (pv 3)) pd_int) (pds_one (pds_par (pda_cons (pd_var (pv 3)) (pda_cons (pd_op op_mod mon_gF snd_I (pd_Ty call_int1 snd_int1 mon_gA (by rfl) m_int bt_int (pda_cons (pd_var (pv 2)) pda_nil)) (pd_var (pv 3))) pda_nil)) (fun _ h => ps_par (i := 2) (j := 3) rfl nd rfl rfl (by decide) rfl rfl h rfl))))
      (pds_cons (pds_set (pd_if (ptd_cmp op_gt mon_gF snd_B0 (nomark _) (pd_var (pv 1)) pd_int) (pd_var (pv 2)) (pd_op subW_ok mon_gF snd_subW pd_int (pd_var (pv 2)))) (fun _ h => ps_set (i := 2) nd rfl (by first | exact Or.inl rfl | exact Or.inr rfl) h))
      (pds_one (pd_ret (pd_tup (pda_cons (pd_op op_fdivW mon_gF snd_I (pd_var (pv 0)) (pd_var (pv 2))) (pda_cons (pd_op op_fdivW mon_gF snd_I (pd_var (pv 1)) (pd_var (pv 2))) pda_nil))))))))) ?_
  intro ss μ Q hl h
  obtain ⟨a, b, rfl, ⟨h1, h2⟩, q⟩ := h
  rw [low_div a b h1] at q
  walk_at "dv"
  have key : ∀ (r f : Nat) (k : K4), k.nx [some (.d (.int a)), some (.d (.int b)), some (.d (.int (Nat.gcd f r : Nat))), some (.d (.int 0))] μ →
      fWhile (fTest (fOp (gF c0 (fI fun i j => D.bl (decide (j < i)))) (fVar 3) (fC (D.int 0)))) (fPar 2 3 (fACons (fVar 3) (fACons (fOp (gF (cI fun _ j => 0 < j) (fI fun i j => D.int (i % j))) (fCB (gA cA0 (fA1 fun i => D.int i)) (fACons (fVar 2) fANil)) (fVar 3)) fANil)))
        [some (.d (.int a)), some (.d (.int b)), some (.d (.int (f : Int))), some (.d (.int (r : Int)))] μ k := by
    intro r
    induction r using Nat.strongRecOn with
    | _ r ih =>
      intro f k hk
      by_cases c : r = 0
      · subst c
        refine ⟨1, ?_⟩
        unfold whileN
        walk_at "dv"
        rw [Nat.gcd_zero_right] at hk
        exact hk
      · have hr : 0 < r := by omega
        obtain ⟨m, hm⟩ := ih (f % r) (Nat.mod_lt _ hr) r k (by rw [Nat.gcd_comm r, ← Nat.gcd_rec, Nat.gcd_comm]; exact hk)
        refine ⟨m + 1, ?_⟩
        unfold whileN
        have e : (0 : Int) < (r : Int) := by omega
        walk_at "dv"
        rw [if_pos e]
        refine ⟨e, ?_⟩
        rw [← Int.natCast_emod]
        exact hm
  have ea : (if a < 0 then -a else a) = (a.natAbs : Int) := by split <;> omega
  have eb : (if b < 0 then -b else b) = (b.natAbs : Int) := by split <;> omega
  rw [ea, eb]
  refine key b.natAbs a.natAbs _ ?_
  have e0 : (0 : Int) < b := h1
  walk_at "dv"
  rw [if_pos e0]
  exact ⟨gcd_ok h1 h2 _, gcd_ok h1 h2 _, q⟩
end K2

/-! part Q6 -/
set_option Elab.async false
set_option linter.all false
set_option maxRecDepth 100000
set_option autoImplicit false
set_option exponentiation.threshold 9000
set_option maxHeartbeats 1000000
namespace K2
open PySem PySem.Spec L2 DV
open PyProof.Rows (envOfC)
variable {P : Program} {w : World} {K : PySem.W.Frag} {mg : Str → Option Value} {base : Heap}

local macro_rules | `(tactic| walk_at "dv") => `(tactic| simp only [startR, cRepU, fIStar, fIZipG, fParDN, cInP, fInP, lstOf, fIns, fExt, fIsN, fIsNotN, isNonS, fAug, fAddW, fSubW, fGtW, fMul2, fModM, cAddW, cEqP, fEqP, fNeP, fInI, fIsiW, Option.bind_some, fRevT, fMk, fBare, fAtt, fIsX, fIsXT, fRaise, fRaise0, fTry, clD, suiteD, kNo, kBut, fXatt, fExprX, fCallX, kDX, gRepr2, cRepr2, datOf, errOf, kD, fin, fSeq, fNext, fDrop, fNRep, fNRg, fParN0, fPar3, fPar3N, fAsg, fRet, fIfS, fNever, fPar, fNew, fApp, fVar, fC, fOp, fTest, fTAnd, fTOr, fTNot, fVAnd, fVOr, fVNot, fNeg, fIf, fChain, fANil, fACons, fTup, fLst, fCB, fNLst, fOfN, fYes, fIsi, fONone, fOSome, fSl, sliceF,
  gF, gA, cI, fI, c0, cAdd, fAdd, fIx, cRepT, fRepT, fEq, fNe, fNotIn, intsOf, blsOf, allD, seqOf, tupOf, fLen, cA0, f1L, gSum, fTupleOf, fListOf, fA1, fA2, cDm, gN, gsNil_eq, gsCons_eq, gT_eq, gSb_eq, isB, itemsOf, fISeq, fIRng, fIEnum, fIZip, fIZipTL, fFor, fLc, wipeR, fCall, fCallK, fRetN, kN, fCallN, fCallOn, kwS, pick, gRepr, cRepr, List.filterMap_cons_some, List.filterMap_nil,
  List.map_cons, List.map_nil, List.length_cons, List.length_nil, List.replicate_succ, List.replicate_zero, List.cons_append, List.nil_append, List.append_nil, List.getElem?_cons_zero, List.getElem?_cons_succ, List.getElem?_nil, List.set_cons_zero, List.set_cons_succ, List.set_nil, List.take_succ_cons, List.take_zero, List.take_nil,
  Option.map_some, Option.map_none, Option.some.injEq, Option.get_some, exists_eq_left', exists_eq_left, exists_eq_right, true_and, and_true, if_true, if_false, reduceCtorEq, ite_true, ite_false, S.d.injEq, S.m.injEq, D.int.injEq, D.tup.injEq, D.lst.injEq, D.bl.injEq, D.str.injEq, List.cons.injEq, exists_and_left, exists_and_right,
  Nat.sub_zero, Nat.reduceSub, Nat.reduceAdd, Nat.zero_add, Nat.add_zero, Bool.not_true, Bool.not_false, Bool.false_eq_true, decide_eq_true_eq, Nat.reduceLT, Nat.reduceLeDiff, Nat.le_refl, List.take_length, Int.reduceLT, Int.reduceToNat, Nat.lt_irrefl, gt_iff_lt, Nat.not_lt_zero, Int.cast_ofNat_Int, decide_true, decide_false, and_assoc])


/-- a drawn number -/
def NB (r : Rat) : Prop := Z 68 r
theorem fr_int (k : Int) : D.tup [D.int k, D.int 1] = frD (k : Rat) := rfl
theorem nb_div {a b : Int} (h0 : 0 < b) (h1 : b ≤ 60) (h2 : a.natAbs ≤ 2 ^ 67) : NB (Rat.divInt a b) :=
  z_div h0 (Nat.lt_of_le_of_lt h2 (by decide)) (Nat.lt_of_le_of_lt (show b.natAbs ≤ 60 by omega) (by decide))
theorem nb_int {k : Int} (h : k.natAbs ≤ 2 ^ 67) : NB (k : Rat) :=
  ⟨show (1 : Nat) < 2 ^ 68 by decide, show k.natAbs < 2 ^ 68 from Nat.lt_of_le_of_lt h (by decide)⟩
theorem lt_8000 {x n : Nat} (h : x < 2 ^ n) (l : n ≤ 8000) : x < 2 ^ 8000 := up_lt h l
theorem set_last {ms : List (List D)} {x y : List D} : (ms ++ [x]).set ms.length y = ms ++ [y] := by
  rw [List.set_append_right _ _ (Nat.le_refl _), Nat.sub_self]
  rfl
theorem take_cons {w : List D} {ms l : List (List D)} : List.take (ms.length + 1) (w :: (ms ++ l)) = w :: ms := by
  rw [List.take_succ_cons, List.take_left]
inductive AllR {α : Type} (R : α → D → Prop) : List α → List D → Prop
  | nil : AllR R [] []
  | cons {a : α} {l : List α} {d : D} {ds : List D} : R a d → AllR R l ds → AllR R (a :: l) (d :: ds)
/-- elements that draw -/
theorem lc_draw {α : Type} {g : SG} {tt : STe} {fe : SE} {ok : Mu → Prop} {ρ : Rho} (enc : α → D) (R : α → D → Prop) (ms : Mu) (hok : ∀ w acc, ok (w :: (ms ++ [acc]))) : ∀ (items : List α) (acc : List D) (w : List D) (P : List D → Mu → Prop),
    (∀ a ∈ items, ∀ (w acc : List D) (P : S → Mu → Prop) (P2 : Mu → Prop), IsW w → (∀ d w', IsW w' → R a d → P (.d d) (w' :: (ms ++ [acc]))) → g (.d (enc a)) ρ (w :: (ms ++ [acc])) fun ρ1 μ1 => tt ρ1 μ1 fun b μ2 => if b = true then fe ρ1 μ2 P else P2 μ2) →
    IsW w → acc.length + items.length ≤ 40000 → (∀ ds w', IsW w' → AllR R items ds → P (acc ++ ds) (w' :: ms)) → lcLoop g tt fe ok ρ (items.map enc) acc (w :: ms) P
  | [], acc, w, P, _, hw, _, q => ⟨hok _ _, by have := q [] w hw .nil; rwa [List.append_nil] at this⟩
  | a :: r, acc, w, P, h, hw, hl, q => by
    refine ⟨hok _ _, by simp at hl; omega, h a (by simp) w acc _ _ hw fun d w' hw' hr => ?_⟩
    refine ⟨d, rfl, ?_, ?_⟩
    · rw [← List.cons_append]; exact List.getLast?_concat ..
    · rw [← List.cons_append, List.dropLast_concat]
      refine lc_draw enc R ms hok r (acc ++ [d]) w' P (fun b hb => h b (List.mem_cons_of_mem _ hb)) hw' (by simp at hl ⊢; omega) fun ds w2 hw2 hr2 => ?_
      have := q (d :: ds) w2 hw2 (.cons hr hr2)
      rwa [List.append_assoc]

theorem map_set_int {v : Int} {i : Nat} {ns : List Int} : (ns.set i v).map D.int = (ns.map D.int).set i (.int v) := by rw [List.map_set]
structure Ch (n : Nat) (ch : List Rat) : Prop where
  bel : Bel ch n
  n4 : n ≤ 4
  z : ∀ r ∈ ch, Z 7 r
theorem sum_div (s : Int) (hs : 0 < s) : ∀ ns : List Int, sumR (ns.map fun k => Rat.divInt k s) = Rat.divInt ns.sum s
  | [] => by simp [sumR, Rat.zero_divInt]
  | k :: ns => by
    simp only [List.map_cons, sumR, sum_div s hs ns, List.sum_cons]
    rw [Rat.divInt_add_divInt _ _ (by omega) (by omega), ← Int.add_mul, Rat.divInt_mul_right (by omega)]
theorem sum_nn : ∀ {ns : List Int}, (∀ k ∈ ns, 0 ≤ k) → 0 ≤ ns.sum ∧ ∀ k ∈ ns, k ≤ ns.sum
  | [], _ => ⟨by simp, fun k hk => by cases hk⟩
  | n :: ns, h => by
    obtain ⟨h1, h2⟩ := sum_nn (ns := ns) fun k hk => h k (List.mem_cons_of_mem _ hk)
    have h0 := h n (by simp)
    rw [List.sum_cons]
    refine ⟨by omega, fun k hk => ?_⟩
    rcases List.mem_cons.mp hk with e | e
    · omega
    · have := h2 k e; omega
theorem sum_le17 : ∀ {ns : List Int}, (∀ k ∈ ns, k ≤ 17) → ns.sum ≤ 17 * ns.length
  | [], _ => by simp
  | n :: ns, h => by
    have h1 := sum_le17 (ns := ns) fun k hk => h k (List.mem_cons_of_mem _ hk)
    have h0 := h n (by simp)
    rw [List.sum_cons, List.length_cons]
    omega

theorem num_nn {k s : Int} (hk : 0 ≤ k) (hs : 0 < s) : 0 ≤ (Rat.divInt k s).num := by
  have e := low_div k s hs
  unfold frD at e
  injection e with e
  injection e with e1 e
  injection e1 with e1
  rw [e1]
  exact Int.ediv_nonneg hk (Int.natCast_nonneg _)
theorem bel_of {ns : List Int} {n : Nat} (hl : ns.length = n) (h4 : n ≤ 4) (h : ∀ k ∈ ns, 0 ≤ k ∧ k ≤ 17) (hs : 0 < ns.sum) : Ch n (ns.map fun k => Rat.divInt k ns.sum) := by
  have b := sum_le17 fun k hk => (h k hk).2
  refine ⟨⟨by rw [List.length_map]; exact hl, fun r hr => ?_, ?_⟩, h4, fun r hr => ?_⟩
  · obtain ⟨k, hk, rfl⟩ := List.mem_map.mp hr
    exact num_nn (h k hk).1 hs
  · rw [sum_div _ hs, Rat.divInt_self' (by omega)]
  · obtain ⟨k, hk, rfl⟩ := List.mem_map.mp hr
    have := h k hk
    exact z_div hs (show k.natAbs < 2 ^ 7 by omega) (show ns.sum.natAbs < 2 ^ 7 by omega)
def T__law_number : TF := fun ss μ P => ∃ w ms, ss = [.m 0] ∧ μ = w :: ms ∧ IsW w ∧ ∀ r w', IsW w' → NB r → P (frD r) (w' :: ms)
theorem mon__law_number : MonF T__law_number := fun ss μ P P' k ⟨a, b, e, e2, h, q⟩ => ⟨a, b, e, e2, h, fun r w' h1 h2 => k _ _ (q r w' h1 h2)⟩
theorem ok__law_number (t : Top K mg "_law_number" s__law_number ["well"]) (C__law_draw : DefOk P w K mg base "_law_draw" 1 2 T__law_draw) (C__law_lean : DefOk P w K mg base "_law_lean" 1 2 T__law_lean) :
    DefOk P w K mg base "_law_number" 2 1 T__law_number := by
  have nd := (sc__law_number).nd
  refine ok_defD (k := 1) t sc__law_number mon__law_number (fun f cdv A outer s H E hr =>
    (pds_cons (pds_set (pd_callD C__law_draw (hr.mono (by decide)) (by rfl) (pda_cons (pd_var (pv 0)) (pda_cons pd_int pda_nil))) (fun _ h => ps_set (i := 1) nd rfl (by first | exact Or.inl rfl | exact Or.inr rfl) h))
      (pds_cons (pds_if (ptd_cmp op_lt mon_gF snd_B0 (nomark _) (pd_var (pv 1)) pd_int) (pds_one (pd_ret (pd_tup (pda_cons (pd_op subW_ok mon_gF snd_subW (pd_callD C__law_draw (hr.mono (by decide)) (by rfl) (pda_cons (pd_var (pv 0)) (pda_cons pd_int pda_nil))) pd_int) (pda_cons pd_int pda_nil))))) pds_nil)
      (pds_cons (pds_if (ptd_cmp op_lt mon_gF snd_B0 (nomark _) (pd_var (pv 1)) pd_int) (pds_one (pd_ret (pd_callD C__law_lean (hr.mono (by decide)) (by rfl) (pda_cons (pd_op subW_ok mon_gF snd_subW (pd_callD C__law_draw (hr.mono (by decide)) (by rfl) (pda_cons (pd_var (pv 0)) (pda_cons pd_int pda_nil))) pd_int) (pda_cons (pd_op addW_ok mon_gF snd_addW pd_int (pd_callD C__law_draw (hr.mono (by decide)) (by rfl) (pda_cons (pd_var (pv 0)) (pda_cons pd_int pda_nil)))) pda_nil))))) pds_nil)
      (pds_one (pd_ret (pd_callD C__law_lean (hr.mono (by decide)) (by rfl) (pda_cons (pd_op subW_ok mon_gF snd_subW (pd_callD C__law_draw (hr.mono (by decide)) (by rfl) (pda_cons (pd_var (pv 0)) (pda_cons (pd_op op_pow mon_gF snd_I pd_int pd_int) pda_nil))) (pd_op op_pow mon_gF snd_I pd_int pd_int)) (pda_cons (pd_op addW_ok mon_gF snd_addW pd_int (pd_callD C__law_draw (hr.mono (by decide)) (by rfl) (pda_cons (pd_var (pv 0)) (pda_cons pd_int pda_nil)))) pda_nil))))))))) ?_
  intro ss μ Q hl h
  obtain ⟨w0, ms, rfl, rfl, hw, q⟩ := h
  have p67 : (10 : Nat) ^ 20 ≤ 2 ^ 67 := by decide
  have b67 : (100 : Nat) ≤ 2 ^ 67 := by decide
  walk_at "dv"
  refine ⟨w0, ms, _, rfl, rfl, ⟨hw, by decide, by decide⟩, fun r1 w1 hw1 a0 a1 => ?_⟩
  walk_at "dv"
  by_cases c : r1 < 10
  · rw [if_pos c]
    refine ⟨w1, ms, _, rfl, rfl, ⟨hw1, by decide, by decide⟩, fun r2 w2 hw2 b0 b1 => ?_⟩
    walk_at "dv"
    rw [fr_int]
    exact q _ _ hw2 (nb_int (Nat.le_trans (show (r2 - 1).natAbs ≤ 100 by omega) b67))
  · rw [if_neg c]
    by_cases c2 : r1 < 13
    · rw [if_pos c2]
      refine ⟨w1, ms, _, rfl, rfl, ⟨hw1, by decide, by decide⟩, fun r2 w2 hw2 b0 b1 => ?_⟩
      walk_at "dv"
      refine ⟨w2, ms, _, rfl, rfl, ⟨hw2, by decide, by decide⟩, fun r3 w3 hw3 d0 d1 => ?_⟩
      walk_at "dv"
      refine ⟨_, _, rfl, ⟨by omega, lt_8000 (n := 10) (show (1 + r3).natAbs < 2 ^ 10 by omega) (by decide)⟩, ?_⟩
      walk_at "dv"
      exact q _ _ hw3 (nb_div (by omega) (by omega) (Nat.le_trans (show (r2 - 6).natAbs ≤ 100 by omega) b67))
    · rw [if_neg c2]
      refine ⟨⟨by decide, by decide, by decide⟩, ?_⟩
      have e20 : (10 : Int) ^ 20 = 100000000000000000000 := by decide
      rw [e20]
      refine ⟨w1, ms, _, rfl, rfl, ⟨hw1, by decide, by decide⟩, fun r2 w2 hw2 b0 b1 => ?_⟩
      walk_at "dv"
      refine ⟨⟨by decide, by decide, by decide⟩, ?_⟩
      refine ⟨w2, ms, _, rfl, rfl, ⟨hw2, by decide, by decide⟩, fun r3 w3 hw3 d0 d1 => ?_⟩
      walk_at "dv"
      have e6 : (10 : Int) ^ 6 = 1000000 := by decide
      rw [e6]
      refine ⟨_, _, rfl, ⟨by omega, lt_8000 (n := 10) (show (1 + r3).natAbs < 2 ^ 10 by omega) (by decide)⟩, ?_⟩
      walk_at "dv"
      refine q _ _ hw3 (nb_div (by omega) (by omega) (Nat.le_trans ?_ p67))
      have : (10 : Nat) ^ 20 = 100000000000000000000 := by decide
      omega
def T__law_row : TF := fun ss μ P => ∃ w ms, ∃ n : Nat, ss = [.m 0, .d (.int (n : Int))] ∧ μ = w :: ms ∧ (IsW w ∧ n ≤ 100) ∧ ∀ rs w', IsW w' → (rs.length = n ∧ ∀ r ∈ rs, NB r) → P (rowL rs) (w' :: ms)
theorem mon__law_row : MonF T__law_row := fun ss μ P P' k ⟨a, b, c, e, e2, h, q⟩ => ⟨a, b, c, e, e2, h, fun r w' h1 h2 => k _ _ (q r w' h1 h2)⟩
theorem ok__law_row (t : Top K mg "_law_row" s__law_row ["well", "n"]) (C__law_number : DefOk P w K mg base "_law_number" 2 1 T__law_number) (m_range : mg "range" = none) :
    DefOk P w K mg base "_law_row" 3 2 T__law_row := by
  have nd := (sc__law_row).nd
  refine ok_defD (k := 2) t sc__law_row mon__law_row (fun f cdv A outer s H E hr =>
    (pds_cons (pds_new (pdn_lst pda_nil) (fun _ h => ps_set (i := 2) nd rfl (by first | exact Or.inl rfl | exact Or.inr rfl) h))
      (pds_cons (pds_for PassesOwn.never rfl (pdi_range (by rfl) m_range (pda_cons (pd_var (pv 1)) pda_nil)) (pdg_name (pg_name (i := 3) nd rfl (by first | exact Or.inl rfl | exact Or.inr rfl))) (pds_one (pds_app (pd_var (pv 2)) (pd_callD C__law_number (hr.mono (by decide)) (by rfl) (pda_cons (pd_var (pv 0)) pda_nil)) (fun _ _ h1 h2 => ps_expr (pe_bm PySem.F.plainAttrs_list PySem.F.slot_list_append PySem.F.type_list_append mt_append h1 h2)))))
      (pds_one (pd_ret (pd_var (pv 2))))))) ?_
  intro ss μ Q hl h
  obtain ⟨w0, ms, n, rfl, rfl, ⟨hw, hn⟩, q⟩ := h
  walk_at "dv"
  refine ⟨by omega, by omega, ?_⟩
  rw [rngD_nat]
  have key : ∀ (is : List Nat) (rs : List Rat) (w : List D) (sl : Option S) (k : K4), IsW w → rs.length + is.length ≤ 100 → (∀ r ∈ rs, NB r) → (∀ (rs' : List Rat) (w' : List D) (sl' : Option S), IsW w' → (rs'.length = rs.length + is.length ∧ ∀ r ∈ rs', NB r) → k.nx [some (.m 0), some (.d (.int (n : Int))), some (.m (ms.length + 1)), sl'] (w' :: (ms ++ [rs'.map frD]))) →
      loopS (gN 3) (fApp (fVar 2) (fCall 1 T__law_number (fACons (fVar 0) fANil))) (fun _ => True) (is.map fun (i : Nat) => D.int (i : Int)) [some (.m 0), some (.d (.int (n : Int))), some (.m (ms.length + 1)), sl] (w :: (ms ++ [rs.map frD])) k := by
    intro is
    induction is with
    | nil => intro rs w sl k hw _ hr hk; exact ⟨trivial, hk rs w sl hw ⟨by simp, hr⟩⟩
    | cons i is ih =>
      intro rs w sl k hw hl hr hk
      refine ⟨trivial, ?_⟩
      walk_at "dv"
      refine ⟨w, _, rfl, rfl, hw, fun r w' hw' hb => ?_⟩
      walk_at "dv"
      rw [get_last]
      walk_at "dv"
      refine ⟨by rw [List.length_map]; rw [List.length_cons] at hl; omega, ?_⟩
      rw [set_last]
      have e : rs.map frD ++ [frD r] = (rs ++ [r]).map frD := by simp
      rw [e]
      refine ih (rs ++ [r]) w' _ k hw' (by simp at hl ⊢; omega) (fun x hx => ?_) fun rs' w2 sl' h1 h2 => hk rs' w2 sl' h1 ⟨by have := h2.1; simp at this ⊢; omega, h2.2⟩
      rcases List.mem_append.mp hx with hx | hx
      · exact hr x hx
      · rw [List.mem_singleton] at hx; rw [hx]; exact hb
  refine key (List.range n) [] w0 none _ hw (by simp; omega) (fun r hr => by cases hr) fun rs' w' sl' h1 h2 => ?_
  walk_at "dv"
  rw [get_last, List.take_left]
  exact ⟨_, rfl, q rs' w' h1 ⟨by simpa using h2.1, h2.2⟩⟩
def T__law_sizes : TF := fun ss μ P => ∃ w ms, ss = [.m 0] ∧ μ = w :: ms ∧ IsW w ∧ ∀ n m w', IsW w' → (2 ≤ n ∧ n ≤ 4 ∧ 1 ≤ m ∧ m ≤ 5) → P (.tup [.int (n : Nat), .int (m : Nat)]) (w' :: ms)
theorem mon__law_sizes : MonF T__law_sizes := fun ss μ P P' k ⟨a, b, e, e2, h, q⟩ => ⟨a, b, e, e2, h, fun n m w' h1 h2 => k _ _ (q n m w' h1 h2)⟩
theorem ok__law_sizes (t : Top K mg "_law_sizes" s__law_sizes ["well"]) (C__law_one : DefOk P w K mg base "_law_one" 2 2 T__law_one) :
    DefOk P w K mg base "_law_sizes" 3 1 T__law_sizes := by
  have nd := (sc__law_sizes).nd
  refine ok_defD (k := 2) t sc__law_sizes mon__law_sizes (fun f cdv A outer s H E hr =>
    (pds_one (pd_ret (pd_callD C__law_one (hr.mono (by decide)) (by rfl) (pda_cons (pd_var (pv 0)) (pda_cons (pd_tup (pda_cons (pd_tup (pda_cons pd_int (pda_cons pd_int pda_nil))) (pda_cons (pd_tup (pda_cons pd_int (pda_cons pd_int pda_nil))) (pda_cons (pd_tup (pda_cons pd_int (pda_cons pd_int pda_nil))) (pda_cons (pd_tup (pda_cons pd_int (pda_cons pd_int pda_nil))) (pda_cons (pd_tup (pda_cons pd_int (pda_cons pd_int pda_nil))) (pda_cons (pd_tup (pda_cons pd_int (pda_cons pd_int pda_nil))) (pda_cons (pd_tup (pda_cons pd_int (pda_cons pd_int pda_nil))) (pda_cons (pd_tup (pda_cons pd_int (pda_cons pd_int pda_nil))) (pda_cons (pd_tup (pda_cons pd_int (pda_cons pd_int pda_nil))) (pda_cons (pd_tup (pda_cons pd_int (pda_cons pd_int pda_nil))) (pda_cons (pd_tup (pda_cons pd_int (pda_cons pd_int pda_nil))) (pda_cons (pd_tup (pda_cons pd_int (pda_cons pd_int pda_nil))) (pda_cons (pd_tup (pda_cons pd_int (pda_cons pd_int pda_nil))) (pda_cons (pd_tup (pda_cons pd_int (pda_cons pd_int pda_nil))) (pda_cons (pd_tup (pda_cons pd_int (pda_cons pd_int pda_nil))) (pda_cons (pd_tup (pda_cons pd_int (pda_cons pd_int pda_nil))) (pda_cons (pd_tup (pda_cons pd_int (pda_cons pd_int pda_nil))) (pda_cons (pd_tup (pda_cons pd_int (pda_cons pd_int pda_nil))) (pda_cons (pd_tup (pda_cons pd_int (pda_cons pd_int pda_nil))) (pda_cons (pd_tup (pda_cons pd_int (pda_cons pd_int pda_nil))) pda_nil))))))))))))))))))))) pda_nil)))))) ?_
  intro ss μ Q hl h
  obtain ⟨w0, ms, rfl, rfl, hw, q⟩ := h
  walk_at "dv"
  refine ⟨w0, ms, _, .inl rfl, rfl, ⟨hw, by simp, by simp⟩, fun d w' hw' hd => ?_⟩
  walk_at "dv"
  simp only [List.mem_cons, List.not_mem_nil, or_false] at hd
  rcases hd with rfl | rfl | rfl | rfl | rfl | rfl | rfl | rfl | rfl | rfl | rfl | rfl | rfl | rfl | rfl | rfl | rfl | rfl | rfl | rfl
  · exact q 2 2 w' hw' (by decide)
  · exact q 2 3 w' hw' (by decide)
  · exact q 3 2 w' hw' (by decide)
  · exact q 3 3 w' hw' (by decide)
  · exact q 2 4 w' hw' (by decide)
  · exact q 3 3 w' hw' (by decide)
  · exact q 2 1 w' hw' (by decide)
  · exact q 2 5 w' hw' (by decide)
  · exact q 3 2 w' hw' (by decide)
  · exact q 2 3 w' hw' (by decide)
  · exact q 3 4 w' hw' (by decide)
  · exact q 4 2 w' hw' (by decide)
  · exact q 2 2 w' hw' (by decide)
  · exact q 3 1 w' hw' (by decide)
  · exact q 2 3 w' hw' (by decide)
  · exact q 3 3 w' hw' (by decide)
  · exact q 4 1 w' hw' (by decide)
  · exact q 2 4 w' hw' (by decide)
  · exact q 3 5 w' hw' (by decide)
  · exact q 4 3 w' hw' (by decide)
def T__law_chance : TF := fun ss μ P => ∃ w ms, ∃ n : Nat, ss = [.m 0, .d (.int (n : Int))] ∧ μ = w :: ms ∧ (IsW w ∧ 1 ≤ n ∧ n ≤ 4) ∧ ∀ ch w', IsW w' → Ch n ch → P (rowD ch) (w' :: ms)
theorem mon__law_chance : MonF T__law_chance := fun ss μ P P' k ⟨a, b, c, e, e2, h, q⟩ => ⟨a, b, c, e, e2, h, fun r w' h1 h2 => k _ _ (q r w' h1 h2)⟩
theorem ok__law_chance (t : Top K mg "_law_chance" s__law_chance ["well", "n"]) (C__law_draw : DefOk P w K mg base "_law_draw" 1 2 T__law_draw) (C__law_lean : DefOk P w K mg base "_law_lean" 1 2 T__law_lean) (C__law_one : DefOk P w K mg base "_law_one" 2 2 T__law_one) (m_range : mg "range" = none) (m_sum : mg "sum" = none) (m_tuple : mg "tuple" = none) :
    DefOk P w K mg base "_law_chance" 3 2 T__law_chance := by
  have nd := (sc__law_chance).nd
  refine ok_defD (k := 2) t sc__law_chance mon__law_chance (fun f cdv A outer s H E hr =>
    (pds_cons (pds_new (pdn_lst pda_nil) (fun _ h => ps_set (i := 2) nd rfl (by first | exact Or.inl rfl | exact Or.inr rfl) h))
      (pds_cons (pds_for PassesOwn.never rfl (pdi_range (by rfl) m_range (pda_cons (pd_var (pv 1)) pda_nil)) (pdg_name (pg_name (i := 3) nd rfl (by first | exact Or.inl rfl | exact Or.inr rfl))) (pds_one (pds_app (pd_var (pv 2)) (pd_callD C__law_one (hr.mono (by decide)) (by rfl) (pda_cons (pd_var (pv 0)) (pda_cons (pd_tup (pda_cons pd_int (pda_cons pd_int (pda_cons pd_int (pda_cons pd_int (pda_cons pd_int (pda_cons pd_int (pda_cons pd_int (pda_cons pd_int (pda_cons pd_int pda_nil)))))))))) pda_nil))) (fun _ _ h1 h2 => ps_expr (pe_bm PySem.F.plainAttrs_list PySem.F.slot_list_append PySem.F.type_list_append mt_append h1 h2)))))
      (pds_cons (pds_if (ptd_cmp (eq_ok hr.units) mon_gF snd_eq (nomark _) (pd_B (cr_sum rfl) snd_sum mon_gA (by rfl) m_sum bt_sum (pda_cons (pd_var (pv 2)) pda_nil)) pd_int) (pds_one (pds_asg pd_int (pdg_sub (pd_var (pv 2)) (pd_callD C__law_draw (hr.mono (by decide)) (by rfl) (pda_cons (pd_var (pv 0)) (pda_cons (pd_var (pv 1)) pda_nil)))))) pds_nil)
      (pds_one (pd_ret (pd_Ty call_tuple_of snd_tupleOf mon_gA (by rfl) m_tuple bt_tuple (pda_cons (pd_of_N (pdn_lc (own := [("part", 4)]) rfl nd (pdi_seq (pd_var (pv 2))) (blkOk_by (N := N__law_chance) (sc := defScope s__law_chance) (by decide +kernel)) (fun _ _ _ _ _ => (pdg_name (pg_name (i := 4) nd rfl (by first | exact Or.inl rfl | exact Or.inr rfl)))) (fun _ _ _ _ _ => pdts_nil) (fun _ _ _ _ _ => (pd_callD C__law_lean (hr.mono (by decide)) (by rfl) (pda_cons (pd_var (pv 4)) (pda_cons (pd_B (cr_sum rfl) snd_sum mon_gA (by rfl) m_sum bt_sum (pda_cons (pd_var (pv 2)) pda_nil)) pda_nil)))) (by decide))) pda_nil)))))))) ?_
  intro ss μ Q hl h
  obtain ⟨w0, ms, n, rfl, rfl, ⟨hw, h1, h4⟩, q⟩ := h
  walk_at "dv"
  refine ⟨by omega, by omega, ?_⟩
  rw [rngD_nat]
  have key : ∀ (is : List Nat) (ns : List Int) (w : List D) (sl s5 : Option S) (k : K4), IsW w → ns.length + is.length ≤ 100 → (∀ r ∈ ns, 0 ≤ r ∧ r ≤ 17) → (∀ (ns' : List Int) (w' : List D) (sl' : Option S), IsW w' → (ns'.length = ns.length + is.length ∧ ∀ r ∈ ns', 0 ≤ r ∧ r ≤ 17) → k.nx [some (.m 0), some (.d (.int (n : Int))), some (.m (ms.length + 1)), sl', s5] (w' :: (ms ++ [ns'.map D.int]))) →
      loopS (gN 3) (fApp (fVar 2) (fCall 2 T__law_one (fACons (fVar 0) (fACons (fTup (fACons (fC (.int 0)) (fACons (fC (.int 1)) (fACons (fC (.int 1)) (fACons (fC (.int 2)) (fACons (fC (.int 3)) (fACons (fC (.int 0)) (fACons (fC (.int 1)) (fACons (fC (.int 5)) (fACons (fC (.int 17)) fANil)))))))))) fANil)))) (fun _ => True) (is.map fun (i : Nat) => D.int (i : Int)) [some (.m 0), some (.d (.int (n : Int))), some (.m (ms.length + 1)), sl, s5] (w :: (ms ++ [ns.map D.int])) k := by
    intro is
    induction is with
    | nil => intro ns w sl s5 k hw _ hr hk; exact ⟨trivial, hk ns w sl hw ⟨by simp, hr⟩⟩
    | cons i is ih =>
      intro ns w sl s5 k hw hl hr hk
      refine ⟨trivial, ?_⟩
      walk_at "dv"
      refine ⟨w, _, _, .inl rfl, rfl, ⟨hw, by simp, by simp⟩, fun d w' hw' hd => ?_⟩
      walk_at "dv"
      rw [get_last]
      have hd2 : ∃ r : Int, d = .int r ∧ 0 ≤ r ∧ r ≤ 17 := by
        simp only [List.mem_cons, List.not_mem_nil, or_false] at hd
        rcases hd with rfl | rfl | rfl | rfl | rfl | rfl | rfl | rfl | rfl <;> exact ⟨_, rfl, by decide, by decide⟩
      obtain ⟨r, rfl, r0, r17⟩ := hd2
      refine ⟨_, rfl, by rw [List.length_map]; rw [List.length_cons] at hl; omega, ?_⟩
      rw [set_last]
      have e : ns.map D.int ++ [D.int r] = (ns ++ [r]).map D.int := by simp
      rw [e]
      refine ih (ns ++ [r]) w' _ s5 k hw' (by simp at hl ⊢; omega) (fun x hx => ?_) fun rs' w2 sl' h1 h2 => hk rs' w2 sl' h1 ⟨by have := h2.1; simp at this ⊢; omega, h2.2⟩
      rcases List.mem_append.mp hx with hx | hx
      · exact hr x hx
      · rw [List.mem_singleton] at hx; rw [hx]; exact ⟨r0, r17⟩
  refine key (List.range n) [] w0 none none _ hw (by simp; omega) (fun r hr => by cases hr) fun ns w' sl' g1 g2 => ?_
  have hn : ns.length = n := by simpa using g2.1
  have gs := sum_nn fun k hk => (g2.2 k hk).1
  have fin : ∀ (ns : List Int) (w' : List D), IsW w' → ns.length = n → (∀ r ∈ ns, 0 ≤ r ∧ r ≤ 17) → 0 < ns.sum → ∀ sl : Option S,
      lcLoop (gN 4) fYes (fCall 2 T__law_lean (fACons (fVar 4) (fACons (fCB (gA cA0 (f1L gSum)) (fACons (fVar 2) fANil)) fANil))) (fun μ' => μ'[ms.length + 1]? = some (ns.map D.int)) [some (.m 0), some (.d (.int (n : Int))), some (.m (ms.length + 1)), sl, none] (ns.map D.int) [] (w' :: (ms ++ [ns.map D.int])) fun ds μ' => Q (.tup ds) (List.take (ms.length + 1) μ') := by
    intro ns w' hw' hn hr hs sl
    have hle := sum_le17 fun k hk => (hr k hk).2
    have hget : ∀ acc : List D, (w' :: (ms ++ [ns.map D.int]) ++ [acc])[ms.length + 1]? = some (ns.map D.int) := fun acc => by
      rw [List.cons_append, List.getElem?_cons_succ, List.append_assoc, List.getElem?_append_right (Nat.le_refl _), Nat.sub_self]
      rfl
    refine lc_pure D.int (fun k => some (frD (Rat.divInt k ns.sum))) (w' :: (ms ++ [ns.map D.int])) hget ns [] _ (fun k hk acc P P2 h => ?_) (by simp; omega) ?_
    · have hg := hget acc
      rw [List.cons_append] at hg h ⊢
      rw [List.getElem?_cons_succ] at hg
      walk_at "dv"
      simp only [hg, ints_map]
      walk_at "dv"
      exact ⟨k, ns.sum, rfl, ⟨hs, lt_8000 (n := 10) (show ns.sum.natAbs < 2 ^ 10 by omega) (by decide)⟩, h⟩
    · have e : ns.filterMap (fun k => some (frD (Rat.divInt k ns.sum))) = (ns.map fun k => Rat.divInt k ns.sum).map frD := by
        rw [List.map_map, List.filterMap_eq_map']
        rfl
      rw [e, List.nil_append, List.take_succ_cons, List.take_left]
      exact q _ w' hw' (bel_of hn h4 hr hs)
  walk_at "dv"
  simp only [get_last, ints_map]
  walk_at "dv"
  by_cases c : ns.sum = 0
  · rw [if_pos c]
    refine ⟨w', _, _, rfl, rfl, ⟨g1, by omega, by omega⟩, fun r w2 hw2 r0 r1 => ⟨r, rfl, ns.map D.int, ?_, r0, ?_, ?_⟩⟩
    · rw [List.getElem?_cons_succ]; exact get_last
    · rw [List.length_map, hn]; exact r1
    · rw [List.set_cons_succ, set_last, ← map_set_int]
      refine ⟨((ns.set r.toNat 1).map D.int, fun μ' => μ'[ms.length + 1]? = some ((ns.set r.toNat 1).map D.int)), ?_, ?_⟩
      · rw [List.getElem?_cons_succ, get_last]; rfl
      · have hr : ∀ x ∈ ns.set r.toNat 1, 0 ≤ x ∧ x ≤ 17 := fun x hx => by
          rcases List.mem_or_eq_of_mem_set hx with hx | hx
          · exact g2.2 x hx
          · rw [hx]; exact ⟨by decide, by decide⟩
        have hl2 : (ns.set r.toNat 1).length = n := by rw [List.length_set]; exact hn
        have hm : (1 : Int) ∈ ns.set r.toNat 1 := List.mem_set (by omega) 1
        have hs := (sum_nn fun k hk => (hr k hk).1).2 1 hm
        exact fin _ w2 hw2 hl2 hr (by omega) sl'
  · rw [if_neg c]
    exact fin ns w' g1 hn g2.2 (by omega) _
def T__law_plus : TF := fun ss μ P => ∃ r s : Rat, ss = [.d (frD r), .d (frD s)] ∧ (Z 3000 r ∧ Z 3000 s) ∧ P (frD (r + s)) μ
theorem mon__law_plus : MonF T__law_plus := fun ss μ P P' k ⟨a, b, e, h, q⟩ => ⟨a, b, e, h, k _ _ q⟩
theorem ok__law_plus (t : Top K mg "_law_plus" s__law_plus ["x", "y"]) (C__law_lean : DefOk P w K mg base "_law_lean" 1 2 T__law_lean) :
    DefOk P w K mg base "_law_plus" 2 2 T__law_plus := by
  have nd := (sc__law_plus).nd
  refine ok_defD (k := 1) t sc__law_plus mon__law_plus (fun f cdv A outer s H E hr =>
    (pds_one (pd_ret (pd_callD C__law_lean (hr.mono (by decide)) (by rfl) (pda_cons (pd_op addW_ok mon_gF snd_addW (pd_op op_mulW mon_gF snd_I (pd_ix ix_ok mon_gF snd_ix (fun _ _ => rfl) (pd_var (pv 0)) pd_int) (pd_ix ix_ok mon_gF snd_ix (fun _ _ => rfl) (pd_var (pv 1)) pd_int)) (pd_op op_mulW mon_gF snd_I (pd_ix ix_ok mon_gF snd_ix (fun _ _ => rfl) (pd_var (pv 1)) pd_int) (pd_ix ix_ok mon_gF snd_ix (fun _ _ => rfl) (pd_var (pv 0)) pd_int))) (pda_cons (pd_op op_mulW mon_gF snd_I (pd_ix ix_ok mon_gF snd_ix (fun _ _ => rfl) (pd_var (pv 0)) pd_int) (pd_ix ix_ok mon_gF snd_ix (fun _ _ => rfl) (pd_var (pv 1)) pd_int)) pda_nil)))))) ?_
  intro ss μ Q hl h
  obtain ⟨r, s, rfl, ⟨h1, h2⟩, q⟩ := h
  unfold frD
  walk_at "dv"
  refine ⟨mul_ok h1.2 (den_ok h2) (by decide), mul_ok h2.2 (den_ok h1) (by decide), mul_ok (den_ok h1) (den_ok h2) (by decide), _, _, rfl, ⟨Int.mul_pos (den_pos r) (den_pos s), up_lt (mul_lt' (den_ok h1) (den_ok h2)) (by decide)⟩, ?_⟩
  rw [← add_divInt]
  walk_at "dv"
  exact q
def T__law_times : TF := fun ss μ P => ∃ r s : Rat, ss = [.d (frD r), .d (frD s)] ∧ (Z 3000 r ∧ Z 3000 s) ∧ P (frD (r * s)) μ
theorem mon__law_times : MonF T__law_times := fun ss μ P P' k ⟨a, b, e, h, q⟩ => ⟨a, b, e, h, k _ _ q⟩
theorem ok__law_times (t : Top K mg "_law_times" s__law_times ["x", "y"]) (C__law_lean : DefOk P w K mg base "_law_lean" 1 2 T__law_lean) :
    DefOk P w K mg base "_law_times" 2 2 T__law_times := by
  have nd := (sc__law_times).nd
  refine ok_defD (k := 1) t sc__law_times mon__law_times (fun f cdv A outer s H E hr =>
    (pds_one (pd_ret (pd_callD C__law_lean (hr.mono (by decide)) (by rfl) (pda_cons (pd_op op_mulW mon_gF snd_I (pd_ix ix_ok mon_gF snd_ix (fun _ _ => rfl) (pd_var (pv 0)) pd_int) (pd_ix ix_ok mon_gF snd_ix (fun _ _ => rfl) (pd_var (pv 1)) pd_int)) (pda_cons (pd_op op_mulW mon_gF snd_I (pd_ix ix_ok mon_gF snd_ix (fun _ _ => rfl) (pd_var (pv 0)) pd_int) (pd_ix ix_ok mon_gF snd_ix (fun _ _ => rfl) (pd_var (pv 1)) pd_int)) pda_nil)))))) ?_
  intro ss μ Q hl h
  obtain ⟨r, s, rfl, ⟨h1, h2⟩, q⟩ := h
  unfold frD
  walk_at "dv"
  refine ⟨mul_ok h1.2 h2.2 (by decide), mul_ok (den_ok h1) (den_ok h2) (by decide), _, _, rfl, ⟨Int.mul_pos (den_pos r) (den_pos s), up_lt (mul_lt' (den_ok h1) (den_ok h2)) (by decide)⟩, ?_⟩
  rw [← mul_divInt]
  walk_at "dv"
  exact q
def T__law_dot : TF := fun ss μ P => ∃ xs ys : List Rat, ss = [.d (rowD xs), .d (rowL ys)] ∧ (xs.length ≤ 8 ∧ (∀ r ∈ xs, Z 128 r) ∧ ∀ r ∈ ys, Z 128 r) ∧ P (frD (dotR xs ys)) μ
theorem mon__law_dot : MonF T__law_dot := fun ss μ P P' k ⟨a, b, e, h, q⟩ => ⟨a, b, e, h, k _ _ q⟩
theorem ok__law_dot (t : Top K mg "_law_dot" s__law_dot ["one", "two"]) (C__law_plus : DefOk P w K mg base "_law_plus" 2 2 T__law_plus) (C__law_times : DefOk P w K mg base "_law_times" 2 2 T__law_times) (m_zip : mg "zip" = none) :
    DefOk P w K mg base "_law_dot" 3 2 T__law_dot := by
  have nd := (sc__law_dot).nd
  refine ok_defD (k := 2) t sc__law_dot mon__law_dot (fun f cdv A outer s H E hr =>
    (pds_cons (pds_set (pd_tup (pda_cons pd_int (pda_cons pd_int pda_nil))) (fun _ h => ps_set (i := 2) nd rfl (by first | exact Or.inl rfl | exact Or.inr rfl) h))
      (pds_cons (pds_for PassesOwn.never rfl (pdi_zipG (by rfl) m_zip (pda_cons (pd_var (pv 0)) (pda_cons (pd_var (pv 1)) pda_nil))) (pdg_tup (n := 2) rfl (pdgs_cons (pdg_name (pg_name (i := 3) nd rfl (by first | exact Or.inl rfl | exact Or.inr rfl))) (pdgs_cons (pdg_name (pg_name (i := 4) nd rfl (by first | exact Or.inl rfl | exact Or.inr rfl))) pdgs_nil))) (pds_one (pds_set (pd_callD C__law_plus (hr.mono (by decide)) (by rfl) (pda_cons (pd_var (pv 2)) (pda_cons (pd_callD C__law_times (hr.mono (by decide)) (by rfl) (pda_cons (pd_var (pv 3)) (pda_cons (pd_var (pv 4)) pda_nil))) pda_nil))) (fun _ h => ps_set (i := 2) nd rfl (by first | exact Or.inl rfl | exact Or.inr rfl) h))))
      (pds_one (pd_ret (pd_var (pv 2))))))) ?_
  intro ss μ Q hl h
  obtain ⟨xs, ys, rfl, ⟨h1, h2, h3⟩, q⟩ := h
  have key : ∀ (us vs : List Rat) (a : Rat) (t : Nat) (s3 s4 : Option S) (k : K4), (∀ r ∈ us, Z 128 r) → (∀ r ∈ vs, Z 128 r) → Z t a → t + us.length * 257 ≤ 2600 → (∀ s3 s4, k.nx [some (.d (rowD xs)), some (.d (rowL ys)), some (.d (frD (a + dotR us vs))), s3, s4] μ) →
      loopS (gT 2 (gsCons (gN 3) (gsCons (gN 4) gsNil))) (fAsg (fCall 2 T__law_plus (fACons (fVar 2) (fACons (fCall 2 T__law_times (fACons (fVar 3) (fACons (fVar 4) fANil))) fANil))) (gN 2)) (fun μ' => True) (zipD (us.map frD) (vs.map frD)) [some (.d (rowD xs)), some (.d (rowL ys)), some (.d (frD a)), s3, s4] μ k := by
    intro us
    induction us with
    | nil => intro vs a t s3 s4 k _ _ _ _ hk; refine ⟨trivial, ?_⟩; have := hk s3 s4; rwa [show a + dotR [] vs = a by cases vs <;> exact Rat.add_zero a] at this
    | cons x us ih =>
      intro vs a t s3 s4 k hx hy ha hi hk
      cases vs with
      | nil => refine ⟨trivial, ?_⟩; have := hk s3 s4; rwa [show a + dotR (x :: us) [] = a from Rat.add_zero a] at this
      | cons y vs =>
        have zx := hx x (by simp)
        have zy := hy y (by simp)
        rw [List.length_cons] at hi
        have zm := zx.mul zy
        refine ⟨trivial, ?_⟩
        walk_at "dv"
        refine ⟨x, y, rfl, ⟨zx.mono (by decide), zy.mono (by decide)⟩, ?_⟩
        refine ⟨a, x * y, rfl, ⟨ha.mono (by omega), zm.mono (by decide)⟩, ?_⟩
        refine ih vs (a + x * y) (t + 256 + 1) _ _ k (fun r hr => hx r (List.mem_cons_of_mem _ hr)) (fun r hr => hy r (List.mem_cons_of_mem _ hr)) (ha.add zm) (by omega) fun s3 s4 => ?_
        have := hk s3 s4
        rw [show a + dotR (x :: us) (y :: vs) = a + x * y + dotR us vs from (Rat.add_assoc _ _ _).symm] at this
        exact this
  have f0 : D.tup [.int 0, .int 1] = frD 0 := rfl
  unfold rowD rowL
  walk_at "dv"
  rw [f0]
  refine key xs ys 0 1 none none _ h2 h3 ⟨by decide, by decide⟩ (by omega) fun s3 s4 => ?_
  rw [Rat.zero_add]
  walk_at "dv"
  exact q
end K2

/-! part Q7 -/
set_option Elab.async false
set_option linter.all false
set_option maxRecDepth 100000
set_option autoImplicit false
set_option exponentiation.threshold 9000
set_option maxHeartbeats 1000000
namespace K2
open PySem PySem.Spec L2 DV
open PyProof.Rows (envOfC)
variable {P : Program} {w : World} {K : PySem.W.Frag} {mg : Str → Option Value} {base : Heap}

local macro_rules | `(tactic| walk_at "dv") => `(tactic| simp only [startR, cRepU, fIStar, fIZipG, fParDN, cInP, fInP, lstOf, fIns, fExt, fIsN, fIsNotN, isNonS, fAug, fAddW, fSubW, fGtW, fMul2, fModM, cAddW, cEqP, fEqP, fNeP, fInI, fIsiW, Option.bind_some, fRevT, fMk, fBare, fAtt, fIsX, fIsXT, fRaise, fRaise0, fTry, clD, suiteD, kNo, kBut, fXatt, fExprX, fCallX, kDX, gRepr2, cRepr2, datOf, errOf, kD, fin, fSeq, fNext, fDrop, fNRep, fNRg, fParN0, fPar3, fPar3N, fAsg, fRet, fIfS, fNever, fPar, fNew, fApp, fVar, fC, fOp, fTest, fTAnd, fTOr, fTNot, fVAnd, fVOr, fVNot, fNeg, fIf, fChain, fANil, fACons, fTup, fLst, fCB, fNLst, fOfN, fYes, fIsi, fONone, fOSome, fSl, sliceF,
  gF, gA, cI, fI, c0, cAdd, fAdd, fIx, cRepT, fRepT, fEq, fNe, fNotIn, intsOf, blsOf, allD, seqOf, tupOf, fLen, cA0, f1L, gSum, fTupleOf, fListOf, fA1, fA2, cDm, gN, gsNil_eq, gsCons_eq, gT_eq, gSb_eq, isB, itemsOf, fISeq, fIRng, fIEnum, fIZip, fIZipTL, fFor, fLc, wipeR, fCall, fCallK, fRetN, kN, fCallN, fCallOn, kwS, pick, gRepr, cRepr, List.filterMap_cons_some, List.filterMap_nil,
  List.map_cons, List.map_nil, List.length_cons, List.length_nil, List.replicate_succ, List.replicate_zero, List.cons_append, List.nil_append, List.append_nil, List.getElem?_cons_zero, List.getElem?_cons_succ, List.getElem?_nil, List.set_cons_zero, List.set_cons_succ, List.set_nil, List.take_succ_cons, List.take_zero, List.take_nil,
  Option.map_some, Option.map_none, Option.some.injEq, Option.get_some, exists_eq_left', exists_eq_left, exists_eq_right, true_and, and_true, if_true, if_false, reduceCtorEq, ite_true, ite_false, S.d.injEq, S.m.injEq, D.int.injEq, D.tup.injEq, D.lst.injEq, D.bl.injEq, D.str.injEq, List.cons.injEq, exists_and_left, exists_and_right,
  Nat.sub_zero, Nat.reduceSub, Nat.reduceAdd, Nat.zero_add, Nat.add_zero, Bool.not_true, Bool.not_false, Bool.false_eq_true, decide_eq_true_eq, Nat.reduceLT, Nat.reduceLeDiff, Nat.le_refl, List.take_length, Int.reduceLT, Int.reduceToNat, Nat.lt_irrefl, gt_iff_lt, Nat.not_lt_zero, Int.cast_ofNat_Int, decide_true, decide_false, and_assoc, Bool.false_and, Bool.true_and])

theorem fr_eq_pair {i j : Int} (h : 0 < j) : decide ((Rat.divInt i j).num = i ∧ ((Rat.divInt i j).den : Int) = j) = decide (Nat.gcd i.natAbs j.natAbs = 1) := by
  rw [decide_eq_decide]
  constructor
  · rintro ⟨h1, h2⟩
    have := (Rat.divInt i j).reduced
    rw [h1] at this
    have h3 : (Rat.divInt i j).den = j.natAbs := by omega
    rw [h3] at this
    exact this
  · intro g
    have := decFr_int h g
    unfold frD at this
    injection this with this
    injection this with e1 this
    injection this with e2 this
    injection e1 with e1
    injection e2 with e2
    exact ⟨e1.symm, e2.symm⟩
theorem tl_tup (ds : List D) : tl (.tup ds) = ds.length := rfl
def T__law_is_tuple : TF := fun ss μ P => ∃ (d : D) (n : Nat), ss = [.d d, .d (.int (n : Int))] ∧ fit d ∧ P (.bl (isTupB d && decide (tl d = n))) μ
theorem mon__law_is_tuple : MonF T__law_is_tuple := fun ss μ P P' k ⟨a, b, e, h, q⟩ => ⟨a, b, e, h, k _ _ q⟩
theorem ok__law_is_tuple (t : Top K mg "_law_is_tuple" s__law_is_tuple ["thing", "few"]) (m_isinstance : mg "isinstance" = none) (m_len : mg "len" = none) (m_tuple : mg "tuple" = none) :
    DefOk P w K mg base "_law_is_tuple" 1 2 T__law_is_tuple := by
  have nd := (sc__law_is_tuple).nd
  refine ok_defD (k := 0) t sc__law_is_tuple mon__law_is_tuple (fun f cdv A outer s H E hr =>
    (pds_one (pd_ret (pd_and (pd_isiW (T := "tuple") (pd_var (pv 0)) (by rfl) m_isinstance (by rfl) m_tuple bt_tuple (by decide) (by decide)) (pd_one (pd_cmp (eq_ok hr.units) mon_gF snd_eq (nomark _) (pd_B call_len_seq snd_len mon_gA (by rfl) m_len bt_len (pda_cons (pd_var (pv 0)) pda_nil)) (pd_var (pv 1)))))))) ?_
  intro ss μ Q hl h
  obtain ⟨d, n, rfl, hf, q⟩ := h
  walk_at "dv"
  rw [bw_tup hf]
  walk_at "dv"
  cases e : isTupB d with
  | false => rw [e] at q; walk_at "dv"; exact q
  | true =>
    cases d with
    | tup ds =>
      rw [e] at q
      walk_at "dv"
      have e2 : decide ((ds.length : Int) = (n : Int)) = decide (ds.length = n) := by rw [decide_eq_decide]; omega
      rw [e2]
      exact q
    | _ => cases e
def T__law_is_part : TF := fun ss μ P => ∃ d : D, ss = [.d d] ∧ fit d ∧ P (.bl (isFr d)) μ
theorem mon__law_is_part : MonF T__law_is_part := fun ss μ P P' k ⟨a, e, h, q⟩ => ⟨a, e, h, k _ _ q⟩
theorem ok__law_is_part (t : Top K mg "_law_is_part" s__law_is_part ["thing"]) (C__law_is_tuple : DefOk P w K mg base "_law_is_tuple" 1 2 T__law_is_tuple) (C__law_is_whole : DefOk P w K mg base "_law_is_whole" 1 1 T__law_is_whole) (C__law_lean : DefOk P w K mg base "_law_lean" 1 2 T__law_lean) :
    DefOk P w K mg base "_law_is_part" 2 1 T__law_is_part := by
  have nd := (sc__law_is_part).nd
  refine ok_defD (k := 1) t sc__law_is_part mon__law_is_part (fun f cdv A outer s H E hr =>
    (pds_cons (pds_if (ptd_w (pdw_or (ptd_not (ptd_val (pd_callD C__law_is_tuple (hr.mono (by decide)) (by rfl) (pda_cons (pd_var (pv 0)) (pda_cons pd_int pda_nil))))) (pdw_or (ptd_not (ptd_val (pd_callD C__law_is_whole (hr.mono (by decide)) (by rfl) (pda_cons (pd_ix ix_ok mon_gF snd_ix (fun _ _ => rfl) (pd_var (pv 0)) pd_int) pda_nil)))) (pdw_or1 (ptd_not (ptd_val (pd_callD C__law_is_whole (hr.mono (by decide)) (by rfl) (pda_cons (pd_ix ix_ok mon_gF snd_ix (fun _ _ => rfl) (pd_var (pv 0)) pd_int) pda_nil)))))))) (pds_one (pd_ret pd_bl)) pds_nil)
      (pds_one (pd_ret (pd_and (pd_cmp op_gt mon_gF snd_B0 (nomark _) (pd_ix ix_ok mon_gF snd_ix (fun _ _ => rfl) (pd_var (pv 0)) pd_int) pd_int) (pd_one (pd_cmp (eq_ok hr.units) mon_gF snd_eq (nomark _) (pd_callD C__law_lean (hr.mono (by decide)) (by rfl) (pda_cons (pd_ix ix_ok mon_gF snd_ix (fun _ _ => rfl) (pd_var (pv 0)) pd_int) (pda_cons (pd_ix ix_ok mon_gF snd_ix (fun _ _ => rfl) (pd_var (pv 0)) pd_int) pda_nil))) (pd_var (pv 0))))))))) ?_
  intro ss μ Q hl h
  obtain ⟨d, rfl, hf, q⟩ := h
  walk_at "dv"
  refine ⟨d, 2, rfl, hf, ?_⟩
  walk_at "dv"
  by_cases ht : ∃ a b, d = .tup [a, b]
  · obtain ⟨a, b, rfl⟩ := ht
    have fa := fitA_iff.mp hf.2
    rw [show (isTupB (.tup [a, b]) && decide (tl (.tup [a, b]) = 2)) = true from rfl]
    walk_at "dv"
    refine ⟨a, rfl, ⟨fa a (by simp), ?_⟩⟩
    walk_at "dv"
    cases ea : isWhB a with
    | false => rw [isFr_wh (.inl ea)] at q; walk_at "dv"; exact q
    | true =>
      walk_at "dv"
      refine ⟨b, rfl, ⟨fa b (by simp), ?_⟩⟩
      walk_at "dv"
      cases eb : isWhB b with
      | false => rw [isFr_wh (.inr eb)] at q; walk_at "dv"; exact q
      | true =>
        obtain ⟨i, rfl⟩ := wh_int ea
        obtain ⟨j, rfl⟩ := wh_int eb
        walk_at "dv"
        rw [isFr_int] at q
        by_cases hj : 0 < j
        · rw [if_pos hj]
          simp only [hj, true_and] at q
          refine ⟨i, j, rfl, ⟨hj, up_lt (fa _ (by simp) : fit (.int j)) (by decide)⟩, ?_⟩
          unfold frD
          walk_at "dv"
          rw [fr_eq_pair hj]
          exact q
        · rw [if_neg hj]
          simp only [hj, false_and, decide_false] at q
          exact q
  · have e : (isTupB d && decide (tl d = 2)) = false := by
      cases d with
      | tup ds =>
        show (true && decide (ds.length = 2)) = false
        rw [Bool.true_and]
        refine decide_eq_false fun h => ?_
        match ds, h with
        | [a, b], _ => exact ht ⟨a, b, rfl⟩
      | _ => rfl
    have e2 : isFr d = false := by
      cases h : isFr d with
      | false => rfl
      | true =>
        obtain ⟨r, rfl⟩ := isFr_some h
        exact absurd ⟨_, _, rfl⟩ ht
    rw [e2] at q
    rw [e]
    walk_at "dv"
    exact q
def T__law_is_row : TF := fun ss μ P => ∃ (d : D) (n : Nat), ss = [.d d, .d (.int (n : Int))] ∧ fit d ∧ P (.bl (isRow n d)) μ
theorem mon__law_is_row : MonF T__law_is_row := fun ss μ P P' k ⟨a, b, e, h, q⟩ => ⟨a, b, e, h, k _ _ q⟩
theorem ok__law_is_row (t : Top K mg "_law_is_row" s__law_is_row ["thing", "few"]) (C__law_is_part : DefOk P w K mg base "_law_is_part" 2 1 T__law_is_part) (C__law_is_tuple : DefOk P w K mg base "_law_is_tuple" 1 2 T__law_is_tuple) (m_all : mg "all" = none) :
    DefOk P w K mg base "_law_is_row" 3 2 T__law_is_row := by
  have nd := (sc__law_is_row).nd
  refine ok_defD (k := 2) t sc__law_is_row mon__law_is_row (fun f cdv A outer s H E hr =>
    (pds_one (pd_ret (pd_and (pd_callD C__law_is_tuple (hr.mono (by decide)) (by rfl) (pda_cons (pd_var (pv 0)) (pda_cons (pd_var (pv 1)) pda_nil))) (pd_one (pd_B (cr_all rfl) snd_all mon_gA (by rfl) m_all bt_all (pda_cons (pd_of_N (pdn_lc (own := [("x", 2)]) rfl nd (pdi_seq (pd_var (pv 0))) (blkOk_by (N := N__law_is_row) (sc := defScope s__law_is_row) (by decide +kernel)) (fun _ _ _ _ _ => (pdg_name (pg_name (i := 2) nd rfl (by first | exact Or.inl rfl | exact Or.inr rfl)))) (fun _ _ _ _ _ => pdts_nil) (fun _ _ _ _ _ => (pd_callD C__law_is_part (hr.mono (by decide)) (by rfl) (pda_cons (pd_var (pv 2)) pda_nil))) (by decide))) pda_nil))))))) ?_
  intro ss μ Q hl h
  obtain ⟨d, n, rfl, hf, q⟩ := h
  walk_at "dv"
  refine ⟨d, n, rfl, hf, ?_⟩
  walk_at "dv"
  cases e : isTupB d with
  | false => rw [isRow_not e] at q; walk_at "dv"; exact q
  | true =>
    cases d with
    | tup ds =>
      have fa := fitA_iff.mp hf.2
      have hl := hf.1
      rw [isRow_tup] at q
      rw [tl_tup]
      by_cases h2 : ds.length = n
      · rw [decide_eq_true h2] at q ⊢
        walk_at "dv"
        refine lc_all (fun d => .bl (isFr d)) μ (fun _ => trivial) ds _ (fun a ha acc P P2 k => ?_) (by omega) ?_
        · walk_at "dv"
          exact ⟨a, rfl, fa a ha, k⟩
        · rw [all_bl]
          walk_at "dv"
          exact q
      · rw [decide_eq_false h2] at q ⊢
        walk_at "dv"
        exact q
    | _ => cases e
theorem any_neg (rs : List Rat) : rs.any (fun r => decide (r.num < 0)) = !rs.all (fun r => decide (0 ≤ r.num)) := by
  induction rs with
  | nil => rfl
  | cons r rs ih =>
    rw [List.any_cons, List.all_cons, ih]
    by_cases h : 0 ≤ r.num
    · rw [decide_eq_true h, decide_eq_false (by omega)]; simp
    · rw [decide_eq_false h, decide_eq_true (by omega)]; simp
def T__law_is_chance : TF := fun ss μ P => ∃ (d : D) (n : Nat), ss = [.d d, .d (.int (n : Int))] ∧ (fit d ∧ n ≤ 8) ∧ P (.bl (isCh n d)) μ
theorem mon__law_is_chance : MonF T__law_is_chance := fun ss μ P P' k ⟨a, b, e, h, q⟩ => ⟨a, b, e, h, k _ _ q⟩
theorem ok__law_is_chance (t : Top K mg "_law_is_chance" s__law_is_chance ["thing", "few"]) (C__law_dot : DefOk P w K mg base "_law_dot" 3 2 T__law_dot) (C__law_is_row : DefOk P w K mg base "_law_is_row" 3 2 T__law_is_row) (m_any : mg "any" = none) :
    DefOk P w K mg base "_law_is_chance" 4 2 T__law_is_chance := by
  have nd := (sc__law_is_chance).nd
  refine ok_defD (k := 3) t sc__law_is_chance mon__law_is_chance (fun f cdv A outer s H E hr =>
    (pds_cons (pds_if (ptd_w (pdw_or (ptd_not (ptd_val (pd_callD C__law_is_row (hr.mono (by decide)) (by rfl) (pda_cons (pd_var (pv 0)) (pda_cons (pd_var (pv 1)) pda_nil))))) (pdw_or1 (ptd_val (pd_B (cr_any rfl) snd_any mon_gA (by rfl) m_any bt_any (pda_cons (pd_of_N (pdn_lc (own := [("x", 2)]) rfl nd (pdi_seq (pd_var (pv 0))) (blkOk_by (N := N__law_is_chance) (sc := defScope s__law_is_chance) (by decide +kernel)) (fun _ _ _ _ _ => (pdg_name (pg_name (i := 2) nd rfl (by first | exact Or.inl rfl | exact Or.inr rfl)))) (fun _ _ _ _ _ => pdts_nil) (fun _ _ _ _ _ => (pd_cmp op_lt mon_gF snd_B0 (nomark _) (pd_ix ix_ok mon_gF snd_ix (fun _ _ => rfl) (pd_var (pv 2)) pd_int) pd_int)) (by decide))) pda_nil)))))) (pds_one (pd_ret pd_bl)) pds_nil)
      (pds_one (pd_ret (pd_cmp (eq_ok hr.units) mon_gF snd_eq (nomark _) (pd_callD C__law_dot (hr.mono (by decide)) (by rfl) (pda_cons (pd_var (pv 0)) (pda_cons (pd_of_N (pdn_rep (pda_cons (pd_tup (pda_cons pd_int (pda_cons pd_int pda_nil))) pda_nil) (pd_var (pv 1)))) pda_nil))) (pd_tup (pda_cons pd_int (pda_cons pd_int pda_nil)))))))) ?_
  intro ss μ Q hl h
  obtain ⟨d, n, rfl, ⟨hf, hn⟩, q⟩ := h
  walk_at "dv"
  refine ⟨d, n, rfl, hf, ?_⟩
  walk_at "dv"
  cases e : isRow n d with
  | false => rw [isCh_no e] at q; walk_at "dv"; exact q
  | true =>
    obtain ⟨rs, rfl, hr⟩ := isRow_some e
    have hz := row_fit hf
    rw [isCh_row, decide_eq_true hr, Bool.true_and] at q
    unfold rowD
    walk_at "dv"
    refine lc_map frD (fun r => .bl (decide (r.num < 0))) μ (fun _ => trivial) rs _ (fun r hr acc P P2 h => ?_) (by omega) ?_
    · unfold frD
      walk_at "dv"
      exact h
    · rw [any_bl, any_neg]
      walk_at "dv"
      cases e2 : rs.all (fun r => decide (0 ≤ r.num)) with
      | false => rw [e2] at q; walk_at "dv"; exact q
      | true =>
        rw [e2] at q
        walk_at "dv"
        refine ⟨by omega, by omega, rs, List.replicate n 1, ?_, ⟨by omega, hz, z_rep⟩, ?_⟩
        · rw [flat_rep, Int.toNat_natCast, show D.tup [.int 1, .int 1] = V_ONE from rfl, rep_one]
          rfl
        · rw [dot_ones rs n (by omega)]
          unfold frD
          walk_at "dv"
          rw [eq_one]
          exact q
theorem isSet_v {p v : D} (h : isTupB v = false) : isSetB (.tup [p, v]) = false := by
  cases e : isSetB (.tup [p, v]) with
  | false => rfl
  | true =>
    unfold isSetB at e
    split at e
    · rename_i cs rs w q
      injection q with q
      injection q with q1 q
      injection q with q2 q
      subst q2
      simp only [Bool.and_eq_true] at e
      have := e.2.2
      rw [isTab_not h] at this
      cases this
    · cases e
theorem isSet_no {r : D} {rs vs : List D} (h : ¬ rs.length + 1 ≤ 5 ∨ False ∨ ¬ vs.length = rs.length + 1) : isSetB (.tup [.tup (r :: rs), .tup vs]) = false := by
  cases hr : isTupB r with
  | false => exact isSet_row hr
  | true =>
    cases r with
    | tup cs =>
      rw [isSet_eq]
      rcases h with h | h | h
      · rw [decide_eq_false h]; rfl
      · exact h.elim
      · rw [show isTabB (rs.length + 1) cs.length (.tup vs) = (decide (vs.length = rs.length + 1) && vs.all (isRow cs.length)) from rfl, decide_eq_false h]
        simp
    | _ => cases hr
def T__law_is_world : TF := fun ss μ P => ∃ d : D, ss = [.d d] ∧ fit d ∧ P (.bl (isSetB d)) μ
theorem mon__law_is_world : MonF T__law_is_world := fun ss μ P P' k ⟨a, e, h, q⟩ => ⟨a, e, h, k _ _ q⟩
theorem ok__law_is_world (t : Top K mg "_law_is_world" s__law_is_world ["thing"]) (C__law_is_row : DefOk P w K mg base "_law_is_row" 3 2 T__law_is_row) (C__law_is_tuple : DefOk P w K mg base "_law_is_tuple" 1 2 T__law_is_tuple) (m_all : mg "all" = none) (m_isinstance : mg "isinstance" = none) (m_len : mg "len" = none) (m_tuple : mg "tuple" = none) :
    DefOk P w K mg base "_law_is_world" 4 1 T__law_is_world := by
  have nd := (sc__law_is_world).nd
  refine ok_defD (k := 3) t sc__law_is_world mon__law_is_world (fun f cdv A outer s H E hr =>
    (pds_cons (pds_if (ptd_w (pdw_or (ptd_not (ptd_val (pd_callD C__law_is_tuple (hr.mono (by decide)) (by rfl) (pda_cons (pd_var (pv 0)) (pda_cons pd_int pda_nil))))) (pdw_or (ptd_not (ptd_val (pd_isiW (T := "tuple") (pd_ix ix_ok mon_gF snd_ix (fun _ _ => rfl) (pd_var (pv 0)) pd_int) (by rfl) m_isinstance (by rfl) m_tuple bt_tuple (by decide) (by decide)))) (pdw_or1 (ptd_not (ptd_val (pd_isiW (T := "tuple") (pd_ix ix_ok mon_gF snd_ix (fun _ _ => rfl) (pd_var (pv 0)) pd_int) (by rfl) m_isinstance (by rfl) m_tuple bt_tuple (by decide) (by decide)))))))) (pds_one (pd_ret pd_bl)) pds_nil)
      (pds_cons (pds_if (ptd_w (pdw_or (ptd_not (ptd_chain op_le op_le mon_gF mon_gF snd_B0 snd_B0 (by with_unfolding_all rfl) pd_int (pd_B call_len_seq snd_len mon_gA (by rfl) m_len bt_len (pda_cons (pd_ix ix_ok mon_gF snd_ix (fun _ _ => rfl) (pd_var (pv 0)) pd_int) pda_nil)) pd_int)) (pdw_or1 (ptd_cmp op_ne mon_gF snd_ne (nomark _) (pd_B call_len_seq snd_len mon_gA (by rfl) m_len bt_len (pda_cons (pd_ix ix_ok mon_gF snd_ix (fun _ _ => rfl) (pd_var (pv 0)) pd_int) pda_nil)) (pd_B call_len_seq snd_len mon_gA (by rfl) m_len bt_len (pda_cons (pd_ix ix_ok mon_gF snd_ix (fun _ _ => rfl) (pd_var (pv 0)) pd_int) pda_nil)))))) (pds_one (pd_ret pd_bl)) pds_nil)
      (pds_cons (pds_if (ptd_w (pdw_or (ptd_not (ptd_val (pd_isiW (T := "tuple") (pd_ix ix_ok mon_gF snd_ix (fun _ _ => rfl) (pd_ix ix_ok mon_gF snd_ix (fun _ _ => rfl) (pd_var (pv 0)) pd_int) pd_int) (by rfl) m_isinstance (by rfl) m_tuple bt_tuple (by decide) (by decide)))) (pdw_or1 (ptd_not (ptd_chain op_le op_le mon_gF mon_gF snd_B0 snd_B0 (by with_unfolding_all rfl) pd_int (pd_B call_len_seq snd_len mon_gA (by rfl) m_len bt_len (pda_cons (pd_ix ix_ok mon_gF snd_ix (fun _ _ => rfl) (pd_ix ix_ok mon_gF snd_ix (fun _ _ => rfl) (pd_var (pv 0)) pd_int) pd_int) pda_nil)) pd_int))))) (pds_one (pd_ret pd_bl)) pds_nil)
      (pds_one (pd_ret (pd_B (cr_all rfl) snd_all mon_gA (by rfl) m_all bt_all (pda_cons (pd_of_N (pdn_lc (own := [("row", 1)]) rfl nd (pdi_seq (pd_op addW_ok mon_gF snd_addW (pd_ix ix_ok mon_gF snd_ix (fun _ _ => rfl) (pd_var (pv 0)) pd_int) (pd_ix ix_ok mon_gF snd_ix (fun _ _ => rfl) (pd_var (pv 0)) pd_int))) (blkOk_by (N := N__law_is_world) (sc := defScope s__law_is_world) (by decide +kernel)) (fun _ _ _ _ _ => (pdg_name (pg_name (i := 1) nd rfl (by first | exact Or.inl rfl | exact Or.inr rfl)))) (fun _ _ _ _ _ => pdts_nil) (fun _ _ _ _ _ => (pd_callD C__law_is_row (hr.mono (by decide)) (by rfl) (pda_cons (pd_var (pv 1)) (pda_cons (pd_B call_len_seq snd_len mon_gA (by rfl) m_len bt_len (pda_cons (pd_ix ix_ok mon_gF snd_ix (fun _ _ => rfl) (pd_ix ix_ok mon_gF snd_ix (fun _ _ => rfl) (pd_var (pv 0)) pd_int) pd_int) pda_nil)) pda_nil)))) (by decide))) pda_nil)))))))) ?_
  intro ss μ Q hl h
  obtain ⟨d, rfl, hf, q⟩ := h
  walk_at "dv"
  refine ⟨d, 2, rfl, hf, ?_⟩
  walk_at "dv"
  cases e : isTupB d with
  | false => rw [isSet_not e] at q; walk_at "dv"; exact q
  | true =>
    cases d with
    | tup ds =>
      rw [tl_tup]
      by_cases h2 : ds.length = 2
      · match ds, h2 with
        | [p, v], _ =>
          have fa := fitA_iff.mp hf.2
          have fp := fa p (by simp)
          have fv := fa v (by simp)
          walk_at "dv"
          rw [bw_tup fp]
          by_cases hp : ∃ rs, p = .tup rs
          · obtain ⟨rs, rfl⟩ := hp
            simp only [isTupB]
            walk_at "dv"
            rw [bw_tup fv]
            by_cases hv : ∃ vs, v = .tup vs
            · obtain ⟨vs, rfl⟩ := hv
              simp only [isTupB]
              walk_at "dv"
              cases rs with
              | nil =>
                rw [isSet_nil] at q
                walk_at "dv"
                exact q
              | cons r rs =>
                have fr := fitA_iff.mp fp.2 r (by simp)
                walk_at "dv"
                rw [if_pos (by omega)]
                by_cases h5 : rs.length + 1 ≤ 5
                · have e1 : (!decide (((rs.length + 1 : Nat) : Int) ≤ 5)) = false := by simp; omega
                  rw [e1]
                  walk_at "dv"
                  by_cases hm : vs.length = rs.length + 1
                  · have e2 : (!decide ((vs.length : Int) = ((rs.length + 1 : Nat) : Int))) = false := by simp; omega
                    rw [e2]
                    walk_at "dv"
                    rw [bw_tup fr]
                    by_cases hr : ∃ cs, r = .tup cs
                    · obtain ⟨cs, rfl⟩ := hr
                      simp only [isTupB]
                      rw [isSet_eq, decide_eq_true h5] at q
                      walk_at "dv"
                      by_cases h2 : 2 ≤ cs.length
                      · rw [if_pos (by omega)]
                        by_cases h4 : cs.length ≤ 4
                        · have e2 : (!decide ((cs.length : Int) ≤ 4)) = false := by simp; omega
                          rw [e2]
                          rw [decide_eq_true h2, decide_eq_true h4] at q
                          change Q (.bl (true && (true && true) && ((decide (rs.length + 1 = rs.length + 1) && (D.tup cs :: rs).all (isRow cs.length)) && (decide (vs.length = rs.length + 1) && vs.all (isRow cs.length))))) μ at q
                          rw [decide_eq_true rfl, decide_eq_true hm] at q
                          simp only [Bool.true_and] at q
                          have hl1 := fp.1
                          have hl2 := fv.1
                          rw [List.length_cons] at hl1
                          walk_at "dv"
                          refine ⟨by omega, ?_⟩
                          rw [show D.tup cs :: (rs ++ vs) = (D.tup cs :: rs) ++ vs from rfl]
                          refine lc_all (fun d => .bl (isRow cs.length d)) μ (fun _ => trivial) _ _ (fun a ha acc P P2 k => ?_) (by rw [List.length_append, List.length_cons]; omega) ?_
                          · walk_at "dv"
                            refine ⟨a, cs.length, rfl, ?_, k⟩
                            rcases List.mem_append.mp ha with ha | ha
                            · exact fitA_iff.mp fp.2 a ha
                            · exact fitA_iff.mp fv.2 a ha
                          · rw [all_bl, List.all_append]
                            walk_at "dv"
                            exact q
                        · have e2 : (!decide ((cs.length : Int) ≤ 4)) = true := by simp; omega
                          rw [e2]
                          rw [decide_eq_true h2, decide_eq_false h4] at q
                          walk_at "dv"
                          exact q
                      · rw [if_neg (by omega)]
                        rw [decide_eq_false h2] at q
                        exact q
                    · have e := not_tup hr
                      rw [isSet_row e] at q
                      rw [e]
                      walk_at "dv"
                      exact q
                  · have e2 : (!decide ((vs.length : Int) = ((rs.length + 1 : Nat) : Int))) = true := by simp; omega
                    rw [isSet_no (.inr (.inr hm))] at q
                    rw [e2]
                    walk_at "dv"
                    exact q
                · have e1 : (!decide (((rs.length + 1 : Nat) : Int) ≤ 5)) = true := by simp; omega
                  rw [isSet_no (.inl h5)] at q
                  rw [e1]
                  walk_at "dv"
                  exact q
            · have e := not_tup hv
              rw [isSet_v e] at q
              rw [e]
              walk_at "dv"
              exact q
          · have e := not_tup hp
            rw [isSet_p e] at q
            rw [e]
            walk_at "dv"
            exact q
      · rw [isSet_len h2] at q
        rw [decide_eq_false h2]
        walk_at "dv"
        exact q
    | _ => cases e
end K2

/-! part Q8 -/
set_option Elab.async false
set_option linter.all false
set_option maxRecDepth 100000
set_option autoImplicit false
set_option exponentiation.threshold 9000
set_option maxHeartbeats 1000000
namespace K2
open PySem PySem.Spec L2 DV
open PyProof.Rows (envOfC)
variable {P : Program} {w : World} {K : PySem.W.Frag} {mg : Str → Option Value} {base : Heap}

local macro_rules | `(tactic| walk_at "dv") => `(tactic| simp only [startR, cRepU, fIStar, fIZipG, fParDN, cInP, fInP, lstOf, fIns, fExt, fIsN, fIsNotN, isNonS, fAug, fAddW, fSubW, fGtW, fMul2, fModM, cAddW, cEqP, fEqP, fNeP, fInI, fIsiW, Option.bind_some, fRevT, fMk, fBare, fAtt, fIsX, fIsXT, fRaise, fRaise0, fTry, clD, suiteD, kNo, kBut, fXatt, fExprX, fCallX, kDX, gRepr2, cRepr2, datOf, errOf, kD, fin, fSeq, fNext, fDrop, fNRep, fNRg, fParN0, fPar3, fPar3N, fAsg, fRet, fIfS, fNever, fPar, fNew, fApp, fVar, fC, fOp, fTest, fTAnd, fTOr, fTNot, fVAnd, fVOr, fVNot, fNeg, fIf, fChain, fANil, fACons, fTup, fLst, fCB, fNLst, fOfN, fYes, fIsi, fONone, fOSome, fSl, sliceF,
  gF, gA, cI, fI, c0, cAdd, fAdd, fIx, cRepT, fRepT, fEq, fNe, fNotIn, intsOf, blsOf, allD, seqOf, tupOf, fLen, cA0, f1L, gSum, fTupleOf, fListOf, fA1, fA2, cDm, gN, gsNil_eq, gsCons_eq, gT_eq, gSb_eq, isB, itemsOf, fISeq, fIRng, fIEnum, fIZip, fIZipTL, fFor, fLc, wipeR, fCall, fCallK, fRetN, kN, fCallN, fCallOn, kwS, pick, gRepr, cRepr, List.filterMap_cons_some, List.filterMap_nil,
  List.map_cons, List.map_nil, List.length_cons, List.length_nil, List.replicate_succ, List.replicate_zero, List.cons_append, List.nil_append, List.append_nil, List.getElem?_cons_zero, List.getElem?_cons_succ, List.getElem?_nil, List.set_cons_zero, List.set_cons_succ, List.set_nil, List.take_succ_cons, List.take_zero, List.take_nil,
  Option.map_some, Option.map_none, Option.some.injEq, Option.get_some, exists_eq_left', exists_eq_left, exists_eq_right, true_and, and_true, if_true, if_false, reduceCtorEq, ite_true, ite_false, S.d.injEq, S.m.injEq, D.int.injEq, D.tup.injEq, D.lst.injEq, D.bl.injEq, D.str.injEq, List.cons.injEq, exists_and_left, exists_and_right,
  Nat.sub_zero, Nat.reduceSub, Nat.reduceAdd, Nat.zero_add, Nat.add_zero, Bool.not_true, Bool.not_false, Bool.false_eq_true, decide_eq_true_eq, Nat.reduceLT, Nat.reduceLeDiff, Nat.le_refl, List.take_length, Int.reduceLT, Int.reduceToNat, Nat.lt_irrefl, gt_iff_lt, Nat.not_lt_zero, Int.cast_ofNat_Int, decide_true, decide_false, and_assoc, Bool.false_and, Bool.true_and])

def T__law_is_trial : TF := fun ss μ P => ∃ (d : D) (n : Nat), ss = [.d d, .d (.int (n : Int))] ∧ (fit d ∧ 1 ≤ n) ∧ P (.bl (isExpB n d)) μ
theorem mon__law_is_trial : MonF T__law_is_trial := fun ss μ P P' k ⟨a, b, e, h, q⟩ => ⟨a, b, e, h, k _ _ q⟩
theorem ok__law_is_trial (t : Top K mg "_law_is_trial" s__law_is_trial ["thing", "n"]) (C__law_is_chance : DefOk P w K mg base "_law_is_chance" 4 2 T__law_is_chance) (C__law_is_tuple : DefOk P w K mg base "_law_is_tuple" 1 2 T__law_is_tuple) (m_all : mg "all" = none) (m_isinstance : mg "isinstance" = none) (m_len : mg "len" = none) (m_tuple : mg "tuple" = none) :
    DefOk P w K mg base "_law_is_trial" 5 2 T__law_is_trial := by
  have nd := (sc__law_is_trial).nd
  refine ok_defD (k := 4) t sc__law_is_trial mon__law_is_trial (fun f cdv A outer s H E hr =>
    (pds_cons (pds_if (ptd_w (pdw_or (ptd_not (ptd_val (pd_callD C__law_is_tuple (hr.mono (by decide)) (by rfl) (pda_cons (pd_var (pv 0)) (pda_cons (pd_var (pv 1)) pda_nil))))) (pdw_or (ptd_not (ptd_val (pd_isiW (T := "tuple") (pd_ix ix_ok mon_gF snd_ix (fun _ _ => rfl) (pd_var (pv 0)) pd_int) (by rfl) m_isinstance (by rfl) m_tuple bt_tuple (by decide) (by decide)))) (pdw_or1 (ptd_not (ptd_chain op_le op_le mon_gF mon_gF snd_B0 snd_B0 (by with_unfolding_all rfl) pd_int (pd_B call_len_seq snd_len mon_gA (by rfl) m_len bt_len (pda_cons (pd_ix ix_ok mon_gF snd_ix (fun _ _ => rfl) (pd_var (pv 0)) pd_int) pda_nil)) pd_int)))))) (pds_one (pd_ret pd_bl)) pds_nil)
      (pds_one (pd_ret (pd_B (cr_all rfl) snd_all mon_gA (by rfl) m_all bt_all (pda_cons (pd_of_N (pdn_lc (own := [("row", 2)]) rfl nd (pdi_seq (pd_var (pv 0))) (blkOk_by (N := N__law_is_trial) (sc := defScope s__law_is_trial) (by decide +kernel)) (fun _ _ _ _ _ => (pdg_name (pg_name (i := 2) nd rfl (by first | exact Or.inl rfl | exact Or.inr rfl)))) (fun _ _ _ _ _ => pdts_nil) (fun _ _ _ _ _ => (pd_callD C__law_is_chance (hr.mono (by decide)) (by rfl) (pda_cons (pd_var (pv 2)) (pda_cons (pd_B call_len_seq snd_len mon_gA (by rfl) m_len bt_len (pda_cons (pd_ix ix_ok mon_gF snd_ix (fun _ _ => rfl) (pd_var (pv 0)) pd_int) pda_nil)) pda_nil)))) (by decide))) pda_nil)))))) ?_
  intro ss μ Q hl h
  obtain ⟨d, n, rfl, ⟨hf, hn⟩, q⟩ := h
  walk_at "dv"
  refine ⟨d, n, rfl, hf, ?_⟩
  walk_at "dv"
  cases e : isTupB d with
  | false => rw [isExp_not e] at q; walk_at "dv"; exact q
  | true =>
    cases d with
    | tup ds =>
      rw [tl_tup]
      have fa := fitA_iff.mp hf.2
      have hl := hf.1
      by_cases h2 : ds.length = n
      · rw [decide_eq_true h2]
        walk_at "dv"
        cases ds with
        | nil => rw [List.length_nil] at h2; omega
        | cons c r =>
          have fc := fa c (by simp)
          walk_at "dv"
          rw [bw_tup fc]
          by_cases hc : ∃ cs, c = .tup cs
          · obtain ⟨cs, rfl⟩ := hc
            change Q (.bl (decide (r.length + 1 = n) && (decide (1 ≤ cs.length) && decide (cs.length ≤ 6)) && (D.tup cs :: r).all (isCh cs.length))) μ at q
            rw [List.length_cons] at h2
            rw [decide_eq_true h2, Bool.true_and] at q
            simp only [isTupB]
            walk_at "dv"
            by_cases h1 : 1 ≤ cs.length
            · rw [if_pos (by omega)]
              rw [decide_eq_true h1, Bool.true_and] at q
              by_cases h6 : cs.length ≤ 6
              · have e1 : (!decide ((cs.length : Int) ≤ 6)) = false := by simp; omega
                rw [e1]
                rw [decide_eq_true h6, Bool.true_and] at q
                walk_at "dv"
                refine lc_all (fun d => .bl (isCh cs.length d)) μ (fun _ => trivial) _ _ (fun a ha acc P P2 k => ?_) (by omega) ?_
                · walk_at "dv"
                  exact ⟨a, cs.length, rfl, ⟨fa a ha, by omega⟩, k⟩
                · rw [all_bl]
                  walk_at "dv"
                  exact q
              · have e1 : (!decide ((cs.length : Int) ≤ 6)) = true := by simp; omega
                rw [e1]
                rw [decide_eq_false h6] at q
                walk_at "dv"
                exact q
            · rw [if_neg (by omega)]
              rw [decide_eq_false h1] at q
              exact q
          · have e := not_tup hc
            have e2 : isExpB n (.tup (c :: r)) = false := by
              cases c <;> first | rfl | cases e
            rw [e2] at q
            rw [e]
            walk_at "dv"
            exact q
      · have e2 : isExpB n (.tup ds) = false := by
          cases ds with
          | nil => rfl
          | cons c r =>
            cases c with
            | tup cs =>
              rw [List.length_cons] at h2
              show (decide (r.length + 1 = n) && _ && _) = false
              rw [decide_eq_false h2]; rfl
            | _ => rfl
        rw [e2] at q
        rw [decide_eq_false h2]
        walk_at "dv"
        exact q
    | _ => cases e

/-! ### the mean, part by part -/
def meanL : List Rat → List (Rat × List Rat) → List Rat
  | acc, [] => acc
  | acc, p :: ps => meanL (List.zipWith (fun x y => x + p.1 * y) acc p.2) ps
theorem meanL_len {n : Nat} : ∀ (ps : List (Rat × List Rat)) (acc : List Rat), acc.length = n → (∀ p ∈ ps, p.2.length = n) → (meanL acc ps).length = n
  | [], acc, h, _ => h
  | p :: ps, acc, h, hp => meanL_len ps _ (by rw [List.length_zipWith, h, hp p (by simp), Nat.min_self]) fun q hq => hp q (List.mem_cons_of_mem _ hq)
theorem meanL_get {n : Nat} : ∀ (ps : List (Rat × List Rat)) (acc : List Rat) (i : Nat), acc.length = n → (∀ p ∈ ps, p.2.length = n) → i < n → (meanL acc ps).getD i 0 = acc.getD i 0 + dotR (ps.map (·.1)) (colR (ps.map (·.2)) i)
  | [], acc, i, _, _, _ => (Rat.add_zero _).symm
  | p :: ps, acc, i, h, hp, hi => by
    have h2 := hp p (by simp)
    show (meanL (List.zipWith (fun x y => x + p.1 * y) acc p.2) ps).getD i 0 = _
    rw [meanL_get ps _ i (by rw [List.length_zipWith, h, h2, Nat.min_self]) (fun q hq => hp q (List.mem_cons_of_mem _ hq)) hi]
    show _ = acc.getD i 0 + (p.1 * p.2.getD i 0 + dotR (ps.map (·.1)) (colR (ps.map (·.2)) i))
    rw [← Rat.add_assoc]
    congr 1
    simp only [List.getD_eq_getElem?_getD, List.getElem?_zipWith]
    rw [List.getElem?_eq_getElem (by omega), List.getElem?_eq_getElem (by omega)]
    rfl
theorem meanL_mix {n : Nat} {ps : List (Rat × List Rat)} (hp : ∀ p ∈ ps, p.2.length = n) (hne : ps ≠ []) : meanL (List.replicate n 0) ps = mixR n (ps.map (·.1)) (ps.map (·.2)) := by
  have hl := meanL_len ps (List.replicate n 0) (by simp) hp
  unfold mixR
  rw [if_neg (by simpa using hne)]
  apply List.ext_getElem
  · rw [hl]; simp
  · intro i h1 h2
    have hi : i < n := by omega
    have := meanL_get ps (List.replicate n 0) i (by simp) hp hi
    rw [List.getD_eq_getElem?_getD, List.getElem?_eq_getElem h1, List.getD_eq_getElem?_getD, List.getElem?_replicate, if_pos hi] at this
    simp only [Option.getD_some, Rat.zero_add] at this
    rw [this, List.getElem_map, List.getElem_range]
theorem zip_with (f : Rat → Rat → Rat) : ∀ (as bs : List Rat), (as.zip bs).map (fun p => f p.1 p.2) = List.zipWith f as bs
  | [], bs => by cases bs <;> rfl
  | a :: as, [] => rfl
  | a :: as, b :: bs => by
    rw [List.zip_cons_cons, List.map_cons, zip_with f as bs]
    rfl
theorem z_zip {t : Nat} {q : Rat} {as bs : List Rat} (hq : Z 128 q) (ha : ∀ r ∈ as, Z t r) (hb : ∀ r ∈ bs, Z 128 r) : ∀ r ∈ List.zipWith (fun x y => x + q * y) as bs, Z (t + 256 + 1) r := fun r hr => by
  rw [← zip_with] at hr
  obtain ⟨p, hp, rfl⟩ := List.mem_map.mp hr
  have h := List.of_mem_zip hp
  exact (ha _ h.1).add (hq.mul (hb _ h.2))
theorem rep_zero (n : Nat) : List.replicate n (D.tup [.int 0, .int 1]) = (List.replicate n (0 : Rat)).map frD := by
  rw [List.map_replicate]; rfl
theorem z_zero {n : Nat} : ∀ r ∈ List.replicate n (0 : Rat), Z 1 r := fun r h => by
  rw [(List.mem_replicate.mp h).2]; constructor <;> decide

def T__law_mean : TF := fun ss μ P => ∃ (ps : List (Rat × List Rat)) (n : Nat), ss = [.d (.tup (ps.map partD)), .d (.int (n : Int))] ∧ (ps.length ≤ 8 ∧ n ≤ 8 ∧ (∀ p ∈ ps, p.2.length = n) ∧ (∀ p ∈ ps, ZP 128 p)) ∧ P (rowD (meanL (List.replicate n 0) ps)) μ
theorem mon__law_mean : MonF T__law_mean := fun ss μ P P' k ⟨a, b, e, h, q⟩ => ⟨a, b, e, h, k _ _ q⟩
theorem ok__law_mean (t : Top K mg "_law_mean" s__law_mean ["parting", "n"]) (C__law_plus : DefOk P w K mg base "_law_plus" 2 2 T__law_plus) (C__law_times : DefOk P w K mg base "_law_times" 2 2 T__law_times) (m_tuple : mg "tuple" = none) (m_zip : mg "zip" = none) :
    DefOk P w K mg base "_law_mean" 3 2 T__law_mean := by
  have nd := (sc__law_mean).nd
  refine ok_defD (k := 2) t sc__law_mean mon__law_mean (fun f cdv A outer s H E hr =>
    (pds_cons (pds_set (pd_of_N (pdn_rep (pda_cons (pd_tup (pda_cons pd_int (pda_cons pd_int pda_nil))) pda_nil) (pd_var (pv 1)))) (fun _ h => ps_set (i := 2) nd rfl (by first | exact Or.inl rfl | exact Or.inr rfl) h))
      (pds_cons (pds_for PassesOwn.never rfl (pdi_seq (pd_var (pv 0))) (pdg_tup (n := 2) rfl (pdgs_cons (pdg_name (pg_name (i := 3) nd rfl (by first | exact Or.inl rfl | exact Or.inr rfl))) (pdgs_cons (pdg_name (pg_name (i := 4) nd rfl (by first | exact Or.inl rfl | exact Or.inr rfl))) pdgs_nil))) (pds_one (pds_setLc (i := 2) (own := [("x", 5), ("y", 6)]) rfl nd rfl rfl (sw_true rfl rfl rfl (by decide +kernel)) (pdi_zipG (by rfl) m_zip (pda_cons (pd_var (pv 2)) (pda_cons (pd_var (pv 4)) pda_nil))) (blkOk_by (N := N__law_mean) (sc := defScope s__law_mean) (by decide +kernel)) (fun _ _ _ _ _ => (pdg_tup (n := 2) rfl (pdgs_cons (pdg_name (pg_name (i := 5) nd rfl (by first | exact Or.inl rfl | exact Or.inr rfl))) (pdgs_cons (pdg_name (pg_name (i := 6) nd rfl (by first | exact Or.inl rfl | exact Or.inr rfl))) pdgs_nil)))) (fun _ _ _ _ _ => pdts_nil) (fun _ _ _ _ _ => (pd_callD C__law_plus (hr.mono (by decide)) (by rfl) (pda_cons (pd_var (pv 5)) (pda_cons (pd_callD C__law_times (hr.mono (by decide)) (by rfl) (pda_cons (pd_var (pv 3)) (pda_cons (pd_var (pv 6)) pda_nil))) pda_nil)))) (by decide))))
      (pds_one (pd_ret (pd_Ty call_tuple_of snd_tupleOf mon_gA (by rfl) m_tuple bt_tuple (pda_cons (pd_var (pv 2)) pda_nil))))))) ?_
  intro ss μ Q hl h
  obtain ⟨ps, n, rfl, ⟨h1, hn, h3, h4⟩, q⟩ := h
  walk_at "dv"
  refine ⟨by omega, by omega, ?_⟩
  rw [flat_rep, Int.toNat_natCast, rep_zero]
  have key : ∀ (X : D) (qs : List (Rat × List Rat)) (acc : List Rat) (t : Nat) (s3 s4 s5 s6 : Option S) (k : K4), (∀ p ∈ qs, p.2.length = n) → (∀ p ∈ qs, ZP 128 p) → acc.length = n → (∀ r ∈ acc, Z t r) → t + qs.length * 257 ≤ 2600 →
      (∀ s3 s4 s5 s6, k.nx [some (.d X), some (.d (.int (n : Int))), some (.d (.lst ((meanL acc qs).map frD))), s3, s4, s5, s6] μ) →
      loopS (gT 2 (gsCons (gN 3) (gsCons (gN 4) gsNil)))
        (fAsg (fOfN (fLc (fIZipG (fACons (fVar 2) (fACons (fVar 4) fANil))) (gT 2 (gsCons (gN 5) (gsCons (gN 6) gsNil))) fYes
          (fCall 2 T__law_plus (fACons (fVar 5) (fACons (fCall 2 T__law_times (fACons (fVar 3) (fACons (fVar 6) fANil))) fANil))) [5, 6])) (gN 2))
        (fun x => True) (qs.map partD) [some (.d X), some (.d (.int (n : Int))), some (.d (.lst (acc.map frD))), s3, s4, s5, s6] μ k := by
    intro X qs
    induction qs with
    | nil => intro acc t s3 s4 s5 s6 k _ _ _ _ _ hk; exact ⟨trivial, hk _ _ _ _⟩
    | cons p qs ih =>
      intro acc t s3 s4 s5 s6 k hp hz hal ha hi hk
      have zp := hz p (by simp)
      have lp := hp p (by simp)
      rw [List.length_cons] at hi
      refine ⟨trivial, ?_⟩
      unfold partD rowD
      walk_at "dv"
      rw [zipD_map]
      refine lc_map (fun a : Rat × Rat => D.tup [frD a.1, frD a.2]) (fun a => frD (a.1 + p.1 * a.2)) μ (fun _ => trivial) _ _ (fun a h' acc2 P P2 h => ?_) (by rw [List.length_zip]; omega) ?_
      · have hm := List.of_mem_zip h'
        walk_at "dv"
        refine ⟨p.1, a.2, rfl, ⟨zp.1.mono (by decide), (zp.2 _ hm.2).mono (by decide)⟩, ?_⟩
        refine ⟨a.1, p.1 * a.2, rfl, ⟨(ha _ hm.1).mono (by omega), (zp.1.mul (zp.2 _ hm.2)).mono (by decide)⟩, h⟩
      · have e : (acc.zip p.2).map (fun a => frD (a.1 + p.1 * a.2)) = (List.zipWith (fun x y => x + p.1 * y) acc p.2).map frD := by
          rw [← zip_with, List.map_map]
          rfl
        rw [e]
        exact ih (List.zipWith (fun x y => x + p.1 * y) acc p.2) (t + 256 + 1) _ _ _ _ k (fun q hq => hp q (List.mem_cons_of_mem _ hq)) (fun q hq => hz q (List.mem_cons_of_mem _ hq)) (by rw [List.length_zipWith, hal, lp, Nat.min_self]) (z_zip zp.1 ha zp.2) (by omega) hk
  refine key _ ps (List.replicate n 0) 1 none none none none _ h3 h4 (by simp) z_zero (by omega) fun s3 s4 s5 s6 => ?_
  walk_at "dv"
  exact q
theorem isSpl_eq (st : List Rat) (ds : List D) : isSplB st (.tup ds) = (ds.all (isPartB st.length) && (ascB (ds.map bOf) && decide (mixR st.length (ds.map wOf) (ds.map bOf) = st))) := rfl
/-- a pair whose first is a fraction -/
def isPrB : D → Bool
  | .tup [u, _] => isFr u
  | _ => false
def posB (n : Nat) : D → Bool
  | .tup [u, b] => decide (0 < ((decFr u).getD 0).num) && isCh n b
  | _ => false
theorem part_two (n : Nat) (ds : List D) : ds.all (isPartB n) = (ds.all isPrB && ds.all (posB n)) := by
  induction ds with
  | nil => rfl
  | cons d r ih =>
    rw [List.all_cons, List.all_cons, List.all_cons, ih]
    have e : isPartB n d = (isPrB d && posB n d) := by
      unfold isPartB isPrB posB
      split
      · rw [Bool.and_assoc]
      · simp_all
    rw [e]
    cases isPrB d <;> cases posB n d <;> simp
theorem two_or (a : D) : (∃ u b, a = .tup [u, b]) ∨ ((isTupB a && decide (tl a = 2)) = false ∧ isPrB a = false) := by
  by_cases h : ∃ u b, a = .tup [u, b]
  · exact .inl h
  · refine .inr ⟨?_, ?_⟩
    · cases a with
      | tup ds =>
        show (true && decide (ds.length = 2)) = false
        rw [Bool.true_and]
        refine decide_eq_false fun h' => ?_
        match ds, h' with
        | [u, b], _ => exact h ⟨u, b, rfl⟩
      | _ => rfl
    · unfold isPrB
      split
      · exact absurd ⟨_, _, rfl⟩ h
      · rfl
theorem sh_part {ps : List (Rat × List Rat)} {d : D} (h : d ∈ ps.map partD) : Sh 3 d := by
  obtain ⟨p, _, rfl⟩ := List.mem_map.mp h
  refine sh_tup fun d hd => ?_
  simp only [List.mem_cons, List.not_mem_nil, or_false] at hd
  rcases hd with rfl | rfl
  · exact (sh_fr _).mono (by decide)
  · exact sh_row _
theorem pr_some {d : D} (h : isPrB d = true) : ∃ r b, d = .tup [frD r, b] := by
  unfold isPrB at h
  split at h
  · obtain ⟨r, rfl⟩ := isFr_some h
    exact ⟨r, _, rfl⟩
  · cases h
theorem asc_at (bs : List (List Rat)) : (List.range (bs.length - 1)).all (fun i => lexLt (bs.getD i []) (bs.getD (i + 1) [])) = ascB bs := by
  match bs with
  | [] => rfl
  | [a] => rfl
  | a :: b :: r =>
    have ih := asc_at (b :: r)
    show (List.range (r.length + 1)).all _ = _
    rw [List.range_succ_eq_map, List.all_cons, List.all_map]
    show (lexLt a b && _) = (lexLt a b && ascB (b :: r))
    rw [← ih]
    rfl
def T__law_is_parting : TF := fun ss μ P => ∃ (d : D) (st : List Rat), ss = [.d d, .d (rowD st)] ∧ (fit d ∧ tl d ≤ 8 ∧ 1 ≤ st.length ∧ st.length ≤ 8) ∧ P (.bl (isSplB st d)) μ
theorem mon__law_is_parting : MonF T__law_is_parting := fun ss μ P P' k ⟨a, b, e, h, q⟩ => ⟨a, b, e, h, k _ _ q⟩
theorem ok__law_is_parting (t : Top K mg "_law_is_parting" s__law_is_parting ["thing", "start"]) (C__law_is_chance : DefOk P w K mg base "_law_is_chance" 4 2 T__law_is_chance) (C__law_is_part : DefOk P w K mg base "_law_is_part" 2 1 T__law_is_part) (C__law_is_tuple : DefOk P w K mg base "_law_is_tuple" 1 2 T__law_is_tuple) (C__law_mean : DefOk P w K mg base "_law_mean" 3 2 T__law_mean) (C__law_row_below : DefOk P w K mg base "_law_row_below" 2 2 T__law_row_below) (m_all : mg "all" = none) (m_isinstance : mg "isinstance" = none) (m_len : mg "len" = none) (m_range : mg "range" = none) (m_tuple : mg "tuple" = none) :
    DefOk P w K mg base "_law_is_parting" 5 2 T__law_is_parting := by
  have nd := (sc__law_is_parting).nd
  refine ok_defD (k := 4) t sc__law_is_parting mon__law_is_parting (fun f cdv A outer s H E hr =>
    (pds_cons (pds_if (ptd_w (pdw_or (ptd_not (ptd_val (pd_isiW (T := "tuple") (pd_var (pv 0)) (by rfl) m_isinstance (by rfl) m_tuple bt_tuple (by decide) (by decide)))) (pdw_or1 (ptd_not (ptd_val (pd_B (cr_all rfl) snd_all mon_gA (by rfl) m_all bt_all (pda_cons (pd_of_N (pdn_lc (own := [("each", 2)]) rfl nd (pdi_seq (pd_var (pv 0))) (blkOk_by (N := N__law_is_parting) (sc := defScope s__law_is_parting) (by decide +kernel)) (fun _ _ _ _ _ => (pdg_name (pg_name (i := 2) nd rfl (by first | exact Or.inl rfl | exact Or.inr rfl)))) (fun _ _ _ _ _ => pdts_nil) (fun _ _ _ _ _ => (pd_and (pd_callD C__law_is_tuple (hr.mono (by decide)) (by rfl) (pda_cons (pd_var (pv 2)) (pda_cons pd_int pda_nil))) (pd_one (pd_callD C__law_is_part (hr.mono (by decide)) (by rfl) (pda_cons (pd_ix ix_ok mon_gF snd_ix (fun _ _ => rfl) (pd_var (pv 2)) pd_int) pda_nil))))) (by decide))) pda_nil))))))) (pds_one (pd_ret pd_bl)) pds_nil)
      (pds_cons (pds_if (ptd_not (ptd_val (pd_B (cr_all rfl) snd_all mon_gA (by rfl) m_all bt_all (pda_cons (pd_of_N (pdn_lc (own := [("each", 2)]) rfl nd (pdi_seq (pd_var (pv 0))) (blkOk_by (N := N__law_is_parting) (sc := defScope s__law_is_parting) (by decide +kernel)) (fun _ _ _ _ _ => (pdg_name (pg_name (i := 2) nd rfl (by first | exact Or.inl rfl | exact Or.inr rfl)))) (fun _ _ _ _ _ => pdts_nil) (fun _ _ _ _ _ => (pd_and (pd_cmp op_gt mon_gF snd_B0 (nomark _) (pd_ix ix_ok mon_gF snd_ix (fun _ _ => rfl) (pd_ix ix_ok mon_gF snd_ix (fun _ _ => rfl) (pd_var (pv 2)) pd_int) pd_int) pd_int) (pd_one (pd_callD C__law_is_chance (hr.mono (by decide)) (by rfl) (pda_cons (pd_ix ix_ok mon_gF snd_ix (fun _ _ => rfl) (pd_var (pv 2)) pd_int) (pda_cons (pd_B call_len_seq snd_len mon_gA (by rfl) m_len bt_len (pda_cons (pd_var (pv 1)) pda_nil)) pda_nil)))))) (by decide))) pda_nil)))) (pds_one (pd_ret pd_bl)) pds_nil)
      (pds_cons (pds_if (ptd_not (ptd_val (pd_B (cr_all rfl) snd_all mon_gA (by rfl) m_all bt_all (pda_cons (pd_of_N (pdn_lc (own := [("at", 3)]) rfl nd (pdi_range (by rfl) m_range (pda_cons (pd_op subW_ok mon_gF snd_subW (pd_B call_len_seq snd_len mon_gA (by rfl) m_len bt_len (pda_cons (pd_var (pv 0)) pda_nil)) pd_int) pda_nil)) (blkOk_by (N := N__law_is_parting) (sc := defScope s__law_is_parting) (by decide +kernel)) (fun _ _ _ _ _ => (pdg_name (pg_name (i := 3) nd rfl (by first | exact Or.inl rfl | exact Or.inr rfl)))) (fun _ _ _ _ _ => pdts_nil) (fun _ _ _ _ _ => (pd_callD C__law_row_below (hr.mono (by decide)) (by rfl) (pda_cons (pd_ix ix_ok mon_gF snd_ix (fun _ _ => rfl) (pd_ix ix_ok mon_gF snd_ix (fun _ _ => rfl) (pd_var (pv 0)) (pd_var (pv 3))) pd_int) (pda_cons (pd_ix ix_ok mon_gF snd_ix (fun _ _ => rfl) (pd_ix ix_ok mon_gF snd_ix (fun _ _ => rfl) (pd_var (pv 0)) (pd_op addW_ok mon_gF snd_addW (pd_var (pv 3)) pd_int)) pd_int) pda_nil)))) (by decide))) pda_nil)))) (pds_one (pd_ret pd_bl)) pds_nil)
      (pds_one (pd_ret (pd_and (pd_cmp (op_neD hr.units) mon_gF snd_neP (nomark _) (pd_var (pv 0)) (pd_tup pda_nil)) (pd_one (pd_cmp (op_eqD hr.units) mon_gF snd_eqP (nomark _) (pd_callD C__law_mean (hr.mono (by decide)) (by rfl) (pda_cons (pd_var (pv 0)) (pda_cons (pd_B call_len_seq snd_len mon_gA (by rfl) m_len bt_len (pda_cons (pd_var (pv 1)) pda_nil)) pda_nil))) (pd_var (pv 1))))))))))) ?_
  intro ss μ Q hl h
  obtain ⟨d, st, rfl, ⟨hf, ht8, hn0, hn⟩, q⟩ := h
  by_cases ht : ∃ ds, d = .tup ds
  · obtain ⟨ds, rfl⟩ := ht
    have fa := fitA_iff.mp hf.2
    have hl8 : ds.length ≤ 8 := ht8
    rw [isSpl_eq, part_two] at q
    unfold rowD
    walk_at "dv"
    rw [bw_tup hf]
    simp only [isTupB]
    walk_at "dv"
    refine lc_all (fun d => .bl (isPrB d)) μ (fun _ => trivial) ds _ (fun a ha acc P P2 k => ?_) (by omega) ?_
    · walk_at "dv"
      refine ⟨a, 2, rfl, fa a ha, ?_⟩
      walk_at "dv"
      rcases two_or a with ⟨u, b, rfl⟩ | ⟨e, e2⟩
      · rw [show (isTupB (.tup [u, b]) && decide (tl (.tup [u, b]) = 2)) = true from rfl]
        walk_at "dv"
        exact ⟨u, rfl, fitA_iff.mp (fa _ ha).2 u (by simp), k⟩
      · rw [e]
        rw [e2] at k
        walk_at "dv"
        exact k
    · rw [all_bl]
      walk_at "dv"
      cases e1 : ds.all isPrB with
      | false => rw [e1] at q; walk_at "dv"; exact q
      | true =>
        rw [e1, Bool.true_and] at q
        have pr := List.all_eq_true.mp e1
        walk_at "dv"
        refine lc_all (fun d => .bl (posB st.length d)) μ (fun _ => trivial) ds _ (fun a ha acc P P2 k => ?_) (by omega) ?_
        · obtain ⟨r, b, rfl⟩ := pr_some (pr a ha)
          have fb := fitA_iff.mp (fa _ ha).2 b (by simp)
          change P (.d (.bl (decide (0 < ((decFr (frD r)).getD 0).num) && isCh st.length b))) _ at k
          rw [decFr_frD] at k
          change P (.d (.bl (decide (0 < r.num) && isCh st.length b))) _ at k
          unfold frD
          walk_at "dv"
          by_cases hr : 0 < r.num
          · rw [if_pos hr]
            rw [decide_eq_true hr] at k
            rw [List.length_map]
            exact ⟨b, st.length, rfl, ⟨fb, hn⟩, k⟩
          · rw [if_neg hr]
            rw [decide_eq_false hr] at k
            exact k
        · rw [all_bl]
          walk_at "dv"
          cases e3 : ds.all (posB st.length) with
          | false => rw [e3] at q; walk_at "dv"; exact q
          | true =>
            obtain ⟨ps, rfl, hp⟩ := parts_of (n := st.length) (ds := ds) (by rw [part_two, e1, e3]; rfl)
            rw [e3, map_wOf, map_bOf] at q
            have zp : ∀ p ∈ ps, ZP 128 p := fun p hp => part_fit (fa _ (List.mem_map_of_mem hp))
            rw [List.length_map] at hl8
            walk_at "dv"
            rw [List.length_map]
            refine ⟨by omega, by omega, ?_⟩
            have er : rngD ((ps.length : Int) - 1) = (List.range ((ps.map (·.2)).length - 1)).map fun (i : Nat) => D.int (i : Int) := by
              unfold rngD
              rw [List.length_map]
              congr 1
              congr 1
              omega
            rw [er]
            refine lc_map (fun (i : Nat) => D.int (i : Int)) (fun i => .bl (lexLt ((ps.map (·.2)).getD i []) ((ps.map (·.2)).getD (i + 1) []))) μ (fun _ => trivial) _ _ (fun i hi acc P P2 k => ?_) (by rw [List.length_range, List.length_map]; omega) ?_
            · have hi2 := List.mem_range.mp hi
              rw [List.length_map] at hi2
              have ei : ((i : Int) + 1).toNat = i + 1 := by omega
              have h1 : i < ps.length := by omega
              have h2 : i + 1 < ps.length := by omega
              have g1 : (ps.map (·.2)).getD i [] = ps[i].2 := by
                rw [List.getD_eq_getElem?_getD, List.getElem?_map, List.getElem?_eq_getElem h1]; rfl
              have g2 : (ps.map (·.2)).getD (i + 1) [] = ps[i + 1].2 := by
                rw [List.getD_eq_getElem?_getD, List.getElem?_map, List.getElem?_eq_getElem h2]; rfl
              rw [g1, g2] at k
              walk_at "dv"
              rw [if_neg (by omega), if_neg (by omega), ei, Int.toNat_natCast, List.getElem?_map, List.getElem?_map, List.getElem?_eq_getElem h1, List.getElem?_eq_getElem h2]
              unfold partD
              walk_at "dv"
              exact ⟨ps[i].2, ps[i + 1].2, rfl, ⟨(zp _ (List.getElem_mem h1)).2, (zp _ (List.getElem_mem h2)).2⟩, k⟩
            · rw [all_bl, asc_at]
              walk_at "dv"
              cases e4 : ascB (ps.map (·.2)) with
              | false => rw [e4] at q; walk_at "dv"; exact q
              | true =>
                rw [e4] at q
                walk_at "dv"
                refine ⟨fun _ e => e ▸ (sh_tup fun d hd => sh_part hd).shaped (by decide), fun _ e => e ▸ (sh_tup (k := 0) fun d hd => absurd hd List.not_mem_nil).shaped (by decide), ?_⟩
                by_cases hne : ps = []
                · subst hne
                  have : ¬ (mixR st.length [] [] = st) := fun e => by
                    rw [← e] at hn0
                    exact absurd hn0 (show ¬ 1 ≤ ([] : List Rat).length by decide)
                  rw [List.map_nil, List.map_nil, decide_eq_false this] at q
                  rw [if_neg (show ¬ (!(D.tup (List.map partD [])).py.eqv (D.tup []).py) = true by decide)]
                  exact q
                · have e5 : (D.tup (List.map partD ps)).py.eqv (D.tup []).py = false := by
                    cases ps with
                    | nil => exact absurd rfl hne
                    | cons p ps => rfl
                  rw [e5]
                  walk_at "dv"
                  rw [List.length_map]
                  refine ⟨ps, st.length, rfl, ⟨hl8, hn, fun p h => (hp p h).bel.len, zp⟩, ?_⟩
                  rw [meanL_mix (fun p h => (hp p h).bel.len) hne]
                  walk_at "dv"
                  refine ⟨fun _ e => e ▸ (sh_row _).shaped (by decide), fun _ e => e ▸ (sh_row st).shaped (by decide), ?_⟩
                  rw [show D.tup (st.map frD) = rowD st from rfl, eqv_row]
                  exact q
  · have e := not_tup ht
    rw [isSpl_not e] at q
    walk_at "dv"
    rw [bw_tup hf, e]
    walk_at "dv"
    exact q
end K2

/-! part Q9 -/
set_option Elab.async false
set_option linter.all false
set_option maxRecDepth 100000
set_option autoImplicit false
set_option exponentiation.threshold 9000
set_option maxHeartbeats 1000000
namespace K2
open PySem PySem.Spec L2 DV
open PyProof.Rows (envOfC)
variable {P : Program} {w : World} {K : PySem.W.Frag} {mg : Str → Option Value} {base : Heap}

local macro_rules | `(tactic| walk_at "dv") => `(tactic| simp only [startR, cRepU, fIStar, fIZipG, fParDN, cInP, fInP, lstOf, fIns, fExt, fIsN, fIsNotN, isNonS, fAug, fAddW, fSubW, fGtW, fMul2, fModM, cAddW, cEqP, fEqP, fNeP, fInI, fIsiW, Option.bind_some, fRevT, fMk, fBare, fAtt, fIsX, fIsXT, fRaise, fRaise0, fTry, clD, suiteD, kNo, kBut, fXatt, fExprX, fCallX, kDX, gRepr2, cRepr2, datOf, errOf, kD, fin, fSeq, fNext, fDrop, fNRep, fNRg, fParN0, fPar3, fPar3N, fAsg, fRet, fIfS, fNever, fPar, fNew, fApp, fVar, fC, fOp, fTest, fTAnd, fTOr, fTNot, fVAnd, fVOr, fVNot, fNeg, fIf, fChain, fANil, fACons, fTup, fLst, fCB, fNLst, fOfN, fYes, fIsi, fONone, fOSome, fSl, sliceF,
  gF, gA, cI, fI, c0, cAdd, fAdd, fIx, cRepT, fRepT, fEq, fNe, fNotIn, intsOf, blsOf, allD, seqOf, tupOf, fLen, cA0, f1L, gSum, fTupleOf, fListOf, fA1, fA2, cDm, gN, gsNil_eq, gsCons_eq, gT_eq, gSb_eq, isB, itemsOf, fISeq, fIRng, fIEnum, fIZip, fIZipTL, fFor, fLc, wipeR, fCall, fCallK, fRetN, kN, fCallN, fCallOn, kwS, pick, gRepr, cRepr, List.filterMap_cons_some, List.filterMap_nil,
  List.map_cons, List.map_nil, List.length_cons, List.length_nil, List.replicate_succ, List.replicate_zero, List.cons_append, List.nil_append, List.append_nil, List.getElem?_cons_zero, List.getElem?_cons_succ, List.getElem?_nil, List.set_cons_zero, List.set_cons_succ, List.set_nil, List.take_succ_cons, List.take_zero, List.take_nil,
  Option.map_some, Option.map_none, Option.some.injEq, Option.get_some, exists_eq_left', exists_eq_left, exists_eq_right, true_and, and_true, if_true, if_false, reduceCtorEq, ite_true, ite_false, S.d.injEq, S.m.injEq, D.int.injEq, D.tup.injEq, D.lst.injEq, D.bl.injEq, D.str.injEq, List.cons.injEq, exists_and_left, exists_and_right,
  Nat.sub_zero, Nat.reduceSub, Nat.reduceAdd, Nat.zero_add, Nat.add_zero, Bool.not_true, Bool.not_false, Bool.false_eq_true, decide_eq_true_eq, Nat.reduceLT, Nat.reduceLeDiff, Nat.le_refl, List.take_length, Int.reduceLT, Int.reduceToNat, Nat.lt_irrefl, gt_iff_lt, Nat.not_lt_zero, Int.cast_ofNat_Int, decide_true, decide_false, and_assoc, Bool.false_and, Bool.true_and])


theorem any_row (fs : List (List Rat)) (r : List Rat) : (pyA (fs.map rowD)).any (fun z => PyData.eqv z (rowD r).py) = decide (r ∈ fs) := by
  induction fs with
  | nil => rfl
  | cons f fs ih =>
    show (PyData.eqv (rowD f).py (rowD r).py || (pyA (fs.map rowD)).any (fun z => PyData.eqv z (rowD r).py)) = _
    rw [ih, eqv_row]
    by_cases h : f = r
    · subst h; simp
    · have h2 : ¬ r = f := fun e => h e.symm
      simp [h, h2]
theorem sh_rows (fs : List (List Rat)) : Sh 3 (.lst (fs.map rowD)) := sh_lst fun d hd => by
  obtain ⟨f, _, rfl⟩ := List.mem_map.mp hd
  exact sh_row f
/-- these rows, each once -/
structure Asc (fs rs : List (List Rat)) : Prop where
  nd : fs.Nodup
  len : fs.length ≤ rs.length
  sub : ∀ f ∈ fs, f ∈ rs
  ne : rs ≠ [] → fs ≠ []
theorem mem_ins {α : Type} {l : List α} {i : Nat} {x y : α} : y ∈ l.take i ++ [x] ++ l.drop i ↔ y = x ∨ y ∈ l := by
  constructor
  · intro h
    rcases List.mem_append.mp h with h | h
    · rcases List.mem_append.mp h with h | h
      · exact .inr (List.mem_of_mem_take h)
      · exact .inl (List.mem_singleton.mp h)
    · exact .inr (List.mem_of_mem_drop h)
  · rintro (rfl | h)
    · simp
    · have : y ∈ l.take i ++ l.drop i := by rw [List.take_append_drop]; exact h
      rcases List.mem_append.mp this with h | h
      · exact List.mem_append_left _ (List.mem_append_left _ h)
      · exact List.mem_append_right _ h
theorem nd_ins {α : Type} {l : List α} {i : Nat} {x : α} (h : l.Nodup) (hx : x ∉ l) : (l.take i ++ [x] ++ l.drop i).Nodup := by
  have e : (l.take i ++ [x] ++ l.drop i).Perm (x :: l) := by
    have : (l.take i ++ x :: l.drop i).Perm (x :: (l.take i ++ l.drop i)) := List.perm_middle
    rw [List.take_append_drop] at this
    rwa [List.append_assoc]
  exact e.nodup_iff.mpr (List.nodup_cons.mpr ⟨hx, h⟩)
def T__law_ascending : TF := fun ss μ P => ∃ (x : S) (rs : List (List Rat)), ss = [x] ∧ ((x = .d (.lst (rs.map rowD)) ∨ ∃ j, x = .m j ∧ μ[j]? = some (rs.map rowD)) ∧ rs.length ≤ 20 ∧ ∀ r ∈ rs, ∀ x ∈ r, Z 128 x) ∧ ∀ fs, Asc fs rs → P (.lst (fs.map rowD)) μ
theorem mon__law_ascending : MonF T__law_ascending := fun ss μ P P' k ⟨a, b, e, h, q⟩ => ⟨a, b, e, h, fun fs h1 => k _ _ (q fs h1)⟩
theorem ok__law_ascending (t : Top K mg "_law_ascending" s__law_ascending ["rows"]) (C__law_row_below : DefOk P w K mg base "_law_row_below" 2 2 T__law_row_below) (m_len : mg "len" = none) :
    DefOk P w K mg base "_law_ascending" 3 1 T__law_ascending := by
  have nd := (sc__law_ascending).nd
  refine ok_defD (k := 2) t sc__law_ascending mon__law_ascending (fun f cdv A outer s H E hr =>
    (pds_cons (pds_new (pdn_lst pda_nil) (fun _ h => ps_set (i := 1) nd rfl (by first | exact Or.inl rfl | exact Or.inr rfl) h))
      (pds_cons (pds_for PassesOwn.never rfl (pdi_seq (pd_var (pv 0))) (pdg_name (pg_name (i := 2) nd rfl (by first | exact Or.inl rfl | exact Or.inr rfl))) (pds_one (pds_if (ptd_cmp (op_notInD hr.u65) mon_gF snd_notInP (by with_unfolding_all rfl) (pd_var (pv 2)) (pd_var (pv 1))) (pds_one (pds_ins (pd_var (pv 1)) (pd_B call_len_seq snd_len mon_gA (by rfl) m_len bt_len (pda_cons (pd_of_N (pdn_lc (own := [("each", 3)]) rfl nd (pdi_seq (pd_var (pv 1))) (blkOk_by (N := N__law_ascending) (sc := defScope s__law_ascending) (by decide +kernel)) (fun _ _ _ _ _ => (pdg_name (pg_name (i := 3) nd rfl (by first | exact Or.inl rfl | exact Or.inr rfl)))) (fun _ _ _ _ _ => (pdts_one (ptd_val (pd_callD C__law_row_below (hr.mono (by decide)) (by rfl) (pda_cons (pd_var (pv 3)) (pda_cons (pd_var (pv 2)) pda_nil)))))) (fun _ _ _ _ _ => (pd_var (pv 3))) (by decide))) pda_nil)) (pd_var (pv 2)) (fun _ _ h1 h2 => ps_expr (pe_bm PySem.F.plainAttrs_list PySem.F.slot_list_insert PySem.F.type_list_insert mt_insert h1 h2)))) pds_nil)))
      (pds_one (pd_ret (pd_var (pv 1))))))) ?_
  intro ss μ Q hl h
  obtain ⟨x, rs, rfl, ⟨hx, hn, hz⟩, q⟩ := h
  have key : ∀ (okk : Mu → Prop), (∀ c, okk (μ ++ [c])) → ∀ (us fs : List (List Rat)) (s2 s3 : Option S) (k : K4), (∀ u ∈ us, u ∈ rs) → fs.Nodup → (∀ f ∈ fs, f ∈ rs) → fs.length + us.length ≤ rs.length → (∀ (fs' : List (List Rat)) (s2 s3 : Option S), fs'.Nodup → (∀ f ∈ fs', f ∈ rs) → fs'.length ≤ fs.length + us.length → (us ≠ [] ∨ fs ≠ [] → fs' ≠ []) → k.nx [some x, some (.m μ.length), s2, s3] (μ ++ [fs'.map rowD])) →
      loopS (gN 2) (fIfS (fTest (fOp (gF cInP (fInP true)) (fVar 2) (fVar 1)))
          (fIns (fVar 1) (fCB (gA cA0 fLen) (fACons (fOfN (fLc (fISeq (fVar 1)) (gN 3) (fTest (fCall 2 T__law_row_below (fACons (fVar 3) (fACons (fVar 2) fANil)))) (fVar 3) [3])) fANil)) (fVar 2)) fNext)
        okk (us.map rowD) [some x, some (.m μ.length), s2, s3] (μ ++ [fs.map rowD]) k := by
    intro okk hok us
    induction us with
    | nil => intro fs s2 s3 k _ h1 h2 _ hk; exact ⟨hok _, hk fs s2 s3 h1 h2 (by simp) (fun h => h.elim (fun h => absurd rfl h) id)⟩
    | cons u us ih =>
      intro fs s2 s3 k hu h1 h2 hl hk
      have hu0 := hu u (by simp)
      rw [List.length_cons] at hl
      refine ⟨hok _, ?_⟩
      walk_at "dv"
      rw [get_last]
      walk_at "dv"
      refine ⟨fun d e => e ▸ (sh_row u).shaped (by decide), fun d e => e ▸ (sh_rows fs).shaped (by decide), ?_⟩
      rw [any_row]
      by_cases hm : u ∈ fs
      · rw [decide_eq_true hm]
        walk_at "dv"
        exact ih fs _ _ k (fun v hv => hu v (List.mem_cons_of_mem _ hv)) h1 h2 (by omega) fun fs' s2 s3 a b c d => hk fs' s2 s3 a b (by rw [List.length_cons]; omega) fun _ => d (.inr fun e => by rw [e] at hm; cases hm)
      · rw [decide_eq_false hm]
        walk_at "dv"
        refine lc_pure rowD (fun f => if lexLt f u = true then some (rowD f) else none) (μ ++ [fs.map rowD]) (fun acc => ?_) fs [] _ (fun f hf acc P P2 h => ?_) (by simp; omega) ?_
        · rw [List.append_assoc, List.getElem?_append_right (Nat.le_refl _), Nat.sub_self]; rfl
        · walk_at "dv"
          refine ⟨f, u, rfl, ⟨hz f (h2 f hf), hz u hu0⟩, ?_⟩
          walk_at "dv"
          cases e : lexLt f u with
          | true => rw [e] at h; exact h
          | false => rw [e] at h; exact h
        · have hc : ([] ++ fs.filterMap (fun f => if lexLt f u = true then some (rowD f) else none)).length ≤ fs.length := by
            rw [List.nil_append]; exact List.length_filterMap_le _ _
          refine ⟨_, rfl, by omega, fs.map rowD, get_last, by rw [List.length_map]; omega, ?_⟩
          rw [set_last]
          generalize ([] ++ fs.filterMap (fun f => if lexLt f u = true then some (rowD f) else none)).length = i at hc ⊢
          have e : (fs.map rowD).take i ++ [rowD u] ++ (fs.map rowD).drop i = (fs.take i ++ [u] ++ fs.drop i).map rowD := by simp
          rw [e]
          have el : (fs.take i ++ [u] ++ fs.drop i).length = fs.length + 1 := by simp; omega
          refine ih (fs.take i ++ [u] ++ fs.drop i) _ _ k (fun v hv => hu v (List.mem_cons_of_mem _ hv)) (nd_ins h1 hm) (fun f hf => ?_) (by omega) fun fs' s2 s3 a b c d => hk fs' s2 s3 a b (by rw [List.length_cons]; omega) fun _ => d (.inr fun e => by rw [e] at el; simp at el)
          rcases mem_ins.mp hf with e | e
          · exact e ▸ hu0
          · exact h2 f e
  walk_at "dv"
  rcases hx with rfl | ⟨j, rfl, hj⟩
  · refine ⟨_, rfl, key _ (fun _ => trivial) rs [] none none _ (fun _ h => h) List.nodup_nil (fun _ h => absurd h List.not_mem_nil) (by simp) fun fs' s2 s3 a b c d => ?_⟩
    walk_at "dv"
    rw [get_last, List.take_left]
    exact ⟨_, rfl, q fs' ⟨a, by simpa using c, b, fun h => d (.inl h)⟩⟩
  · have hj2 : ∀ c : List D, (μ ++ [c])[j]? = some (rs.map rowD) := fun c => by
      rw [List.getElem?_append_left (List.getElem?_eq_some_iff.mp hj).1]; exact hj
    refine ⟨(rs.map rowD, fun μ' => μ'[j]? = some (rs.map rowD)), ?_, key _ hj2 rs [] none none _ (fun _ h => h) List.nodup_nil (fun _ h => absurd h List.not_mem_nil) (by simp) fun fs' s2 s3 a b c d => ?_⟩
    · show Option.map _ ((μ ++ [[]])[j]?) = _
      rw [hj2]
      rfl
    · walk_at "dv"
      rw [get_last, List.take_left]
      exact ⟨_, rfl, q fs' ⟨a, by simpa using c, b, fun h => d (.inl h)⟩⟩
end K2

/-! part Q10 -/
set_option Elab.async false
set_option linter.all false
set_option maxRecDepth 100000
set_option autoImplicit false
set_option exponentiation.threshold 9000
set_option maxHeartbeats 1000000
namespace K2
open PySem PySem.Spec L2 DV
open PyProof.Rows (envOfC)
variable {P : Program} {w : World} {K : PySem.W.Frag} {mg : Str → Option Value} {base : Heap}

local macro_rules | `(tactic| walk_at "dv") => `(tactic| simp only [startR, cRepU, fIStar, fIZipG, fParDN, cInP, fInP, lstOf, fIns, fExt, fIsN, fIsNotN, isNonS, fAug, fAddW, fSubW, fGtW, fMul2, fModM, cAddW, cEqP, fEqP, fNeP, fInI, fIsiW, Option.bind_some, fRevT, fMk, fBare, fAtt, fIsX, fIsXT, fRaise, fRaise0, fTry, clD, suiteD, kNo, kBut, fXatt, fExprX, fCallX, kDX, gRepr2, cRepr2, datOf, errOf, kD, fin, fSeq, fNext, fDrop, fNRep, fNRg, fParN0, fPar3, fPar3N, fAsg, fRet, fIfS, fNever, fPar, fNew, fApp, fVar, fC, fOp, fTest, fTAnd, fTOr, fTNot, fVAnd, fVOr, fVNot, fNeg, fIf, fChain, fANil, fACons, fTup, fLst, fCB, fNLst, fOfN, fYes, fIsi, fONone, fOSome, fSl, sliceF,
  gF, gA, cI, fI, c0, cAdd, fAdd, fIx, cRepT, fRepT, fEq, fNe, fNotIn, intsOf, blsOf, allD, seqOf, tupOf, fLen, cA0, f1L, gSum, fTupleOf, fListOf, fA1, fA2, cDm, gN, gsNil_eq, gsCons_eq, gT_eq, gSb_eq, isB, itemsOf, fISeq, fIRng, fIEnum, fIZip, fIZipTL, fFor, fLc, wipeR, fCall, fCallK, fRetN, kN, fCallN, fCallOn, kwS, pick, gRepr, cRepr, List.filterMap_cons_some, List.filterMap_nil,
  List.map_cons, List.map_nil, List.length_cons, List.length_nil, List.replicate_succ, List.replicate_zero, List.cons_append, List.nil_append, List.append_nil, List.getElem?_cons_zero, List.getElem?_cons_succ, List.getElem?_nil, List.set_cons_zero, List.set_cons_succ, List.set_nil, List.take_succ_cons, List.take_zero, List.take_nil,
  Option.map_some, Option.map_none, Option.some.injEq, Option.get_some, exists_eq_left', exists_eq_left, exists_eq_right, true_and, and_true, if_true, if_false, reduceCtorEq, ite_true, ite_false, S.d.injEq, S.m.injEq, D.int.injEq, D.tup.injEq, D.lst.injEq, D.bl.injEq, D.str.injEq, List.cons.injEq, exists_and_left, exists_and_right,
  Nat.sub_zero, Nat.reduceSub, Nat.reduceAdd, Nat.zero_add, Nat.add_zero, Bool.not_true, Bool.not_false, Bool.false_eq_true, decide_eq_true_eq, Nat.reduceLT, Nat.reduceLeDiff, Nat.le_refl, List.take_length, Int.reduceLT, Int.reduceToNat, Nat.lt_irrefl, gt_iff_lt, Nat.not_lt_zero, Int.cast_ofNat_Int, decide_true, decide_false, and_assoc, Bool.false_and, Bool.true_and])


theorem _root_.DV.DefOk.mono {x : Str} {j k n : Nat} {T : TF} (h : DefOk P w K mg base x j n T) (hk : j ≤ k) : DefOk P w K mg base x k n T := by
  obtain ⟨m, f, fd, ps, g, kp, b, F⟩ := h
  exact ⟨m, f, fd, ps, g, kp, b, F.mono hk⟩
theorem fit_tup {xs : List D} (hl : xs.length ≤ 1000) (h : ∀ d ∈ xs, fit d) : fit (.tup xs) := ⟨hl, fitA_iff.mpr h⟩
theorem fit_lst {xs : List D} (hl : xs.length ≤ 1000) (h : ∀ d ∈ xs, fit d) : fit (.lst xs) := ⟨hl, fitA_iff.mpr h⟩
mutual
def fitB : D → Bool
  | .int i => decide (i.natAbs < 2 ^ 128)
  | .tup ds => decide (ds.length ≤ 1000) && fitAB ds
  | .lst ds => decide (ds.length ≤ 1000) && fitAB ds
  | .err _ _ _ => false
  | .erb _ => false
  | _ => true
def fitAB : List D → Bool
  | [] => true
  | d :: r => fitB d && fitAB r
end
mutual
theorem fit_of : ∀ {d : D}, fitB d = true → fit d
  | .non, _ => trivial
  | .bl _, _ => trivial
  | .int i, h => (of_decide_eq_true h : i.natAbs < 2 ^ 128)
  | .str _, _ => trivial
  | .tup ds, h => by
    have h : (decide (ds.length ≤ 1000) && fitAB ds) = true := h
    rw [Bool.and_eq_true] at h
    exact ⟨of_decide_eq_true h.1, fitA_of h.2⟩
  | .lst ds, h => by
    have h : (decide (ds.length ≤ 1000) && fitAB ds) = true := h
    rw [Bool.and_eq_true] at h
    exact ⟨of_decide_eq_true h.1, fitA_of h.2⟩
  | .dct _ _, _ => trivial
  | .err _ _ _, h => by cases h
  | .erb _, h => by cases h
theorem fitA_of : ∀ {ds : List D}, fitAB ds = true → fitA ds
  | [], _ => trivial
  | d :: r, h => by
    have h : (fitB d && fitAB r) = true := h
    rw [Bool.and_eq_true] at h
    exact ⟨fit_of h.1, fitA_of h.2⟩
end
theorem odd_all : ∀ d ∈ oddL, fitB d = true ∧ tl d ≤ 4 := by decide +kernel
theorem odd_fit {d : D} (h : d ∈ oddL) : fit d ∧ tl d ≤ 4 := ⟨fit_of (odd_all d h).1, (odd_all d h).2⟩
/-- whole numbers in tuples, n deep -/
def Lv : Nat → D → Prop
  | 0, _ => False
  | n + 1, d => (∃ i : Int, d = .int i ∧ i.natAbs < 2 ^ 126) ∨ ∃ ds, d = .tup ds ∧ ds.length ≤ 100 ∧ ∀ x ∈ ds, Lv n x
theorem Lv.fit : ∀ {n : Nat} {d : D}, Lv n d → fit d
  | 0, _, h => h.elim
  | n + 1, d, .inl ⟨i, e, h⟩ => e ▸ (show i.natAbs < 2 ^ 128 from Nat.lt_of_lt_of_le h (by decide))
  | n + 1, d, .inr ⟨ds, e, h1, h2⟩ => e ▸ fit_tup (by omega) fun x hx => (h2 x hx).fit
theorem Lv.up : ∀ {n : Nat} {d : D}, Lv n d → Lv (n + 1) d
  | 0, _, h => h.elim
  | n + 1, d, .inl h => .inl h
  | n + 1, d, .inr ⟨ds, e, h1, h2⟩ => .inr ⟨ds, e, h1, fun x hx => (h2 x hx).up⟩
theorem Lv.mono {n m : Nat} {d : D} (h : Lv n d) (l : n ≤ m) : Lv m d := by
  induction l with
  | refl => exact h
  | step _ ih => exact ih.up
theorem lv_int {i : Int} (h : i.natAbs < 2 ^ 126) : Lv 1 (.int i) := .inl ⟨i, rfl, h⟩
theorem lv_tup {n : Nat} {ds : List D} (hl : ds.length ≤ 100) (h : ∀ x ∈ ds, Lv n x) : Lv (n + 1) (.tup ds) := .inr ⟨ds, rfl, hl, h⟩
theorem lv_fr {r : Rat} (h : Z 126 r) : Lv 2 (frD r) := lv_tup (by simp) fun x hx => by
  simp only [List.mem_cons, List.not_mem_nil, or_false] at hx
  rcases hx with rfl | rfl
  · exact lv_int h.2
  · exact lv_int (den_ok h)
theorem lv_row {rs : List Rat} (hl : rs.length ≤ 100) (h : ∀ r ∈ rs, Z 126 r) : Lv 3 (rowD rs) := lv_tup (by simpa using hl) fun x hx => by
  obtain ⟨r, hr, rfl⟩ := List.mem_map.mp hx
  exact lv_fr (h r hr)
theorem str_fit (i : Int) : fit (.str (toString i)) := trivial
theorem log_k {i : Int} (h : 0 ≤ i) (h2 : i < 1000) : i.natAbs.log2 < 1920 := by
  have h1 : i.natAbs < 1000 := by omega
  by_cases c : i.natAbs = 0
  · rw [c]; decide
  · have := (Nat.log2_lt c (k := 10)).mpr (by omega)
    omega
theorem cut_take (ds : List D) (i : Nat) : cutD ds none (some (i : Int)) = ds.take i := by
  unfold cutD
  rw [HT.sIx_none, HT.sIx_nat, List.drop_zero, Nat.sub_zero]
  rw [Nat.min_def]
  split
  · rfl
  · rw [List.take_of_length_le (Nat.le_refl _), List.take_of_length_le (by omega)]
theorem cut_drop (ds : List D) (i : Nat) : cutD ds (some (i : Int)) none = ds.drop i := by
  unfold cutD
  rw [HT.sIx_none, HT.sIx_nat]
  rw [Nat.min_def]
  split
  · rw [List.take_of_length_le (by rw [List.length_drop]; exact Nat.le_refl _)]
  · rw [Nat.sub_self, List.take_zero, List.drop_of_length_le (by omega)]
theorem cut_last (ds : List D) : (cutD ds (some (-1)) none).length ≤ 1 := by
  unfold cutD
  rw [HT.sIx_none]
  have : HT.sIx ds.length 0 (some (-1)) = ds.length - 1 := by
    simp only [HT.sIx]
    rw [if_pos (by decide)]
    omega
  rw [this, List.length_take, List.length_drop]
  omega
theorem cut_sub (ds : List D) (a b : Option Int) : (cutD ds a b).Sublist ds := (List.take_sublist _ _).trans (List.drop_sublist _ _)

def T__law_bent (n : Nat) : TF := fun ss μ P => ∃ w ms thing, ss = [.m 0, .d thing] ∧ μ = w :: ms ∧ (IsW w ∧ Lv n thing) ∧ ∀ d w', IsW w' → fit d → tl d ≤ max (tl thing + 1) 4 → P d (w' :: ms)
theorem mon__law_bent (n : Nat) : MonF (T__law_bent n) := fun ss μ P P' k ⟨a, b, c, e, e2, h, q⟩ => ⟨a, b, c, e, e2, h, fun r w' h1 h2 h3 => k _ _ (q r w' h1 h2 h3)⟩
theorem bent_zero {l : Nat} (t : Top K mg "_law_bent" s__law_bent ["well", "thing"]) : DefOk P w K mg base "_law_bent" l 2 (T__law_bent 0) := by
  obtain ⟨f, fd, F, b, g⟩ := t
  have no : ∀ {ss μ Q}, ¬ T__law_bent 0 ss μ Q := fun {ss μ Q} ⟨_, _, c, _, _, h, _⟩ => h.2
  exact ⟨mon__law_bent 0, f, fd, ["well", "thing"], g, F.kp, b, ⟨fun vs H Q E h => by
    obtain ⟨ad, ss, μ, _, _, _, q⟩ := h
    exact absurd q no, fun A outer s H args us vs Q E _ _ _ _ h => by
    obtain ⟨ad, ss, μ, _, _, _, q⟩ := h
    exact absurd q no⟩⟩
theorem bent_step {l n : Nat} (t : Top K mg "_law_bent" s__law_bent ["well", "thing"]) (C__law_draw : DefOk P w K mg base "_law_draw" l 2 T__law_draw) (C__law_odd : DefOk P w K mg base "_law_odd" l 1 T__law_odd) (m_int : mg "int" = none) (m_isinstance : mg "isinstance" = none) (m_len : mg "len" = none) (m_list : mg "list" = none) (m_str : mg "str" = none) (m_tuple : mg "tuple" = none) (C__law_bent : DefOk P w K mg base "_law_bent" l 2 (T__law_bent n)) :
    DefOk P w K mg base "_law_bent" (l + 1) 2 (T__law_bent (n + 1)) := by
  have nd := (sc__law_bent).nd
  refine ok_defD (k := l) t sc__law_bent (mon__law_bent (n + 1)) (fun f cdv A outer s H E hr =>
    (pds_cons (pds_if (ptd_w (pdw_and (ptd_val (pd_isiW (T := "tuple") (pd_var (pv 1)) (by rfl) m_isinstance (by rfl) m_tuple bt_tuple (by decide) (by decide))) (pdw_and (ptd_cmp gtW_ok mon_gF snd_gtW (nomark _) (pd_B call_len_seq snd_len mon_gA (by rfl) m_len bt_len (pda_cons (pd_var (pv 1)) pda_nil)) pd_int) (pdw_and1 (ptd_cmp gtW_ok mon_gF snd_gtW (nomark _) (pd_callD C__law_draw hr (by rfl) (pda_cons (pd_var (pv 0)) (pda_cons pd_int pda_nil))) pd_int))))) (pds_cons (pds_set (pd_callD C__law_draw hr (by rfl) (pda_cons (pd_var (pv 0)) (pda_cons (pd_B call_len_seq snd_len mon_gA (by rfl) m_len bt_len (pda_cons (pd_var (pv 1)) pda_nil)) pda_nil))) (fun _ h => ps_set (i := 2) nd rfl (by first | exact Or.inl rfl | exact Or.inr rfl) h))
      (pds_one (pd_ret (pd_op addW_ok mon_gF snd_addW (pd_op addW_ok mon_gF snd_addW (pd_slice (pd_var (pv 1)) pdo_none (pdo_some (pd_var (pv 2)))) (pd_tup (pda_cons (pd_callD C__law_bent hr (by rfl) (pda_cons (pd_var (pv 0)) (pda_cons (pd_ix ix_ok mon_gF snd_ix (fun _ _ => rfl) (pd_var (pv 1)) (pd_var (pv 2))) pda_nil))) pda_nil))) (pd_slice (pd_var (pv 1)) (pdo_some (pd_op addW_ok mon_gF snd_addW (pd_var (pv 2)) pd_int)) pdo_none))))) pds_nil)
      (pds_cons (pds_set (pd_callD C__law_draw hr (by rfl) (pda_cons (pd_var (pv 0)) (pda_cons pd_int pda_nil))) (fun _ h => ps_set (i := 3) nd rfl (by first | exact Or.inl rfl | exact Or.inr rfl) h))
      (pds_cons (pds_if (ptd_w (pdw_and (ptd_val (pd_isiW (T := "tuple") (pd_var (pv 1)) (by rfl) m_isinstance (by rfl) m_tuple bt_tuple (by decide) (by decide))) (pdw_and1 (ptd_cmp op_lt mon_gF snd_B0 (nomark _) (pd_var (pv 3)) pd_int)))) (pds_one (pd_ret (pd_ix ix_ok mon_gF snd_ix (fun _ _ => rfl) (pd_tup (pda_cons (pd_op addW_ok mon_gF snd_addW (pd_var (pv 1)) (pd_slice (pd_var (pv 1)) (pdo_some (pd_neg pd_int)) pdo_none)) (pda_cons (pd_slice (pd_var (pv 1)) (pdo_some pd_int) pdo_none) (pda_cons (pd_slice (pd_var (pv 1)) pdo_none (pdo_some (pd_neg pd_int))) (pda_cons (pd_revT (pd_var (pv 1))) (pda_cons (pd_Ty call_list_of snd_listOf mon_gA (by rfl) m_list bt_list (pda_cons (pd_var (pv 1)) pda_nil)) (pda_cons (pd_tup (pda_cons (pd_var (pv 1)) pda_nil)) (pda_cons (pd_op addW_ok mon_gF snd_addW (pd_var (pv 1)) (pd_tup (pda_cons (pd_tup (pda_cons pd_int (pda_cons pd_int pda_nil))) pda_nil))) pda_nil)))))))) (pd_var (pv 3))))) pds_nil)
      (pds_cons (pds_if (ptd_w (pdw_and (ptd_val (pd_isiW (T := "int") (pd_var (pv 1)) (by rfl) m_isinstance (by rfl) m_int bt_int (by decide) (by decide))) (pdw_and1 (ptd_cmp op_lt mon_gF snd_B0 (nomark _) (pd_var (pv 3)) pd_int)))) (pds_one (pd_ret (pd_ix ix_ok mon_gF snd_ix (fun _ _ => rfl) (pd_tup (pda_cons (pd_op subW_ok mon_gF snd_subW (pd_var (pv 1)) pd_int) (pda_cons (pd_op addW_ok mon_gF snd_addW (pd_var (pv 1)) pd_int) (pda_cons (pd_op subW_ok mon_gF snd_subW pd_int (pd_var (pv 1))) (pda_cons (pd_op mul2_ok mon_gF snd_mul2 (pd_var (pv 1)) pd_int) (pda_cons (pd_cmp gtW_ok mon_gF snd_gtW (nomark _) (pd_var (pv 1)) pd_int) (pda_cons pd_int (pda_cons (pd_Ty call_str_int snd_strI mon_gA (by rfl) m_str bt_str (pda_cons (pd_op modM_ok mon_gF snd_modM (pd_var (pv 1)) pd_int) pda_nil)) pda_nil)))))))) (pd_var (pv 3))))) pds_nil)
      (pds_one (pd_ret (pd_callD C__law_odd hr (by rfl) (pda_cons (pd_var (pv 0)) pda_nil))))))))) ?_
  intro ss μ Q hl h
  obtain ⟨w0, ms, thing, rfl, rfl, ⟨hw, hm⟩, q⟩ := h
  have hf := hm.fit
  have ta : ∀ w2 : List D, List.take (ms.length + 1) (w2 :: ms) = w2 :: ms := fun w2 => List.take_of_length_le (by simp)
  have odd : ∀ w1 : List D, IsW w1 → T__law_odd [S.m 0] (w1 :: ms) fun d μ2 => Q d (List.take (ms.length + 1) μ2) := by
    intro w1 hw1
    refine ⟨w1, ms, rfl, rfl, hw1, fun d w2 hw2 hd => ?_⟩
    show Q d (List.take (ms.length + 1) (w2 :: ms))
    rw [ta]
    have := odd_fit hd
    exact q d w2 hw2 this.1 (by omega)
  rcases hm with ⟨i, rfl, hi⟩ | ⟨ds, rfl, hds, hx⟩
  · have m0 : 0 ≤ i % 1000 := Int.emod_nonneg _ (by decide)
    have m1 : i % 1000 < 1000 := Int.emod_lt_of_pos _ (by decide)
    have lk := log_k m0 m1
    have p6 : (2 : Nat) ^ 128 = 4 * 2 ^ 126 := by decide
    have fi : ∀ j : Int, j.natAbs < 2 ^ 128 → fit (.int j) := fun j h => h
    walk_at "dv"
    rw [bw_tup hf, bw_int hf]
    simp only [isTupB, isIntB]
    walk_at "dv"
    refine ⟨w0, ms, 9, rfl, rfl, ⟨hw, by decide, by decide⟩, fun r w1 hw1 r0 r1 => ?_⟩
    walk_at "dv"
    split
    · refine ⟨lk, ?_⟩
      rw [if_neg (by omega)]
      obtain rfl | rfl | rfl | rfl | rfl | rfl | rfl : r = 0 ∨ r = 1 ∨ r = 2 ∨ r = 3 ∨ r = 4 ∨ r = 5 ∨ r = 6 := by omega
      · exact ⟨_, rfl, q _ _ hw1 (fi _ (by omega)) (Nat.zero_le _)⟩
      · exact ⟨_, rfl, q _ _ hw1 (fi _ (by omega)) (Nat.zero_le _)⟩
      · exact ⟨_, rfl, q _ _ hw1 (fi _ (by omega)) (Nat.zero_le _)⟩
      · exact ⟨_, rfl, q _ _ hw1 (fi _ (by omega)) (Nat.zero_le _)⟩
      · exact ⟨_, rfl, q _ _ hw1 trivial (Nat.zero_le _)⟩
      · exact ⟨_, rfl, q _ _ hw1 (fi _ (by decide)) (Nat.zero_le _)⟩
      · exact ⟨_, rfl, q _ _ hw1 trivial (Nat.zero_le _)⟩
    · exact odd _ hw1
  · have fa : ∀ d ∈ ds, fit d := fun d hd => (hx d hd).fit
    have sub : ∀ a b, ∀ d ∈ cutD ds a b, fit d := fun a b d hd => fa d ((cut_sub ds a b).subset hd)
    have cl : ∀ a b, (cutD ds a b).length ≤ ds.length := fun a b => (cut_sub ds a b).length_le
    have fin : ∀ (xs : List D) (w2 : List D), IsW w2 → (∀ d ∈ xs, fit d) → xs.length ≤ ds.length + 1 → Q (.tup xs) (w2 :: ms) := fun xs w2 h1 h2 h3 =>
      q _ _ h1 (fit_tup (by omega) h2) (by show xs.length ≤ _; have : tl (D.tup ds) = ds.length := rfl; omega)
    have tail : ∀ (r : Int) (w1 : List D), IsW w1 → 0 ≤ r → r < 9 → if r < 7 then
        ds.length + (cutD ds (some (-1)) none).length ≤ 100000 ∧ ds.length ≤ 99999 ∧ ∃ d, (if r < 0 then none else [D.tup (ds ++ cutD ds (some (-1)) none), D.tup (cutD ds (some 1) none), D.tup (cutD ds none (some (-1))), D.tup ds.reverse, D.lst ds, D.tup [D.tup ds], D.tup (ds ++ [D.tup [D.int 1, D.int 1]])][r.toNat]?) = some d ∧ Q d (w1 :: ms)
        else T__law_odd [S.m 0] (w1 :: ms) fun d μ2 => Q d (List.take (ms.length + 1) μ2) := by
      intro r w1 hw1 r0 r1
      split
      · rename_i hr
        have c1 := cut_last ds
        have c2 := cl (some 1) none
        have c3 := cl none (some (-1))
        refine ⟨by omega, by omega, ?_⟩
        rw [if_neg (by omega)]
        obtain rfl | rfl | rfl | rfl | rfl | rfl | rfl : r = 0 ∨ r = 1 ∨ r = 2 ∨ r = 3 ∨ r = 4 ∨ r = 5 ∨ r = 6 := by omega
        · refine ⟨_, rfl, fin _ _ hw1 (fun d hd => ?_) (by rw [List.length_append]; omega)⟩
          rcases List.mem_append.mp hd with h | h
          · exact fa d h
          · exact sub _ _ d h
        · exact ⟨_, rfl, fin _ _ hw1 (sub _ _) (by omega)⟩
        · exact ⟨_, rfl, fin _ _ hw1 (sub _ _) (by omega)⟩
        · exact ⟨_, rfl, fin _ _ hw1 (fun d hd => fa d (List.mem_reverse.mp hd)) (by rw [List.length_reverse]; omega)⟩
        · exact ⟨_, rfl, q _ _ hw1 (fit_lst (by omega) fa) (Nat.zero_le _)⟩
        · exact ⟨_, rfl, fin _ _ hw1 (fun d hd => by rw [List.mem_singleton] at hd; exact hd ▸ hf) (by simp)⟩
        · refine ⟨_, rfl, fin _ _ hw1 (fun d hd => ?_) (by rw [List.length_append]; simp)⟩
          rcases List.mem_append.mp hd with h | h
          · exact fa d h
          · rw [List.mem_singleton] at h
            exact h ▸ fit_of (by decide)
      · exact odd _ hw1
    walk_at "dv"
    rw [bw_tup hf]
    simp only [isTupB]
    walk_at "dv"
    split
    · refine ⟨w0, ms, 7, rfl, rfl, ⟨hw, by decide, by decide⟩, fun r w1 hw1 r0 r1 => ?_⟩
      walk_at "dv"
      by_cases e : (0 : Int) < r
      · rw [if_pos e]
        refine ⟨w1, ms, _, rfl, rfl, ⟨hw1, by assumption, by omega⟩, fun r w2 hw2 r0 r1 => ?_⟩
        walk_at "dv"
        have hi : r.toNat < ds.length := by omega
        refine ⟨ds[r.toNat], ?_, ?_⟩
        · rw [if_neg (by omega), List.getElem?_eq_getElem hi]
        refine ⟨w2, ms, _, rfl, rfl, ⟨hw2, hx _ (List.getElem_mem hi)⟩, fun d w3 hw3 hd ht => ?_⟩
        have e1 : r = (r.toNat : Int) := by omega
        have e2 : r + 1 = ((r.toNat + 1 : Nat) : Int) := by omega
        have l1 := cl none (some r)
        have l2 := cl (some (r + 1)) none
        walk_at "dv"
        refine ⟨by omega, by rw [List.length_append]; simp only [List.length_cons, List.length_nil]; omega, ?_⟩
        refine fin _ _ hw3 (fun x hx => ?_) ?_
        · rcases List.mem_append.mp hx with h | h
          · rcases List.mem_append.mp h with h | h
            · exact sub _ _ x h
            · rw [List.mem_singleton] at h; exact h ▸ hd
          · exact sub _ _ x h
        · rw [e2, cut_drop, e1, cut_take]
          simp only [List.length_append, List.length_take, List.length_drop, List.length_cons, List.length_nil, Int.toNat_natCast]
          omega
      · rw [if_neg e]
        refine ⟨w1, ms, 9, rfl, rfl, ⟨hw1, by decide, by decide⟩, fun r w2 hw2 r0 r1 => ?_⟩
        walk_at "dv"
        rw [bw_int hf]
        simp only [isIntB]
        walk_at "dv"
        exact tail r w2 hw2 r0 r1
    · refine ⟨w0, ms, 9, rfl, rfl, ⟨hw, by decide, by decide⟩, fun r w1 hw1 r0 r1 => ?_⟩
      walk_at "dv"
      rw [bw_int hf]
      simp only [isIntB]
      walk_at "dv"
      exact tail r w1 hw1 r0 r1
theorem ok__law_bent (t : Top K mg "_law_bent" s__law_bent ["well", "thing"]) (C__law_draw : DefOk P w K mg base "_law_draw" 1 2 T__law_draw) (C__law_odd : DefOk P w K mg base "_law_odd" 3 1 T__law_odd) (m_int : mg "int" = none) (m_isinstance : mg "isinstance" = none) (m_len : mg "len" = none) (m_list : mg "list" = none) (m_str : mg "str" = none) (m_tuple : mg "tuple" = none) : DefOk P w K mg base "_law_bent" 9 2 (T__law_bent 6) := by
  have st : ∀ n, DefOk P w K mg base "_law_bent" (3 + n) 2 (T__law_bent n) := by
    intro n
    induction n with
    | zero => exact bent_zero t
    | succ n ih => exact bent_step (l := 3 + n) t (C__law_draw.mono (show 1 ≤ 3 + n by omega)) (C__law_odd.mono (show 3 ≤ 3 + n by omega)) m_int m_isinstance m_len m_list m_str m_tuple ih
  exact st 6
end K2

/-! part Q11 -/
set_option Elab.async false
set_option linter.all false
set_option maxRecDepth 100000
set_option autoImplicit false
set_option exponentiation.threshold 9000
set_option maxHeartbeats 1000000
namespace K2
open PySem PySem.Spec L2 DV
open PyProof.Rows (envOfC)
variable {P : Program} {w : World} {K : PySem.W.Frag} {mg : Str → Option Value} {base : Heap}

local macro_rules | `(tactic| walk_at "dv") => `(tactic| simp only [startR, fIxW, cRepU, fIStar, fIZipG, fParDN, cInP, fInP, lstOf, fIns, fExt, fIsN, fIsNotN, isNonS, fAug, fAddW, fSubW, fGtW, fMul2, fModM, cAddW, cEqP, fEqP, fNeP, fInI, fIsiW, Option.bind_some, fRevT, fMk, fBare, fAtt, fIsX, fIsXT, fRaise, fRaise0, fTry, clD, suiteD, kNo, kBut, fXatt, fExprX, fCallX, kDX, gRepr2, cRepr2, datOf, errOf, kD, fin, fSeq, fNext, fDrop, fNRep, fNRg, fParN0, fPar3, fPar3N, fAsg, fRet, fIfS, fNever, fPar, fNew, fApp, fVar, fC, fOp, fTest, fTAnd, fTOr, fTNot, fVAnd, fVOr, fVNot, fNeg, fIf, fChain, fANil, fACons, fTup, fLst, fCB, fNLst, fOfN, fYes, fIsi, fONone, fOSome, fSl, sliceF,
  gF, gA, cI, fI, c0, cAdd, fAdd, fIx, cRepT, fRepT, fEq, fNe, fNotIn, intsOf, blsOf, allD, seqOf, tupOf, fLen, cA0, f1L, gSum, fTupleOf, fListOf, fA1, fA2, cDm, gN, gsNil_eq, gsCons_eq, gT_eq, gSb_eq, isB, itemsOf, fISeq, fIRng, fIEnum, fIZip, fIZipTL, fFor, fLc, wipeR, fCall, fCallK, fRetN, kN, fCallN, fCallOn, kwS, pick, gRepr, cRepr, List.filterMap_cons_some, List.filterMap_nil,
  List.map_cons, List.map_nil, List.length_cons, List.length_nil, List.replicate_succ, List.replicate_zero, List.cons_append, List.nil_append, List.append_nil, List.getElem?_cons_zero, List.getElem?_cons_succ, List.getElem?_nil, List.set_cons_zero, List.set_cons_succ, List.set_nil, List.take_succ_cons, List.take_zero, List.take_nil,
  Option.map_some, Option.map_none, Option.some.injEq, Option.get_some, exists_eq_left', exists_eq_left, exists_eq_right, true_and, and_true, if_true, if_false, reduceCtorEq, ite_true, ite_false, S.d.injEq, S.m.injEq, D.int.injEq, D.tup.injEq, D.lst.injEq, D.bl.injEq, D.str.injEq, List.cons.injEq, exists_and_left, exists_and_right,
  Nat.sub_zero, Nat.reduceSub, Nat.reduceAdd, Nat.zero_add, Nat.add_zero, Bool.not_true, Bool.not_false, Bool.false_eq_true, decide_eq_true_eq, Nat.reduceLT, Nat.reduceLeDiff, Nat.le_refl, List.take_length, Int.reduceLT, Int.reduceToNat, Nat.lt_irrefl, gt_iff_lt, Nat.not_lt_zero, Int.cast_ofNat_Int, decide_true, decide_false, and_assoc, Bool.false_and, Bool.true_and])


def tabD (t : List (List Rat)) : D := .tup (t.map rowD)
structure Tab (m n : Nat) (t : List (List Rat)) : Prop where
  len : t.length = m
  row : ∀ r ∈ t, r.length = n ∧ ∀ x ∈ r, NB x
theorem Tab.lv {m n : Nat} {t : List (List Rat)} (h : Tab m n t) (hm : m ≤ 100) (hn : n ≤ 100) : Lv 4 (tabD t) := lv_tup (by rw [List.length_map, h.len]; exact hm) fun x hx => by
  obtain ⟨r, hr, rfl⟩ := List.mem_map.mp hx
  have := h.row r hr
  exact lv_row (by omega) fun y hy => (this.2 y hy).mono (by decide)
def T__law_table_of : TF := fun ss μ P => ∃ w ms, ∃ n m : Nat, ss = [.m 0, .d (.int (n : Int)), .d (.int (m : Int))] ∧ μ = w :: ms ∧ (IsW w ∧ n ≤ 100 ∧ m ≤ 100) ∧ ∀ t w', IsW w' → Tab m n t → P (tabD t) (w' :: ms)
theorem mon__law_table_of : MonF T__law_table_of := fun ss μ P P' k ⟨a, b, c, d, e, e2, h, q⟩ => ⟨a, b, c, d, e, e2, h, fun r w' h1 h2 => k _ _ (q r w' h1 h2)⟩
theorem ok__law_table_of (t : Top K mg "_law_table_of" s__law_table_of ["well", "n", "m"]) (C__law_row : DefOk P w K mg base "_law_row" 3 2 T__law_row) (m_range : mg "range" = none) (m_tuple : mg "tuple" = none) :
    DefOk P w K mg base "_law_table_of" 4 3 T__law_table_of := by
  have nd := (sc__law_table_of).nd
  refine ok_defD (k := 3) t sc__law_table_of mon__law_table_of (fun f cdv A outer s H E hr =>
    (pds_cons (pds_new (pdn_lst pda_nil) (fun _ h => ps_set (i := 3) nd rfl (by first | exact Or.inl rfl | exact Or.inr rfl) h))
      (pds_cons (pds_for PassesOwn.never rfl (pdi_range (by rfl) m_range (pda_cons (pd_var (pv 2)) pda_nil)) (pdg_name (pg_name (i := 4) nd rfl (by first | exact Or.inl rfl | exact Or.inr rfl))) (pds_one (pds_app (pd_var (pv 3)) (pd_Ty call_tuple_of snd_tupleOf mon_gA (by rfl) m_tuple bt_tuple (pda_cons (pd_callD C__law_row (hr.mono (by decide)) (by rfl) (pda_cons (pd_var (pv 0)) (pda_cons (pd_var (pv 1)) pda_nil))) pda_nil)) (fun _ _ h1 h2 => ps_expr (pe_bm PySem.F.plainAttrs_list PySem.F.slot_list_append PySem.F.type_list_append mt_append h1 h2)))))
      (pds_one (pd_ret (pd_Ty call_tuple_of snd_tupleOf mon_gA (by rfl) m_tuple bt_tuple (pda_cons (pd_var (pv 3)) pda_nil))))))) ?_
  intro ss μ Q hl h
  obtain ⟨w0, ms, n, m, rfl, rfl, ⟨hw, hn, hm⟩, q⟩ := h
  walk_at "dv"
  refine ⟨by omega, by omega, ?_⟩
  rw [rngD_nat]
  have key : ∀ (is : List Nat) (rs : List (List Rat)) (w : List D) (sl : Option S) (k : K4), IsW w → rs.length + is.length ≤ 100 → (∀ r ∈ rs, r.length = n ∧ ∀ x ∈ r, NB x) → (∀ (rs' : List (List Rat)) (w' : List D) (sl' : Option S), IsW w' → rs'.length = rs.length + is.length → (∀ r ∈ rs', r.length = n ∧ ∀ x ∈ r, NB x) → k.nx [some (.m 0), some (.d (.int (n : Int))), some (.d (.int (m : Int))), some (.m (ms.length + 1)), sl'] (w' :: (ms ++ [rs'.map rowD]))) →
      loopS (gN 4) (fApp (fVar 3) (fCB (gA cA0 fTupleOf) (fACons (fCall 2 T__law_row (fACons (fVar 0) (fACons (fVar 1) fANil))) fANil))) (fun _ => True) (is.map fun (i : Nat) => D.int (i : Int)) [some (.m 0), some (.d (.int (n : Int))), some (.d (.int (m : Int))), some (.m (ms.length + 1)), sl] (w :: (ms ++ [rs.map rowD])) k := by
    intro is
    induction is with
    | nil => intro rs w sl k hw _ hr hk; exact ⟨trivial, hk rs w sl hw (by simp) hr⟩
    | cons i is ih =>
      intro rs w sl k hw hl hr hk
      rw [List.length_cons] at hl
      refine ⟨trivial, ?_⟩
      walk_at "dv"
      refine ⟨w, _, n, rfl, rfl, ⟨hw, hn⟩, fun r w' hw' hb => ?_⟩
      unfold rowL
      walk_at "dv"
      rw [get_last]
      walk_at "dv"
      refine ⟨by rw [List.length_map]; omega, ?_⟩
      rw [set_last]
      have e : rs.map rowD ++ [D.tup (r.map frD)] = (rs ++ [r]).map rowD := by simp [rowD]
      rw [e]
      refine ih (rs ++ [r]) w' _ k hw' (by simp at hl ⊢; omega) (fun x hx => ?_) fun rs' w2 sl' h1 h2 h3 => hk rs' w2 sl' h1 (by simp at h2 ⊢; omega) h3
      rcases List.mem_append.mp hx with hx | hx
      · exact hr x hx
      · rw [List.mem_singleton] at hx; rw [hx]; exact hb
  refine key (List.range m) [] w0 none _ hw (by simp; omega) (fun r hr => absurd hr List.not_mem_nil) fun rs' w' sl' h1 h2 h3 => ?_
  walk_at "dv"
  rw [get_last]
  walk_at "dv"
  rw [List.take_left]
  exact q rs' w' h1 ⟨by simpa using h2, h3⟩

theorem fit_app {a b : List D} (ha : fit (.tup a)) (hb : fit (.tup b)) (hl : a.length + b.length ≤ 1000) : fit (.tup (a ++ b)) := fit_tup (by rw [List.length_append]; exact hl) fun d hd => by
  rcases List.mem_append.mp hd with h | h
  · exact fitA_iff.mp ha.2 d h
  · exact fitA_iff.mp hb.2 d h
theorem fit_one {d : D} (h : fit d) : fit (.tup [d]) := fit_tup (by simp) fun x hx => by rw [List.mem_singleton] at hx; exact hx ▸ h
theorem fit_two {d e : D} (h : fit d) (h2 : fit e) : fit (.tup [d, e]) := fit_tup (by simp) fun x hx => by
  simp only [List.mem_cons, List.not_mem_nil, or_false] at hx
  rcases hx with rfl | rfl
  · exact h
  · exact h2
theorem fit_cut {ds : List D} (h : fit (.tup ds)) (a b : Option Int) : fit (.tup (cutD ds a b)) := fit_tup (Nat.le_trans (cut_sub ds a b).length_le h.1) fun d hd => fitA_iff.mp h.2 d ((cut_sub ds a b).subset hd)
theorem fit_rep {ds : List D} (h : fit (.tup ds)) (k : Nat) (hl : k * ds.length ≤ 1000) : fit (.tup (List.replicate k ds).flatten) := fit_tup (by simpa using hl) fun d hd => by
  obtain ⟨l, hl, hd⟩ := List.mem_flatten.mp hd
  rw [(List.mem_replicate.mp hl).2] at hd
  exact fitA_iff.mp h.2 d hd
theorem fit_map {α : Type} {f : α → D} {l : List α} (hl : l.length ≤ 1000) (h : ∀ a ∈ l, fit (f a)) : fit (.tup (l.map f)) := fit_tup (by simpa using hl) fun d hd => by
  obtain ⟨a, ha, rfl⟩ := List.mem_map.mp hd
  exact h a ha
theorem at_last {α : Type} {xs : List α} (h : xs ≠ []) : ∃ d ∈ xs, atI xs (-1) = some d := by
  obtain ⟨ys, y, rfl⟩ : ∃ ys y, xs = ys ++ [y] := ⟨xs.dropLast, xs.getLast h, (List.dropLast_concat_getLast h).symm⟩
  exact ⟨y, by simp, atI_last ys y⟩
theorem ne_len {α : Type} {xs : List α} (h : 1 ≤ xs.length) : xs ≠ [] := fun e => by rw [e] at h; exact absurd h (Nat.not_succ_le_zero 0)
theorem tab_len {t : List (List Rat)} {m : Nat} (h : t.length = m) : (t.map rowD).length = m := by rw [List.length_map, h]
def T__law_some_world : TF := fun ss μ P => ∃ w ms, ∃ n m : Nat, ss = [.m 0, .d (.int (n : Int)), .d (.int (m : Int))] ∧ μ = w :: ms ∧ (IsW w ∧ 2 ≤ n ∧ n ≤ 4 ∧ 1 ≤ m ∧ m ≤ 5) ∧ ∀ d w', IsW w' → fit d → P d (w' :: ms)
theorem mon__law_some_world : MonF T__law_some_world := fun ss μ P P' k ⟨a, b, c, d, e, e2, h, q⟩ => ⟨a, b, c, d, e, e2, h, fun r w' h1 h2 => k _ _ (q r w' h1 h2)⟩
theorem ok__law_some_world (t : Top K mg "_law_some_world" s__law_some_world ["well", "n", "m"]) (C__law_bent : DefOk P w K mg base "_law_bent" 9 2 (T__law_bent 6)) (C__law_draw : DefOk P w K mg base "_law_draw" 1 2 T__law_draw) (C__law_table_of : DefOk P w K mg base "_law_table_of" 4 3 T__law_table_of) (m_tuple : mg "tuple" = none) :
    DefOk P w K mg base "_law_some_world" 10 3 T__law_some_world := by
  have nd := (sc__law_some_world).nd
  refine ok_defD (k := 9) t sc__law_some_world mon__law_some_world (fun f cdv A outer s H E hr =>
    (pds_cons (pds_par3 (pda_cons (pd_callD C__law_table_of (hr.mono (by decide)) (by rfl) (pda_cons (pd_var (pv 0)) (pda_cons (pd_var (pv 1)) (pda_cons (pd_var (pv 2)) pda_nil)))) (pda_cons (pd_callD C__law_table_of (hr.mono (by decide)) (by rfl) (pda_cons (pd_var (pv 0)) (pda_cons (pd_var (pv 1)) (pda_cons (pd_var (pv 2)) pda_nil)))) (pda_cons (pd_callD C__law_draw (hr.mono (by decide)) (by rfl) (pda_cons (pd_var (pv 0)) (pda_cons pd_int pda_nil))) pda_nil))) (fun _ h => ps_par3 (i := 3) (j := 4) (l := 5) rfl nd rfl rfl rfl (by decide) (by decide) (by decide) rfl rfl rfl h rfl))
      (pds_cons (pds_if (ptd_cmp (eq_ok hr.units) mon_gF snd_eq (nomark _) (pd_var (pv 5)) pd_int) (pds_one (pd_ret (pd_tup (pda_cons (pd_op repU_ok mon_gF snd_repU (pd_var (pv 3)) pd_int) (pda_cons (pd_op repU_ok mon_gF snd_repU (pd_var (pv 4)) pd_int) pda_nil))))) pds_nil)
      (pds_cons (pds_if (ptd_cmp (eq_ok hr.units) mon_gF snd_eq (nomark _) (pd_var (pv 5)) pd_int) (pds_one (pd_ret (pd_tup (pda_cons (pd_op repU_ok mon_gF snd_repU (pd_var (pv 3)) pd_int) (pda_cons (pd_op repU_ok mon_gF snd_repU (pd_var (pv 4)) pd_int) pda_nil))))) pds_nil)
      (pds_cons (pds_if (ptd_cmp (eq_ok hr.units) mon_gF snd_eq (nomark _) (pd_var (pv 5)) pd_int) (pds_one (pd_ret (pd_tup (pda_cons (pd_slice (pd_var (pv 3)) pdo_none (pdo_some (pd_neg pd_int))) (pda_cons (pd_var (pv 4)) pda_nil))))) pds_nil)
      (pds_cons (pds_if (ptd_cmp (eq_ok hr.units) mon_gF snd_eq (nomark _) (pd_var (pv 5)) pd_int) (pds_one (pd_ret (pd_tup (pda_cons (pd_Ty call_tuple_of snd_tupleOf mon_gA (by rfl) m_tuple bt_tuple (pda_cons (pd_of_N (pdn_lc (own := [("row", 6)]) rfl nd (pdi_seq (pd_var (pv 3))) (blkOk_by (N := N__law_some_world) (sc := defScope s__law_some_world) (by decide +kernel)) (fun _ _ _ _ _ => (pdg_name (pg_name (i := 6) nd rfl (by first | exact Or.inl rfl | exact Or.inr rfl)))) (fun _ _ _ _ _ => pdts_nil) (fun _ _ _ _ _ => (pd_op addW_ok mon_gF snd_addW (pd_var (pv 6)) (pd_var (pv 6)))) (by decide))) pda_nil)) (pda_cons (pd_Ty call_tuple_of snd_tupleOf mon_gA (by rfl) m_tuple bt_tuple (pda_cons (pd_of_N (pdn_lc (own := [("row", 6)]) rfl nd (pdi_seq (pd_var (pv 4))) (blkOk_by (N := N__law_some_world) (sc := defScope s__law_some_world) (by decide +kernel)) (fun _ _ _ _ _ => (pdg_name (pg_name (i := 6) nd rfl (by first | exact Or.inl rfl | exact Or.inr rfl)))) (fun _ _ _ _ _ => pdts_nil) (fun _ _ _ _ _ => (pd_op addW_ok mon_gF snd_addW (pd_var (pv 6)) (pd_var (pv 6)))) (by decide))) pda_nil)) pda_nil))))) pds_nil)
      (pds_cons (pds_if (ptd_cmp (eq_ok hr.units) mon_gF snd_eq (nomark _) (pd_var (pv 5)) pd_int) (pds_one (pd_ret (pd_tup (pda_cons (pd_Ty call_tuple_of snd_tupleOf mon_gA (by rfl) m_tuple bt_tuple (pda_cons (pd_of_N (pdn_lc (own := [("row", 6)]) rfl nd (pdi_seq (pd_var (pv 3))) (blkOk_by (N := N__law_some_world) (sc := defScope s__law_some_world) (by decide +kernel)) (fun _ _ _ _ _ => (pdg_name (pg_name (i := 6) nd rfl (by first | exact Or.inl rfl | exact Or.inr rfl)))) (fun _ _ _ _ _ => pdts_nil) (fun _ _ _ _ _ => (pd_slice (pd_var (pv 6)) pdo_none (pdo_some pd_int))) (by decide))) pda_nil)) (pda_cons (pd_Ty call_tuple_of snd_tupleOf mon_gA (by rfl) m_tuple bt_tuple (pda_cons (pd_of_N (pdn_lc (own := [("row", 6)]) rfl nd (pdi_seq (pd_var (pv 4))) (blkOk_by (N := N__law_some_world) (sc := defScope s__law_some_world) (by decide +kernel)) (fun _ _ _ _ _ => (pdg_name (pg_name (i := 6) nd rfl (by first | exact Or.inl rfl | exact Or.inr rfl)))) (fun _ _ _ _ _ => pdts_nil) (fun _ _ _ _ _ => (pd_slice (pd_var (pv 6)) pdo_none (pdo_some pd_int))) (by decide))) pda_nil)) pda_nil))))) pds_nil)
      (pds_cons (pds_if (ptd_cmp (eq_ok hr.units) mon_gF snd_eq (nomark _) (pd_var (pv 5)) pd_int) (pds_one (pd_ret (pd_tup (pda_cons (pd_var (pv 3)) (pda_cons (pd_op addW_ok mon_gF snd_addW (pd_slice (pd_var (pv 4)) pdo_none (pdo_some (pd_neg pd_int))) (pd_tup (pda_cons (pd_slice (pd_ix ix_ok mon_gF snd_ixW (fun _ _ => rfl) (pd_var (pv 4)) (pd_neg pd_int)) pdo_none (pdo_some (pd_neg pd_int))) pda_nil))) pda_nil))))) pds_nil)
      (pds_cons (pds_if (ptd_cmp (eq_ok hr.units) mon_gF snd_eq (nomark _) (pd_var (pv 5)) pd_int) (pds_one (pd_ret (pd_tup (pda_cons (pd_var (pv 3)) (pda_cons (pd_var (pv 4)) pda_nil))))) pds_nil)
      (pds_one (pd_ret (pd_callD C__law_bent (hr.mono (by decide)) (by rfl) (pda_cons (pd_var (pv 0)) (pda_cons (pd_tup (pda_cons (pd_var (pv 3)) (pda_cons (pd_var (pv 4)) pda_nil))) pda_nil)))))))))))))) ?_
  intro ss μ Q hl h
  obtain ⟨w0, ms, n, m, rfl, rfl, ⟨hw, hn2, hn4, hm1, hm5⟩, q⟩ := h
  walk_at "dv"
  refine ⟨w0, ms, n, m, rfl, rfl, ⟨hw, by omega, by omega⟩, fun p w1 hw1 hp => ?_⟩
  walk_at "dv"
  refine ⟨w1, ms, n, m, rfl, rfl, ⟨hw1, by omega, by omega⟩, fun v w2 hw2 hv => ?_⟩
  walk_at "dv"
  refine ⟨w2, ms, 9, rfl, rfl, ⟨hw2, by decide, by decide⟩, fun r w3 hw3 r0 r1 => ?_⟩
  have lp := tab_len hp.len
  have lv := tab_len hv.len
  have kp := hp.lv (by omega) (by omega)
  have kv := hv.lv (by omega) (by omega)
  have fp := kp.fit
  have fv := kv.fit
  unfold tabD at kp kv fp fv ⊢
  walk_at "dv"
  have np : p.map rowD ≠ [] := ne_len (by omega)
  have nv : v.map rowD ≠ [] := ne_len (by omega)
  have fr : ∀ (t : List (List Rat)), Tab m n t → ∀ r ∈ t, fit (rowD r) := fun t ht r hr => by
    have := ht.row r hr
    exact fit_row (by omega) fun x hx => (this.2 x hx).mono (by decide)
  have ta : ∀ w2 : List D, List.take (ms.length + 1) (w2 :: ms) = w2 :: ms := fun w2 => List.take_of_length_le (by simp)
  by_cases e0 : r = 0
  · rw [if_pos e0]
    refine ⟨np, by decide, by decide, by omega, nv, by decide, by decide, by omega, q _ _ hw3 (fit_two (fit_rep fp 2 (by omega)) (fit_rep fv 2 (by omega)))⟩
  rw [if_neg e0]
  by_cases e1 : r = 1
  · rw [if_pos e1]
    refine ⟨np, by decide, by decide, by omega, nv, by decide, by decide, by omega, q _ _ hw3 (fit_two (fit_rep fp 6 (by omega)) (fit_rep fv 6 (by omega)))⟩
  rw [if_neg e1]
  by_cases e2 : r = 2
  · rw [if_pos e2]
    exact q _ _ hw3 (fit_two (fit_cut fp _ _) fv)
  rw [if_neg e2]
  by_cases e3 : r = 3
  · rw [if_pos e3]
    have fx : ∀ (t : List (List Rat)), Tab m n t → fit (.tup (t.map fun r => D.tup (r.map frD ++ r.map frD))) := fun t ht => fit_map (by have := ht.len; omega) fun r hr => by
      have := (ht.row r hr).1
      exact fit_app (fr t ht r hr) (fr t ht r hr) (by rw [List.length_map]; omega)
    have stp : ∀ (t : List (List Rat)), Tab m n t → ∀ r ∈ t, ∀ (acc : List D) (P : S → Mu → Prop), P (.d (.tup (r.map frD ++ r.map frD))) (w3 :: ms ++ [acc]) → (r.map frD).length + (r.map frD).length ≤ 100000 ∧ P (.d (.tup (r.map frD ++ r.map frD))) (w3 :: ms ++ [acc]) := fun t ht r hr acc P h => ⟨by rw [List.length_map]; have := (ht.row r hr).1; omega, h⟩
    refine lc_map rowD (fun r => D.tup (r.map frD ++ r.map frD)) (w3 :: ms) (fun _ => trivial) p _ (fun r hr acc P P2 h => ?_) (by have := hp.len; omega) ?_
    · unfold rowD
      walk_at "dv"
      exact stp p hp r hr acc P h
    refine lc_map rowD (fun r => D.tup (r.map frD ++ r.map frD)) (w3 :: ms) (fun _ => trivial) v _ (fun r hr acc P P2 h => ?_) (by have := hv.len; omega) ?_
    · unfold rowD
      walk_at "dv"
      exact stp v hv r hr acc P h
    rw [ta]
    exact q _ _ hw3 (fit_two (fx p hp) (fx v hv))
  rw [if_neg e3]
  by_cases e4 : r = 4
  · rw [if_pos e4]
    have fx : ∀ (t : List (List Rat)), Tab m n t → fit (.tup (t.map fun r => D.tup (cutD (r.map frD) none (some 1)))) := fun t ht => fit_map (by have := ht.len; omega) fun r hr => fit_cut (fr t ht r hr) _ _
    refine lc_map rowD (fun r => D.tup (cutD (r.map frD) none (some 1))) (w3 :: ms) (fun _ => trivial) p _ (fun r hr acc P P2 h => ?_) (by have := hp.len; omega) ?_
    · unfold rowD
      walk_at "dv"
      exact h
    refine lc_map rowD (fun r => D.tup (cutD (r.map frD) none (some 1))) (w3 :: ms) (fun _ => trivial) v _ (fun r hr acc P P2 h => ?_) (by have := hv.len; omega) ?_
    · unfold rowD
      walk_at "dv"
      exact h
    rw [ta]
    exact q _ _ hw3 (fit_two (fx p hp) (fx v hv))
  rw [if_neg e4]
  by_cases e5 : r = 5
  · rw [if_pos e5]
    obtain ⟨d, hd, ea⟩ := at_last nv
    obtain ⟨x, hx, rfl⟩ := List.mem_map.mp hd
    have c3 := (cut_sub (v.map rowD) none (some (-1))).length_le
    refine ⟨rowD x, ea, ?_⟩
    rw [show rowD x = D.tup (x.map frD) from rfl]
    walk_at "dv"
    refine ⟨by omega, q _ _ hw3 (fit_two fp (fit_app (fit_cut fv _ _) (fit_one (fit_cut (fr v hv x hx) _ _)) (by simp only [List.length_cons, List.length_nil]; omega)))⟩
  rw [if_neg e5]
  by_cases e6 : r = 6
  · rw [if_pos e6]
    exact q _ _ hw3 (fit_two fp fv)
  rw [if_neg e6]
  refine ⟨w3, ms, _, rfl, rfl, ⟨hw3, (lv_tup (n := 4) (by simp) fun x hx => ?_).mono (by decide)⟩, fun d w4 hw4 hd _ => ?_⟩
  · simp only [List.mem_cons, List.not_mem_nil, or_false] at hx
    rcases hx with rfl | rfl
    · exact kp
    · exact kv
  · walk_at "dv"
    exact q _ _ hw4 hd
end K2

/-! part Q12 -/
set_option Elab.async false
set_option linter.all false
set_option maxRecDepth 100000
set_option autoImplicit false
set_option exponentiation.threshold 9000
set_option maxHeartbeats 1000000
namespace K2
open PySem PySem.Spec L2 DV
open PyProof.Rows (envOfC)
variable {P : Program} {w : World} {K : PySem.W.Frag} {mg : Str → Option Value} {base : Heap}

local macro_rules | `(tactic| walk_at "dv") => `(tactic| simp only [startR, fIxW, cRepU, fIStar, fIZipG, fParDN, cInP, fInP, lstOf, fIns, fExt, fIsN, fIsNotN, isNonS, fAug, fAddW, fSubW, fGtW, fMul2, fModM, cAddW, cEqP, fEqP, fNeP, fInI, fIsiW, Option.bind_some, fRevT, fMk, fBare, fAtt, fIsX, fIsXT, fRaise, fRaise0, fTry, clD, suiteD, kNo, kBut, fXatt, fExprX, fCallX, kDX, gRepr2, cRepr2, datOf, errOf, kD, fin, fSeq, fNext, fDrop, fNRep, fNRg, fParN0, fPar3, fPar3N, fAsg, fRet, fIfS, fNever, fPar, fNew, fApp, fVar, fC, fOp, fTest, fTAnd, fTOr, fTNot, fVAnd, fVOr, fVNot, fNeg, fIf, fChain, fANil, fACons, fTup, fLst, fCB, fNLst, fOfN, fYes, fIsi, fONone, fOSome, fSl, sliceF,
  gF, gA, cI, fI, c0, cAdd, fAdd, fIx, cRepT, fRepT, fEq, fNe, fNotIn, intsOf, blsOf, allD, seqOf, tupOf, fLen, cA0, f1L, gSum, fTupleOf, fListOf, fA1, fA2, cDm, gN, gsNil_eq, gsCons_eq, gT_eq, gSb_eq, isB, itemsOf, fISeq, fIRng, fIEnum, fIZip, fIZipTL, fFor, fLc, wipeR, fCall, fCallK, fRetN, kN, fCallN, fCallOn, kwS, pick, gRepr, cRepr, List.filterMap_cons_some, List.filterMap_nil,
  List.map_cons, List.map_nil, List.length_cons, List.length_nil, List.replicate_succ, List.replicate_zero, List.cons_append, List.nil_append, List.append_nil, List.getElem?_cons_zero, List.getElem?_cons_succ, List.getElem?_nil, List.set_cons_zero, List.set_cons_succ, List.set_nil, List.take_succ_cons, List.take_zero, List.take_nil,
  Option.map_some, Option.map_none, Option.some.injEq, Option.get_some, exists_eq_left', exists_eq_left, exists_eq_right, true_and, and_true, if_true, if_false, reduceCtorEq, ite_true, ite_false, S.d.injEq, S.m.injEq, D.int.injEq, D.tup.injEq, D.lst.injEq, D.bl.injEq, D.str.injEq, List.cons.injEq, exists_and_left, exists_and_right,
  Nat.sub_zero, Nat.reduceSub, Nat.reduceAdd, Nat.zero_add, Nat.add_zero, Bool.not_true, Bool.not_false, Bool.false_eq_true, decide_eq_true_eq, Nat.reduceLT, Nat.reduceLeDiff, Nat.le_refl, List.take_length, Int.reduceLT, Int.reduceToNat, Nat.lt_irrefl, gt_iff_lt, Nat.not_lt_zero, Int.cast_ofNat_Int, decide_true, decide_false, and_assoc, Bool.false_and, Bool.true_and])


theorem fr_half : D.tup [.int 1, .int 2] = frD (Rat.divInt 1 2) := decFr_int (by decide) (by decide)
theorem fr_nhalf : D.tup [.int (-1), .int 2] = frD (Rat.divInt (-1) 2) := decFr_int (by decide) (by decide)
theorem z_half : Z 2 (Rat.divInt 1 2) := z_div (by decide) (by decide) (by decide)
theorem z_nhalf : Z 2 (Rat.divInt (-1) 2) := z_div (by decide) (by decide) (by decide)
theorem take_one {α : Type} (w2 : α) (ms : List α) : List.take (ms.length + 1) (w2 :: ms) = w2 :: ms := List.take_of_length_le (by simp)
theorem Ch.fit {n : Nat} {ch : List Rat} (h : Ch n ch) : fit (rowD ch) := fit_row (by have := h.bel.len; have := h.n4; omega) fun r hr => (h.z r hr).mono (by decide)
theorem Ch.lv {n : Nat} {ch : List Rat} (h : Ch n ch) : Lv 3 (rowD ch) := lv_row (by have := h.bel.len; have := h.n4; omega) fun r hr => (h.z r hr).mono (by decide)
theorem fit_cons {d : D} {l : List D} (h : fit d) (h2 : fit (.tup l)) (hl : l.length ≤ 990) : fit (.tup (d :: l)) := fit_tup (by rw [List.length_cons]; omega) fun x hx => by
  rcases List.mem_cons.mp hx with e | e
  · exact e ▸ h
  · exact fitA_iff.mp h2.2 x e
theorem fit_nil : fit (.tup []) := fit_tup (by simp) fun _ h => absurd h List.not_mem_nil
def T__law_some_chance : TF := fun ss μ P => ∃ w ms, ∃ n : Nat, ss = [.m 0, .d (.int (n : Int))] ∧ μ = w :: ms ∧ (IsW w ∧ 2 ≤ n ∧ n ≤ 4) ∧ ∀ d w', IsW w' → fit d → P d (w' :: ms)
theorem mon__law_some_chance : MonF T__law_some_chance := fun ss μ P P' k ⟨a, b, c, e, e2, h, q⟩ => ⟨a, b, c, e, e2, h, fun r w' h1 h2 => k _ _ (q r w' h1 h2)⟩
theorem ok__law_some_chance (t : Top K mg "_law_some_chance" s__law_some_chance ["well", "n"]) (C__law_bent : DefOk P w K mg base "_law_bent" 9 2 (T__law_bent 6)) (C__law_chance : DefOk P w K mg base "_law_chance" 3 2 T__law_chance) (C__law_draw : DefOk P w K mg base "_law_draw" 1 2 T__law_draw) (C__law_odd : DefOk P w K mg base "_law_odd" 3 1 T__law_odd) (C__law_plus : DefOk P w K mg base "_law_plus" 2 2 T__law_plus) :
    DefOk P w K mg base "_law_some_chance" 10 2 T__law_some_chance := by
  have nd := (sc__law_some_chance).nd
  refine ok_defD (k := 9) t sc__law_some_chance mon__law_some_chance (fun f cdv A outer s H E hr =>
    (pds_cons (pds_par (pda_cons (pd_callD C__law_chance (hr.mono (by decide)) (by rfl) (pda_cons (pd_var (pv 0)) (pda_cons (pd_var (pv 1)) pda_nil))) (pda_cons (pd_callD C__law_draw (hr.mono (by decide)) (by rfl) (pda_cons (pd_var (pv 0)) (pda_cons pd_int pda_nil))) pda_nil)) (fun _ h => ps_par (i := 2) (j := 3) rfl nd rfl rfl (by decide) rfl rfl h rfl))
      (pds_cons (pds_if (ptd_cmp (eq_ok hr.units) mon_gF snd_eq (nomark _) (pd_var (pv 3)) pd_int) (pds_one (pd_ret (pd_op addW_ok mon_gF snd_addW (pd_tup (pda_cons (pd_callD C__law_plus (hr.mono (by decide)) (by rfl) (pda_cons (pd_ix ix_ok mon_gF snd_ix (fun _ _ => rfl) (pd_var (pv 2)) pd_int) (pda_cons (pd_tup (pda_cons pd_int (pda_cons pd_int pda_nil))) pda_nil))) pda_nil)) (pd_slice (pd_var (pv 2)) (pdo_some pd_int) pdo_none)))) pds_nil)
      (pds_cons (pds_if (ptd_cmp (eq_ok hr.units) mon_gF snd_eq (nomark _) (pd_var (pv 3)) pd_int) (pds_one (pd_ret (pd_op addW_ok mon_gF snd_addW (pd_tup (pda_cons (pd_callD C__law_plus (hr.mono (by decide)) (by rfl) (pda_cons (pd_ix ix_ok mon_gF snd_ix (fun _ _ => rfl) (pd_var (pv 2)) pd_int) (pda_cons (pd_tup (pda_cons pd_int (pda_cons pd_int pda_nil))) pda_nil))) (pda_cons (pd_callD C__law_plus (hr.mono (by decide)) (by rfl) (pda_cons (pd_ix ix_ok mon_gF snd_ix (fun _ _ => rfl) (pd_var (pv 2)) pd_int) (pda_cons (pd_tup (pda_cons (pd_neg pd_int) (pda_cons pd_int pda_nil))) pda_nil))) pda_nil))) (pd_slice (pd_var (pv 2)) (pdo_some pd_int) pdo_none)))) pds_nil)
      (pds_cons (pds_if (ptd_cmp (eq_ok hr.units) mon_gF snd_eq (nomark _) (pd_var (pv 3)) pd_int) (pds_one (pd_ret (pd_op addW_ok mon_gF snd_addW (pd_var (pv 2)) (pd_tup (pda_cons (pd_tup (pda_cons pd_int (pda_cons pd_int pda_nil))) pda_nil))))) pds_nil)
      (pds_cons (pds_if (ptd_cmp (eq_ok hr.units) mon_gF snd_eq (nomark _) (pd_var (pv 3)) pd_int) (pds_one (pd_ret (pd_slice (pd_var (pv 2)) (pdo_some pd_int) pdo_none))) pds_nil)
      (pds_cons (pds_if (ptd_cmp (eq_ok hr.units) mon_gF snd_eq (nomark _) (pd_var (pv 3)) pd_int) (pds_one (pd_ret (pd_callD C__law_odd (hr.mono (by decide)) (by rfl) (pda_cons (pd_var (pv 0)) pda_nil)))) pds_nil)
      (pds_one (pd_ret (pd_if (ptd_cmp (eq_ok hr.units) mon_gF snd_eq (nomark _) (pd_var (pv 3)) pd_int) (pd_var (pv 2)) (pd_callD C__law_bent (hr.mono (by decide)) (by rfl) (pda_cons (pd_var (pv 0)) (pda_cons (pd_var (pv 2)) pda_nil))))))))))))) ?_
  intro ss μ Q hl h
  obtain ⟨w0, ms, n, rfl, rfl, ⟨hw, hn2, hn4⟩, q⟩ := h
  walk_at "dv"
  refine ⟨w0, ms, n, rfl, rfl, ⟨hw, by omega, hn4⟩, fun ch w1 hw1 hc => ?_⟩
  walk_at "dv"
  refine ⟨w1, ms, 8, rfl, rfl, ⟨hw1, by decide, by decide⟩, fun r w2 hw2 r0 r1 => ?_⟩
  have fc := hc.fit
  have lc := hc.bel.len
  obtain ⟨x, y, zs, rfl⟩ : ∃ x y zs, ch = x :: y :: zs := by
    match ch, lc with
    | [], h => exact absurd h (by simp; omega)
    | [a], h => exact absurd h (by simp; omega)
    | a :: b :: c, _ => exact ⟨a, b, c, rfl⟩
  rw [List.length_cons, List.length_cons] at lc
  have zx := (hc.z x (by simp)).mono (show 7 ≤ 3000 by decide)
  have zy := (hc.z y (by simp)).mono (show 7 ≤ 3000 by decide)
  have px := (hc.z x (by simp)).add z_half
  have py := (hc.z y (by simp)).add z_nhalf
  have hw3 := hw2
  rw [show rowD (x :: y :: zs) = D.tup (frD x :: frD y :: zs.map frD) from rfl] at fc ⊢
  walk_at "dv"
  have l1 := (cut_sub (frD x :: frD y :: zs.map frD) (some 1) none).length_le
  have l2 := (cut_sub (frD x :: frD y :: zs.map frD) (some 2) none).length_le
  have lz : (frD x :: frD y :: zs.map frD).length = n := by simp; omega
  have fin : ∀ d, fit d → Q d (List.take (ms.length + 1) (w2 :: ms)) := fun d h => by rw [take_one]; exact q d w2 hw2 h
  by_cases e0 : r = 0
  · rw [if_pos e0, fr_half]
    refine ⟨x, _, rfl, ⟨zx, z_half.mono (by decide)⟩, by omega, fin _ (fit_cons (fit_fr (px.mono (by decide))) (fit_cut fc _ _) (by omega))⟩
  rw [if_neg e0]
  by_cases e1 : r = 1
  · rw [if_pos e1, fr_half, fr_nhalf]
    refine ⟨x, _, rfl, ⟨zx, z_half.mono (by decide)⟩, y, _, rfl, ⟨zy, z_nhalf.mono (by decide)⟩, by omega, fin _ (fit_cons (fit_fr (px.mono (by decide))) (fit_cons (fit_fr (py.mono (by decide))) (fit_cut fc _ _) (by omega)) (by rw [List.length_cons]; omega))⟩
  rw [if_neg e1]
  by_cases e2 : r = 2
  · rw [if_pos e2]
    refine ⟨by rw [List.length_map]; omega, q _ _ hw2 (fit_app (a := frD x :: frD y :: zs.map frD) fc (fit_one (fit_of (by decide))) (by rw [lz, List.length_cons, List.length_nil]; omega))⟩
  rw [if_neg e2]
  by_cases e3 : r = 3
  · rw [if_pos e3]
    exact q _ _ hw2 (fit_cut fc _ _)
  rw [if_neg e3]
  by_cases e4 : r = 4
  · rw [if_pos e4]
    refine ⟨w2, ms, rfl, rfl, hw2, fun d w3 hw3 hd => ?_⟩
    walk_at "dv"
    exact q d w3 hw3 (odd_fit hd).1
  rw [if_neg e4]
  by_cases e5 : r = 5
  · rw [if_pos e5]
    exact q _ _ hw2 fc
  rw [if_neg e5]
  refine ⟨w2, ms, _, rfl, rfl, ⟨hw2, (hc.lv).mono (by decide)⟩, fun d w3 hw3 hd _ => ?_⟩
  walk_at "dv"
  exact q d w3 hw3 hd

theorem cnt_le {α β : Type} [DecidableEq β] (g : α → β) : ∀ (l : List α) (fs : List β), fs.Nodup → (fs.map fun f => (l.filter fun p => decide (g p = f)).length).sum ≤ l.length
  | [], fs, _ => by
    have : (fs.map fun f => (([] : List α).filter fun p => decide (g p = f)).length) = fs.map fun _ => 0 := rfl
    rw [this]
    induction fs with
    | nil => exact Nat.le_refl _
    | cons f fs ih => simp_all
  | p :: l, fs, h => by
    have ih := cnt_le g l fs h
    have e : ∀ fs : List β, (fs.map fun f => ((p :: l).filter fun p => decide (g p = f)).length).sum = fs.count (g p) + (fs.map fun f => (l.filter fun p => decide (g p = f)).length).sum := by
      intro fs
      induction fs with
      | nil => rfl
      | cons f fs ih2 =>
        rw [List.map_cons, List.sum_cons, ih2, List.map_cons, List.sum_cons, List.count_cons]
        by_cases c : g p = f
        · rw [List.filter_cons_of_pos (by simpa using c), List.length_cons]
          have : (f == g p) = true := by simpa using c.symm
          rw [if_pos this]
          omega
        · rw [List.filter_cons_of_neg (by simpa using c)]
          have : ¬ (f == g p) = true := by simpa using fun e => c e.symm
          rw [if_neg this]
          omega
    rw [e, List.length_cons]
    have := List.nodup_iff_count.mp h (g p)
    omega
theorem filter_part (f : List Rat) (pa : List (Rat × List Rat)) : pa.filterMap (fun p => if decide (p.2 = f) = true then some (partD p) else none) = (pa.filter fun p => decide (p.2 = f)).map partD := by
  induction pa with
  | nil => rfl
  | cons p pa ih =>
    by_cases c : p.2 = f
    · rw [List.filter_cons_of_pos (by simpa using c), List.filterMap_cons_some (b := partD p) (by rw [if_pos (by simpa using c)]), List.map_cons, ih]
    · rw [List.filter_cons_of_neg (by simpa using c), List.filterMap_cons_none (by rw [if_neg (by simpa using c)]), ih]
theorem partD_eq (p : Rat × List Rat) : partD p = D.tup [frD p.1, rowD p.2] := rfl
theorem any_part (ps : List (Rat × List Rat)) (r : List Rat) : (pyA ((ps.map (·.2)).map rowD)).any (fun z => PyData.eqv z (rowD r).py) = decide (r ∈ ps.map (·.2)) := any_row _ r
def T__law_put_in : TF := fun ss μ P => ∃ (ps : List (Rat × List Rat)) (wt : Rat) (ch : List Rat), ss = [.d (.tup (ps.map partD)), .d (frD wt), .d (rowD ch)] ∧ (ps.length ≤ 7 ∧ (∀ p ∈ ps, ZP 128 p) ∧ ZP 128 (wt, ch)) ∧ ∀ qs : List (Rat × List Rat), (qs.length ≤ ps.length + 1 ∧ ∀ p ∈ qs, p ∈ ps ∨ p = (wt, ch)) → P (.tup (qs.map partD)) μ
theorem mon__law_put_in : MonF T__law_put_in := fun ss μ P P' k ⟨a, b, c, e, h, q⟩ => ⟨a, b, c, e, h, fun r h1 => k _ _ (q r h1)⟩
theorem ok__law_put_in (t : Top K mg "_law_put_in" s__law_put_in ["parting", "weight", "chance"]) (C__law_ascending : DefOk P w K mg base "_law_ascending" 3 1 T__law_ascending) (m_list : mg "list" = none) (m_tuple : mg "tuple" = none) :
    DefOk P w K mg base "_law_put_in" 4 3 T__law_put_in := by
  have nd := (sc__law_put_in).nd
  refine ok_defD (k := 3) t sc__law_put_in mon__law_put_in (fun f cdv A outer s H E hr =>
    (pds_cons (pds_set (pd_op addW_ok mon_gF snd_addW (pd_Ty call_list_of snd_listOf mon_gA (by rfl) m_list bt_list (pda_cons (pd_var (pv 0)) pda_nil)) (pd_lst (pda_cons (pd_tup (pda_cons (pd_var (pv 1)) (pda_cons (pd_var (pv 2)) pda_nil))) pda_nil))) (fun _ h => ps_set (i := 3) nd rfl (by first | exact Or.inl rfl | exact Or.inr rfl) h))
      (pds_cons (pds_if (ptd_cmp (op_inD hr.u65) mon_gF snd_inP (by with_unfolding_all rfl) (pd_var (pv 2)) (pd_of_N (pdn_lc (own := [("each", 6)]) rfl nd (pdi_seq (pd_var (pv 0))) (blkOk_by (N := N__law_put_in) (sc := defScope s__law_put_in) (by decide +kernel)) (fun _ _ _ _ _ => (pdg_name (pg_name (i := 6) nd rfl (by first | exact Or.inl rfl | exact Or.inr rfl)))) (fun _ _ _ _ _ => pdts_nil) (fun _ _ _ _ _ => (pd_ix ix_ok mon_gF snd_ix (fun _ _ => rfl) (pd_var (pv 6)) pd_int)) (by decide)))) (pds_one (pd_ret (pd_var (pv 0)))) pds_nil)
      (pds_cons (pds_new (pdn_lst pda_nil) (fun _ h => ps_set (i := 4) nd rfl (by first | exact Or.inl rfl | exact Or.inr rfl) h))
      (pds_cons (pds_for PassesOwn.never rfl (pdi_seq (pd_callD C__law_ascending (hr.mono (by decide)) (by rfl) (pda_cons (pd_of_N (pdn_lc (own := [("each", 6)]) rfl nd (pdi_seq (pd_var (pv 3))) (blkOk_by (N := N__law_put_in) (sc := defScope s__law_put_in) (by decide +kernel)) (fun _ _ _ _ _ => (pdg_name (pg_name (i := 6) nd rfl (by first | exact Or.inl rfl | exact Or.inr rfl)))) (fun _ _ _ _ _ => pdts_nil) (fun _ _ _ _ _ => (pd_ix ix_ok mon_gF snd_ix (fun _ _ => rfl) (pd_var (pv 6)) pd_int)) (by decide))) pda_nil))) (pdg_name (pg_name (i := 5) nd rfl (by first | exact Or.inl rfl | exact Or.inr rfl))) (pds_one (pds_ext (pd_var (pv 4)) (pdn_lc (own := [("each", 6)]) rfl nd (pdi_seq (pd_var (pv 3))) (blkOk_by (N := N__law_put_in) (sc := defScope s__law_put_in) (by decide +kernel)) (fun _ _ _ _ _ => (pdg_name (pg_name (i := 6) nd rfl (by first | exact Or.inl rfl | exact Or.inr rfl)))) (fun _ _ _ _ _ => (pdts_one (ptd_cmp (op_eqD hr.units) mon_gF snd_eqP (nomark _) (pd_ix ix_ok mon_gF snd_ix (fun _ _ => rfl) (pd_var (pv 6)) pd_int) (pd_var (pv 5))))) (fun _ _ _ _ _ => (pd_var (pv 6))) (by decide)) (fun _ _ h1 h2 => ps_expr (pe_bm PySem.F.plainAttrs_list PySem.F.slot_list_extend PySem.F.type_list_extend mt_extend h1 h2)))))
      (pds_one (pd_ret (pd_Ty call_tuple_of snd_tupleOf mon_gA (by rfl) m_tuple bt_tuple (pda_cons (pd_var (pv 4)) pda_nil))))))))) ?_
  intro ss μ Q hl h
  obtain ⟨ps, wt, ch, rfl, ⟨hl, hz, hz2⟩, q⟩ := h
  walk_at "dv"
  refine ⟨by rw [List.length_map]; omega, ?_⟩
  have e1 : ps.map partD ++ [D.tup [frD wt, rowD ch]] = (ps ++ [(wt, ch)]).map partD := by simp [partD]
  rw [e1]
  refine lc_map partD (fun p => rowD p.2) μ (fun _ => trivial) ps _ (fun p hp acc P P2 h => ?_) (by omega) ?_
  · unfold partD
    walk_at "dv"
    exact h
  walk_at "dv"
  rw [show ps.map (fun p => rowD p.2) = (ps.map (·.2)).map rowD by rw [List.map_map]; rfl]
  refine ⟨fun _ e => e ▸ (sh_row ch).shaped (by decide), fun _ e => e ▸ (sh_rows _).shaped (by decide), ?_⟩
  rw [any_row]
  by_cases hm : ch ∈ ps.map (·.2)
  · rw [decide_eq_true hm]
    walk_at "dv"
    exact q ps ⟨by omega, fun p hp => .inl hp⟩
  rw [decide_eq_false hm]
  walk_at "dv"
  have hza : ∀ p ∈ ps ++ [(wt, ch)], ZP 128 p := fun p hp => by
    rcases List.mem_append.mp hp with h | h
    · exact hz p h
    · rw [List.mem_singleton] at h; exact h ▸ hz2
  have lpa : (ps ++ [(wt, ch)]).length = ps.length + 1 := by simp
  have ina : ∀ p ∈ ps ++ [(wt, ch)], p ∈ ps ∨ p = (wt, ch) := fun p hp => by
    rcases List.mem_append.mp hp with h | h
    · exact .inl h
    · exact .inr (List.mem_singleton.mp h)
  generalize ps ++ [(wt, ch)] = pa at hza lpa ina ⊢
  refine lc_map partD (fun p => rowD p.2) (μ ++ [[]]) (fun _ => trivial) pa _ (fun p hp acc P P2 h => ?_) (by omega) ?_
  · unfold partD
    walk_at "dv"
    exact h
  refine ⟨_, pa.map (·.2), rfl, ⟨.inl ?_, by rw [List.length_map]; omega, fun r hr x hx => ?_⟩, fun fs hfs => ?_⟩
  · rw [List.map_map]; rfl
  · obtain ⟨p, hp, rfl⟩ := List.mem_map.mp hr
    exact (hza p hp).2 x hx
  walk_at "dv"
  have key : ∀ (A B C : D) (us : List (List Rat)) (gs : List (Rat × List Rat)) (s5 s6 : Option S) (k : K4), gs.length + us.length * pa.length ≤ 1000 → (∀ s5 s6, k.nx [some (.d A), some (.d B), some (.d C), some (.d (.lst (pa.map partD))), some (.m μ.length), s5, s6] (μ ++ [(gs ++ us.flatMap fun f => pa.filter fun p => decide (p.2 = f)).map partD])) →
      loopS (gN 5) (fExt (fVar 4) (fLc (fISeq (fVar 3)) (gN 6) (fTest (fOp (gF cEqP fEqP) (fOp (gF c0 fIx) (fVar 6) (fC (D.int 1))) (fVar 5))) (fVar 6) [6])) (fun _ => True) (us.map rowD)
        [some (.d A), some (.d B), some (.d C), some (.d (.lst (pa.map partD))), some (.m μ.length), s5, s6] (μ ++ [gs.map partD]) k := by
    intro A B C us
    induction us with
    | nil => intro gs s5 s6 k _ hk; refine ⟨trivial, ?_⟩; have := hk s5 s6; rwa [List.flatMap_nil, List.append_nil] at this
    | cons f us ih =>
      intro gs s5 s6 k hl hk
      rw [List.length_cons, Nat.add_mul, Nat.one_mul] at hl
      have lf : (pa.filter fun p => decide (p.2 = f)).length ≤ pa.length := List.length_filter_le _ _
      refine ⟨trivial, ?_⟩
      walk_at "dv"
      refine lc_pure partD (fun p => if decide (p.2 = f) = true then some (partD p) else none) (μ ++ [gs.map partD]) (fun _ => trivial) pa [] _ (fun p hp acc P P2 h => ?_) (by simp; omega) ?_
      · rw [partD_eq] at h ⊢
        walk_at "dv"
        refine ⟨fun _ e => e ▸ (sh_row _).shaped (by decide), fun _ e => e ▸ (sh_row f).shaped (by decide), ?_⟩
        rw [eqv_row]
        cases e : decide (p.2 = f) with
        | true => rw [e] at h; exact h
        | false => rw [e] at h; exact h
      · have e : [] ++ pa.filterMap (fun p => if decide (p.2 = f) = true then some (partD p) else none) = (pa.filter fun p => decide (p.2 = f)).map partD := by
          rw [List.nil_append, filter_part]
        rw [e]
        refine ⟨_, get_last, by rw [List.length_map, List.length_map]; omega, ?_⟩
        rw [set_last, ← List.map_append]
        refine ih _ _ _ k (by rw [List.length_append]; omega) fun s5 s6 => ?_
        have := hk s5 s6
        rwa [List.flatMap_cons, ← List.append_assoc] at this
  have hf := hfs.len
  rw [List.length_map] at hf
  have hmul : fs.length * pa.length ≤ 8 * 8 := Nat.mul_le_mul (by omega) (by omega)
  refine key _ _ _ fs [] none none _ (by rw [List.length_nil]; omega) fun s5 s6 => ?_
  walk_at "dv"
  rw [get_last]
  walk_at "dv"
  rw [List.take_left]
  refine q _ ⟨?_, fun p hp => ?_⟩
  · rw [List.length_flatMap]
    have := cnt_le (fun p : Rat × List Rat => p.2) pa fs hfs.nd
    omega
  · obtain ⟨f, _, hp⟩ := List.mem_flatMap.mp hp
    exact ina p (List.mem_filter.mp hp).1
end K2

/-! part Q13 -/
set_option Elab.async false
set_option linter.all false
set_option maxRecDepth 100000
set_option autoImplicit false
set_option exponentiation.threshold 9000
set_option maxHeartbeats 1000000
namespace K2
open PySem PySem.Spec L2 DV
open PyProof.Rows (envOfC)
variable {P : Program} {w : World} {K : PySem.W.Frag} {mg : Str → Option Value} {base : Heap}

local macro_rules | `(tactic| walk_at "dv") => `(tactic| simp only [startR, fANew, fAsgG, fIxW, cRepU, fIStar, fIZipG, fParDN, cInP, fInP, lstOf, fIns, fExt, fIsN, fIsNotN, isNonS, fAug, fAddW, fSubW, fGtW, fMul2, fModM, cAddW, cEqP, fEqP, fNeP, fInI, fIsiW, Option.bind_some, fRevT, fMk, fBare, fAtt, fIsX, fIsXT, fRaise, fRaise0, fTry, clD, suiteD, kNo, kBut, fXatt, fExprX, fCallX, kDX, gRepr2, cRepr2, datOf, errOf, kD, fin, fSeq, fNext, fDrop, fNRep, fNRg, fParN0, fPar3, fPar3N, fAsg, fRet, fIfS, fNever, fPar, fNew, fApp, fVar, fC, fOp, fTest, fTAnd, fTOr, fTNot, fVAnd, fVOr, fVNot, fNeg, fIf, fChain, fANil, fACons, fTup, fLst, fCB, fNLst, fOfN, fYes, fIsi, fONone, fOSome, fSl, sliceF,
  gF, gA, cI, fI, c0, cAdd, fAdd, fIx, cRepT, fRepT, fEq, fNe, fNotIn, intsOf, blsOf, allD, seqOf, tupOf, fLen, cA0, f1L, gSum, fTupleOf, fListOf, fA1, fA2, cDm, gN, gsNil_eq, gsCons_eq, gT_eq, gSb_eq, isB, itemsOf, fISeq, fIRng, fIEnum, fIZip, fIZipTL, fFor, fLc, wipeR, fCall, fCallK, fRetN, kN, fCallN, fCallOn, kwS, pick, gRepr, cRepr, List.filterMap_cons_some, List.filterMap_nil,
  List.map_cons, List.map_nil, List.length_cons, List.length_nil, List.replicate_succ, List.replicate_zero, List.cons_append, List.nil_append, List.append_nil, List.getElem?_cons_zero, List.getElem?_cons_succ, List.getElem?_nil, List.set_cons_zero, List.set_cons_succ, List.set_nil, List.take_succ_cons, List.take_zero, List.take_nil,
  Option.map_some, Option.map_none, Option.some.injEq, Option.get_some, exists_eq_left', exists_eq_left, exists_eq_right, true_and, and_true, if_true, if_false, reduceCtorEq, ite_true, ite_false, S.d.injEq, S.m.injEq, D.int.injEq, D.tup.injEq, D.lst.injEq, D.bl.injEq, D.str.injEq, List.cons.injEq, exists_and_left, exists_and_right,
  Nat.sub_zero, Nat.reduceSub, Nat.reduceAdd, Nat.zero_add, Nat.add_zero, Bool.not_true, Bool.not_false, Bool.false_eq_true, decide_eq_true_eq, Nat.reduceLT, Nat.reduceLeDiff, Nat.le_refl, List.take_length, Int.reduceLT, Int.reduceToNat, Nat.lt_irrefl, gt_iff_lt, Nat.not_lt_zero, Int.cast_ofNat_Int, decide_true, decide_false, and_assoc, Bool.false_and, Bool.true_and])


theorem nn_iff (r : Rat) : 0 ≤ r.num ↔ 0 ≤ r := Rat.num_nonneg
theorem sum_zip (h : Rat) : ∀ (xs ys : List Rat), xs.length = ys.length → sumR (List.zipWith (fun x y => (x + y) * h) xs ys) = (sumR xs + sumR ys) * h
  | [], [], _ => by simp only [List.zipWith_nil_left, sumR]; rw [Rat.zero_add, Rat.zero_mul]
  | x :: xs, y :: ys, e => by
    simp only [List.zipWith_cons_cons, sumR]
    rw [sum_zip h xs ys (by simpa using e), ← Rat.add_mul]
    congr 1
    rw [Rat.add_assoc, ← Rat.add_assoc y, Rat.add_comm y, Rat.add_assoc, Rat.add_assoc]
theorem half_nn : 0 ≤ Rat.divInt 1 2 := by decide +kernel
theorem two_half : (1 + 1 : Rat) * Rat.divInt 1 2 = 1 := by decide +kernel
theorem bel_mid {n : Nat} {xs ys : List Rat} (hx : Bel xs n) (hy : Bel ys n) : Bel (List.zipWith (fun x y => (x + y) * Rat.divInt 1 2) xs ys) n := by
  refine ⟨by rw [List.length_zipWith, hx.len, hy.len, Nat.min_self], fun r hr => ?_, ?_⟩
  · rw [← zip_with] at hr
    obtain ⟨p, hp, rfl⟩ := List.mem_map.mp hr
    have h := List.of_mem_zip hp
    rw [nn_iff]
    exact Rat.mul_nonneg (Rat.add_nonneg ((nn_iff _).mp (hx.nn _ h.1)) ((nn_iff _).mp (hy.nn _ h.2))) half_nn
  · rw [sum_zip _ _ _ (by rw [hx.len, hy.len]), hx.sum, hy.sum]
    exact two_half
theorem z_mid {xs ys : List Rat} (hx : ∀ r ∈ xs, Z 7 r) (hy : ∀ r ∈ ys, Z 7 r) : ∀ r ∈ List.zipWith (fun x y => (x + y) * Rat.divInt 1 2) xs ys, Z 17 r := fun r hr => by
  rw [← zip_with] at hr
  obtain ⟨p, hp, rfl⟩ := List.mem_map.mp hr
  have h := List.of_mem_zip hp
  exact ((hx _ h.1).add (hy _ h.2)).mul z_half
theorem fit_parts {ps : List (Rat × List Rat)} (hl : ps.length ≤ 100) (h : ∀ p ∈ ps, ZP 128 p ∧ p.2.length ≤ 100) : fit (.tup (ps.map partD)) := fit_map (by omega) fun p hp => fit_part (h p hp).1 (by have := (h p hp).2; omega)
theorem tl_parts (ps : List (Rat × List Rat)) : tl (.tup (ps.map partD)) = ps.length := by show (ps.map partD).length = _; rw [List.length_map]
theorem fr_neg : D.tup [.int (-1), .int 1] = frD (-1) := rfl
theorem z_neg : Z 128 (-1 : Rat) := by constructor <;> decide
theorem Ch.zp {n : Nat} {ch : List Rat} (h : Ch n ch) : ∀ r ∈ ch, Z 128 r := fun r hr => (h.z r hr).mono (by decide)
def T__law_signed : TF := fun ss μ P => ∃ w ms, ∃ n : Nat, ss = [.m 0, .d (.int (n : Int))] ∧ μ = w :: ms ∧ (IsW w ∧ 1 ≤ n ∧ n ≤ 4) ∧ ∀ st d w', IsW w' → (Bel st n ∧ fit (rowD st) ∧ fit d ∧ tl d ≤ 8) → P (.tup [rowD st, d]) (w' :: ms)
theorem mon__law_signed : MonF T__law_signed := fun ss μ P P' k ⟨a, b, c, e, e2, h, q⟩ => ⟨a, b, c, e, e2, h, fun r d w' h1 h2 => k _ _ (q r d w' h1 h2)⟩
theorem ok__law_signed (t : Top K mg "_law_signed" s__law_signed ["well", "n"]) (C__law_chance : DefOk P w K mg base "_law_chance" 3 2 T__law_chance) (C__law_plus : DefOk P w K mg base "_law_plus" 2 2 T__law_plus) (C__law_put_in : DefOk P w K mg base "_law_put_in" 4 3 T__law_put_in) (C__law_times : DefOk P w K mg base "_law_times" 2 2 T__law_times) (m_tuple : mg "tuple" = none) (m_zip : mg "zip" = none) :
    DefOk P w K mg base "_law_signed" 5 2 T__law_signed := by
  have nd := (sc__law_signed).nd
  refine ok_defD (k := 4) t sc__law_signed mon__law_signed (fun f cdv A outer s H E hr =>
    (pds_cons (pds_par (pda_cons (pd_callD C__law_chance (hr.mono (by decide)) (by rfl) (pda_cons (pd_var (pv 0)) (pda_cons (pd_var (pv 1)) pda_nil))) (pda_cons (pd_callD C__law_chance (hr.mono (by decide)) (by rfl) (pda_cons (pd_var (pv 0)) (pda_cons (pd_var (pv 1)) pda_nil))) pda_nil)) (fun _ h => ps_par (i := 2) (j := 3) rfl nd rfl rfl (by decide) rfl rfl h rfl))
      (pds_cons (pds_set (pd_Ty call_tuple_of snd_tupleOf mon_gA (by rfl) m_tuple bt_tuple (pda_cons (pd_of_N (pdn_lc (own := [("x", 5), ("y", 6)]) rfl nd (pdi_zipG (by rfl) m_zip (pda_cons (pd_var (pv 2)) (pda_cons (pd_var (pv 3)) pda_nil))) (blkOk_by (N := N__law_signed) (sc := defScope s__law_signed) (by decide +kernel)) (fun _ _ _ _ _ => (pdg_tup (n := 2) rfl (pdgs_cons (pdg_name (pg_name (i := 5) nd rfl (by first | exact Or.inl rfl | exact Or.inr rfl))) (pdgs_cons (pdg_name (pg_name (i := 6) nd rfl (by first | exact Or.inl rfl | exact Or.inr rfl))) pdgs_nil)))) (fun _ _ _ _ _ => pdts_nil) (fun _ _ _ _ _ => (pd_callD C__law_times (hr.mono (by decide)) (by rfl) (pda_cons (pd_callD C__law_plus (hr.mono (by decide)) (by rfl) (pda_cons (pd_var (pv 5)) (pda_cons (pd_var (pv 6)) pda_nil))) (pda_cons (pd_tup (pda_cons pd_int (pda_cons pd_int pda_nil))) pda_nil)))) (by decide))) pda_nil)) (fun _ h => ps_set (i := 4) nd rfl (by first | exact Or.inl rfl | exact Or.inr rfl) h))
      (pds_cons (pds_if (ptd_cmp (op_eqD hr.units) mon_gF snd_eqP (nomark _) (pd_var (pv 2)) (pd_var (pv 3))) (pds_one (pd_ret (pd_tup (pda_cons (pd_var (pv 2)) (pda_cons (pd_tup (pda_cons (pd_tup (pda_cons (pd_tup (pda_cons pd_int (pda_cons pd_int pda_nil))) (pda_cons (pd_var (pv 2)) pda_nil))) pda_nil)) pda_nil))))) pds_nil)
      (pds_one (pd_ret (pd_tup (pda_cons (pd_var (pv 4)) (pda_cons (pd_callD C__law_put_in (hr.mono (by decide)) (by rfl) (pda_cons (pd_callD C__law_put_in (hr.mono (by decide)) (by rfl) (pda_cons (pd_tup (pda_cons (pd_tup (pda_cons (pd_tup (pda_cons pd_int (pda_cons pd_int pda_nil))) (pda_cons (pd_var (pv 2)) pda_nil))) pda_nil)) (pda_cons (pd_tup (pda_cons pd_int (pda_cons pd_int pda_nil))) (pda_cons (pd_var (pv 3)) pda_nil)))) (pda_cons (pd_tup (pda_cons (pd_neg pd_int) (pda_cons pd_int pda_nil))) (pda_cons (pd_var (pv 4)) pda_nil)))) pda_nil))))))))) ?_
  intro ss μ Q hl h
  obtain ⟨w0, ms, n, rfl, rfl, ⟨hw, hn1, hn4⟩, q⟩ := h
  walk_at "dv"
  refine ⟨w0, ms, n, rfl, rfl, ⟨hw, hn1, hn4⟩, fun xs w1 hw1 hx => ?_⟩
  walk_at "dv"
  refine ⟨w1, ms, n, rfl, rfl, ⟨hw1, hn1, hn4⟩, fun ys w2 hw2 hy => ?_⟩
  have lx := hx.bel.len
  have ly := hy.bel.len
  have bm := bel_mid hx.bel hy.bel
  have zm := z_mid hx.z hy.z
  have wx : rowD xs = D.tup (xs.map frD) := rfl
  have wy : rowD ys = D.tup (ys.map frD) := rfl
  rw [wx, wy]
  walk_at "dv"
  rw [zipD_map]
  refine lc_map (fun a : Rat × Rat => D.tup [frD a.1, frD a.2]) (fun a => frD ((a.1 + a.2) * Rat.divInt 1 2)) (w2 :: ms) (fun _ => trivial) _ _ (fun a h' acc P P2 h => ?_) (by rw [List.length_zip]; omega) ?_
  · have hm := List.of_mem_zip h'
    have z1 := (hx.z _ hm.1).add (hy.z _ hm.2)
    walk_at "dv"
    rw [fr_half]
    exact ⟨a.1, a.2, rfl, ⟨(hx.z _ hm.1).mono (by decide), (hy.z _ hm.2).mono (by decide)⟩, _, _, rfl, ⟨z1.mono (by decide), z_half.mono (by decide)⟩, h⟩
  have e : (xs.zip ys).map (fun a => frD ((a.1 + a.2) * Rat.divInt 1 2)) = (List.zipWith (fun x y => (x + y) * Rat.divInt 1 2) xs ys).map frD := by
    rw [← zip_with, List.map_map]
    rfl
  rw [e]
  generalize List.zipWith (fun x y => (x + y) * Rat.divInt 1 2) xs ys = zs at bm zm ⊢
  have lz := bm.len
  walk_at "dv"
  rw [← wx, ← wy, fr_neg, show D.tup [.int 1, .int 1] = frD 1 from rfl, show D.tup (zs.map frD) = rowD zs from rfl]
  have zz : ∀ r ∈ zs, Z 128 r := fun r hr => (zm r hr).mono (by decide)
  refine ⟨fun _ e => e ▸ (sh_row xs).shaped (by decide), fun _ e => e ▸ (sh_row ys).shaped (by decide), ?_⟩
  rw [eqv_row]
  have e1 : D.tup [D.tup [frD 1, rowD xs]] = .tup ([(1, xs)].map partD) := rfl
  have z1 : ∀ p ∈ [((1 : Rat), xs)], ZP 128 p := fun p hp => by
    rw [List.mem_singleton] at hp
    exact hp ▸ ⟨z_one, hx.zp⟩
  rw [e1]
  by_cases e : xs = ys
  · rw [decide_eq_true e]
    walk_at "dv"
    exact q xs _ w2 hw2 ⟨hx.bel, hx.fit, fit_parts (ps := [(1, xs)]) (by simp) (fun p hp => ⟨z1 p hp, by rw [List.mem_singleton] at hp; rw [hp]; show xs.length ≤ 100; omega⟩), show 1 ≤ 8 by decide⟩
  · rw [decide_eq_false e]
    walk_at "dv"
    refine ⟨[(1, xs)], 1, ys, rfl, ⟨by simp, z1, z_one, hy.zp⟩, fun p1 h1 => ?_⟩
    have zp1 : ∀ p ∈ p1, ZP 128 p ∧ p.2.length = n := fun p hp => by
      rcases h1.2 p hp with h | rfl
      · rw [List.mem_singleton] at h
        rw [h]
        exact ⟨⟨z_one, hx.zp⟩, lx⟩
      · exact ⟨⟨z_one, hy.zp⟩, ly⟩
    have lp1 : p1.length ≤ 2 := h1.1
    refine ⟨p1, -1, zs, rfl, ⟨by omega, fun p hp => (zp1 p hp).1, z_neg, zz⟩, fun p2 h2 => ?_⟩
    have lp2 := h2.1
    have zp2 : ∀ p ∈ p2, ZP 128 p ∧ p.2.length ≤ 100 := fun p hp => by
      rcases h2.2 p hp with h | rfl
      · have := zp1 p h
        exact ⟨this.1, by omega⟩
      · exact ⟨⟨z_neg, zz⟩, by show zs.length ≤ 100; omega⟩
    walk_at "dv"
    exact q zs _ w2 hw2 ⟨bm, fit_row (by omega) zz, fit_parts (by omega) zp2, by rw [tl_parts]; omega⟩

/-- a drawn split of n states -/
structure PT (n : Nat) (ps : List (Rat × List Rat)) : Prop where
  ne : ps ≠ []
  len : ps.length ≤ 5
  pos : ∀ p ∈ ps, 0 ≤ p.1.num ∧ Z 6 p.1 ∧ Ch n p.2
  sum : sumR (ps.map (·.1)) = 1
def T__law_parting : TF := fun ss μ P => ∃ w ms, ∃ n : Nat, ss = [.m 0, .d (.int (n : Int)), .d (.int 5)] ∧ μ = w :: ms ∧ (IsW w ∧ 1 ≤ n ∧ n ≤ 4) ∧ ∀ ps w', IsW w' → PT n ps → P (.tup (ps.map partD)) (w' :: ms)
theorem mon__law_parting : MonF T__law_parting := fun ss μ P P' k ⟨a, b, c, e, e2, h, q⟩ => ⟨a, b, c, e, e2, h, fun r w' h1 h2 => k _ _ (q r w' h1 h2)⟩
theorem ok__law_parting (t : Top K mg "_law_parting" s__law_parting ["well", "n", "most"]) (C__law_ascending : DefOk P w K mg base "_law_ascending" 3 1 T__law_ascending) (C__law_chance : DefOk P w K mg base "_law_chance" 3 2 T__law_chance) (C__law_draw : DefOk P w K mg base "_law_draw" 1 2 T__law_draw) (C__law_lean : DefOk P w K mg base "_law_lean" 1 2 T__law_lean) (C__law_one : DefOk P w K mg base "_law_one" 2 2 T__law_one) (m_range : mg "range" = none) (m_sum : mg "sum" = none) (m_tuple : mg "tuple" = none) (m_zip : mg "zip" = none) :
    DefOk P w K mg base "_law_parting" 4 3 T__law_parting := by
  have nd := (sc__law_parting).nd
  refine ok_defD (k := 3) t sc__law_parting mon__law_parting (fun f cdv A outer s H E hr =>
    (pds_cons (pds_new (pdn_lst pda_nil) (fun _ h => ps_set (i := 3) nd rfl (by first | exact Or.inl rfl | exact Or.inr rfl) h))
      (pds_cons (pds_for PassesOwn.never rfl (pdi_range (by rfl) m_range (pda_cons (pd_op addW_ok mon_gF snd_addW pd_int (pd_callD C__law_draw (hr.mono (by decide)) (by rfl) (pda_cons (pd_var (pv 0)) (pda_cons (pd_var (pv 2)) pda_nil)))) pda_nil)) (pdg_name (pg_name (i := 4) nd rfl (by first | exact Or.inl rfl | exact Or.inr rfl))) (pds_one (pds_app (pd_var (pv 3)) (pd_callD C__law_chance (hr.mono (by decide)) (by rfl) (pda_cons (pd_var (pv 0)) (pda_cons (pd_var (pv 1)) pda_nil))) (fun _ _ h1 h2 => ps_expr (pe_bm PySem.F.plainAttrs_list PySem.F.slot_list_append PySem.F.type_list_append mt_append h1 h2)))))
      (pds_cons (pds_asgL rfl (pdal_cons (pd_callD C__law_ascending (hr.mono (by decide)) (by rfl) (pda_cons (pd_var (pv 3)) pda_nil)) (pdal_new (pdn_lst pda_nil) pdal_nil)) (pdgs_cons (pdg_name (pg_name (i := 3) nd rfl (by first | exact Or.inl rfl | exact Or.inr rfl))) (pdgs_cons (pdg_name (pg_name (i := 5) nd rfl (by first | exact Or.inl rfl | exact Or.inr rfl))) pdgs_nil)))
      (pds_cons (pds_for PassesOwn.never rfl (pdi_seq (pd_var (pv 3))) (pdg_name (pg_name (i := 6) nd rfl (by first | exact Or.inl rfl | exact Or.inr rfl))) (pds_one (pds_app (pd_var (pv 5)) (pd_callD C__law_one (hr.mono (by decide)) (by rfl) (pda_cons (pd_var (pv 0)) (pda_cons (pd_tup (pda_cons pd_int (pda_cons pd_int (pda_cons pd_int (pda_cons pd_int (pda_cons pd_int (pda_cons pd_int pda_nil))))))) pda_nil))) (fun _ _ h1 h2 => ps_expr (pe_bm PySem.F.plainAttrs_list PySem.F.slot_list_append PySem.F.type_list_append mt_append h1 h2)))))
      (pds_one (pd_ret (pd_Ty call_tuple_of snd_tupleOf mon_gA (by rfl) m_tuple bt_tuple (pda_cons (pd_of_N (pdn_lc (own := [("part", 7), ("chance", 6)]) rfl nd (pdi_zipG (by rfl) m_zip (pda_cons (pd_var (pv 5)) (pda_cons (pd_var (pv 3)) pda_nil))) (blkOk_by (N := N__law_parting) (sc := defScope s__law_parting) (by decide +kernel)) (fun _ _ _ _ _ => (pdg_tup (n := 2) rfl (pdgs_cons (pdg_name (pg_name (i := 7) nd rfl (by first | exact Or.inl rfl | exact Or.inr rfl))) (pdgs_cons (pdg_name (pg_name (i := 6) nd rfl (by first | exact Or.inl rfl | exact Or.inr rfl))) pdgs_nil)))) (fun _ _ _ _ _ => pdts_nil) (fun _ _ _ _ _ => (pd_tup (pda_cons (pd_callD C__law_lean (hr.mono (by decide)) (by rfl) (pda_cons (pd_var (pv 7)) (pda_cons (pd_B (cr_sum rfl) snd_sum mon_gA (by rfl) m_sum bt_sum (pda_cons (pd_var (pv 5)) pda_nil)) pda_nil))) (pda_cons (pd_var (pv 6)) pda_nil)))) (by decide))) pda_nil))))))))) ?_
  intro ss μ Q hl h
  obtain ⟨w0, ms, n, rfl, rfl, ⟨hw, hn1, hn4⟩, q⟩ := h
  walk_at "dv"
  refine ⟨w0, _, 5, rfl, rfl, ⟨hw, by decide, by decide⟩, fun r w1 hw1 r0 r1 => ?_⟩
  walk_at "dv"
  refine ⟨by omega, by omega, ?_⟩
  rw [show rngD (1 + r) = (List.range (1 + r).toNat).map fun (i : Nat) => D.int (i : Int) from rfl]
  have keyA : ∀ (is : List Nat) (cs : List (List Rat)) (w : List D) (s4 s5 s6 s7 : Option S) (k : K4), IsW w → cs.length + is.length ≤ 5 → (∀ c ∈ cs, Ch n c) → (∀ (cs' : List (List Rat)) (w' : List D) (s4 : Option S), IsW w' → cs'.length = cs.length + is.length → (∀ c ∈ cs', Ch n c) → k.nx [some (.m 0), some (.d (.int (n : Int))), some (.d (.int 5)), some (.m (ms.length + 1)), s4, s5, s6, s7] (w' :: (ms ++ [cs'.map rowD]))) →
      loopS (gN 4) (fApp (fVar 3) (fCall 2 T__law_chance (fACons (fVar 0) (fACons (fVar 1) fANil)))) (fun x => True) (is.map fun (i : Nat) => D.int (i : Int))
        [some (.m 0), some (.d (.int (n : Int))), some (.d (.int 5)), some (.m (ms.length + 1)), s4, s5, s6, s7] (w :: (ms ++ [cs.map rowD])) k := by
    intro is
    induction is with
    | nil => intro cs w s4 s5 s6 s7 k hw _ hc hk; exact ⟨trivial, hk cs w s4 hw (by simp) hc⟩
    | cons i is ih =>
      intro cs w s4 s5 s6 s7 k hw hl hc hk
      rw [List.length_cons] at hl
      refine ⟨trivial, ?_⟩
      walk_at "dv"
      refine ⟨w, _, n, rfl, rfl, ⟨hw, hn1, hn4⟩, fun c w' hw' hcc => ?_⟩
      walk_at "dv"
      rw [get_last]
      refine ⟨_, rfl, by rw [List.length_map]; omega, ?_⟩
      rw [set_last, show cs.map rowD ++ [rowD c] = (cs ++ [c]).map rowD by simp]
      refine ih (cs ++ [c]) w' _ s5 s6 s7 k hw' (by simp; omega) (fun x hx => ?_) fun cs' w2 s4 h1 h2 h3 => hk cs' w2 s4 h1 (by simp at h2 ⊢; omega) h3
      rcases List.mem_append.mp hx with hx | hx
      · exact hc x hx
      · rw [List.mem_singleton] at hx; exact hx ▸ hcc
  have hr : (1 + r).toNat ≤ 5 := by omega
  have hr1 : 1 ≤ (1 + r).toNat := by omega
  refine keyA (List.range (1 + r).toNat) [] w1 none none none none _ hw1 (by simp; omega) (fun c hc => absurd hc List.not_mem_nil) fun cs w2 s4 hw2 hcl hcc => ?_
  rw [List.length_range, List.length_nil, Nat.zero_add] at hcl
  walk_at "dv"
  refine ⟨_, cs, rfl, ⟨.inr ⟨_, rfl, ?_⟩, by omega, fun c hc => (hcc c hc).zp⟩, fun fs hfs => ?_⟩
  · rw [List.getElem?_cons_succ, get_last]
  have cne : cs ≠ [] := ne_len (by omega)
  have fne := hfs.ne cne
  have fl := hfs.len
  have fch : ∀ f ∈ fs, Ch n f := fun f hf => hcc f (hfs.sub f hf)
  walk_at "dv"
  have keyB : ∀ (us : List (List Rat)) (ns : List Int) (w : List D) (s6 s7 : Option S) (k : K4), IsW w → ns.length + us.length ≤ 5 → (∀ x ∈ ns, 1 ≤ x ∧ x ≤ 5) → (∀ (ns' : List Int) (w' : List D) (s6 : Option S), IsW w' → ns'.length = ns.length + us.length → (∀ x ∈ ns', 1 ≤ x ∧ x ≤ 5) → k.nx [some (.m 0), some (.d (.int (n : Int))), some (.d (.int 5)), some (.d (.lst (fs.map rowD))), s4, some (.m (ms.length + 1 + 1)), s6, s7] (w' :: (ms ++ [cs.map rowD] ++ [ns'.map D.int]))) →
      loopS (gN 6) (fApp (fVar 5) (fCall 2 T__law_one (fACons (fVar 0) (fACons (fTup (fACons (fC (D.int 1)) (fACons (fC (D.int 1)) (fACons (fC (D.int 2)) (fACons (fC (D.int 3)) (fACons (fC (D.int 1)) (fACons (fC (D.int 5)) fANil))))))) fANil)))) (fun x => True) (us.map rowD)
        [some (.m 0), some (.d (.int (n : Int))), some (.d (.int 5)), some (.d (.lst (fs.map rowD))), s4, some (.m (ms.length + 1 + 1)), s6, s7] (w :: (ms ++ [cs.map rowD] ++ [ns.map D.int])) k := by
    intro us
    induction us with
    | nil => intro ns w s6 s7 k hw _ hx hk; exact ⟨trivial, hk ns w s6 hw (by simp) hx⟩
    | cons u us ih =>
      intro ns w s6 s7 k hw hl hx hk
      rw [List.length_cons] at hl
      refine ⟨trivial, ?_⟩
      walk_at "dv"
      refine ⟨w, _, _, .inl rfl, rfl, ⟨hw, by simp, by simp⟩, fun d w' hw' hd => ?_⟩
      obtain ⟨x, rfl, x0, x5⟩ : ∃ x : Int, d = .int x ∧ 1 ≤ x ∧ x ≤ 5 := by
        simp only [List.mem_cons, List.not_mem_nil, or_false] at hd
        rcases hd with rfl | rfl | rfl | rfl | rfl | rfl <;> exact ⟨_, rfl, by decide, by decide⟩
      have gl : (ms ++ [cs.map rowD] ++ [ns.map D.int])[ms.length + 1]? = some (ns.map D.int) := by
        have := @get_last (ms ++ [cs.map rowD]) (ns.map D.int)
        rwa [List.length_append, List.length_singleton] at this
      have sl : ∀ y : List D, (ms ++ [cs.map rowD] ++ [ns.map D.int]).set (ms.length + 1) y = ms ++ [cs.map rowD] ++ [y] := fun y => by
        have := @set_last (ms ++ [cs.map rowD]) (ns.map D.int) y
        rwa [List.length_append, List.length_singleton] at this
      walk_at "dv"
      rw [gl]
      refine ⟨_, rfl, by rw [List.length_map]; omega, ?_⟩
      rw [sl, show ns.map D.int ++ [D.int x] = (ns ++ [x]).map D.int by simp]
      refine ih (ns ++ [x]) w' _ s7 k hw' (by simp; omega) (fun y hy => ?_) fun ns' w2 s6 h1 h2 h3 => hk ns' w2 s6 h1 (by simp at h2 ⊢; omega) h3
      rcases List.mem_append.mp hy with hy | hy
      · exact hx y hy
      · rw [List.mem_singleton] at hy; exact hy ▸ ⟨x0, x5⟩
  rw [show (ms ++ [cs.map rowD]).length + 1 = ms.length + 1 + 1 by simp]
  refine keyB fs [] w2 none none _ hw2 (by simp; omega) (fun x hx => absurd hx List.not_mem_nil) fun ns w3 s6 hw3 hn3 hx3 => ?_
  rw [List.length_nil, Nat.zero_add] at hn3
  have gl : ∀ acc : List D, (w3 :: (ms ++ [cs.map rowD] ++ [ns.map D.int]) ++ [acc])[ms.length + 1 + 1]? = some (ns.map D.int) := fun acc => by
    rw [List.cons_append, List.getElem?_cons_succ, List.getElem?_append_left (by simp)]
    have := @get_last (ms ++ [cs.map rowD]) (ns.map D.int)
    rwa [List.length_append, List.length_singleton] at this
  have gl0 : (w3 :: (ms ++ [cs.map rowD] ++ [ns.map D.int]))[ms.length + 1 + 1]? = some (ns.map D.int) := by
    rw [List.getElem?_cons_succ]
    have := @get_last (ms ++ [cs.map rowD]) (ns.map D.int)
    rwa [List.length_append, List.length_singleton] at this
  have nn0 : ∀ x ∈ ns, 0 ≤ x := fun x hx => by have := hx3 x hx; omega
  have sp : 0 < ns.sum := by
    cases ns with
    | nil => rw [List.length_nil] at hn3; exact absurd (List.length_eq_zero_iff.mp hn3.symm) fne
    | cons x xs =>
      have a := (sum_nn (ns := xs) fun y hy => nn0 y (List.mem_cons_of_mem _ hy)).1
      have b := (hx3 x (by simp)).1
      rw [List.sum_cons]; omega
  have s85 : ns.sum ≤ 17 * ns.length := sum_le17 fun x hx => by have := hx3 x hx; omega
  have s25 : ns.sum ≤ 5 * ns.length := by
    clear sp s85 gl gl0 hn3 nn0
    induction ns with
    | nil => simp
    | cons x xs ih =>
      have a := ih fun y hy => hx3 y (List.mem_cons_of_mem _ hy)
      have b := (hx3 x (by simp)).2
      rw [List.sum_cons, List.length_cons]; omega
  walk_at "dv"
  refine ⟨(ns.map D.int, fun μ' => μ'[ms.length + 1 + 1]? = some (ns.map D.int)), by rw [show (ms ++ [cs.map rowD] ++ [ns.map D.int])[ms.length + 1]? = some (ns.map D.int) from gl0]; rfl, ?_⟩
  rw [zipD_map]
  refine lc_map (fun p : Int × List Rat => D.tup [.int p.1, rowD p.2]) (fun p => partD (Rat.divInt p.1 ns.sum, p.2)) (w3 :: (ms ++ [cs.map rowD] ++ [ns.map D.int])) gl _ _ (fun p hp acc P P2 h => ?_) (by rw [List.length_zip]; omega) ?_
  · have hg := gl acc
    have e : w3 :: (ms ++ [cs.map rowD] ++ [ns.map D.int]) ++ [acc] = w3 :: (ms ++ [cs.map rowD] ++ [ns.map D.int] ++ [acc]) := rfl
    rw [e] at h hg ⊢
    rw [List.getElem?_cons_succ] at hg
    walk_at "dv"
    simp only [hg, ints_map]
    walk_at "dv"
    refine ⟨p.1, ns.sum, rfl, ⟨sp, lt_8000 (n := 10) (show ns.sum.natAbs < 2 ^ 10 by omega) (by decide)⟩, h⟩
  · rw [show (w3 :: (ms ++ [cs.map rowD] ++ [ns.map D.int])).take (ms.length + 1) = w3 :: ms by rw [List.take_succ_cons, List.append_assoc, List.take_left]]
    rw [show (ns.zip fs).map (fun p => partD (Rat.divInt p.1 ns.sum, p.2)) = ((ns.zip fs).map fun p => (Rat.divInt p.1 ns.sum, p.2)).map partD by rw [List.map_map]; rfl]
    refine q _ w3 hw3 ⟨?_, ?_, fun p hp => ?_, ?_⟩
    · intro e
      have := congrArg List.length e
      rw [List.length_map, List.length_zip, List.length_nil] at this
      have : fs.length ≠ 0 := fun h => fne (List.length_eq_zero_iff.mp h)
      omega
    · rw [List.length_map, List.length_zip]; omega
    · obtain ⟨p, hp2, rfl⟩ := List.mem_map.mp hp
      have h := List.of_mem_zip hp2
      have hx := hx3 _ h.1
      exact ⟨num_nn (by omega) sp, z_div sp (show p.1.natAbs < 2 ^ 6 by omega) (show ns.sum.natAbs < 2 ^ 6 by omega), fch _ h.2⟩
    · rw [List.map_map]
      have e : (ns.zip fs).map ((fun x : Rat × List Rat => x.1) ∘ fun p => (Rat.divInt p.1 ns.sum, p.2)) = ns.map fun k => Rat.divInt k ns.sum := by
        have : (ns.zip fs).map (fun p => p.1) = ns := List.map_fst_zip (by omega)
        have h2 := congrArg (List.map fun k => Rat.divInt k ns.sum) this
        rw [List.map_map] at h2
        exact h2
      rw [e, sum_div _ sp, Rat.divInt_self' (by omega)]
end K2

/-! part Q14 -/
set_option Elab.async false
set_option linter.all false
set_option maxRecDepth 100000
set_option autoImplicit false
set_option exponentiation.threshold 9000
set_option maxHeartbeats 1000000
namespace K2
open PySem PySem.Spec L2 DV
open PyProof.Rows (envOfC)
variable {P : Program} {w : World} {K : PySem.W.Frag} {mg : Str → Option Value} {base : Heap}

local macro_rules | `(tactic| walk_at "dv") => `(tactic| simp only [startR, fANew, fAsgG, fIxW, cRepU, fIStar, fIZipG, fParDN, cInP, fInP, lstOf, fIns, fExt, fIsN, fIsNotN, isNonS, fAug, fAddW, fSubW, fGtW, fMul2, fModM, cAddW, cEqP, fEqP, fNeP, fInI, fIsiW, Option.bind_some, fRevT, fMk, fBare, fAtt, fIsX, fIsXT, fRaise, fRaise0, fTry, clD, suiteD, kNo, kBut, fXatt, fExprX, fCallX, kDX, gRepr2, cRepr2, datOf, errOf, kD, fin, fSeq, fNext, fDrop, fNRep, fNRg, fParN0, fPar3, fPar3N, fAsg, fRet, fIfS, fNever, fPar, fNew, fApp, fVar, fC, fOp, fTest, fTAnd, fTOr, fTNot, fVAnd, fVOr, fVNot, fNeg, fIf, fChain, fANil, fACons, fTup, fLst, fCB, fNLst, fOfN, fYes, fIsi, fONone, fOSome, fSl, sliceF,
  gF, gA, cI, fI, c0, cAdd, fAdd, fIx, cRepT, fRepT, fEq, fNe, fNotIn, intsOf, blsOf, allD, seqOf, tupOf, fLen, cA0, f1L, gSum, fTupleOf, fListOf, fA1, fA2, cDm, gN, gsNil_eq, gsCons_eq, gT_eq, gSb_eq, isB, itemsOf, fISeq, fIRng, fIEnum, fIZip, fIZipTL, fFor, fLc, wipeR, fCall, fCallK, fRetN, kN, fCallN, fCallOn, kwS, pick, gRepr, cRepr, List.filterMap_cons_some, List.filterMap_nil,
  List.map_cons, List.map_nil, List.length_cons, List.length_nil, List.replicate_succ, List.replicate_zero, List.cons_append, List.nil_append, List.append_nil, List.getElem?_cons_zero, List.getElem?_cons_succ, List.getElem?_nil, List.set_cons_zero, List.set_cons_succ, List.set_nil, List.take_succ_cons, List.take_zero, List.take_nil,
  Option.map_some, Option.map_none, Option.some.injEq, Option.get_some, exists_eq_left', exists_eq_left, exists_eq_right, true_and, and_true, if_true, if_false, reduceCtorEq, ite_true, ite_false, S.d.injEq, S.m.injEq, D.int.injEq, D.tup.injEq, D.lst.injEq, D.bl.injEq, D.str.injEq, List.cons.injEq, exists_and_left, exists_and_right,
  Nat.sub_zero, Nat.reduceSub, Nat.reduceAdd, Nat.zero_add, Nat.add_zero, Bool.not_true, Bool.not_false, Bool.false_eq_true, decide_eq_true_eq, Nat.reduceLT, Nat.reduceLeDiff, Nat.le_refl, List.take_length, Int.reduceLT, Int.reduceToNat, Nat.lt_irrefl, gt_iff_lt, Nat.not_lt_zero, Int.cast_ofNat_Int, decide_true, decide_false, and_assoc, Bool.false_and, Bool.true_and])


theorem sum_step (q : Rat) : ∀ (as bs : List Rat), as.length = bs.length → sumR (List.zipWith (fun x y => x + q * y) as bs) = sumR as + q * sumR bs
  | [], [], _ => by simp only [List.zipWith_nil_left, sumR]; rw [Rat.mul_zero, Rat.zero_add]
  | a :: as, b :: bs, e => by
    simp only [List.zipWith_cons_cons, sumR]
    rw [sum_step q as bs (by simpa using e), Rat.mul_add, Rat.add_assoc, Rat.add_assoc]
    congr 1
    rw [← Rat.add_assoc, ← Rat.add_assoc, Rat.add_comm (q * b)]
theorem sum_zero (n : Nat) : sumR (List.replicate n 0) = 0 := by
  induction n with
  | zero => rfl
  | succ n ih => rw [List.replicate_succ]; simp only [sumR]; rw [ih, Rat.zero_add]
theorem meanL_sum {n : Nat} : ∀ (ps : List (Rat × List Rat)) (acc : List Rat), acc.length = n → (∀ p ∈ ps, Bel p.2 n) → sumR (meanL acc ps) = sumR acc + sumR (ps.map (·.1))
  | [], acc, _, _ => (Rat.add_zero _).symm
  | p :: ps, acc, h, hp => by
    have hb := hp p (by simp)
    show sumR (meanL (List.zipWith (fun x y => x + p.1 * y) acc p.2) ps) = _
    rw [meanL_sum ps _ (by rw [List.length_zipWith, h, hb.len, Nat.min_self]) fun q hq => hp q (List.mem_cons_of_mem _ hq), sum_step _ _ _ (by rw [h, hb.len]), hb.sum, Rat.mul_one]
    simp only [List.map_cons, sumR]
    rw [Rat.add_assoc]
theorem meanL_nn : ∀ (ps : List (Rat × List Rat)) (acc : List Rat), (∀ r ∈ acc, 0 ≤ r) → (∀ p ∈ ps, 0 ≤ p.1 ∧ ∀ r ∈ p.2, 0 ≤ r) → ∀ r ∈ meanL acc ps, 0 ≤ r
  | [], _, h, _ => h
  | p :: ps, acc, h, hp => meanL_nn ps _ (fun r hr => by
      rw [← zip_with] at hr
      obtain ⟨a, ha, rfl⟩ := List.mem_map.mp hr
      have hm := List.of_mem_zip ha
      have hq := hp p (by simp)
      exact Rat.add_nonneg (h _ hm.1) (Rat.mul_nonneg hq.1 (hq.2 _ hm.2))) fun q hq => hp q (List.mem_cons_of_mem _ hq)
theorem meanL_z : ∀ (ps : List (Rat × List Rat)) (acc : List Rat) (t : Nat), (∀ r ∈ acc, Z t r) → (∀ p ∈ ps, Z 6 p.1 ∧ ∀ r ∈ p.2, Z 7 r) → ∀ r ∈ meanL acc ps, Z (t + 14 * ps.length) r
  | [], _, _, h, _ => h
  | p :: ps, acc, t, h, hp => fun r hr => by
    have hq := hp p (by simp)
    refine (meanL_z ps _ (t + 14) (fun r hr => ?_) (fun q hq => hp q (List.mem_cons_of_mem _ hq)) r hr).mono (by rw [List.length_cons]; omega)
    rw [← zip_with] at hr
    obtain ⟨a, ha, rfl⟩ := List.mem_map.mp hr
    have hm := List.of_mem_zip ha
    exact ((h _ hm.1).add (hq.1.mul (hq.2 _ hm.2))).mono (by omega)
theorem PT.bel {n : Nat} {ps : List (Rat × List Rat)} (h : PT n ps) : Bel (meanL (List.replicate n 0) ps) n ∧ ∀ r ∈ meanL (List.replicate n 0) ps, Z 100 r := by
  refine ⟨⟨meanL_len ps _ (by simp) fun p hp => (h.pos p hp).2.2.bel.len, fun r hr => (nn_iff r).mpr (meanL_nn ps _ (fun r hr => ?_) (fun p hp => ⟨(nn_iff _).mp (h.pos p hp).1, fun r hr => (nn_iff _).mp ((h.pos p hp).2.2.bel.nn r hr)⟩) r hr), ?_⟩, fun r hr => ?_⟩
  · rw [(List.mem_replicate.mp hr).2]; exact Rat.le_refl
  · rw [meanL_sum ps _ (by simp) (fun p hp => (h.pos p hp).2.2.bel), sum_zero, h.sum, Rat.zero_add]
  · have := h.len
    exact (meanL_z ps _ 1 z_zero (fun p hp => ⟨(h.pos p hp).2.1, (h.pos p hp).2.2.z⟩) r hr).mono (by omega)
theorem PT.zp {n : Nat} {ps : List (Rat × List Rat)} (h : PT n ps) : ∀ p ∈ ps, ZP 128 p ∧ p.2.length = n := fun p hp => ⟨⟨(h.pos p hp).2.1.mono (by decide), (h.pos p hp).2.2.zp⟩, (h.pos p hp).2.2.bel.len⟩
theorem PT.lv {n : Nat} {ps : List (Rat × List Rat)} (h : PT n ps) : Lv 5 (.tup (ps.map partD)) := lv_tup (by rw [List.length_map]; have := h.len; omega) fun x hx => by
  obtain ⟨p, hp, rfl⟩ := List.mem_map.mp hx
  have := h.pos p hp
  refine lv_tup (by simp) fun y hy => ?_
  simp only [List.mem_cons, List.not_mem_nil, or_false] at hy
  rcases hy with rfl | rfl
  · exact (lv_fr (this.2.1.mono (by decide))).mono (by decide)
  · exact this.2.2.lv
theorem ite_and (c d : Prop) [Decidable c] [Decidable d] (A B : Prop) : (if c then (if d then A else B) else B) = if c ∧ d then A else B := by
  by_cases h : c <;> by_cases h2 : d <;> simp [h, h2]
theorem fr_third : D.tup [.int 1, .int 3] = frD (Rat.divInt 1 3) := decFr_int (by decide) (by decide)
theorem fr_thirds : D.tup [.int 2, .int 3] = frD (Rat.divInt 2 3) := decFr_int (by decide) (by decide)
theorem z_third : Z 2 (Rat.divInt 1 3) := z_div (by decide) (by decide) (by decide)
theorem z_thirds : Z 2 (Rat.divInt 2 3) := z_div (by decide) (by decide) (by decide)
theorem fr_zero : D.tup [.int 0, .int 1] = frD 0 := rfl
theorem z_0 : Z 128 (0 : Rat) := by constructor <;> decide
def T__law_some_parting : TF := fun ss μ P => ∃ w ms, ∃ n : Nat, ss = [.m 0, .d (.int (n : Int))] ∧ μ = w :: ms ∧ (IsW w ∧ 1 ≤ n ∧ n ≤ 4) ∧ ∀ st d w', IsW w' → (Bel st n ∧ fit (rowD st) ∧ fit d ∧ tl d ≤ 8) → P (.tup [rowD st, d]) (w' :: ms)
theorem mon__law_some_parting : MonF T__law_some_parting := fun ss μ P P' k ⟨a, b, c, e, e2, h, q⟩ => ⟨a, b, c, e, e2, h, fun r d w' h1 h2 => k _ _ (q r d w' h1 h2)⟩
theorem ok__law_some_parting (t : Top K mg "_law_some_parting" s__law_some_parting ["well", "n"]) (C__law_bent : DefOk P w K mg base "_law_bent" 9 2 (T__law_bent 6)) (C__law_chance : DefOk P w K mg base "_law_chance" 3 2 T__law_chance) (C__law_draw : DefOk P w K mg base "_law_draw" 1 2 T__law_draw) (C__law_mean : DefOk P w K mg base "_law_mean" 3 2 T__law_mean) (C__law_parting : DefOk P w K mg base "_law_parting" 4 3 T__law_parting) (C__law_plus : DefOk P w K mg base "_law_plus" 2 2 T__law_plus) (C__law_put_in : DefOk P w K mg base "_law_put_in" 4 3 T__law_put_in) (C__law_signed : DefOk P w K mg base "_law_signed" 5 2 T__law_signed) (C__law_times : DefOk P w K mg base "_law_times" 2 2 T__law_times) (m_len : mg "len" = none) (m_tuple : mg "tuple" = none) :
    DefOk P w K mg base "_law_some_parting" 10 2 T__law_some_parting := by
  have nd := (sc__law_some_parting).nd
  refine ok_defD (k := 9) t sc__law_some_parting mon__law_some_parting (fun f cdv A outer s H E hr =>
    (pds_cons (pds_par (pda_cons (pd_callD C__law_parting (hr.mono (by decide)) (by rfl) (pda_cons (pd_var (pv 0)) (pda_cons (pd_var (pv 1)) (pda_cons pd_int pda_nil)))) (pda_cons (pd_callD C__law_draw (hr.mono (by decide)) (by rfl) (pda_cons (pd_var (pv 0)) (pda_cons pd_int pda_nil))) pda_nil)) (fun _ h => ps_par (i := 2) (j := 3) rfl nd rfl rfl (by decide) rfl rfl h rfl))
      (pds_cons (pds_par (pda_cons (pd_callD C__law_mean (hr.mono (by decide)) (by rfl) (pda_cons (pd_var (pv 2)) (pda_cons (pd_var (pv 1)) pda_nil))) (pda_cons (pd_callD C__law_draw (hr.mono (by decide)) (by rfl) (pda_cons (pd_var (pv 0)) (pda_cons (pd_B call_len_seq snd_len mon_gA (by rfl) m_len bt_len (pda_cons (pd_var (pv 2)) pda_nil)) pda_nil))) pda_nil)) (fun _ h => ps_par (i := 4) (j := 5) rfl nd rfl rfl (by decide) rfl rfl h rfl))
      (pds_cons (pds_asg (pd_ix ix_ok mon_gF snd_ix (fun _ _ => rfl) (pd_var (pv 2)) (pd_var (pv 5))) (pdg_tup (n := 2) rfl (pdgs_cons (pdg_name (pg_name (i := 6) nd rfl (by first | exact Or.inl rfl | exact Or.inr rfl))) (pdgs_cons (pdg_name (pg_name (i := 7) nd rfl (by first | exact Or.inl rfl | exact Or.inr rfl))) pdgs_nil))))
      (pds_cons (pds_if (ptd_cmp (eq_ok hr.units) mon_gF snd_eq (nomark _) (pd_var (pv 3)) pd_int) (pds_one (pd_ret (pd_tup (pda_cons (pd_var (pv 4)) (pda_cons (pd_op addW_ok mon_gF snd_addW (pd_slice (pd_var (pv 2)) pdo_none (pdo_some (pd_var (pv 5)))) (pd_revT (pd_slice (pd_var (pv 2)) (pdo_some (pd_var (pv 5))) pdo_none))) pda_nil))))) pds_nil)
      (pds_cons (pds_if (ptd_cmp (eq_ok hr.units) mon_gF snd_eq (nomark _) (pd_var (pv 3)) pd_int) (pds_cons (pds_set (pd_tup (pda_cons (pd_callD C__law_times (hr.mono (by decide)) (by rfl) (pda_cons (pd_var (pv 6)) (pda_cons (pd_tup (pda_cons pd_int (pda_cons pd_int pda_nil))) pda_nil))) (pda_cons (pd_var (pv 7)) pda_nil))) (fun _ h => ps_set (i := 8) nd rfl (by first | exact Or.inl rfl | exact Or.inr rfl) h))
      (pds_one (pd_ret (pd_tup (pda_cons (pd_var (pv 4)) (pda_cons (pd_op addW_ok mon_gF snd_addW (pd_op addW_ok mon_gF snd_addW (pd_slice (pd_var (pv 2)) pdo_none (pdo_some (pd_var (pv 5)))) (pd_tup (pda_cons (pd_var (pv 8)) (pda_cons (pd_var (pv 8)) pda_nil)))) (pd_slice (pd_var (pv 2)) (pdo_some (pd_op addW_ok mon_gF snd_addW (pd_var (pv 5)) pd_int)) pdo_none)) pda_nil)))))) pds_nil)
      (pds_cons (pds_if (ptd_w (pdw_and (ptd_cmp (eq_ok hr.units) mon_gF snd_eq (nomark _) (pd_var (pv 3)) pd_int) (pdw_and1 (ptd_cmp op_gt mon_gF snd_B0 (nomark _) (pd_B call_len_seq snd_len mon_gA (by rfl) m_len bt_len (pda_cons (pd_var (pv 2)) pda_nil)) pd_int)))) (pds_cons (pds_par (pda_cons (pd_callD C__law_times (hr.mono (by decide)) (by rfl) (pda_cons (pd_ix ix_ok mon_gF snd_ix (fun _ _ => rfl) (pd_ix ix_ok mon_gF snd_ix (fun _ _ => rfl) (pd_var (pv 2)) pd_int) pd_int) (pda_cons (pd_tup (pda_cons pd_int (pda_cons pd_int pda_nil))) pda_nil))) (pda_cons (pd_callD C__law_times (hr.mono (by decide)) (by rfl) (pda_cons (pd_ix ix_ok mon_gF snd_ix (fun _ _ => rfl) (pd_ix ix_ok mon_gF snd_ix (fun _ _ => rfl) (pd_var (pv 2)) pd_int) pd_int) (pda_cons (pd_tup (pda_cons pd_int (pda_cons pd_int pda_nil))) pda_nil))) pda_nil)) (fun _ h => ps_par (i := 9) (j := 10) rfl nd rfl rfl (by decide) rfl rfl h rfl))
      (pds_one (pd_ret (pd_tup (pda_cons (pd_var (pv 4)) (pda_cons (pd_op addW_ok mon_gF snd_addW (pd_tup (pda_cons (pd_tup (pda_cons (pd_var (pv 9)) (pda_cons (pd_ix ix_ok mon_gF snd_ix (fun _ _ => rfl) (pd_ix ix_ok mon_gF snd_ix (fun _ _ => rfl) (pd_var (pv 2)) pd_int) pd_int) pda_nil))) (pda_cons (pd_tup (pda_cons (pd_callD C__law_plus (hr.mono (by decide)) (by rfl) (pda_cons (pd_ix ix_ok mon_gF snd_ix (fun _ _ => rfl) (pd_ix ix_ok mon_gF snd_ix (fun _ _ => rfl) (pd_var (pv 2)) pd_int) pd_int) (pda_cons (pd_var (pv 10)) pda_nil))) (pda_cons (pd_ix ix_ok mon_gF snd_ix (fun _ _ => rfl) (pd_ix ix_ok mon_gF snd_ix (fun _ _ => rfl) (pd_var (pv 2)) pd_int) pd_int) pda_nil))) pda_nil))) (pd_slice (pd_var (pv 2)) (pdo_some pd_int) pdo_none)) pda_nil)))))) pds_nil)
      (pds_cons (pds_if (ptd_cmp (eq_ok hr.units) mon_gF snd_eq (nomark _) (pd_var (pv 3)) pd_int) (pds_one (pd_ret (pd_tup (pda_cons (pd_var (pv 4)) (pda_cons (pd_op addW_ok mon_gF snd_addW (pd_slice (pd_var (pv 2)) pdo_none (pdo_some (pd_var (pv 5)))) (pd_slice (pd_var (pv 2)) (pdo_some (pd_op addW_ok mon_gF snd_addW (pd_var (pv 5)) pd_int)) pdo_none)) pda_nil))))) pds_nil)
      (pds_cons (pds_if (ptd_cmp (eq_ok hr.units) mon_gF snd_eq (nomark _) (pd_var (pv 3)) pd_int) (pds_one (pd_ret (pd_tup (pda_cons (pd_var (pv 4)) (pda_cons (pd_callD C__law_put_in (hr.mono (by decide)) (by rfl) (pda_cons (pd_var (pv 2)) (pda_cons (pd_tup (pda_cons pd_int (pda_cons pd_int pda_nil))) (pda_cons (pd_callD C__law_chance (hr.mono (by decide)) (by rfl) (pda_cons (pd_var (pv 0)) (pda_cons (pd_var (pv 1)) pda_nil))) pda_nil)))) pda_nil))))) pds_nil)
      (pds_cons (pds_if (ptd_cmp (eq_ok hr.units) mon_gF snd_eq (nomark _) (pd_var (pv 3)) pd_int) (pds_one (pd_ret (pd_callD C__law_signed (hr.mono (by decide)) (by rfl) (pda_cons (pd_var (pv 0)) (pda_cons (pd_var (pv 1)) pda_nil))))) pds_nil)
      (pds_cons (pds_if (ptd_cmp (eq_ok hr.units) mon_gF snd_eq (nomark _) (pd_var (pv 3)) pd_int) (pds_one (pd_ret (pd_tup (pda_cons (pd_callD C__law_chance (hr.mono (by decide)) (by rfl) (pda_cons (pd_var (pv 0)) (pda_cons (pd_var (pv 1)) pda_nil))) (pda_cons (pd_var (pv 2)) pda_nil))))) pds_nil)
      (pds_cons (pds_if (ptd_cmp (eq_ok hr.units) mon_gF snd_eq (nomark _) (pd_var (pv 3)) pd_int) (pds_one (pd_ret (pd_tup (pda_cons (pd_var (pv 4)) (pda_cons (pd_Ty call_tuple_of snd_tupleOf mon_gA (by rfl) m_tuple bt_tuple (pda_cons (pd_of_N (pdn_lc (own := [("each", 11)]) rfl nd (pdi_seq (pd_var (pv 2))) (blkOk_by (N := N__law_some_parting) (sc := defScope s__law_some_parting) (by decide +kernel)) (fun _ _ _ _ _ => (pdg_name (pg_name (i := 11) nd rfl (by first | exact Or.inl rfl | exact Or.inr rfl)))) (fun _ _ _ _ _ => pdts_nil) (fun _ _ _ _ _ => (pd_tup (pda_cons (pd_callD C__law_times (hr.mono (by decide)) (by rfl) (pda_cons (pd_ix ix_ok mon_gF snd_ix (fun _ _ => rfl) (pd_var (pv 11)) pd_int) (pda_cons (pd_tup (pda_cons pd_int (pda_cons pd_int pda_nil))) pda_nil))) (pda_cons (pd_ix ix_ok mon_gF snd_ix (fun _ _ => rfl) (pd_var (pv 11)) pd_int) pda_nil)))) (by decide))) pda_nil)) pda_nil))))) pds_nil)
      (pds_cons (pds_if (ptd_cmp (eq_ok hr.units) mon_gF snd_eq (nomark _) (pd_var (pv 3)) pd_int) (pds_one (pd_ret (pd_tup (pda_cons (pd_var (pv 4)) (pda_cons (pd_tup (pda_cons (pd_tup (pda_cons (pd_tup (pda_cons pd_int (pda_cons pd_int pda_nil))) (pda_cons (pd_var (pv 4)) pda_nil))) pda_nil)) pda_nil))))) pds_nil)
      (pds_one (pd_ret (pd_tup (pda_cons (pd_var (pv 4)) (pda_cons (pd_if (ptd_cmp (eq_ok hr.units) mon_gF snd_eq (nomark _) (pd_var (pv 3)) pd_int) (pd_var (pv 2)) (pd_callD C__law_bent (hr.mono (by decide)) (by rfl) (pda_cons (pd_var (pv 0)) (pda_cons (pd_var (pv 2)) pda_nil)))) pda_nil)))))))))))))))))) ?_
  intro ss μ Q hl h
  obtain ⟨w0, ms, n, rfl, rfl, ⟨hw, hn1, hn4⟩, q⟩ := h
  walk_at "dv"
  refine ⟨w0, ms, n, rfl, rfl, ⟨hw, hn1, hn4⟩, fun ps w1 hw1 hp => ?_⟩
  walk_at "dv"
  refine ⟨w1, ms, 11, rfl, rfl, ⟨hw1, by decide, by decide⟩, fun r w2 hw2 r0 r1 => ?_⟩
  have hb := hp.bel
  have zp := hp.zp
  have hl5 := hp.len
  have fp := hp.lv.fit
  have lv := hp.lv
  have h1 : 1 ≤ ps.length := by
    have := hp.ne
    cases ps with
    | nil => exact absurd rfl this
    | cons p ps => rw [List.length_cons]; omega
  have lm : (ps.map partD).length = ps.length := List.length_map ..
  walk_at "dv"
  refine ⟨ps, n, rfl, ⟨by omega, by omega, fun p h => (zp p h).2, fun p h => (zp p h).1⟩, ?_⟩
  generalize meanL (List.replicate n 0) ps = st at hb ⊢
  obtain ⟨hb, zb⟩ := hb
  have fs : fit (rowD st) := fit_row (by have := hb.len; omega) fun r hr => (zb r hr).mono (by decide)
  refine ⟨w2, ms, _, rfl, rfl, ⟨hw2, by omega, by omega⟩, fun at' w3 hw3 a0 a1 => ?_⟩
  obtain ⟨a, rfl⟩ : ∃ a : Nat, at' = (a : Int) := ⟨at'.toNat, by omega⟩
  have ha : a < ps.length := by omega
  walk_at "dv"
  rw [if_neg (by omega), Int.toNat_natCast, List.getElem?_map, List.getElem?_eq_getElem ha]
  have zpa := zp _ (List.getElem_mem ha)
  rw [Option.map_some, partD_eq]
  walk_at "dv"
  have fe : ∀ d ∈ ps.map partD, fit d := fitA_iff.mp fp.2
  have sub : ∀ a b, ∀ d ∈ cutD (ps.map partD) a b, fit d := fun a b d hd => fe d ((cut_sub _ a b).subset hd)
  have fin : ∀ (xs : List D), (∀ d ∈ xs, fit d) → xs.length ≤ 8 → ∀ w', IsW w' → Q (.tup [rowD st, .tup xs]) (w' :: ms) := fun xs h1 h2 w' hw' => q st _ w' hw' ⟨hb, fs, fit_tup (by omega) h1, h2⟩
  have l1 : (cutD (ps.map partD) none (some (a : Int))).length = a := by rw [cut_take, List.length_take]; omega
  have l2 : (cutD (ps.map partD) (some (a : Int)) none).length = ps.length - a := by rw [cut_drop, List.length_drop]; omega
  have l3 : (cutD (ps.map partD) (some ((a : Int) + 1)) none).length = ps.length - (a + 1) := by rw [show (a : Int) + 1 = ((a + 1 : Nat) : Int) by omega, cut_drop, List.length_drop]; omega
  have l4 := (cut_sub (ps.map partD) (some 2) none).length_le
  rw [lm] at l4
  have pair : ∀ (x : Rat) (b : List Rat), Z 128 x → (∀ r ∈ b, Z 128 r) → b.length = n → fit (.tup [frD x, rowD b]) := fun x b h1 h2 h3 => fit_two (fit_fr h1) (fit_row (by omega) h2)
  by_cases e0 : r = 0
  · rw [if_pos e0]
    refine ⟨by rw [List.length_reverse]; omega, fin _ (fun d hd => ?_) (by rw [List.length_append, List.length_reverse]; omega) _ hw3⟩
    rcases List.mem_append.mp hd with h | h
    · exact sub _ _ d h
    · exact sub _ _ d (List.mem_reverse.mp h)
  rw [if_neg e0]
  by_cases e1 : r = 1
  · rw [if_pos e1, fr_half]
    refine ⟨_, _, rfl, ⟨zpa.1.1.mono (by decide), z_half.mono (by decide)⟩, by omega, by simp only [List.length_append, List.length_cons, List.length_nil]; omega, ?_⟩
    rw [take_one]
    have fh := pair (ps[a].1 * Rat.divInt 1 2) ps[a].2 (((hp.pos _ (List.getElem_mem ha)).2.1.mul z_half).mono (by decide)) zpa.1.2 zpa.2
    refine fin _ (fun d hd => ?_) (by simp only [List.length_append, List.length_cons, List.length_nil]; omega) _ hw3
    rcases List.mem_append.mp hd with h | h
    · rcases List.mem_append.mp h with h | h
      · exact sub _ _ d h
      · simp only [List.mem_cons, List.not_mem_nil, or_false] at h
        rcases h with rfl | rfl <;> exact fh
    · exact sub _ _ d h
  rw [if_neg e1, ite_and]
  by_cases e2 : r = 2 ∧ 1 < ((ps.map partD).length : Int)
  · rw [if_pos e2]
    obtain ⟨p, p', ps', rfl⟩ : ∃ p p' ps', ps = p :: p' :: ps' := by
      have h := e2.2
      match ps, h with
      | [], h => simp at h
      | [x], h => simp at h
      | p :: p' :: ps', _ => exact ⟨p, p', ps', rfl⟩
    have z0 := zp p (by simp)
    have z1 := zp p' (by simp)
    have q0 := (hp.pos p (by simp)).2.1
    have q1 := (hp.pos p' (by simp)).2.1
    rw [fr_third, fr_thirds]
    rw [show (p :: p' :: ps').map partD = D.tup [frD p.1, rowD p.2] :: D.tup [frD p'.1, rowD p'.2] :: ps'.map partD from rfl] at sub l4 ⊢
    walk_at "dv"
    refine ⟨_, _, rfl, ⟨z0.1.1.mono (by decide), z_third.mono (by decide)⟩, _, _, rfl, ⟨z0.1.1.mono (by decide), z_thirds.mono (by decide)⟩, _, _, rfl, ⟨z1.1.1.mono (by decide), (q0.mul z_thirds).mono (by decide)⟩, by omega, ?_⟩
    walk_at "dv"
    refine fin _ (fun d hd => ?_) (by rw [List.length_cons, List.length_cons]; simp only [List.length_cons] at l4 hl5; omega) _ hw3
    rcases List.mem_cons.mp hd with rfl | hd
    · exact pair _ _ ((q0.mul z_third).mono (by decide)) z0.1.2 z0.2
    rcases List.mem_cons.mp hd with rfl | hd
    · exact pair _ _ ((q1.add (q0.mul z_thirds)).mono (by decide)) z1.1.2 z1.2
    · exact sub _ _ d hd
  rw [if_neg e2]
  by_cases e3 : r = 3
  · rw [if_pos e3]
    refine ⟨by omega, fin _ (fun d hd => ?_) (by rw [List.length_append]; omega) _ hw3⟩
    rcases List.mem_append.mp hd with h | h
    · exact sub _ _ d h
    · exact sub _ _ d h
  rw [if_neg e3]
  by_cases e4 : r = 4
  · rw [if_pos e4, fr_zero]
    refine ⟨w3, ms, n, rfl, rfl, ⟨hw3, hn1, hn4⟩, fun c w4 hw4 hc => ?_⟩
    walk_at "dv"
    refine ⟨ps, 0, c, rfl, ⟨by omega, fun p h => (zp p h).1, z_0, hc.zp⟩, fun qs hq => ?_⟩
    walk_at "dv"
    refine fin _ (fun d hd => ?_) (by rw [List.length_map]; have := hq.1; omega) _ hw4
    obtain ⟨x, hx, rfl⟩ := List.mem_map.mp hd
    rcases hq.2 x hx with h | rfl
    · exact fe _ (List.mem_map_of_mem h)
    · exact pair _ _ z_0 hc.zp hc.bel.len
  rw [if_neg e4]
  by_cases e5 : r = 5
  · rw [if_pos e5]
    refine ⟨w3, ms, n, rfl, rfl, ⟨hw3, hn1, hn4⟩, fun st' d w4 hw4 hd => ?_⟩
    walk_at "dv"
    exact q st' d w4 hw4 hd
  rw [if_neg e5]
  by_cases e6 : r = 6
  · rw [if_pos e6]
    refine ⟨w3, ms, n, rfl, rfl, ⟨hw3, hn1, hn4⟩, fun c w4 hw4 hc => ?_⟩
    walk_at "dv"
    exact q c _ w4 hw4 ⟨hc.bel, hc.fit, fp, by rw [tl_parts]; omega⟩
  rw [if_neg e6]
  by_cases e7 : r = 7
  · rw [if_pos e7]
    refine lc_map partD (fun p => partD (p.1 * Rat.divInt 1 2, p.2)) (w3 :: ms) (fun _ => trivial) ps _ (fun p hp' acc P P2 h => ?_) (by omega) ?_
    · rw [partD_eq]
      walk_at "dv"
      rw [fr_half]
      exact ⟨_, _, rfl, ⟨(zp p hp').1.1.mono (by decide), z_half.mono (by decide)⟩, h⟩
    · rw [take_one]
      refine fin _ (fun d hd => ?_) (by rw [List.length_map]; omega) _ hw3
      obtain ⟨p, hp', rfl⟩ := List.mem_map.mp hd
      exact pair _ _ (((hp.pos p hp').2.1.mul z_half).mono (by decide)) (zp p hp').1.2 (zp p hp').2
  rw [if_neg e7]
  by_cases e8 : r = 8
  · rw [if_pos e8]
    refine fin [_] (fun d hd => ?_) (by simp) _ hw3
    rw [List.mem_singleton] at hd
    exact hd ▸ pair 1 st z_one (fun r hr => (zb r hr).mono (by decide)) hb.len
  rw [if_neg e8]
  by_cases e9 : r = 9
  · rw [if_pos e9]
    exact fin _ fe (by omega) _ hw3
  rw [if_neg e9]
  refine ⟨w3, ms, _, rfl, rfl, ⟨hw3, lv.mono (by decide)⟩, fun d w4 hw4 hd ht => ?_⟩
  walk_at "dv"
  refine q st d w4 hw4 ⟨hb, fs, hd, ?_⟩
  rw [tl_parts] at ht
  omega
end K2

/-! part Q15 -/
set_option Elab.async false
set_option linter.all false
set_option maxRecDepth 100000
set_option autoImplicit false
set_option exponentiation.threshold 9000
set_option maxHeartbeats 1000000
namespace K2
open PySem PySem.Spec L2 DV
open PyProof.Rows (envOfC)
variable {P : Program} {w : World} {K : PySem.W.Frag} {mg : Str → Option Value} {base : Heap}

local macro_rules | `(tactic| walk_at "dv") => `(tactic| simp only [startR, cRepV, fANew, fAsgG, fIxW, cRepU, fIStar, fIZipG, fParDN, cInP, fInP, lstOf, fIns, fExt, fIsN, fIsNotN, isNonS, fAug, fAddW, fSubW, fGtW, fMul2, fModM, cAddW, cEqP, fEqP, fNeP, fInI, fIsiW, Option.bind_some, fRevT, fMk, fBare, fAtt, fIsX, fIsXT, fRaise, fRaise0, fTry, clD, suiteD, kNo, kBut, fXatt, fExprX, fCallX, kDX, gRepr2, cRepr2, datOf, errOf, kD, fin, fSeq, fNext, fDrop, fNRep, fNRg, fParN0, fPar3, fPar3N, fAsg, fRet, fIfS, fNever, fPar, fNew, fApp, fVar, fC, fOp, fTest, fTAnd, fTOr, fTNot, fVAnd, fVOr, fVNot, fNeg, fIf, fChain, fANil, fACons, fTup, fLst, fCB, fNLst, fOfN, fYes, fIsi, fONone, fOSome, fSl, sliceF,
  gF, gA, cI, fI, c0, cAdd, fAdd, fIx, cRepT, fRepT, fEq, fNe, fNotIn, intsOf, blsOf, allD, seqOf, tupOf, fLen, cA0, f1L, gSum, fTupleOf, fListOf, fA1, fA2, cDm, gN, gsNil_eq, gsCons_eq, gT_eq, gSb_eq, isB, itemsOf, fISeq, fIRng, fIEnum, fIZip, fIZipTL, fFor, fLc, wipeR, fCall, fCallK, fRetN, kN, fCallN, fCallOn, kwS, pick, gRepr, cRepr, List.filterMap_cons_some, List.filterMap_nil,
  List.map_cons, List.map_nil, List.length_cons, List.length_nil, List.replicate_succ, List.replicate_zero, List.cons_append, List.nil_append, List.append_nil, List.getElem?_cons_zero, List.getElem?_cons_succ, List.getElem?_nil, List.set_cons_zero, List.set_cons_succ, List.set_nil, List.take_succ_cons, List.take_zero, List.take_nil,
  Option.map_some, Option.map_none, Option.some.injEq, Option.get_some, exists_eq_left', exists_eq_left, exists_eq_right, true_and, and_true, if_true, if_false, reduceCtorEq, ite_true, ite_false, S.d.injEq, S.m.injEq, D.int.injEq, D.tup.injEq, D.lst.injEq, D.bl.injEq, D.str.injEq, List.cons.injEq, exists_and_left, exists_and_right,
  Nat.sub_zero, Nat.reduceSub, Nat.reduceAdd, Nat.zero_add, Nat.add_zero, Bool.not_true, Bool.not_false, Bool.false_eq_true, decide_eq_true_eq, Nat.reduceLT, Nat.reduceLeDiff, Nat.le_refl, List.take_length, Int.reduceLT, Int.reduceToNat, Nat.lt_irrefl, gt_iff_lt, Nat.not_lt_zero, Int.cast_ofNat_Int, decide_true, decide_false, and_assoc, Bool.false_and, Bool.true_and])


/-- a drawn table of n rows of k chances, whatever their sums -/
structure Tri (n k : Nat) (t : List (List Rat)) : Prop where
  len : t.length = n
  k1 : 1 ≤ k
  k6 : k ≤ 6
  row : ∀ r ∈ t, r.length = k ∧ ∀ x ∈ r, Z 8 x
def T__law_trial : TF := fun ss μ P => ∃ w ms, ∃ n : Nat, ss = [.m 0, .d (.int (n : Int)), .d (.int 6)] ∧ μ = w :: ms ∧ (IsW w ∧ 1 ≤ n ∧ n ≤ 4 ∧ ms = []) ∧ ∀ t k w', IsW w' → Tri n k t → P (tabD t) (w' :: ms)
theorem mon__law_trial : MonF T__law_trial := fun ss μ P P' k ⟨a, b, c, e, e2, h, q⟩ => ⟨a, b, c, e, e2, h, fun t k' w' h1 h2 => k _ _ (q t k' w' h1 h2)⟩
def T__law_some_trial : TF := fun ss μ P => ∃ w ms, ∃ n : Nat, ss = [.m 0, .d (.int (n : Int))] ∧ μ = w :: ms ∧ (IsW w ∧ 2 ≤ n ∧ n ≤ 4 ∧ ms = []) ∧ ∀ d w', IsW w' → fit d → P d (w' :: ms)
theorem mon__law_some_trial : MonF T__law_some_trial := fun ss μ P P' k ⟨a, b, c, e, e2, h, q⟩ => ⟨a, b, c, e, e2, h, fun r w' h1 h2 => k _ _ (q r w' h1 h2)⟩
theorem ok__law_some_trial (t : Top K mg "_law_some_trial" s__law_some_trial ["well", "n"]) (C__law_bent : DefOk P w K mg base "_law_bent" 9 2 (T__law_bent 6)) (C__law_draw : DefOk P w K mg base "_law_draw" 1 2 T__law_draw) (C__law_plus : DefOk P w K mg base "_law_plus" 2 2 T__law_plus) (C__law_trial : DefOk P w K mg base "_law_trial" 3 3 T__law_trial) (m_len : mg "len" = none) (m_tuple : mg "tuple" = none) :
    DefOk P w K mg base "_law_some_trial" 10 2 T__law_some_trial := by
  have nd := (sc__law_some_trial).nd
  refine ok_defD (k := 9) t sc__law_some_trial mon__law_some_trial (fun f cdv A outer s H E hr =>
    (pds_cons (pds_asg (pd_tup (pda_cons (pd_callD C__law_trial (hr.mono (by decide)) (by rfl) (pda_cons (pd_var (pv 0)) (pda_cons (pd_var (pv 1)) (pda_cons pd_int pda_nil)))) (pda_cons (pd_callD C__law_draw (hr.mono (by decide)) (by rfl) (pda_cons (pd_var (pv 0)) (pda_cons pd_int pda_nil))) pda_nil))) (pdg_tup (n := 2) rfl (pdgs_cons (pdg_name (pg_name (i := 2) nd rfl (by first | exact Or.inl rfl | exact Or.inr rfl))) (pdgs_cons (pdg_name (pg_name (i := 3) nd rfl (by first | exact Or.inl rfl | exact Or.inr rfl))) pdgs_nil))))
      (pds_cons (pds_asg (pd_tup (pda_cons (pd_B call_len_seq snd_len mon_gA (by rfl) m_len bt_len (pda_cons (pd_ix ix_ok mon_gF snd_ix (fun _ _ => rfl) (pd_var (pv 2)) pd_int) pda_nil)) (pda_cons (pd_callD C__law_draw (hr.mono (by decide)) (by rfl) (pda_cons (pd_var (pv 0)) (pda_cons (pd_var (pv 1)) pda_nil))) pda_nil))) (pdg_tup (n := 2) rfl (pdgs_cons (pdg_name (pg_name (i := 4) nd rfl (by first | exact Or.inl rfl | exact Or.inr rfl))) (pdgs_cons (pdg_name (pg_name (i := 5) nd rfl (by first | exact Or.inl rfl | exact Or.inr rfl))) pdgs_nil))))
      (pds_cons (pds_if (ptd_w (pdw_and (ptd_cmp (eq_ok hr.units) mon_gF snd_eq (nomark _) (pd_var (pv 3)) pd_int) (pdw_and1 (ptd_cmp op_gt mon_gF snd_B0 (nomark _) (pd_var (pv 4)) pd_int)))) (pds_cons (pds_set (pd_op addW_ok mon_gF snd_addW (pd_tup (pda_cons (pd_callD C__law_plus (hr.mono (by decide)) (by rfl) (pda_cons (pd_ix ix_ok mon_gF snd_ix (fun _ _ => rfl) (pd_ix ix_ok mon_gF snd_ix (fun _ _ => rfl) (pd_var (pv 2)) (pd_var (pv 5))) pd_int) (pda_cons (pd_tup (pda_cons pd_int (pda_cons pd_int pda_nil))) pda_nil))) (pda_cons (pd_callD C__law_plus (hr.mono (by decide)) (by rfl) (pda_cons (pd_ix ix_ok mon_gF snd_ix (fun _ _ => rfl) (pd_ix ix_ok mon_gF snd_ix (fun _ _ => rfl) (pd_var (pv 2)) (pd_var (pv 5))) pd_int) (pda_cons (pd_tup (pda_cons (pd_neg pd_int) (pda_cons pd_int pda_nil))) pda_nil))) pda_nil))) (pd_slice (pd_ix ix_ok mon_gF snd_ix (fun _ _ => rfl) (pd_var (pv 2)) (pd_var (pv 5))) (pdo_some pd_int) pdo_none)) (fun _ h => ps_set (i := 6) nd rfl (by first | exact Or.inl rfl | exact Or.inr rfl) h))
      (pds_one (pd_ret (pd_op addW_ok mon_gF snd_addW (pd_op addW_ok mon_gF snd_addW (pd_slice (pd_var (pv 2)) pdo_none (pdo_some (pd_var (pv 5)))) (pd_tup (pda_cons (pd_var (pv 6)) pda_nil))) (pd_slice (pd_var (pv 2)) (pdo_some (pd_op addW_ok mon_gF snd_addW (pd_var (pv 5)) pd_int)) pdo_none))))) pds_nil)
      (pds_cons (pds_if (ptd_cmp (eq_ok hr.units) mon_gF snd_eq (nomark _) (pd_var (pv 3)) pd_int) (pds_one (pd_ret (pd_op addW_ok mon_gF snd_addW (pd_op addW_ok mon_gF snd_addW (pd_slice (pd_var (pv 2)) pdo_none (pdo_some (pd_var (pv 5)))) (pd_tup (pda_cons (pd_op addW_ok mon_gF snd_addW (pd_tup (pda_cons (pd_callD C__law_plus (hr.mono (by decide)) (by rfl) (pda_cons (pd_ix ix_ok mon_gF snd_ix (fun _ _ => rfl) (pd_ix ix_ok mon_gF snd_ix (fun _ _ => rfl) (pd_var (pv 2)) (pd_var (pv 5))) pd_int) (pda_cons (pd_tup (pda_cons pd_int (pda_cons pd_int pda_nil))) pda_nil))) pda_nil)) (pd_slice (pd_ix ix_ok mon_gF snd_ix (fun _ _ => rfl) (pd_var (pv 2)) (pd_var (pv 5))) (pdo_some pd_int) pdo_none)) pda_nil))) (pd_slice (pd_var (pv 2)) (pdo_some (pd_op addW_ok mon_gF snd_addW (pd_var (pv 5)) pd_int)) pdo_none)))) pds_nil)
      (pds_cons (pds_if (ptd_cmp (eq_ok hr.units) mon_gF snd_eq (nomark _) (pd_var (pv 3)) pd_int) (pds_one (pd_ret (pd_op addW_ok mon_gF snd_addW (pd_op addW_ok mon_gF snd_addW (pd_slice (pd_var (pv 2)) pdo_none (pdo_some (pd_var (pv 5)))) (pd_tup (pda_cons (pd_op addW_ok mon_gF snd_addW (pd_ix ix_ok mon_gF snd_ix (fun _ _ => rfl) (pd_var (pv 2)) (pd_var (pv 5))) (pd_tup (pda_cons (pd_tup (pda_cons pd_int (pda_cons pd_int pda_nil))) pda_nil))) pda_nil))) (pd_slice (pd_var (pv 2)) (pdo_some (pd_op addW_ok mon_gF snd_addW (pd_var (pv 5)) pd_int)) pdo_none)))) pds_nil)
      (pds_cons (pds_if (ptd_cmp op_lt mon_gF snd_B0 (nomark _) (pd_var (pv 3)) pd_int) (pds_one (pd_ret (pd_Ty call_tuple_of snd_tupleOf mon_gA (by rfl) m_tuple bt_tuple (pda_cons (pd_of_N (pdn_lc (own := [("row", 6)]) rfl nd (pdi_seq (pd_var (pv 2))) (blkOk_by (N := N__law_some_trial) (sc := defScope s__law_some_trial) (by decide +kernel)) (fun _ _ _ _ _ => (pdg_name (pg_name (i := 6) nd rfl (by first | exact Or.inl rfl | exact Or.inr rfl)))) (fun _ _ _ _ _ => pdts_nil) (fun _ _ _ _ _ => (pd_op addW_ok mon_gF snd_addW (pd_var (pv 6)) (pd_op repV_ok mon_gF snd_repV (pd_tup (pda_cons (pd_tup (pda_cons pd_int (pda_cons pd_int pda_nil))) pda_nil)) (pd_op subW_ok mon_gF snd_subW (pd_op subW_ok mon_gF snd_subW pd_int (pd_var (pv 3))) (pd_var (pv 4)))))) (by decide))) pda_nil)))) pds_nil)
      (pds_cons (pds_if (ptd_cmp (eq_ok hr.units) mon_gF snd_eq (nomark _) (pd_var (pv 3)) pd_int) (pds_one (pd_ret (pd_if (ptd_cmp (eq_ok hr.units) mon_gF snd_eq (nomark _) (pd_var (pv 5)) pd_int) (pd_slice (pd_var (pv 2)) (pdo_some pd_int) pdo_none) (pd_op addW_ok mon_gF snd_addW (pd_var (pv 2)) (pd_slice (pd_var (pv 2)) pdo_none (pdo_some pd_int)))))) pds_nil)
      (pds_cons (pds_if (ptd_cmp (eq_ok hr.units) mon_gF snd_eq (nomark _) (pd_var (pv 3)) pd_int) (pds_one (pd_ret (pd_op repV_ok mon_gF snd_repV (pd_tup (pda_cons (pd_tup pda_nil) pda_nil)) (pd_var (pv 1))))) pds_nil)
      (pds_one (pd_ret (pd_if (ptd_cmp (eq_ok hr.units) mon_gF snd_eq (nomark _) (pd_var (pv 3)) pd_int) (pd_var (pv 2)) (pd_callD C__law_bent (hr.mono (by decide)) (by rfl) (pda_cons (pd_var (pv 0)) (pda_cons (pd_var (pv 2)) pda_nil))))))))))))))) ?_
  intro ss μ Q hl h
  obtain ⟨w0, ms, n, rfl, rfl, ⟨hw, hn2, hn4, hms⟩, q⟩ := h
  walk_at "dv"
  refine ⟨w0, ms, n, rfl, rfl, ⟨hw, by omega, hn4, hms⟩, fun t k w1 hw1 ht => ?_⟩
  walk_at "dv"
  refine ⟨w1, ms, 10, rfl, rfl, ⟨hw1, by decide, by decide⟩, fun r w2 hw2 r0 r1 => ?_⟩
  have lt := ht.len
  have k1 := ht.k1
  have k6 := ht.k6
  have fr : ∀ r ∈ t, fit (rowD r) := fun r hr => fit_row (by have := (ht.row r hr).1; omega) fun x hx => ((ht.row r hr).2 x hx).mono (by decide)
  have fe : ∀ d ∈ t.map rowD, fit d := fun d hd => by
    obtain ⟨r, hr, rfl⟩ := List.mem_map.mp hd
    exact fr r hr
  have lm : (t.map rowD).length = n := by rw [List.length_map, lt]
  have ft : fit (.tup (t.map rowD)) := fit_tup (by omega) fe
  have lv : Lv 4 (.tup (t.map rowD)) := lv_tup (by omega) fun x hx => by
    obtain ⟨r, hr, rfl⟩ := List.mem_map.mp hx
    have := ht.row r hr
    exact lv_row (by omega) fun y hy => (this.2 y hy).mono (by decide)
  obtain ⟨t0, ts, et⟩ : ∃ t0 ts, t = t0 :: ts := by
    cases t with
    | nil => rw [List.length_nil] at lt; omega
    | cons a b => exact ⟨a, b, rfl⟩
  have l0 : t0.length = k := (ht.row t0 (by rw [et]; simp)).1
  have g0 : (t.map rowD)[0]? = some (.tup (t0.map frD)) := by rw [et]; rfl
  unfold tabD
  walk_at "dv"
  rw [g0]
  walk_at "dv"
  rw [List.length_map]
  refine ⟨w2, ms, _, rfl, rfl, ⟨hw2, by omega, by omega⟩, fun at' w3 hw3 a0 a1 => ?_⟩
  obtain ⟨a, rfl⟩ : ∃ a : Nat, at' = (a : Int) := ⟨at'.toNat, by omega⟩
  have ha : a < t.length := by omega
  walk_at "dv"
  obtain ⟨x, xs, ex⟩ : ∃ x xs, t[a] = x :: xs := by
    have := (ht.row t[a] (List.getElem_mem ha)).1
    cases e : t[a] with
    | nil => rw [e, List.length_nil] at this; omega
    | cons b c => exact ⟨b, c, rfl⟩
  have hr := ht.row (x :: xs) (ex ▸ List.getElem_mem ha)
  have hlx := hr.1
  rw [List.length_cons] at hlx
  have zx := hr.2 x (by simp)
  have frow : fit (.tup (frD x :: xs.map frD)) := fr (x :: xs) (ex ▸ List.getElem_mem ha)
  have ga : (if (a : Int) < 0 then none else (t.map rowD)[(a : Int).toNat]?) = some (.tup (frD x :: xs.map frD)) := by
    rw [if_neg (by omega), Int.toNat_natCast, List.getElem?_map, List.getElem?_eq_getElem ha, ex]
    rfl
  have lx : (frD x :: xs.map frD).length = k := by rw [List.length_cons, List.length_map]; exact hlx
  have sub : ∀ a b, ∀ d ∈ cutD (t.map rowD) a b, fit d := fun a b d hd => fe d ((cut_sub _ a b).subset hd)
  have c1 := (cut_sub (t.map rowD) none (some (a : Int))).length_le
  have c2 := (cut_sub (t.map rowD) (some ((a : Int) + 1)) none).length_le
  have c3 := (cut_sub (frD x :: xs.map frD) (some 1) none).length_le
  have c4 := (cut_sub (frD x :: xs.map frD) (some 2) none).length_le
  have fin : ∀ (d' : D), fit d' → ∀ w', IsW w' → Q (.tup (cutD (t.map rowD) none (some (a : Int)) ++ [d'] ++ cutD (t.map rowD) (some ((a : Int) + 1)) none)) (w' :: ms) := fun d' h w' hw' => q _ w' hw' (fit_tup (by simp only [List.length_append, List.length_cons, List.length_nil]; omega) fun y hy => by
    rcases List.mem_append.mp hy with hy | hy
    · rcases List.mem_append.mp hy with hy | hy
      · exact sub _ _ y hy
      · rw [List.mem_singleton] at hy; exact hy ▸ h
    · exact sub _ _ y hy)
  have l100 : ∀ d' : D, (cutD (t.map rowD) none (some (a : Int)) ++ [d']).length + (cutD (t.map rowD) (some ((a : Int) + 1)) none).length ≤ 100000 := fun d' => by simp only [List.length_append, List.length_cons, List.length_nil]; omega
  have l99 : (cutD (t.map rowD) none (some (a : Int))).length ≤ 99999 := by omega
  simp only [ga, ite_and]
  walk_at "dv"
  by_cases e0 : r = 0 ∧ 1 < (t0.length : Int)
  · rw [if_pos e0, fr_half]
    obtain ⟨y, ys, rfl⟩ : ∃ y ys, xs = y :: ys := by
      cases xs with
      | nil => rw [List.length_nil] at hlx; have := e0.2; omega
      | cons b c => exact ⟨b, c, rfl⟩
    have zy := hr.2 y (by simp)
    refine ⟨x, _, rfl, ⟨zx.mono (by decide), z_half.mono (by decide)⟩, ?_⟩
    walk_at "dv"
    rw [fr_nhalf]
    refine ⟨y, _, rfl, ⟨zy.mono (by decide), z_nhalf.mono (by decide)⟩, ?_⟩
    walk_at "dv"
    simp only [List.map_cons] at c4 frow lx ⊢
    refine ⟨by omega, by omega, l100 _, ?_⟩
    exact fin _ (fit_cons (fit_fr ((zx.add z_half).mono (by decide))) (fit_cons (fit_fr ((zy.add z_nhalf).mono (by decide))) (fit_cut frow _ _) (by omega)) (by rw [List.length_cons]; omega)) _ hw3
  rw [if_neg e0]
  by_cases e1 : r = 1
  · rw [if_pos e1, fr_third]
    refine ⟨x, _, rfl, ⟨zx.mono (by decide), z_third.mono (by decide)⟩, ?_⟩
    walk_at "dv"
    refine ⟨by omega, by omega, l100 _, ?_⟩
    exact fin _ (fit_cons (fit_fr ((zx.add z_third).mono (by decide))) (fit_cut frow _ _) (by omega)) _ hw3
  rw [if_neg e1]
  by_cases e2 : r = 2
  · rw [if_pos e2]
    rw [List.length_cons] at lx
    refine ⟨by omega, by omega, l100 _, ?_⟩
    exact fin _ (fit_app (a := frD x :: xs.map frD) frow (fit_one (fit_of (by decide))) (by rw [List.length_cons, List.length_cons, List.length_nil]; omega)) _ hw3
  rw [if_neg e2]
  by_cases e5 : r < 5
  · rw [if_pos e5]
    have hm : 0 ≤ 10 - r - (t0.length : Int) ∧ 10 - r - (t0.length : Int) ≤ 9 := by
      by_cases e : r = 0
      · have : ¬ 1 < (t0.length : Int) := fun h => e0 ⟨e, h⟩
        omega
      · omega
    have fz : fit (.tup [D.tup [.int 0, .int 1]]) := fit_of (by decide)
    refine lc_map rowD (fun r' => D.tup (r'.map frD ++ (List.replicate (10 - r - (t0.length : Int)).toNat [D.tup [.int 0, .int 1]]).flatten)) (w3 :: ms) (fun _ => trivial) t _ (fun r' hr' acc P P2 h => ?_) (by omega) ?_
    · have := (ht.row r' hr').1
      rw [show rowD r' = D.tup (r'.map frD) from rfl]
      walk_at "dv"
      refine ⟨by simp, hm.1, by omega, ?_, h⟩
      rw [flat_rep, List.length_replicate, List.length_map]
      omega
    · rw [take_one]
      refine q _ _ hw3 (fit_map (by omega) fun r' hr' => fit_app (fr r' hr') (fit_rep fz _ (by simp only [List.length_cons, List.length_nil]; omega)) ?_)
      have := (ht.row r' hr').1
      rw [flat_rep, List.length_replicate, List.length_map]
      omega
  rw [if_neg e5]
  by_cases e6 : r = 5
  · rw [if_pos e6]
    by_cases ea : (a : Int) = 0
    · rw [if_pos ea]
      exact q _ _ hw3 (fit_cut ft _ _)
    · rw [if_neg ea]
      have c5 := (cut_sub (t.map rowD) none (some 1)).length_le
      exact ⟨by omega, q _ _ hw3 (fit_app ft (fit_cut ft _ _) (by omega))⟩
  rw [if_neg e6]
  by_cases e7 : r = 6
  · rw [if_pos e7]
    refine ⟨by simp, by omega, by omega, q _ _ hw3 (fit_rep (fit_one fit_nil) _ (by simp only [List.length_cons, List.length_nil]; omega))⟩
  rw [if_neg e7]
  by_cases e8 : r = 7
  · rw [if_pos e8]
    exact q _ _ hw3 ft
  rw [if_neg e8]
  refine ⟨w3, ms, _, rfl, rfl, ⟨hw3, lv.mono (by decide)⟩, fun d w4 hw4 hd _ => ?_⟩
  walk_at "dv"
  exact q d w4 hw4 hd
end K2

/-! part Q16 -/
set_option Elab.async false
set_option linter.all false
set_option maxRecDepth 100000
set_option autoImplicit false
set_option exponentiation.threshold 9000
set_option maxHeartbeats 1000000
namespace K2
open PySem PySem.Spec L2 DV
open PyProof.Rows (envOfC)
variable {P : Program} {w : World} {K : PySem.W.Frag} {mg : Str → Option Value} {base : Heap}

local macro_rules | `(tactic| walk_at "dv") => `(tactic| simp only [startR, cRepV, fANew, fAsgG, fIxW, cRepU, fIStar, fIZipG, fParDN, cInP, fInP, lstOf, fIns, fExt, fIsN, fIsNotN, isNonS, fAug, fAddW, fSubW, fGtW, fMul2, fModM, cAddW, cEqP, fEqP, fNeP, fInI, fIsiW, Option.bind_some, fRevT, fMk, fBare, fAtt, fIsX, fIsXT, fRaise, fRaise0, fTry, clD, suiteD, kNo, kBut, fXatt, fExprX, fCallX, kDX, gRepr2, cRepr2, datOf, errOf, kD, fin, fSeq, fNext, fDrop, fNRep, fNRg, fParN0, fPar3, fPar3N, fAsg, fRet, fIfS, fNever, fPar, fNew, fApp, fVar, fC, fOp, fTest, fTAnd, fTOr, fTNot, fVAnd, fVOr, fVNot, fNeg, fIf, fChain, fANil, fACons, fTup, fLst, fCB, fNLst, fOfN, fYes, fIsi, fONone, fOSome, fSl, sliceF,
  gF, gA, cI, fI, c0, cAdd, fAdd, fIx, cRepT, fRepT, fEq, fNe, fNotIn, intsOf, blsOf, allD, seqOf, tupOf, fLen, cA0, f1L, gSum, fTupleOf, fListOf, fA1, fA2, cDm, gN, gsNil_eq, gsCons_eq, gT_eq, gSb_eq, isB, itemsOf, fISeq, fIRng, fIEnum, fIZip, fIZipTL, fFor, fLc, wipeR, fCall, fCallK, fRetN, kN, fCallN, fCallOn, kwS, pick, gRepr, List.filterMap_cons_some, List.filterMap_nil,
  List.map_cons, List.map_nil, List.length_cons, List.length_nil, List.replicate_succ, List.replicate_zero, List.cons_append, List.nil_append, List.append_nil, List.getElem?_cons_zero, List.getElem?_cons_succ, List.getElem?_nil, List.set_cons_zero, List.set_cons_succ, List.set_nil, List.take_succ_cons, List.take_zero, List.take_nil,
  Option.map_some, Option.map_none, Option.some.injEq, Option.get_some, exists_eq_left', exists_eq_left, exists_eq_right, true_and, and_true, if_true, if_false, reduceCtorEq, ite_true, ite_false, S.d.injEq, S.m.injEq, D.int.injEq, D.tup.injEq, D.lst.injEq, D.bl.injEq, D.str.injEq, List.cons.injEq, exists_and_left, exists_and_right,
  Nat.sub_zero, Nat.reduceSub, Nat.reduceAdd, Nat.zero_add, Nat.add_zero, Bool.not_true, Bool.not_false, Bool.false_eq_true, decide_eq_true_eq, Nat.reduceLT, Nat.reduceLeDiff, Nat.le_refl, List.take_length, Int.reduceLT, Int.reduceToNat, Nat.lt_irrefl, gt_iff_lt, Nat.not_lt_zero, Int.cast_ofNat_Int, decide_true, decide_false, and_assoc, Bool.false_and, Bool.true_and])


theorem sh2 : ∀ a b : Bool, DV.Sh 10 1000000 (.lst [.bl a, .bl b]) := by unfold DV.Sh; decide +kernel
theorem sh3 : ∀ a b c : Bool, DV.Sh 10 1000000 (.lst [.bl a, .bl b, .bl c]) := by unfold DV.Sh; decide +kernel
theorem sh5 : ∀ a b c d e : Bool, DV.Sh 10 1000000 (.lst [.bl a, .bl b, .bl c, .bl d, .bl e]) := by unfold DV.Sh; decide +kernel
theorem tab_is {m n : Nat} {t : List (List Rat)} (h : Tab m n t) : isTabB m n (tabD t) = true := by
  show (decide ((t.map rowD).length = m) && (t.map rowD).all (isRow n)) = true
  rw [List.length_map, decide_eq_true h.len, Bool.true_and, List.all_map, List.all_eq_true]
  intro r hr
  show isRow n (rowD r) = true
  rw [isRow_row, decide_eq_true (h.row r hr).1]
theorem world_is {m n : Nat} {p v : List (List Rat)} (hp : Tab m n p) (hv : Tab m n v) (h1 : 1 ≤ m) (h5 : m ≤ 5) (h2 : 2 ≤ n) (h4 : n ≤ 4) : WorldN n (.tup [tabD p, tabD v]) := by
  cases p with
  | nil => have := hp.len; rw [List.length_nil] at this; omega
  | cons r rs =>
    have hr := (hp.row r (by simp)).1
    have hl := hp.len
    rw [List.length_cons] at hl
    have e : tabD (r :: rs) = .tup (.tup (r.map frD) :: rs.map rowD) := rfl
    have tp := tab_is hp
    have tv := tab_is hv
    refine ⟨?_, r.map frD, rs.map rowD, tabD v, by rw [e], by rw [List.length_map, hr]⟩
    rw [e, isSet_eq, List.length_map, List.length_map, hr, hl]
    rw [e] at tp
    rw [tp, tv, decide_eq_true h5, decide_eq_true h2, decide_eq_true h4]
    rfl
theorem world_fit {m n : Nat} {p v : List (List Rat)} (hp : Tab m n p) (hv : Tab m n v) (h5 : m ≤ 5) (h4 : n ≤ 4) : fit (.tup [tabD p, tabD v]) := fit_two (hp.lv (by omega) (by omega)).fit (hv.lv (by omega) (by omega)).fit
theorem rep_two (d : D) : (List.replicate (2 : Int).toNat [d]).flatten = [d, d] := rfl
def T__law_right : TF := fun ss μ P => ∃ w ms, ss = [.m 0] ∧ μ = w :: ms ∧ (IsW w ∧ ms = []) ∧ ∀ w', P (.bl true) (w' :: ms)
theorem mon__law_right : MonF T__law_right := fun ss μ P P' k ⟨a, b, e, e2, h, q⟩ => ⟨a, b, e, e2, h, fun w' => k _ _ (q w')⟩
theorem ok__law_right (t : Top K mg "_law_right" s__law_right ["well"]) (CK_is_belief__value_setting : DefOkK P w K mg base "is_belief" 7 2 ["value", "setting"] T_is_belief [1, 0]) (CK_is_experiment__setting_value : DefOkK P w K mg base "is_experiment" 7 2 ["setting", "value"] T_is_experiment [0, 1]) (CK_is_setting__value : DefOkK P w K mg base "is_setting" 5 1 ["value"] T_is_setting [0]) (CK_is_split__prior_value_setting : DefOkK P w K mg base "is_split" 7 3 ["prior", "value", "setting"] T_is_split [2, 0, 1]) (C__law_is_chance : DefOk P w K mg base "_law_is_chance" 4 2 T__law_is_chance) (C__law_is_parting : DefOk P w K mg base "_law_is_parting" 5 2 T__law_is_parting) (C__law_is_trial : DefOk P w K mg base "_law_is_trial" 5 2 T__law_is_trial) (C__law_is_world : DefOk P w K mg base "_law_is_world" 4 1 T__law_is_world) (C__law_odd : DefOk P w K mg base "_law_odd" 3 1 T__law_odd) (C__law_sizes : DefOk P w K mg base "_law_sizes" 3 1 T__law_sizes) (C__law_some_chance : DefOk P w K mg base "_law_some_chance" 10 2 T__law_some_chance) (C__law_some_parting : DefOk P w K mg base "_law_some_parting" 10 2 T__law_some_parting) (C__law_some_trial : DefOk P w K mg base "_law_some_trial" 10 2 T__law_some_trial) (C__law_some_world : DefOk P w K mg base "_law_some_world" 10 3 T__law_some_world) (C__law_table_of : DefOk P w K mg base "_law_table_of" 4 3 T__law_table_of) (C_is_belief : DefOk P w K mg base "is_belief" 7 2 T_is_belief) (C_is_experiment : DefOk P w K mg base "is_experiment" 7 2 T_is_experiment) (C_is_setting : DefOk P w K mg base "is_setting" 5 1 T_is_setting) (C_is_split : DefOk P w K mg base "is_split" 7 3 T_is_split) (m_range : mg "range" = none) (m_repr : mg "repr" = none) :
    DefOkG P w K mg base "_law_right" 11 1 T__law_right := by
  have nd := (sc__law_right).nd
  refine ok_defDG (k := 10) t sc__law_right mon__law_right (fun f cdv A outer s H E hgd hr =>
    (pds_cons (pds_asg (pd_callD C__law_sizes (hr.mono (by decide)) (by rfl) (pda_cons (pd_var (pv 0)) pda_nil)) (pdg_tup (n := 2) rfl (pdgs_cons (pdg_name (pg_name (i := 1) nd rfl (by first | exact Or.inl rfl | exact Or.inr rfl))) (pdgs_cons (pdg_name (pg_name (i := 2) nd rfl (by first | exact Or.inl rfl | exact Or.inr rfl))) pdgs_nil))))
      (pds_cons (pds_set (pd_tup (pda_cons (pd_callD C__law_table_of (hr.mono (by decide)) (by rfl) (pda_cons (pd_var (pv 0)) (pda_cons (pd_var (pv 1)) (pda_cons (pd_var (pv 2)) pda_nil)))) (pda_cons (pd_callD C__law_table_of (hr.mono (by decide)) (by rfl) (pda_cons (pd_var (pv 0)) (pda_cons (pd_var (pv 1)) (pda_cons (pd_var (pv 2)) pda_nil)))) pda_nil))) (fun _ h => ps_set (i := 3) nd rfl (by first | exact Or.inl rfl | exact Or.inr rfl) h))
      (pds_cons (pds_for PassesOwn.never rfl (pdi_range (by rfl) m_range (pda_cons pd_int pda_nil)) (pdg_name (pg_name (i := 4) nd rfl (by first | exact Or.inl rfl | exact Or.inr rfl))) (pds_cons (pds_par (pda_cons (pd_callD C__law_some_world (hr.mono (by decide)) (by rfl) (pda_cons (pd_var (pv 0)) (pda_cons (pd_var (pv 1)) (pda_cons (pd_var (pv 2)) pda_nil)))) (pda_cons (pd_callD C__law_some_chance (hr.mono (by decide)) (by rfl) (pda_cons (pd_var (pv 0)) (pda_cons (pd_var (pv 1)) pda_nil))) pda_nil)) (fun _ h => ps_par (i := 5) (j := 6) rfl nd rfl rfl (by decide) rfl rfl h rfl))
      (pds_cons (pds_asg (pd_callD C__law_some_parting (hr.mono (by decide)) (by rfl) (pda_cons (pd_var (pv 0)) (pda_cons (pd_var (pv 1)) pda_nil))) (pdg_tup (n := 2) rfl (pdgs_cons (pdg_name (pg_name (i := 7) nd rfl (by first | exact Or.inl rfl | exact Or.inr rfl))) (pdgs_cons (pdg_name (pg_name (i := 8) nd rfl (by first | exact Or.inl rfl | exact Or.inr rfl))) pdgs_nil))))
      (pds_cons (pds_set (pd_callD C__law_some_trial (hr.mono (by decide)) (by rfl) (pda_cons (pd_var (pv 0)) (pda_cons (pd_var (pv 1)) pda_nil))) (fun _ h => ps_set (i := 9) nd rfl (by first | exact Or.inl rfl | exact Or.inr rfl) h))
      (pds_cons (pds_set (pd_lst (pda_cons (pd_callD C_is_setting (hr.mono (by decide)) (by rfl) (pda_cons (pd_var (pv 5)) pda_nil)) (pda_cons (pd_callD C_is_belief (hr.mono (by decide)) (by rfl) (pda_cons (pd_var (pv 3)) (pda_cons (pd_var (pv 6)) pda_nil))) (pda_cons (pd_callD C_is_split (hr.mono (by decide)) (by rfl) (pda_cons (pd_var (pv 3)) (pda_cons (pd_var (pv 7)) (pda_cons (pd_var (pv 8)) pda_nil)))) pda_nil)))) (fun _ h => ps_set (i := 10) nd rfl (by first | exact Or.inl rfl | exact Or.inr rfl) h))
      (pds_cons (pds_set (pd_lst (pda_cons (pd_callD C__law_is_world (hr.mono (by decide)) (by rfl) (pda_cons (pd_var (pv 5)) pda_nil)) (pda_cons (pd_callD C__law_is_chance (hr.mono (by decide)) (by rfl) (pda_cons (pd_var (pv 6)) (pda_cons (pd_var (pv 1)) pda_nil))) (pda_cons (pd_callD C__law_is_parting (hr.mono (by decide)) (by rfl) (pda_cons (pd_var (pv 8)) (pda_cons (pd_var (pv 7)) pda_nil))) pda_nil)))) (fun _ h => ps_set (i := 11) nd rfl (by first | exact Or.inl rfl | exact Or.inr rfl) h))
      (pds_cons (pds_if (ptd_cmp op_ne mon_gF snd_ne (nomark _) (pd_B (call_repr hgd hr) snd_repr mon_gA (by rfl) m_repr bt_repr (pda_cons (pd_var (pv 10)) pda_nil)) (pd_B (call_repr hgd hr) snd_repr mon_gA (by rfl) m_repr bt_repr (pda_cons (pd_var (pv 11)) pda_nil))) (pds_one (pd_ret pd_bl)) pds_nil)
      (pds_cons (pds_set (pd_lst (pda_cons (pd_callKD CK_is_setting__value (hr.mono (by decide)) (by rfl) (pdk_cons (pd_var (pv 5)) pdk_nil)) (pda_cons (pd_callKD CK_is_belief__value_setting (hr.mono (by decide)) (by rfl) (pdk_cons (pd_var (pv 6)) (pdk_cons (pd_var (pv 3)) pdk_nil))) pda_nil))) (fun _ h => ps_set (i := 10) nd rfl (by first | exact Or.inl rfl | exact Or.inr rfl) h))
      (pds_cons (pds_if (ptd_cmp op_ne mon_gF snd_ne (nomark _) (pd_B (call_repr hgd hr) snd_repr mon_gA (by rfl) m_repr bt_repr (pda_cons (pd_op addW_ok mon_gF snd_addW (pd_var (pv 10)) (pd_lst (pda_cons (pd_callKD CK_is_split__prior_value_setting (hr.mono (by decide)) (by rfl) (pdk_cons (pd_var (pv 7)) (pdk_cons (pd_var (pv 8)) (pdk_cons (pd_var (pv 3)) pdk_nil)))) pda_nil))) pda_nil)) (pd_B (call_repr hgd hr) snd_repr mon_gA (by rfl) m_repr bt_repr (pda_cons (pd_var (pv 11)) pda_nil))) (pds_one (pd_ret pd_bl)) pds_nil)
      (pds_cons (pds_set (pd_lst (pda_cons (pd_callD C_is_experiment (hr.mono (by decide)) (by rfl) (pda_cons (pd_var (pv 3)) (pda_cons (pd_var (pv 9)) pda_nil))) (pda_cons (pd_callKD CK_is_experiment__setting_value (hr.mono (by decide)) (by rfl) (pdk_cons (pd_var (pv 3)) (pdk_cons (pd_var (pv 9)) pdk_nil))) pda_nil))) (fun _ h => ps_set (i := 10) nd rfl (by first | exact Or.inl rfl | exact Or.inr rfl) h))
      (pds_one (pds_if (ptd_cmp op_ne mon_gF snd_ne (nomark _) (pd_B (call_repr hgd hr) snd_repr mon_gA (by rfl) m_repr bt_repr (pda_cons (pd_var (pv 10)) pda_nil)) (pd_B (call_repr hgd hr) snd_repr mon_gA (by rfl) m_repr bt_repr (pda_cons (pd_of_N (pdn_rep (pda_cons (pd_callD C__law_is_trial (hr.mono (by decide)) (by rfl) (pda_cons (pd_var (pv 9)) (pda_cons (pd_var (pv 1)) pda_nil))) pda_nil) pd_int)) pda_nil))) (pds_one (pd_ret pd_bl)) pds_nil))))))))))))
      (pds_cons (pds_set (pd_callD C__law_odd (hr.mono (by decide)) (by rfl) (pda_cons (pd_var (pv 0)) pda_nil)) (fun _ h => ps_set (i := 12) nd rfl (by first | exact Or.inl rfl | exact Or.inr rfl) h))
      (pds_cons (pds_set (pd_lst (pda_cons (pd_callD C__law_is_world (hr.mono (by decide)) (by rfl) (pda_cons (pd_var (pv 12)) pda_nil)) (pda_cons (pd_callD C__law_is_chance (hr.mono (by decide)) (by rfl) (pda_cons (pd_var (pv 12)) (pda_cons (pd_var (pv 1)) pda_nil))) (pda_cons (pd_callD C__law_is_parting (hr.mono (by decide)) (by rfl) (pda_cons (pd_var (pv 12)) (pda_cons (pd_var (pv 7)) pda_nil))) (pda_cons (pd_callD C__law_is_trial (hr.mono (by decide)) (by rfl) (pda_cons (pd_var (pv 12)) (pda_cons (pd_var (pv 1)) pda_nil))) (pda_cons pd_bl pda_nil)))))) (fun _ h => ps_set (i := 11) nd rfl (by first | exact Or.inl rfl | exact Or.inr rfl) h))
      (pds_cons (pds_set (pd_lst (pda_cons (pd_callD C_is_setting (hr.mono (by decide)) (by rfl) (pda_cons (pd_var (pv 12)) pda_nil)) (pda_cons (pd_callD C_is_belief (hr.mono (by decide)) (by rfl) (pda_cons (pd_var (pv 3)) (pda_cons (pd_var (pv 12)) pda_nil))) (pda_cons (pd_callD C_is_split (hr.mono (by decide)) (by rfl) (pda_cons (pd_var (pv 3)) (pda_cons (pd_var (pv 7)) (pda_cons (pd_var (pv 12)) pda_nil)))) (pda_cons (pd_callD C_is_experiment (hr.mono (by decide)) (by rfl) (pda_cons (pd_var (pv 3)) (pda_cons (pd_var (pv 12)) pda_nil))) pda_nil))))) (fun _ h => ps_set (i := 10) nd rfl (by first | exact Or.inl rfl | exact Or.inr rfl) h))
      (pds_one (pd_ret (pd_cmp (eq_ok hr.units) mon_gF snd_eq (nomark _) (pd_B (call_repr hgd hr) snd_repr mon_gA (by rfl) m_repr bt_repr (pda_cons (pd_op addW_ok mon_gF snd_addW (pd_var (pv 10)) (pd_lst (pda_cons (pd_callD C_is_setting (hr.mono (by decide)) (by rfl) (pda_cons (pd_var (pv 3)) pda_nil)) pda_nil))) pda_nil)) (pd_B (call_repr hgd hr) snd_repr mon_gA (by rfl) m_repr bt_repr (pda_cons (pd_var (pv 11)) pda_nil)))))))))))) ?_
  intro ss μ Q hl h
  obtain ⟨w0, ms, rfl, rfl, ⟨hw, hms⟩, q⟩ := h
  walk_at "dv"
  refine ⟨w0, ms, rfl, rfl, hw, fun n m w1 hw1 hs => ?_⟩
  obtain ⟨hn2, hn4, hm1, hm5⟩ := hs
  walk_at "dv"
  refine ⟨w1, ms, n, m, rfl, rfl, ⟨hw1, by omega, by omega⟩, fun p w2 hw2 hp => ?_⟩
  walk_at "dv"
  refine ⟨w2, ms, n, m, rfl, rfl, ⟨hw2, by omega, by omega⟩, fun v w3 hw3 hv => ?_⟩
  have hW := world_is hp hv hm1 hm5 hn2 hn4
  have fW := world_fit hp hv hm5 hn4
  have sW := hW.1
  walk_at "dv"
  generalize D.tup [tabD p, tabD v] = wd at hW fW sW ⊢
  have rb : IsW w3 := hw3
  refine ⟨by decide, by decide, ?_⟩
  rw [show rngD 2 = (List.range 2).map fun (i : Nat) => D.int (i : Int) from rfl]
  refine loop_inv (fun (i : Nat) => D.int (i : Int)) (fun i ρ μ' => ∃ w s4 s5 s6 s7 s8 s9 s10 s11, ρ = [some (.m 0), some (.d (.int (n : Int))), some (.d (.int (m : Int))), some (.d wd), s4, s5, s6, s7, s8, s9, s10, s11, none] ∧ μ' = w :: ms ∧ IsW w ∧ (i ≠ 0 → ∃ st, s7 = some (.d (rowD st)) ∧ Bel st n ∧ fit (rowD st))) (List.range 2) 0 _ _ ?_ ?_ ⟨w3, _, _, _, _, _, _, _, _, rfl, rfl, hw3, fun h => absurd rfl h⟩
  · rintro i s _ _ hi ⟨w, s4, s5, s6, s7, s8, s9, s10, s11, rfl, rfl, hw, _⟩
    refine ⟨trivial, fun k' hrt hk => ?_⟩
    walk_at "dv"
    refine ⟨w, ms, n, m, rfl, rfl, ⟨hw, hn2, hn4, hm1, hm5⟩, fun some_ w5 hw5 fsome => ?_⟩
    walk_at "dv"
    refine ⟨w5, ms, n, rfl, rfl, ⟨hw5, hn2, hn4⟩, fun chance w6 hw6 fch => ?_⟩
    walk_at "dv"
    refine ⟨w6, ms, n, rfl, rfl, ⟨hw6, by omega, hn4⟩, fun st d w7 hw7 hd => ?_⟩
    obtain ⟨hb, fst, fd, td⟩ := hd
    have lst := hb.len
    walk_at "dv"
    refine ⟨w7, ms, n, rfl, rfl, ⟨hw7, hn2, hn4, hms⟩, fun trial w8 hw8 ftr => ?_⟩
    walk_at "dv"
    clear hrt
    refine ⟨some_, rfl, fsome, ?_⟩
    refine ⟨wd, n, chance, rfl, ⟨fW, hW, fch⟩, ?_⟩
    refine ⟨wd, n, st, d, rfl, ⟨fW, hW, hb, fst, fd, td⟩, ?_⟩
    walk_at "dv"
    refine ⟨some_, rfl, fsome, ?_⟩
    refine ⟨chance, n, rfl, ⟨fch, by omega⟩, ?_⟩
    refine ⟨d, st, rfl, ⟨fd, td, by omega, by omega⟩, ?_⟩
    walk_at "dv"
    refine ⟨sh3 _ _ _, sh3 _ _ _, ?_⟩
    refine ⟨some_, rfl, fsome, ?_⟩
    refine ⟨wd, n, chance, rfl, ⟨fW, hW, fch⟩, ?_⟩
    refine ⟨wd, n, st, d, rfl, ⟨fW, hW, hb, fst, fd, td⟩, ?_⟩
    walk_at "dv"
    refine ⟨sh3 _ _ _, sh3 _ _ _, ?_⟩
    refine ⟨wd, n, trial, rfl, ⟨fW, hW, ftr⟩, ?_⟩
    refine ⟨wd, n, trial, rfl, ⟨fW, hW, ftr⟩, ?_⟩
    refine ⟨sh2 _ _, ?_⟩
    refine ⟨trial, n, rfl, ⟨ftr, by omega⟩, ?_⟩
    refine ⟨by decide, by decide, sh2 _ _, ?_⟩
    rw [show [[D.bl (isExpB n trial)], [D.bl (isExpB n trial)]].flatten = [D.bl (isExpB n trial), D.bl (isExpB n trial)] from rfl]
    walk_at "dv"
    exact hk _ _ ⟨w8, _, _, _, _, _, _, _, _, rfl, rfl, hw8, fun _ => ⟨st, rfl, hb, fst⟩⟩
  · rintro _ _ ⟨w, s4, s5, s6, s7, s8, s9, s10, s11, rfl, rfl, hw, hst⟩
    obtain ⟨st, rfl, hb, fst⟩ := hst (by decide)
    have lst := hb.len
    refine ⟨trivial, ?_⟩
    walk_at "dv"
    refine ⟨w, ms, rfl, rfl, hw, fun odd w5 hw5 ho => ?_⟩
    obtain ⟨fo, to⟩ := odd_fit ho
    refine ⟨odd, rfl, fo, ?_⟩
    refine ⟨odd, n, rfl, ⟨fo, by omega⟩, ?_⟩
    refine ⟨odd, st, rfl, ⟨fo, by omega, by omega, by omega⟩, ?_⟩
    refine ⟨odd, n, rfl, ⟨fo, by omega⟩, ?_⟩
    walk_at "dv"
    refine ⟨odd, rfl, fo, ?_⟩
    refine ⟨wd, n, odd, rfl, ⟨fW, hW, fo⟩, ?_⟩
    refine ⟨wd, n, st, odd, rfl, ⟨fW, hW, hb, fst, fo, by omega⟩, ?_⟩
    refine ⟨wd, n, odd, rfl, ⟨fW, hW, fo⟩, ?_⟩
    walk_at "dv"
    refine ⟨wd, rfl, fW, ?_⟩
    rw [sW]
    walk_at "dv"
    refine ⟨sh5 _ _ _ _ _, sh5 _ _ _ _ _, ?_⟩
    exact q w5
def T_law : TF := fun ss μ P => ∃ (ns : List Int), ss = [.d (.lst (ns.map D.int))] ∧ (ns.length ≤ 1000) ∧ P (.bl true) μ
theorem mon_law : MonF T_law := fun ss μ P P' k ⟨a, e, h, q⟩ => ⟨a, e, h, k _ _ q⟩
theorem okF_law {f : Addr} {fd : FuncData} (F : Fun K "law" "law" s_law f fd) (C__law_right : DefOkG P w K mg base "_law_right" 11 1 T__law_right) (C__law_well : DefOkN P w K mg base "_law_well" 1 2 T__law_well) (m_all : mg "all" = none) (m_len : mg "len" = none) (m_max : mg "max" = none) (m_min : mg "min" = none) (m_range : mg "range" = none) :
    DG.GOk P w K mg base 12 f fd ["script"] (spT 1 K T_law) := by
  have nd := (sc_law).nd
  refine ok_defg (k := 11) F sc_law (fun cdv A outer s H E hgd hr =>
    (pds_one (pd_ret (pd_B (cr_all rfl) snd_all mon_gA (by rfl) m_all bt_all (pda_cons (pd_of_N (pdn_lc (own := [("lap", 1)]) rfl nd (pdi_range (by rfl) m_range (pda_cons (pd_B (call_max2 rfl) snd_max2 mon_gA (by rfl) m_max bt_max (pda_cons pd_int (pda_cons (pd_B (call_min2 rfl) snd_min2 mon_gA (by rfl) m_min bt_min (pda_cons (pd_B call_len_seq snd_len mon_gA (by rfl) m_len bt_len (pda_cons (pd_var (pv 0)) pda_nil)) (pda_cons pd_int pda_nil))) pda_nil))) pda_nil)) (blkOk_by (N := N_law) (sc := defScope s_law) (by decide +kernel)) (fun _ _ _ _ _ => (pdg_name (pg_name (i := 1) nd rfl (by first | exact Or.inl rfl | exact Or.inr rfl)))) (fun _ _ _ _ _ => pdts_nil) (fun _ _ _ _ _ => (pd_callOn C__law_right hgd (hr.mono (by decide)) (by rfl) (pdn_callN C__law_well (hr.mono (by decide)) (by rfl) (pda_cons (pd_var (pv 0)) (pda_cons (pd_var (pv 1)) pda_nil))))) (by decide))) pda_nil))))) ?_
  intro ss μ Q hl h
  obtain ⟨ns, rfl, hn, q⟩ := h
  have tail : ∀ L : Nat, L ≤ 1000 → lcLoop (gN 1) fYes (fCallOn T__law_right (fCallN 2 T__law_well (fACons (fVar 0) (fACons (fVar 1) fANil)))) (fun _ => True) [some (S.d (D.lst (ns.map D.int))), none] (rngD (L : Int)) [] μ (fun ds μ' => ∃ d, gAll ds = some d ∧ Q d (List.take μ.length μ')) := by
    intro L hL
    rw [rngD_nat]
    refine lc_map (fun (i : Nat) => D.int (i : Int)) (fun _ => .bl true) μ (fun _ => trivial) (List.range L) _ (fun i hi acc P P2 h => ?_) (by simp; omega) ?_
    · walk_at "dv"
      refine ⟨ns, i, rfl, hn, fun w' hw' => ?_⟩
      exact ⟨w', [], rfl, rfl, ⟨hw', rfl⟩, fun w2 => ⟨true, rfl, h⟩⟩
    · rw [all_bl (fun _ => true)]
      refine ⟨_, rfl, ?_⟩
      rw [List.take_length, show (List.range L).all (fun _ => true) = true by simp]
      exact q
  walk_at "dv"
  rw [List.length_map]
  by_cases c : (4 : Int) < (ns.length : Int)
  · simp only [if_pos c]
    rw [if_pos (by decide)]
    exact ⟨by decide, by decide, tail 4 (by decide)⟩
  · simp only [if_neg c]
    by_cases c2 : (2 : Int) < (ns.length : Int)
    · simp only [if_pos c2]
      exact ⟨by omega, by omega, tail ns.length hn⟩
    · simp only [if_neg c2]
      exact ⟨by decide, by decide, tail 2 (by decide)⟩
end K2

/-! part Q17 -/
set_option Elab.async false
set_option linter.all false
set_option maxRecDepth 100000
set_option autoImplicit false
namespace K2
open PySem PySem.Spec L2 DV
/-! ### a list of lists of ints, all of one's own -/
def colD (l : List Int) : D := .lst (l.map D.int)
structure Own (K : PySem.W.Frag) (H0 : Hp) (ad : List Addr) (μ : Mu) (c : Addr) (as : List Addr) (cols : List (List Int)) (H : Hp) : Prop where
  st : Step ad H0 ad H
  m : RpM K H ad μ
  out : ∀ a ∈ c :: as, a ∉ ad
  f0 : ∀ a ∈ c :: as, H0 a = none
  nd : (c :: as).Nodup
  hc : H c = some (.lst (as.map .ref))
  len : as.length = cols.length
  at_ : ∀ (i : Nat) (a : Addr) (l : List Int), as[i]? = some a → cols[i]? = some l → H a = some (.lst (l.map .int))
section
variable {K : PySem.W.Frag} {H0 H H' : Hp} {ad : List Addr} {μ μ' : Mu} {c : Addr} {as : List Addr} {cols : List (List Int)} {w : List D}
theorem Own.keep (o : Own K H0 ad μ c as cols H) (t : Step ad H ad H') (m : RpM K H' ad μ') : Own K H0 ad μ' c as cols H' :=
  ⟨o.st.trans t, m, o.out, o.f0, o.nd, (t.keep c _ (o.out c (by simp)) o.hc).2, o.len, fun i a l h1 h2 =>
    (t.keep a _ (o.out a (List.mem_cons_of_mem _ (List.mem_of_getElem? h1))) (o.at_ i a l h1 h2)).2⟩
theorem Own.rp (o : Own K H0 ad μ c as cols H) : Rp K (hide ad H) (.ref c) (.lst (cols.map colD)) := by
  refine .lst (xs := as.map .ref) (.inl (.inl ?_)) ?_
  · rw [hide_out (o.out c (by simp))]; exact o.hc
  · have key : ∀ (bs : List Addr) (ls : List (List Int)), bs.length = ls.length → (∀ (i : Nat) (a : Addr) (l : List Int), bs[i]? = some a → ls[i]? = some l → a ∉ ad ∧ H a = some (.lst (l.map .int))) → RpA K (hide ad H) (bs.map V.ref) (ls.map colD) := by
      intro bs
      induction bs with
      | nil => intro ls hl _; cases ls with
        | nil => exact .nil
        | cons l ls => simp at hl
      | cons b bs ih =>
        intro ls hl h
        cases ls with
        | nil => simp at hl
        | cons l ls =>
          obtain ⟨h1, h2⟩ := h 0 b l rfl rfl
          refine .cons (.lst (xs := l.map .int) (.inl (.inl ?_)) (RpA.ints l)) (ih ls (by simpa using hl) fun i a l' e1 e2 => h (i + 1) a l' (by simpa using e1) (by simpa using e2))
          rw [hide_out h1]; exact h2
    exact key as cols o.len fun i a l h1 h2 => ⟨o.out a (List.mem_cons_of_mem _ (List.mem_of_getElem? h1)), o.at_ i a l h1 h2⟩
/-- a new list that is not yet theirs -/
structure Fresh (H0 : Hp) (ad : List Addr) (c : Addr) (as : List Addr) (p : Addr) (l : List Int) (H : Hp) : Prop where
  out : p ∉ ad
  f0 : H0 p = none
  ni : p ∉ c :: as
  hp : H p = some (.lst (l.map .int))
theorem Own.fresh (o : Own K H0 ad μ c as cols H) {p : Addr} {l : List Int} (hp : H p = none) (t : Step ad H (ad ++ [p]) H') (m : RpM K H' (ad ++ [p]) (μ' ++ [l.map D.int])) : Own K H0 ad μ' c as cols H' ∧ Fresh H0 ad c as p l H' := by
  obtain ⟨m1, r1, h1⟩ := m.last
  have o1 := o.keep (step_less t) m1
  have hn : p ∉ c :: as := fun q => by
    rcases List.mem_cons.mp q with q | q
    · subst q; rw [o.hc] at hp; cases hp
    · obtain ⟨i, hi, e⟩ := List.getElem_of_mem q
      have h2 : as[i]? = some p := by rw [List.getElem?_eq_getElem hi, e]
      have hl : i < cols.length := by rw [← o.len]; exact hi
      have := o.at_ i p _ h2 (List.getElem?_eq_getElem hl)
      rw [hp] at this; cases this
  refine ⟨o1, h1, ?_, hn, ?_⟩
  · cases e : H0 p with
    | none => rfl
    | some u =>
      have := (o.st.keep p u h1 e).2
      rw [hp] at this; cases this
  · have hl := m.len
    rw [List.length_append, List.length_append] at hl
    have hl2 : ad.length = μ'.length := by simpa using hl
    obtain ⟨a, xs, q1, q2, q3⟩ := m.at_ μ'.length _ (by rw [List.getElem?_append_right (Nat.le_refl _), Nat.sub_self]; rfl)
    rw [← hl2, List.getElem?_append_right (Nat.le_refl _), Nat.sub_self] at q1
    cases q1
    rw [rpA_ints q3] at q2
    exact q2
theorem Own.fit_step (o : Own K H0 ad μ c as cols H) {p : Addr} {x : HO} (hp : p ∈ c :: as) : Step ad H0 ad (upd H p x) :=
  ⟨List.prefix_refl _, fun b u hb e => ⟨hb, by
    rw [upd_ne fun q => ?_]
    · exact (o.st.keep b u hb e).2
    · subst q; rw [o.f0 b hp] at e; cases e⟩⟩
/-- an own list is changed -/
theorem Own.rpm (o : Own K H0 ad [w] c as cols H) (hw : IsW w) {p : Addr} {x : HO} (hp : p ∉ ad) : RpM K (upd H p x) ad [w] := by
  obtain ⟨a1, a2, a3, rfl, _⟩ := hw
  refine ⟨o.m.len, o.m.nd, fun j ds e => ?_⟩
  obtain ⟨a, xs, q1, q2, q3⟩ := o.m.at_ j ds e
  have e2 : ds = [a1, a2, a3].map D.int := by
    cases j with
    | zero => cases e; rfl
    | succ j => cases e
  subst e2
  refine ⟨a, xs, q1, ?_, ?_⟩
  · rw [upd_ne (fun z : a = p => hp (z ▸ List.mem_of_getElem? q1))]; exact q2
  · rw [rpA_ints q3]; exact RpA.ints _
theorem Own.app (o : Own K H0 ad [w] c as cols H) (hw : IsW w) {p : Addr} {l : List Int} (f : Fresh H0 ad c as p l H) : Own K H0 ad [w] c (as ++ [p]) (cols ++ [l]) (upd H c (.lst (as.map .ref ++ [.ref p]))) := by
  have hc : c ∈ c :: as := by simp
  have hpc : p ≠ c := fun e => f.ni (e ▸ hc)
  refine ⟨o.fit_step hc, o.rpm hw (o.out c hc), fun a h => ?_, fun a h => ?_, ?_, ?_, by rw [List.length_append, List.length_append, o.len]; rfl, fun i a k h1 h2 => ?_⟩
  · rw [← List.cons_append] at h
    rcases List.mem_append.mp h with h | h
    · exact o.out a h
    · rw [List.mem_singleton] at h; exact h ▸ f.out
  · rw [← List.cons_append] at h
    rcases List.mem_append.mp h with h | h
    · exact o.f0 a h
    · rw [List.mem_singleton] at h; exact h ▸ f.f0
  · rw [← List.cons_append, List.nodup_append]
    exact ⟨o.nd, by simp, fun a ha b hb e => by rw [List.mem_singleton] at hb; subst hb; subst e; exact f.ni ha⟩
  · rw [upd_same, List.map_append]; rfl
  · by_cases hi : i < as.length
    · rw [List.getElem?_append_left hi] at h1
      rw [List.getElem?_append_left (by rw [← o.len]; exact hi)] at h2
      rw [upd_ne (fun e : a = c => (List.nodup_cons.mp o.nd).1 (e ▸ List.mem_of_getElem? h1))]
      exact o.at_ i a k h1 h2
    · rw [List.getElem?_append_right (by omega)] at h1
      rw [List.getElem?_append_right (by rw [← o.len]; omega)] at h2
      rw [o.len] at h1
      cases q : i - cols.length with
      | zero =>
        rw [q] at h1 h2
        cases h1; cases h2
        rw [upd_ne hpc]; exact f.hp
      | succ z => rw [q] at h1; cases h1
theorem Own.put (o : Own K H0 ad [w] c as cols H) (hw : IsW w) {p : Addr} {l : List Int} (f : Fresh H0 ad c as p l H) {j : Nat} : Own K H0 ad [w] c (as.set j p) (cols.set j l) (upd H c (.lst ((as.map .ref).set j (.ref p)))) := by
  have hc : c ∈ c :: as := by simp
  have hpc : p ≠ c := fun e => f.ni (e ▸ hc)
  have sub : ∀ a ∈ c :: as.set j p, a ∈ c :: as ∨ a = p := fun a h => by
    rcases List.mem_cons.mp h with h | h
    · exact .inl (h ▸ hc)
    · rcases List.mem_or_eq_of_mem_set h with h | h
      · exact .inl (List.mem_cons_of_mem _ h)
      · exact .inr h
  refine ⟨o.fit_step hc, o.rpm hw (o.out c hc), fun a h => ?_, fun a h => ?_, ?_, ?_, by rw [List.length_set, List.length_set, o.len], fun i a k h1 h2 => ?_⟩
  · rcases sub a h with h | h
    · exact o.out a h
    · exact h ▸ f.out
  · rcases sub a h with h | h
    · exact o.f0 a h
    · exact h ▸ f.f0
  · rw [List.nodup_cons]
    have h1 := List.nodup_cons.mp o.nd
    have h2 : p ∉ as := fun h => f.ni (List.mem_cons_of_mem _ h)
    refine ⟨fun h => ?_, ?_⟩
    · rcases List.mem_or_eq_of_mem_set h with h | h
      · exact h1.1 h
      · exact hpc h.symm
    · refine List.pairwise_iff_getElem.mpr fun i i' hi hi' hii e => ?_
      rw [List.length_set] at hi hi'
      rw [List.getElem_set, List.getElem_set] at e
      by_cases c1 : j = i
      · rw [if_pos c1, if_neg (by omega)] at e
        exact h2 (e ▸ List.getElem_mem hi')
      · rw [if_neg c1] at e
        by_cases c2 : j = i'
        · rw [if_pos c2] at e
          exact h2 (e ▸ List.getElem_mem hi)
        · rw [if_neg c2] at e
          exact (List.pairwise_iff_getElem.mp h1.2) i i' hi hi' hii e
  · rw [upd_same, List.map_set]
  · rw [List.getElem?_set] at h1 h2
    by_cases c1 : j = i
    · rw [if_pos c1] at h1 h2
      split at h1
      · cases h1
        split at h2
        · cases h2
          rw [upd_ne hpc]; exact f.hp
        · cases h2
      · cases h1
    · rw [if_neg c1] at h1 h2
      rw [upd_ne (fun e : a = c => (List.nodup_cons.mp o.nd).1 (e ▸ List.mem_of_getElem? h1))]
      exact o.at_ i a k h1 h2
theorem Own.store (o : Own K H0 ad [w] c as cols H) (hw : IsW w) {p : Addr} {l : List Int} {j s : Nat} {v : Int} (h1 : as[j]? = some p) (h2 : cols[j]? = some l) : Own K H0 ad [w] c as (cols.set j (l.set s v)) (upd H p (.lst ((l.map .int).set s (.int v)))) := by
  have hp : p ∈ as := List.mem_of_getElem? h1
  have hpc : p ∈ c :: as := List.mem_cons_of_mem _ hp
  have hn := List.nodup_cons.mp o.nd
  refine ⟨o.fit_step hpc, o.rpm hw (o.out p hpc), o.out, o.f0, o.nd, ?_, by rw [List.length_set]; exact o.len, fun i a k e1 e2 => ?_⟩
  · rw [upd_ne (fun e : c = p => hn.1 (e ▸ hp))]; exact o.hc
  · by_cases c1 : j = i
    · subst c1
      rw [h1] at e1
      cases e1
      rw [List.getElem?_set, if_pos rfl] at e2
      split at e2
      · cases e2
        rw [upd_same, List.map_set]
      · cases e2
    · rw [List.getElem?_set, if_neg c1] at e2
      rw [upd_ne fun e => ?_]
      · exact o.at_ i a k e1 e2
      · obtain ⟨l1, q1⟩ := List.getElem?_eq_some_iff.mp h1
        obtain ⟨l2, q2⟩ := List.getElem?_eq_some_iff.mp e1
        exact c1 ((List.getElem_inj hn.2).mp (q1.trans (e ▸ q2.symm)))
/-! ### slots -/
def light (r : Option S) : Prop := r = none ∨ ∃ i, r = some (.d (.int i))
/-- the slots: the well, n, 6, (the columns), turn, s, way, .. -/
def rhoT (n : Nat) (x : Option S) (r4 r5 r6 : Option S) : Rho := [some (.m 0), some (.d (.int (n : Int))), some (.d (.int 6)), x, r4, r5, r6, none, none, none]
/-- where one is -/
structure At (K : PySem.W.Frag) (H0 : Hp) (ad : List Addr) (c : Addr) (n : Nat) (w : List D) (as : List Addr) (cols : List (List Int)) (r4 r5 r6 : Option S) (σ : St) (H : Hp) : Prop where
  iw : IsW w
  o : Own K H0 ad [w] c as cols H
  len : σ.length = 10
  e0 : ∃ a, ad[0]? = some a ∧ σ[0]? = some (some (.ref a))
  e1 : σ[1]? = some (some (.int (n : Int)))
  e2 : σ[2]? = some (some (.int 6))
  e3 : σ[3]? = some (some (.ref c))
  e4 : ∀ i, r4 = some (.d (.int i)) → σ[4]? = some (some (.int i))
  e5 : ∀ i, r5 = some (.d (.int i)) → σ[5]? = some (some (.int i))
  e6 : ∀ i, r6 = some (.d (.int i)) → σ[6]? = some (some (.int i))
  l4 : light r4
  l5 : light r5
  l6 : light r6
variable {n : Nat} {r4 r5 r6 : Option S} {σ : St}
theorem At.sim (t : At K H0 ad c n w as cols r4 r5 r6 σ H) : Sim K H ad (rhoT n (some (.d (.lst (cols.map colD)))) r4 r5 r6) [w] σ := by
  have hl : ∀ {r : Option S} {j : Nat} {x : S}, light r → (∀ i, r = some (.d (.int i)) → σ[j]? = some (some (.int i))) → r = some x → ∃ v, σ[j]? = some (some v) ∧ RpS K (hide ad H) ad v x := by
    intro r j x h k e
    subst e
    rcases h with h | ⟨i, h⟩
    · cases h
    · cases h; exact ⟨_, k i rfl, .int i⟩
  refine ⟨t.o.m, by rw [t.len]; rfl, fun i x e => ?_⟩
  unfold rhoT at e
  match i, e with
  | 0, e => cases e; obtain ⟨a, h1, h2⟩ := t.e0; exact ⟨_, h2, a, h1, rfl⟩
  | 1, e => cases e; exact ⟨_, t.e1, .int _⟩
  | 2, e => cases e; exact ⟨_, t.e2, .int _⟩
  | 3, e => cases e; exact ⟨_, t.e3, t.o.rp⟩
  | 4, e => exact hl t.l4 t.e4 (by simpa using e)
  | 5, e => exact hl t.l5 t.e5 (by simpa using e)
  | 6, e => exact hl t.l6 t.e6 (by simpa using e)
  | 7, e => simp at e
  | 8, e => simp at e
  | 9, e => simp at e
  | i + 10, e => simp at e
/-- the own ones may change, the slots stand -/
theorem At.to {w' : List D} {as' : List Addr} {cols' : List (List Int)} (t : At K H0 ad c n w as cols r4 r5 r6 σ H) (hw : IsW w') (o : Own K H0 ad [w'] c as' cols' H') : At K H0 ad c n w' as' cols' r4 r5 r6 σ H' :=
  ⟨hw, o, t.len, t.e0, t.e1, t.e2, t.e3, t.e4, t.e5, t.e6, t.l4, t.l5, t.l6⟩
theorem At.keep {w' : List D} (t : At K H0 ad c n w as cols r4 r5 r6 σ H) (hw : IsW w') (s : Step ad H ad H') (m : RpM K H' ad [w']) : At K H0 ad c n w' as cols r4 r5 r6 σ H' :=
  t.to hw (t.o.keep s m)
theorem set_ne {σ : St} {i j : Nat} {v : Option V} (h : i ≠ j) : (σ.set i v)[j]? = σ[j]? := List.getElem?_set_ne h
theorem At.set4 (t : At K H0 ad c n w as cols r4 r5 r6 σ H) (i : Int) : At K H0 ad c n w as cols (some (.d (.int i))) r5 r6 (σ.set 4 (some (.int i))) H :=
  ⟨t.iw, t.o, by rw [List.length_set]; exact t.len, by rw [set_ne (by decide)]; exact t.e0, by rw [set_ne (by decide)]; exact t.e1, by rw [set_ne (by decide)]; exact t.e2, by rw [set_ne (by decide)]; exact t.e3,
    fun k e => by cases e; rw [List.getElem?_set_self (by rw [t.len]; decide)], fun k e => by rw [set_ne (by decide)]; exact t.e5 k e, fun k e => by rw [set_ne (by decide)]; exact t.e6 k e, .inr ⟨i, rfl⟩, t.l5, t.l6⟩
theorem At.set5 (t : At K H0 ad c n w as cols r4 r5 r6 σ H) (i : Int) : At K H0 ad c n w as cols r4 (some (.d (.int i))) r6 (σ.set 5 (some (.int i))) H :=
  ⟨t.iw, t.o, by rw [List.length_set]; exact t.len, by rw [set_ne (by decide)]; exact t.e0, by rw [set_ne (by decide)]; exact t.e1, by rw [set_ne (by decide)]; exact t.e2, by rw [set_ne (by decide)]; exact t.e3,
    fun k e => by rw [set_ne (by decide)]; exact t.e4 k e, fun k e => by cases e; rw [List.getElem?_set_self (by rw [t.len]; decide)], fun k e => by rw [set_ne (by decide)]; exact t.e6 k e, t.l4, .inr ⟨i, rfl⟩, t.l6⟩
theorem At.set6 (t : At K H0 ad c n w as cols r4 r5 r6 σ H) (i : Int) : At K H0 ad c n w as cols r4 r5 (some (.d (.int i))) (σ.set 6 (some (.int i))) H :=
  ⟨t.iw, t.o, by rw [List.length_set]; exact t.len, by rw [set_ne (by decide)]; exact t.e0, by rw [set_ne (by decide)]; exact t.e1, by rw [set_ne (by decide)]; exact t.e2, by rw [set_ne (by decide)]; exact t.e3,
    fun k e => by rw [set_ne (by decide)]; exact t.e4 k e, fun k e => by rw [set_ne (by decide)]; exact t.e5 k e, fun k e => by cases e; rw [List.getElem?_set_self (by rw [t.len]; decide)], t.l4, t.l5, .inr ⟨i, rfl⟩⟩
/-! ### what is asked of an expression, behind a veil -/
def Kt (K : PySem.W.Frag) (ad : List Addr) (H : Hp) (Q : VK) : S → Mu → Prop := fun x μ' => ∀ v H', Step ad H ad H' → RpM K H' ad μ' → RpS K (hide ad H') ad v x → Q v H'
def Kb (K : PySem.W.Frag) (ad : List Addr) (H : Hp) (Q : Bool → Hp → Prop) : Bool → Mu → Prop := fun b μ' => ∀ H', Step ad H ad H' → RpM K H' ad μ' → Q b H'
def Ka (K : PySem.W.Frag) (ad : List Addr) (H : Hp) (Q : List V → Hp → Prop) : List S → Mu → Prop := fun xs μ' => ∀ vs H', Step ad H ad H' → RpM K H' ad μ' → RpSA K (hide ad H') ad vs xs → Q vs H'
def Kn (K : PySem.W.Frag) (ad : List Addr) (H : Hp) (Q : VK) : List D → Mu → Prop := fun ds μ' => ∀ p H', H p = none → Step ad H (ad ++ [p]) H' → RpM K H' (ad ++ [p]) (μ' ++ [ds]) → Q (.ref p) H'
theorem te_of {ρ : Rho} {f : SE} {Q : VK} (s : Sim K H ad ρ μ σ) (h : ∀ k : S → Mu → Prop, k = Kt K ad H Q → f ρ μ k) : teOf K f σ H Q := ⟨ad, ρ, μ, s, h _ rfl⟩
theorem tt_of {ρ : Rho} {f : STe} {Q : Bool → Hp → Prop} (s : Sim K H ad ρ μ σ) (h : ∀ k : Bool → Mu → Prop, k = Kb K ad H Q → f ρ μ k) : ttOf K f σ H Q := ⟨ad, ρ, μ, s, h _ rfl⟩
theorem ta_of {ρ : Rho} {f : SA} {Q : List V → Hp → Prop} (s : Sim K H ad ρ μ σ) (h : ∀ k : List S → Mu → Prop, k = Ka K ad H Q → f ρ μ k) : taOf K f σ H Q := ⟨ad, ρ, μ, s, h _ rfl⟩
theorem tn_of {ρ : Rho} {f : SN} {Q : VK} (s : Sim K H ad ρ μ σ) (h : ∀ k : List D → Mu → Prop, k = Kn K ad H Q → f ρ μ k) : tnOf K f σ H Q := ⟨ad, ρ, μ, s, h _ rfl⟩
end
end K2

/-! part Q18 -/
set_option Elab.async false
set_option linter.all false
set_option maxRecDepth 100000
set_option autoImplicit false
set_option exponentiation.threshold 9000
set_option maxHeartbeats 1000000
namespace K2
open PySem PySem.Spec L2 DV
open PyProof.Rows (envOfC)
variable {P : Program} {w : World} {K : PySem.W.Frag} {mg : Str → Option Value} {base : Heap}

local macro_rules | `(tactic| walk_at "dv") => `(tactic| simp only [startR, cRepV, fANew, fAsgG, fIxW, cRepU, fIStar, fIZipG, fParDN, cInP, fInP, lstOf, fIns, fExt, fIsN, fIsNotN, isNonS, fAug, fAddW, fSubW, fGtW, fMul2, fModM, cAddW, cEqP, fEqP, fNeP, fInI, fIsiW, Option.bind_some, fRevT, fMk, fBare, fAtt, fIsX, fIsXT, fRaise, fRaise0, fTry, clD, suiteD, kNo, kBut, fXatt, fExprX, fCallX, kDX, gRepr2, cRepr2, datOf, errOf, kD, fin, fSeq, fNext, fDrop, fNRep, fNRg, fParN0, fPar3, fPar3N, fAsg, fRet, fIfS, fNever, fPar, fNew, fApp, fVar, fC, fOp, fTest, fTAnd, fTOr, fTNot, fVAnd, fVOr, fVNot, fNeg, fIf, fChain, fANil, fACons, fTup, fLst, fCB, fNLst, fOfN, fYes, fIsi, fONone, fOSome, fSl, sliceF,
  gF, gA, cI, fI, c0, cAdd, fAdd, fIx, cRepT, fRepT, fEq, fNe, fNotIn, intsOf, blsOf, allD, seqOf, tupOf, fLen, cA0, f1L, gSum, fTupleOf, fListOf, fA1, fA2, cDm, gN, gsNil_eq, gsCons_eq, gT_eq, gSb_eq, isB, itemsOf, fISeq, fIRng, fIEnum, fIZip, fIZipTL, fFor, fLc, wipeR, fCall, fCallK, fRetN, kN, fCallN, fCallOn, kwS, pick, gRepr, cRepr, List.filterMap_cons_some, List.filterMap_nil,
  List.map_cons, List.map_nil, List.length_cons, List.length_nil, List.replicate_succ, List.replicate_zero, List.cons_append, List.nil_append, List.append_nil, List.getElem?_cons_zero, List.getElem?_cons_succ, List.getElem?_nil, List.set_cons_zero, List.set_cons_succ, List.set_nil, List.take_succ_cons, List.take_zero, List.take_nil,
  Option.map_some, Option.map_none, Option.some.injEq, Option.get_some, exists_eq_left', exists_eq_left, exists_eq_right, true_and, and_true, if_true, if_false, reduceCtorEq, ite_true, ite_false, S.d.injEq, S.m.injEq, D.int.injEq, D.tup.injEq, D.lst.injEq, D.bl.injEq, D.str.injEq, List.cons.injEq, exists_and_left, exists_and_right,
  Nat.sub_zero, Nat.reduceSub, Nat.reduceAdd, Nat.zero_add, Nat.add_zero, Bool.not_true, Bool.not_false, Bool.false_eq_true, decide_eq_true_eq, Nat.reduceLT, Nat.reduceLeDiff, Nat.le_refl, List.take_length, Int.reduceLT, Int.reduceToNat, Nat.lt_irrefl, gt_iff_lt, Nat.not_lt_zero, Int.cast_ofNat_Int, decide_true, decide_false, and_assoc, Bool.false_and, Bool.true_and])

def csum (cols : List (List Int)) (s : Nat) : Int := (cols.map fun l => l.getD s 0).sum
def Bnd (n : Nat) (cols : List (List Int)) : Prop := ∀ l ∈ cols, l.length = n ∧ ∀ x ∈ l, 0 ≤ x ∧ x ≤ 12
def gIt1 : SA := fACons (fOp (gF cAddW fAddW) (fC (D.int 1)) (fCall 2 T__law_draw (fACons (fVar 0) (fACons (fVar 2) fANil)))) fANil
def gOne : SN := fLc (fIRng (fACons (fVar 1) fANil)) (gN 5) fYes (fCall 2 T__law_one (fACons (fVar 0) (fACons (fTup (fACons (fC (D.int 0)) (fACons (fC (D.int 1)) (fACons (fC (D.int 1)) (fACons (fC (D.int 2)) (fACons (fC (D.int 3)) (fACons (fC (D.int 0)) fANil))))))) fANil))) [5]
def gDraw8 : SE := fCall 2 T__law_draw (fACons (fVar 0) (fACons (fC (D.int 8)) fANil))
def gWay (i : Int) : STe := fTest (fOp (gF c0 fEq) (fVar 6) (fC (D.int i)))
def gDbl : SN := fLc (fISeq (fOp (gF c0 fIx) (fVar 3) (fC (D.int 0)))) (gN 8) fYes (fOp (gF (cI CMulW) (fI fun i j => D.int (i * j))) (fC (D.int 2)) (fVar 8)) [8]
def gRepN : SN := fNRep (fACons (fC (D.int 0)) fANil) (fVar 1)
def gSum3 : SE := fCB (gA cA0 (f1L gSum)) (fACons (fOfN (fLc (fISeq (fVar 3)) (gN 9) fYes (fOp (gF c0 fIx) (fVar 9) (fVar 5)) [9])) fANil)
def gSum0 : STe := fTest (fOp (gF c0 fEq) gSum3 (fC (D.int 0)))
def gDrawN : SE := fCall 2 T__law_draw (fACons (fVar 0) (fACons (fCB (gA cA0 fLen) (fACons (fVar 3) fANil)) fANil))
section
variable {x : Option S} {r4 r5 r6 : Option S} {n : Nat} {w : List D} {cols : List (List Int)}
theorem r_it1 {k : List S → Mu → Prop} (hw : IsW w) (h : ∀ (r : Int) (w' : List D), IsW w' → 0 ≤ r → r < 6 → k [.d (.int (1 + r))] [w']) : gIt1 (rhoT n x r4 r5 r6) [w] k := by
  unfold gIt1 rhoT
  walk_at "dv"
  refine ⟨w, [], 6, rfl, rfl, ⟨hw, by decide, by decide⟩, fun r w' h1 h2 h3 => ?_⟩
  walk_at "dv"
  exact h r w' h1 h2 h3
theorem r_draw8 {k : S → Mu → Prop} (hw : IsW w) (h : ∀ (r : Int) (w' : List D), IsW w' → 0 ≤ r → r < 8 → k (.d (.int r)) [w']) : gDraw8 (rhoT n x r4 r5 r6) [w] k := by
  unfold gDraw8 rhoT
  walk_at "dv"
  exact ⟨w, [], 8, rfl, rfl, ⟨hw, by decide, by decide⟩, h⟩
theorem r_way {k : Bool → Mu → Prop} {i j : Int} (h : k (decide (j = i)) [w]) : gWay i (rhoT n x r4 r5 (some (.d (.int j)))) [w] k := by
  unfold gWay rhoT
  walk_at "dv"
  exact h
theorem flat1 {α : Type} {a : α} : ∀ n : Nat, (List.replicate n [a]).flatten = List.replicate n a
  | 0 => rfl
  | n + 1 => by rw [List.replicate_succ, List.flatten_cons, flat1 n, List.replicate_succ]; rfl
theorem r_rep {k : List D → Mu → Prop} (n4 : n ≤ 4) (h : k ((List.replicate n 0).map D.int) [w]) : gRepN (rhoT n x r4 r5 r6) [w] k := by
  unfold gRepN rhoT
  walk_at "dv"
  rw [List.map_replicate] at h
  refine ⟨by omega, by omega, ?_⟩
  rw [Int.toNat_natCast, flat1]
  exact h
theorem r_one {k : List D → Mu → Prop} (hw : IsW w) (n4 : n ≤ 4) (h : ∀ (l : List Int) (w' : List D), IsW w' → l.length = n → (∀ x ∈ l, (0 : Int) ≤ x ∧ x ≤ 3) → k (l.map D.int) [w']) : gOne (rhoT n x r4 r5 r6) [w] k := by
  unfold gOne rhoT
  walk_at "dv"
  refine ⟨by omega, by omega, ?_⟩
  rw [rngD_nat]
  refine lc_draw (fun (i : Nat) => D.int (i : Int)) (fun _ d => ∃ i : Int, d = .int i ∧ 0 ≤ i ∧ i ≤ 3) [] (fun _ _ => trivial) (List.range n) [] w _ (fun a ha w acc P P2 hw k => ?_) hw (by simp; omega) fun ds w' hw' hr => ?_
  · walk_at "dv"
    refine ⟨w, _, _, .inl rfl, rfl, ⟨hw, by simp, by decide⟩, fun d w' hw' hd => ?_⟩
    refine k d w' hw' ?_
    simp only [List.mem_cons, List.not_mem_nil, or_false] at hd
    rcases hd with e | e | e | e | e | e <;> exact ⟨_, e, by decide, by decide⟩
  · have key : ∀ {is : List Nat} {ds : List D}, AllR (fun _ d => ∃ i : Int, d = .int i ∧ 0 ≤ i ∧ i ≤ 3) is ds → ∃ l : List Int, ds = l.map D.int ∧ l.length = is.length ∧ ∀ x ∈ l, (0 : Int) ≤ x ∧ x ≤ 3 := by
      intro is ds r
      induction r with
      | nil => exact ⟨[], rfl, rfl, fun x h => by cases h⟩
      | cons h _ ih =>
        obtain ⟨i, rfl, h1, h2⟩ := h
        obtain ⟨l, rfl, e, b⟩ := ih
        exact ⟨i :: l, rfl, by rw [List.length_cons, List.length_cons, e], fun x hx => by
          rcases List.mem_cons.mp hx with q | q
          · exact q ▸ ⟨h1, h2⟩
          · exact b x q⟩
    obtain ⟨l, rfl, e, b⟩ := key hr
    rw [List.length_range] at e
    rw [List.nil_append]
    exact h l w' hw' e b
theorem r_dbl {k : List D → Mu → Prop} {l0 : List Int} {cs : List (List Int)} (hl : l0.length ≤ 4) (hb : ∀ x ∈ l0, (0 : Int) ≤ x ∧ x ≤ 12) (h : k ((l0.map (2 * ·)).map D.int) [w]) : gDbl (rhoT n (some (.d (.lst ((l0 :: cs).map colD)))) r4 r5 r6) [w] k := by
  unfold gDbl rhoT
  walk_at "dv"
  unfold colD
  walk_at "dv"
  refine lc_map D.int (fun i => .int (2 * i)) [w] (fun _ => trivial) l0 _ (fun a ha acc P P2 h => ?_) (by omega) ?_
  · have := hb a ha
    walk_at "dv"
    exact ⟨mul_ok (a := 2) (b := 4) (by decide) (by omega) (by decide), h⟩
  · rw [List.map_map] at h
    exact h
theorem get_col {l : List Int} {s : Nat} (h : s < l.length) : (l.map D.int)[s]? = some (.int (l.getD s 0)) := by
  rw [List.getElem?_map, List.getElem?_eq_getElem h, List.getD_eq_getElem?_getD, List.getElem?_eq_getElem h]; rfl
theorem r_sum3 {μ : Mu} {k : S → Mu → Prop} {s : Nat} (hs : s < n) (hb : Bnd n cols) (hl : cols.length ≤ 6) (h : k (.d (.int (csum cols s))) μ) : gSum3 (rhoT n (some (.d (.lst (cols.map colD)))) r4 (some (.d (.int (s : Int)))) r6) μ k := by
  unfold gSum3 rhoT
  walk_at "dv"
  refine lc_map colD (fun l => .int (l.getD s 0)) μ (fun _ => trivial) cols _ (fun a ha acc P P2 h => ?_) (by omega) ?_
  · have hla := (hb a ha).1
    unfold colD
    walk_at "dv"
    rw [if_neg (by omega), Int.toNat_natCast, get_col (by omega)]
    exact ⟨_, rfl, h⟩
  · rw [show (cols.map fun l => D.int (l.getD s 0)) = (cols.map fun l => l.getD s 0).map D.int by rw [List.map_map]; rfl, ints_map]
    exact ⟨_, rfl, h⟩
theorem r_sum0 {k : Bool → Mu → Prop} {s : Nat} (hs : s < n) (hb : Bnd n cols) (hl : cols.length ≤ 6) (h : k (decide (csum cols s = 0)) [w]) : gSum0 (rhoT n (some (.d (.lst (cols.map colD)))) r4 (some (.d (.int (s : Int)))) r6) [w] k := by
  unfold gSum0 fTest fOp
  refine r_sum3 hs hb hl ?_
  walk_at "dv"
  exact h
theorem r_drawN {k : S → Mu → Prop} (hw : IsW w) (h0 : 0 < cols.length) (hl : cols.length ≤ 6) (h : ∀ (r : Int) (w' : List D), IsW w' → 0 ≤ r → r < cols.length → k (.d (.int r)) [w']) : gDrawN (rhoT n (some (.d (.lst (cols.map colD)))) r4 r5 r6) [w] k := by
  unfold gDrawN rhoT
  walk_at "dv"
  rw [List.length_map]
  exact ⟨w, [], cols.length, rfl, rfl, ⟨hw, by omega, by omega⟩, h⟩
end

end K2

/-! part Q19 -/
set_option Elab.async false
set_option linter.all false
set_option maxRecDepth 100000
set_option autoImplicit false
set_option exponentiation.threshold 9000
set_option maxHeartbeats 1000000
namespace K2
open PySem PySem.Spec L2 DV
open PyProof.Rows (envOfC)

local macro_rules | `(tactic| walk_at "dv") => `(tactic| simp only [startR, cRepV, fANew, fAsgG, fIxW, cRepU, fIStar, fIZipG, fParDN, cInP, fInP, lstOf, fIns, fExt, fIsN, fIsNotN, isNonS, fAug, fAddW, fSubW, fGtW, fMul2, fModM, cAddW, cEqP, fEqP, fNeP, fInI, fIsiW, Option.bind_some, fRevT, fMk, fBare, fAtt, fIsX, fIsXT, fRaise, fRaise0, fTry, clD, suiteD, kNo, kBut, fXatt, fExprX, fCallX, kDX, gRepr2, cRepr2, datOf, errOf, kD, fin, fSeq, fNext, fDrop, fNRep, fNRg, fParN0, fPar3, fPar3N, fAsg, fRet, fIfS, fNever, fPar, fNew, fApp, fVar, fC, fOp, fTest, fTAnd, fTOr, fTNot, fVAnd, fVOr, fVNot, fNeg, fIf, fChain, fANil, fACons, fTup, fLst, fCB, fNLst, fOfN, fYes, fIsi, fONone, fOSome, fSl, sliceF,
  gF, gA, cI, fI, c0, cAdd, fAdd, fIx, cRepT, fRepT, fEq, fNe, fNotIn, intsOf, blsOf, allD, seqOf, tupOf, fLen, cA0, f1L, gSum, fTupleOf, fListOf, fA1, fA2, cDm, gN, gsNil_eq, gsCons_eq, gT_eq, gSb_eq, isB, itemsOf, fISeq, fIRng, fIEnum, fIZip, fIZipTL, fFor, fLc, wipeR, fCall, fCallK, fRetN, kN, fCallN, fCallOn, kwS, pick, gRepr, cRepr, List.filterMap_cons_some, List.filterMap_nil,
  List.map_cons, List.map_nil, List.length_cons, List.length_nil, List.replicate_succ, List.replicate_zero, List.cons_append, List.nil_append, List.append_nil, List.getElem?_cons_zero, List.getElem?_cons_succ, List.getElem?_nil, List.set_cons_zero, List.set_cons_succ, List.set_nil, List.take_succ_cons, List.take_zero, List.take_nil,
  Option.map_some, Option.map_none, Option.some.injEq, Option.get_some, exists_eq_left', exists_eq_left, exists_eq_right, true_and, and_true, if_true, if_false, reduceCtorEq, ite_true, ite_false, S.d.injEq, S.m.injEq, D.int.injEq, D.tup.injEq, D.lst.injEq, D.bl.injEq, D.str.injEq, List.cons.injEq, exists_and_left, exists_and_right,
  Nat.sub_zero, Nat.reduceSub, Nat.reduceAdd, Nat.zero_add, Nat.add_zero, Bool.not_true, Bool.not_false, Bool.false_eq_true, decide_eq_true_eq, Nat.reduceLT, Nat.reduceLeDiff, Nat.le_refl, List.take_length, Int.reduceLT, Int.reduceToNat, Nat.lt_irrefl, gt_iff_lt, Nat.not_lt_zero, Int.cast_ofNat_Int, decide_true, decide_false, and_assoc, Bool.false_and, Bool.true_and])

def gIndex : SE := fNeg (fC (D.int 1))
def tApp1 (K : PySem.W.Frag) : TS := tDrop (tBM K "list" rAppend (tVar 3) (tCons (tnOf K gOne) tNil))
def tDbl (K : PySem.W.Frag) : TS := tAsg (tnOf K gDbl) (gSub (tVar 3) (teOf K gIndex) rSetL)
def tRep (K : PySem.W.Frag) : TS := tAsg (tnOf K gRepN) (gSub (tVar 3) (teOf K gIndex) rSetL)
def tBody1 (K : PySem.W.Frag) : TS := tSeq (tApp1 K) (tSeq (tAsg (teOf K gDraw8) (gName 6)) (tIfS (ttOf K (gWay 0)) (tDbl K) (tIfS (ttOf K (gWay 1)) (tRep K) tNext)))
def tLoop1 (K : PySem.W.Frag) : TS := tFor (iRng1 (taOf K gIt1)) (gName 4) (tBody1 K)
def tStore (K : PySem.W.Frag) : TS := tAsg (tC (V.int 1)) (gSub (tOp (rIxL K) (tVar 3) (teOf K gDrawN)) (tVar 5) rSetL)
def tLoop2 (K : PySem.W.Frag) : TS := tFor (iRng1 (taOf K (fACons (fVar 1) fANil))) (gName 5) (tIfS (ttOf K gSum0) (tStore K) tNext)
section
variable {K : PySem.W.Frag} {H0 H H' : Hp} {ad : List Addr} {c : Addr} {as : List Addr} {cols : List (List Int)} {n : Nat} {w : List D} {r4 r5 r6 : Option S} {σ : St} {Dn : Ends}
theorem Fresh.keep {p : Addr} {l : List Int} (f : Fresh H0 ad c as p l H) (s : Step ad H ad H') : Fresh H0 ad c as p l H' := ⟨f.out, f.f0, f.ni, (s.keep p _ f.out f.hp).2⟩
theorem app1_reads (t : At K H0 ad c n w as cols r4 r5 r6 σ H) (n4 : n ≤ 4) (h6 : cols.length ≤ 6) (k : ∀ (l : List Int) (w' : List D) (as' : List Addr) (H' : Hp), At K H0 ad c n w' as' (cols ++ [l]) r4 r5 r6 σ H' → l.length = n → (∀ x ∈ l, (0 : Int) ≤ x ∧ x ≤ 3) → Dn.nx σ H') : tApp1 K Dn σ H := by
  refine ⟨_, t.e3, .inl ⟨rfl, _, .inl (.inl t.o.hc)⟩, tn_of t.sim fun k' e => r_one t.iw n4 fun l w' hw' hl hb => ?_⟩
  subst e
  intro p H1 hp st m
  obtain ⟨o1, f⟩ := t.o.fresh hp st m
  have hz : (as.map V.ref).length < sizeLine := by rw [List.length_map, o1.len]; exact Nat.lt_of_le_of_lt h6 (by decide)
  exact ⟨c, as.map .ref, .ref p, rfl, rfl, o1.hc, hz, k l w' _ _ (t.to hw' (o1.app hw' f)) hl hb⟩
theorem ix_last {n : Nat} (h : 0 < n) : ixN n (-1) = some (n - 1) := by
  unfold ixN
  rw [if_neg (by omega), if_pos (by omega)]
  congr 1
  omega
/-- columns[-1] = a new list -/
theorem last_reads {f : SN} (t : At K H0 ad c n w as cols r4 r5 r6 σ H) (h0 : 0 < cols.length) (l : List Int) (hf : ∀ k : List D → Mu → Prop, k (l.map D.int) [w] → f (rhoT n (some (.d (.lst (cols.map colD)))) r4 r5 r6) [w] k)
    (k : ∀ (as' : List Addr) (H' : Hp), At K H0 ad c n w as' (cols.set (cols.length - 1) l) r4 r5 r6 σ H' → Dn.nx σ H') : tAsg (tnOf K f) (gSub (tVar 3) (teOf K gIndex) rSetL) Dn σ H := by
  refine tn_of t.sim fun k' e => hf k' ?_
  subst e
  intro p H1 hp st m
  obtain ⟨o1, f1⟩ := t.o.fresh hp st m
  have t1 := t.to t.iw o1
  refine ⟨_, t1.e3, te_of t1.sim fun k' e => ?_⟩
  show k' (.d (.int (-1))) [w]
  subst e
  intro v H2 s2 m2 rv
  obtain rfl := rp_int rv
  have o2 := o1.keep s2 m2
  have f2 := f1.keep s2
  have hl : (as.map V.ref).length = cols.length := by rw [List.length_map, o1.len]
  refine ⟨c, as.map .ref, -1, cols.length - 1, rfl, rfl, o2.hc, by rw [hl]; exact ix_last h0, ?_⟩
  exact k _ _ (t1.to t.iw (o2.put t.iw f2))
structure Good (n i : Nat) (cols : List (List Int)) : Prop where
  len : cols.length = i
  bnd : Bnd n cols
  fst : ∀ l, cols[0]? = some l → ∀ x ∈ l, x ≤ 6
theorem body1_reads {i : Nat} (t : At K H0 ad c n w as cols r4 r5 r6 σ H) (n4 : n ≤ 4) (hi : i < 6) (g : Good n i cols) (k : ∀ (w' : List D) (as' : List Addr) (cols' : List (List Int)) (r : Option S) (σ' : St) (H' : Hp), At K H0 ad c n w' as' cols' r4 r5 r σ' H' → Good n (i + 1) cols' → Dn.nx σ' H') : tBody1 K Dn σ H := by
  refine app1_reads t n4 (by rw [g.len]; omega) fun l w1 as1 H1 t1 hl hb => ?_
  have g1 : Good n (i + 1) (cols ++ [l]) := by
    refine ⟨by rw [List.length_append, g.len]; rfl, fun l' h' => ?_, fun l' h' => ?_⟩
    · rcases List.mem_append.mp h' with h' | h'
      · exact g.bnd l' h'
      · rw [List.mem_singleton] at h'
        subst h'
        exact ⟨hl, fun x hx => by have := hb x hx; omega⟩
    · by_cases c0 : 0 < cols.length
      · rw [List.getElem?_append_left c0] at h'
        exact g.fst l' h'
      · have e0 : cols = [] := List.eq_nil_of_length_eq_zero (by omega)
        subst e0
        cases h'
        exact fun x hx => by have := hb x hx; omega
  have g3 : ∀ l', (cols ++ [l]).length = 1 → (cols ++ [l])[0]? = some l' → ∀ x ∈ l', x ≤ 3 := fun l' h1 h' => by
    rw [List.length_append, List.length_singleton] at h1
    have e0 : cols = [] := List.eq_nil_of_length_eq_zero (by omega)
    subst e0
    cases h'
    exact fun x hx => (hb x hx).2
  generalize cols ++ [l] = cs1 at t1 g1 g3
  refine te_of t1.sim fun k' e => r_draw8 t1.iw fun r w2 hw2 r0 r8 => ?_
  subst e
  intro v H2 s2 m2 rv
  obtain rfl := rp_int rv
  have t2 := (t1.keep hw2 s2 m2).set6 r
  refine tt_of t2.sim fun k' e => r_way ?_
  subst e
  intro H3 s3 m3
  have t3 := t2.keep hw2 s3 m3
  obtain ⟨l0, cs, rfl⟩ : ∃ l0 cs, cs1 = l0 :: cs := by
    cases cs1 with
    | nil => have := g1.len; simp at this
    | cons a b => exact ⟨a, b, rfl⟩
  have bl0 := g1.bnd l0 (by simp)
  have fl0 := g1.fst l0 rfl
  have hlen := g1.len
  have put : ∀ l' : List Int, l'.length = n → (∀ x ∈ l', (0 : Int) ≤ x ∧ x ≤ 12) → ((l0 :: cs).length = 1 → ∀ x ∈ l', x ≤ 6) → Good n (i + 1) ((l0 :: cs).set ((l0 :: cs).length - 1) l') := fun l' h1 h2 h3 => by
    refine ⟨by rw [List.length_set]; exact hlen, fun l'' h => ?_, fun l'' h => ?_⟩
    · rcases List.mem_or_eq_of_mem_set h with h | h
      · exact g1.bnd _ h
      · exact h ▸ ⟨h1, h2⟩
    · rw [List.getElem?_set] at h
      split at h
      · rename_i z
        split at h
        · cases h
          exact h3 (by simp at z ⊢; omega)
        · cases h
      · exact g1.fst l'' h
  by_cases c0 : r = 0
  · rw [if_pos (by rw [decide_eq_true c0])]
    refine last_reads t3 (by simp) (l0.map (2 * ·)) (fun k' h => r_dbl (by omega) bl0.2 h) fun as' H' t' => k _ _ _ _ _ _ t' (put _ (by rw [List.length_map]; exact bl0.1) (fun x hx => ?_) fun h1 x hx => ?_)
    · obtain ⟨y, hy, rfl⟩ := List.mem_map.mp hx
      have := bl0.2 y hy
      have := fl0 y hy
      show 0 ≤ 2 * y ∧ 2 * y ≤ 12
      omega
    · obtain ⟨y, hy, rfl⟩ := List.mem_map.mp hx
      have := g3 l0 h1 rfl y hy
      show 2 * y ≤ 6
      omega
  · rw [if_neg (by rw [decide_eq_false c0]; decide)]
    refine tt_of t3.sim fun k' e => r_way ?_
    subst e
    intro H4 s4 m4
    have t4 := t3.keep hw2 s4 m4
    by_cases c1 : r = 1
    · rw [if_pos (by rw [decide_eq_true c1])]
      refine last_reads t4 (by simp) (List.replicate n 0) (fun k' h => r_rep n4 h) fun as' H' t' => k _ _ _ _ _ _ t' (put _ (by rw [List.length_replicate]) (fun x hx => ?_) fun h1 x hx => ?_)
      · rw [(List.mem_replicate.mp hx).2]; decide
      · rw [(List.mem_replicate.mp hx).2]; decide
    · rw [if_neg (by rw [decide_eq_false c1]; decide)]
      exact k _ _ _ _ _ _ t4 g1
theorem loop1_reads (t : At K H0 ad c n w [] [] r4 r5 r6 σ H) (n4 : n ≤ 4) (k : ∀ (w' : List D) (as' : List Addr) (cols' : List (List Int)) (r r' : Option S) (N : Nat) (σ' : St) (H' : Hp), At K H0 ad c n w' as' cols' r r5 r' σ' H' → Good n N cols' → 1 ≤ N → N ≤ 6 → Dn.nx σ' H') : tLoop1 K Dn σ H := by
  refine ta_of t.sim fun k' e => r_it1 t.iw fun r w1 hw1 r0 r6' => ?_
  subst e
  intro vs H1 s1 m1 rv
  obtain ⟨v, rfl, r2⟩ := rsa1 rv
  obtain rfl := rp_int r2
  have t1 := t.keep hw1 s1 m1
  refine ⟨1 + r, rfl, by omega, by omega, fun i m σ' H' => ∃ w as cols q4 q6, m = (1 + r).toNat - i ∧ i ≤ (1 + r).toNat ∧ At K H0 ad c n w as cols q4 r5 q6 σ' H' ∧ Good n i cols, ⟨_, w1, [], [], r4, r6, rfl, Nat.zero_le _, t1, ⟨rfl, (fun l h => by cases h), (fun l h => by cases h)⟩⟩, ?_⟩
  rintro i m σ2 H2 ⟨w2, as2, cols2, q4, q6, rfl, hi, t2, g2⟩
  by_cases hlt : i < (1 + r).toNat
  · refine .inr ⟨hlt, fun σ' H' => ∃ w as cols q4 q6, At K H0 ad c n w as cols q4 r5 q6 σ' H' ∧ Good n (i + 1) cols, fun σ' H' ⟨w, as, cols, q4, q6, z1, z2⟩ => ⟨(1 + r).toNat - (i + 1), by omega, w, as, cols, q4, q6, rfl, hlt, z1, z2⟩, fun x H3 y => ?_⟩
    obtain ⟨rfl, rfl⟩ := y
    refine body1_reads (t2.set4 _) n4 (by omega) g2 fun w3 as3 cols3 q σ3 H3 t3 g3 => ⟨w3, as3, cols3, _, q, t3, g3⟩
  · have e : i = (1 + r).toNat := by omega
    subst e
    exact .inl ⟨Nat.le_refl _, k _ _ _ _ _ _ _ _ t2 g2 (by omega) (by omega)⟩
theorem csum_nn (hb : Bnd n cols) (s : Nat) : ∀ y ∈ cols.map (fun l => l.getD s 0), (0 : Int) ≤ y ∧ y ≤ 12 := fun y hy => by
  obtain ⟨l, hl, rfl⟩ := List.mem_map.mp hy
  rw [List.getD_eq_getElem?_getD]
  cases e : l[s]? with
  | none => exact ⟨by decide, by decide⟩
  | some z => exact (hb l hl).2 z (List.mem_of_getElem? e)
theorem csum_le (hb : Bnd n cols) (s : Nat) {l : List Int} (hl : l ∈ cols) : 0 ≤ l.getD s 0 ∧ l.getD s 0 ≤ csum cols s :=
  ⟨(csum_nn hb s _ (List.mem_map.mpr ⟨l, hl, rfl⟩)).1, (sum_nn fun y hy => (csum_nn hb s y hy).1).2 _ (List.mem_map.mpr ⟨l, hl, rfl⟩)⟩
theorem csum_top (hb : Bnd n cols) (s : Nat) : csum cols s ≤ 17 * cols.length := by
  have := sum_le17 (ns := cols.map fun l => l.getD s 0) fun y hy => by have := (csum_nn hb s y hy).2; omega
  rw [List.length_map] at this
  exact this
theorem bnd_set (hb : Bnd n cols) {j s : Nat} {l : List Int} (hl : l ∈ cols) : Bnd n (cols.set j (l.set s 1)) := fun l' h => by
  rcases List.mem_or_eq_of_mem_set h with h | h
  · exact hb l' h
  · subst h
    refine ⟨by rw [List.length_set]; exact (hb l hl).1, fun x hx => ?_⟩
    rcases List.mem_or_eq_of_mem_set hx with h | h
    · exact (hb l hl).2 x h
    · subst h; decide
theorem csum_set (hb : Bnd n cols) {j s : Nat} {l : List Int} (hj : cols[j]? = some l) (hs : s < n) : 0 < csum (cols.set j (l.set s 1)) s := by
  have hl := List.mem_of_getElem? hj
  have h1 : l.set s 1 ∈ cols.set j (l.set s 1) := List.mem_of_getElem? (i := j) (by rw [List.getElem?_set_self (List.getElem?_eq_some_iff.mp hj).1])
  have := (csum_le (bnd_set hb hl) s h1).2
  rw [List.getD_eq_getElem?_getD, List.getElem?_set_self (by rw [(hb l hl).1]; exact hs)] at this
  have e : (some (1 : Int)).getD 0 = 1 := rfl
  omega
theorem csum_else {j s s' : Nat} {l : List Int} (hj : cols[j]? = some l) (hn : s ≠ s') : csum (cols.set j (l.set s 1)) s' = csum cols s' := by
  unfold csum
  rw [List.map_set, List.getD_eq_getElem?_getD, List.getElem?_set_ne hn]
  congr 1
  refine List.ext_getElem? fun i => ?_
  rw [List.getElem?_set]
  split
  · rename_i e
    subst e
    rw [List.getElem?_map, hj, if_pos (by rw [List.length_map]; exact (List.getElem?_eq_some_iff.mp hj).1)]
    rfl
  · rfl
theorem r_n {k : List S → Mu → Prop} {x : Option S} (h : k [.d (.int (n : Int))] [w]) : fACons (fVar 1) fANil (rhoT n x r4 r5 r6) [w] k := h
structure Good2 (n i N : Nat) (cols : List (List Int)) : Prop where
  len : cols.length = N
  bnd : Bnd n cols
  pos : ∀ s, s < i → 0 < csum cols s
theorem store_reads {s N : Nat} (t : At K H0 ad c n w as cols r4 (some (.d (.int (s : Int)))) r6 σ H) (hs : s < n) (N1 : 1 ≤ N) (N6 : N ≤ 6) (g : Good2 n s N cols) (k : ∀ (w' : List D) (cols' : List (List Int)) (H' : Hp), At K H0 ad c n w' as cols' r4 (some (.d (.int (s : Int)))) r6 σ H' → Good2 n (s + 1) N cols' → Dn.nx σ H') : tStore K Dn σ H := by
  have hN := g.len
  refine ⟨_, t.e3, te_of t.sim fun k' e => r_drawN t.iw (by omega) (by omega) fun r w1 hw1 r0 r1 => ?_⟩
  subst e
  intro v H1 s1 m1 rv
  obtain rfl := rp_int rv
  have t1 := t.keep hw1 s1 m1
  obtain ⟨j, rfl⟩ : ∃ j : Nat, r = (j : Int) := ⟨r.toNat, by omega⟩
  have hj : j < cols.length := by omega
  have hja : j < as.length := by rw [t1.o.len]; exact hj
  have ha : as[j]? = some as[j] := List.getElem?_eq_getElem hja
  have hc : cols[j]? = some cols[j] := List.getElem?_eq_getElem hj
  have hl := g.bnd _ (List.getElem_mem hj)
  have hix : ∀ {m : Nat}, j < m → ixN m (j : Int) = some j := fun h => by
    unfold ixN
    rw [if_pos (by omega), if_pos (by omega)]
    rfl
  have hsx : ∀ {m : Nat}, s < m → ixN m (s : Int) = some s := fun h => by
    unfold ixN
    rw [if_pos (by omega), if_pos (by omega)]
    rfl
  refine ⟨c, as.map .ref, (j : Int), .ref as[j], rfl, rfl, .inl (.inl t1.o.hc), ?_, _, t1.e5 _ rfl, as[j], cols[j].map .int, (s : Int), s, rfl, rfl, t1.o.at_ j _ _ ha hc, ?_, ?_⟩
  · unfold atI
    rw [hix (by rw [List.length_map]; exact hja)]
    show (as.map V.ref)[j]? = _
    rw [List.getElem?_map, ha]
    rfl
  · exact hsx (by rw [List.length_map, hl.1]; exact hs)
  · refine k w1 _ _ (t1.to hw1 (t1.o.store hw1 ha hc)) ⟨by rw [List.length_set]; exact hN, bnd_set g.bnd (List.getElem_mem hj), fun s' hs' => ?_⟩
    by_cases e : s = s'
    · subst e; exact csum_set g.bnd hc hs
    · rw [csum_else hc e]; exact g.pos s' (by omega)
theorem loop2_reads {N : Nat} (t : At K H0 ad c n w as cols r4 r5 r6 σ H) (n4 : n ≤ 4) (N1 : 1 ≤ N) (N6 : N ≤ 6) (g : Good2 n 0 N cols) (k : ∀ (w' : List D) (cols' : List (List Int)) (r : Option S) (σ' : St) (H' : Hp), At K H0 ad c n w' as cols' r4 r r6 σ' H' → Good2 n n N cols' → Dn.nx σ' H') : tLoop2 K Dn σ H := by
  refine ta_of t.sim fun k' e => r_n ?_
  subst e
  intro vs H1 s1 m1 rv
  obtain ⟨v, rfl, r2⟩ := rsa1 rv
  obtain rfl := rp_int r2
  have t1 := t.keep t.iw s1 m1
  refine ⟨(n : Int), rfl, by omega, by omega, fun i m σ' H' => ∃ w cols q5, m = n - i ∧ i ≤ n ∧ At K H0 ad c n w as cols r4 q5 r6 σ' H' ∧ Good2 n i N cols, ⟨_, _, _, _, rfl, Nat.zero_le _, t1, g⟩, ?_⟩
  rintro i m σ2 H2 ⟨w2, cols2, q5, rfl, hi, t2, g2⟩
  by_cases hlt : i < n
  · refine .inr ⟨by show i < (n : Int).toNat; omega, fun σ' H' => ∃ w cols q5, At K H0 ad c n w as cols r4 q5 r6 σ' H' ∧ Good2 n (i + 1) N cols, fun σ' H' ⟨w, cols, q5, z1, z2⟩ => ⟨n - (i + 1), by omega, w, cols, q5, rfl, hlt, z1, z2⟩, fun x H3 y => ?_⟩
    obtain ⟨rfl, rfl⟩ := y
    have t3 := t2.set5 (0 + (i : Int))
    rw [Int.zero_add] at t3
    have hN := g2.len
    rw [Int.zero_add]
    refine tt_of t3.sim fun k' e => r_sum0 hlt g2.bnd (by omega) ?_
    subst e
    intro H4 s4 m4
    have t4 := t3.keep t3.iw s4 m4
    by_cases c0 : csum cols2 i = 0
    · rw [if_pos (by rw [decide_eq_true c0])]
      exact store_reads t4 hlt N1 N6 g2 fun w' cols' H' t' g' => ⟨w', cols', _, t', g'⟩
    · rw [if_neg (by rw [decide_eq_false c0]; decide)]
      refine ⟨_, _, _, t4, g2.len, g2.bnd, fun s' hs' => ?_⟩
      by_cases e : s' = i
      · subst e
        have := (sum_nn fun y hy => (csum_nn g2.bnd s' y hy).1).1
        have : 0 ≤ csum cols2 s' := this
        omega
      · exact g2.pos s' (by omega)
  · have e : i = n := by omega
    subst e
    exact .inl ⟨by show (i : Int).toNat ≤ i; omega, k _ _ _ _ _ t2 g2⟩
end

end K2

/-! part Q20 -/
set_option Elab.async false
set_option linter.all false
set_option maxRecDepth 100000
set_option autoImplicit false
set_option exponentiation.threshold 9000
set_option maxHeartbeats 1000000
namespace K2
open PySem PySem.Spec L2 DV
open PyProof.Rows (envOfC)
variable {P : Program} {w : World} {K : PySem.W.Frag} {mg : Str → Option Value} {base : Heap}

local macro_rules | `(tactic| walk_at "dv") => `(tactic| simp only [startR, cRepV, fANew, fAsgG, fIxW, cRepU, fIStar, fIZipG, fParDN, cInP, fInP, lstOf, fIns, fExt, fIsN, fIsNotN, isNonS, fAug, fAddW, fSubW, fGtW, fMul2, fModM, cAddW, cEqP, fEqP, fNeP, fInI, fIsiW, Option.bind_some, fRevT, fMk, fBare, fAtt, fIsX, fIsXT, fRaise, fRaise0, fTry, clD, suiteD, kNo, kBut, fXatt, fExprX, fCallX, kDX, gRepr2, cRepr2, datOf, errOf, kD, fin, fSeq, fNext, fDrop, fNRep, fNRg, fParN0, fPar3, fPar3N, fAsg, fRet, fIfS, fNever, fPar, fNew, fApp, fVar, fC, fOp, fTest, fTAnd, fTOr, fTNot, fVAnd, fVOr, fVNot, fNeg, fIf, fChain, fANil, fACons, fTup, fLst, fCB, fNLst, fOfN, fYes, fIsi, fONone, fOSome, fSl, sliceF,
  gF, gA, cI, fI, c0, cAdd, fAdd, fIx, cRepT, fRepT, fEq, fNe, fNotIn, intsOf, blsOf, allD, seqOf, tupOf, fLen, cA0, f1L, gSum, fTupleOf, fListOf, fA1, fA2, cDm, gN, gsNil_eq, gsCons_eq, gT_eq, gSb_eq, isB, itemsOf, fISeq, fIRng, fIEnum, fIZip, fIZipTL, fFor, fLc, wipeR, fCall, fCallK, fRetN, kN, fCallN, fCallOn, kwS, pick, gRepr, cRepr, List.filterMap_cons_some, List.filterMap_nil,
  List.map_cons, List.map_nil, List.length_cons, List.length_nil, List.replicate_succ, List.replicate_zero, List.cons_append, List.nil_append, List.append_nil, List.getElem?_cons_zero, List.getElem?_cons_succ, List.getElem?_nil, List.set_cons_zero, List.set_cons_succ, List.set_nil, List.take_succ_cons, List.take_zero, List.take_nil,
  Option.map_some, Option.map_none, Option.some.injEq, Option.get_some, exists_eq_left', exists_eq_left, exists_eq_right, true_and, and_true, if_true, if_false, reduceCtorEq, ite_true, ite_false, S.d.injEq, S.m.injEq, D.int.injEq, D.tup.injEq, D.lst.injEq, D.bl.injEq, D.str.injEq, List.cons.injEq, exists_and_left, exists_and_right,
  Nat.sub_zero, Nat.reduceSub, Nat.reduceAdd, Nat.zero_add, Nat.add_zero, Bool.not_true, Bool.not_false, Bool.false_eq_true, decide_eq_true_eq, Nat.reduceLT, Nat.reduceLeDiff, Nat.le_refl, List.take_length, Int.reduceLT, Int.reduceToNat, Nat.lt_irrefl, gt_iff_lt, Nat.not_lt_zero, Int.cast_ofNat_Int, decide_true, decide_false, and_assoc, Bool.false_and, Bool.true_and])

def gRow : SE := fCB (gA cA0 fTupleOf) (fACons (fOfN (fLc (fISeq (fVar 3)) (gN 9) fYes (fCall 2 T__law_lean (fACons (fOp (gF c0 fIx) (fVar 9) (fVar 5)) (fACons (fOp (gF c0 fIx) (fVar 7) (fVar 5)) fANil))) [9])) fANil)
def gTail : SS := fSeq (fAsg (fOfN (fLc (fIRng (fACons (fVar 1) fANil)) (gN 5) fYes gSum3 [5])) (gN 7)) (fRet (fCB (gA cA0 fTupleOf) (fACons (fOfN (fLc (fIRng (fACons (fVar 1) fANil)) (gN 5) fYes gRow [5])) fANil)))
def trialOf (n : Nat) (cols : List (List Int)) : List (List Rat) := (List.range n).map fun s => cols.map fun l => Rat.divInt (l.getD s 0) (csum cols s)
theorem tri_of {n N : Nat} {cols : List (List Int)} (g : Good2 n n N cols) (N1 : 1 ≤ N) (N6 : N ≤ 6) : Tri n N (trialOf n cols) := by
  refine ⟨by unfold trialOf; rw [List.length_map, List.length_range], N1, N6, fun r hr => ?_⟩
  obtain ⟨s, hs, rfl⟩ := List.mem_map.mp hr
  rw [List.mem_range] at hs
  refine ⟨by rw [List.length_map]; exact g.len, fun x hx => ?_⟩
  obtain ⟨l, hl, rfl⟩ := List.mem_map.mp hx
  have p := g.pos s hs
  have q := csum_le g.bnd s hl
  have z := csum_top g.bnd s
  have := g.len
  exact z_div p (show (l.getD s 0).natAbs < 256 by omega) (show (csum cols s).natAbs < 256 by omega)
section
variable {r4 r5 r6 : Option S} {n N : Nat} {wl : List D} {cols : List (List Int)}
theorem r_row {μ : Mu} {k : S → Mu → Prop} {s : Nat} (g : Good2 n n N cols) (N6 : N ≤ 6) (hs : s < n) (h : k (.d (rowD (cols.map fun l => Rat.divInt (l.getD s 0) (csum cols s)))) μ) :
    gRow [some (.m 0), some (.d (.int (n : Int))), some (.d (.int 6)), some (.d (.lst (cols.map colD))), r4, some (.d (.int (s : Int))), r6, some (.d (.lst ((List.range n).map fun s => D.int (csum cols s)))), none, none] μ k := by
  have hN := g.len
  unfold gRow
  walk_at "dv"
  refine lc_map colD (fun l => frD (Rat.divInt (l.getD s 0) (csum cols s))) μ (fun _ => trivial) cols _ (fun a ha acc P P2 h => ?_) (by omega) ?_
  · have hla := (g.bnd a ha).1
    have hgs : ((List.range n).map fun s => D.int (csum cols s))[s]? = some (.int (csum cols s)) := by
      rw [List.getElem?_map, List.getElem?_range hs]; rfl
    unfold colD
    walk_at "dv"
    rw [if_neg (by omega), Int.toNat_natCast, get_col (by omega), hgs]
    have p := g.pos s hs
    have z := csum_top g.bnd s
    refine ⟨_, rfl, _, by rw [if_neg (by omega)], a.getD s 0, csum cols s, rfl, ⟨p, lt_8000 (n := 8) (show (csum cols s).natAbs < 2 ^ 8 by omega) (by decide)⟩, h⟩
  · unfold rowD at h
    rw [List.map_map] at h
    exact h
theorem r_tail {k : K4} (g : Good2 n n N cols) (N6 : N ≤ 6) (n4 : n ≤ 4) (h : k.rt (.d (tabD (trialOf n cols))) [wl]) : gTail (rhoT n (some (.d (.lst (cols.map colD)))) r4 r5 r6) [wl] k := by
  have hN := g.len
  unfold gTail rhoT
  walk_at "dv"
  refine ⟨by omega, by omega, ?_⟩
  rw [rngD_nat]
  refine lc_map (fun (i : Nat) => D.int (i : Int)) (fun s => .int (csum cols s)) [wl] (fun _ => trivial) (List.range n) _ (fun s hs acc P P2 h => ?_) (by simp; omega) ?_
  · rw [List.mem_range] at hs
    exact r_sum3 (r4 := r4) (r6 := r6) hs g.bnd (by omega) h
  · refine ⟨by omega, by omega, ?_⟩
    refine lc_map (fun (i : Nat) => D.int (i : Int)) (fun s => rowD (cols.map fun l => Rat.divInt (l.getD s 0) (csum cols s))) [wl] (fun _ => trivial) (List.range n) _ (fun s hs acc P P2 h => ?_) (by simp; omega) ?_
    · rw [List.mem_range] at hs
      exact r_row (r4 := r4) (r6 := r6) g N6 hs h
    · have e : D.tup ((List.range n).map fun s => rowD (cols.map fun l => Rat.divInt (l.getD s 0) (csum cols s))) = tabD (trialOf n cols) := by
        unfold tabD trialOf
        rw [List.map_map]
        rfl
      have h2 := h
      rw [← e] at h2
      exact h2
end
def tAll (K : PySem.W.Frag) : TS := tSeq (tAsg (tnOf K (fNLst fANil)) (gName 3)) (tSeq (tLoop1 K) (tSeq (tLoop2 K) (tsOf K WZ gTail)))
theorem all_reads {K : PySem.W.Frag} {H : Hp} {ad : List Addr} {w0 : List D} {vs : List V} {n : Nat} {Q : VK} {N : List Str} (hN : N.length = 10) (m : RpM K H ad [w0]) (r : RpSA K (hide ad H) ad vs [.m 0, .d (.int (n : Int)), .d (.int 6)]) (hw : IsW w0) (n1 : 1 ≤ n) (n4 : n ≤ 4)
    (q : ∀ t k w', IsW w' → Tri n k t → ∀ v H', DV.Step ad H ad H' → RpM K H' ad [w'] → Rp K (hide ad H') v (tabD t) → Q v H') : tAll K { nx := fun _ H' => Q .non H', rt := Q } (L2.start N vs) H := by
  have hl := m.len
  have s0 := sim_start (N := N) m r
  show tnOf K (fNLst fANil) (L2.start N vs) H fun x H1 => (tSeq (tLoop1 K) (tSeq (tLoop2 K) (tsOf K WZ gTail))) { nx := fun _ H' => Q .non H', rt := Q } ((L2.start N vs).set 3 (some x)) H1
  refine tn_of s0 fun k' e => ⟨[], rfl, by decide, ?_⟩
  subst e
  intro p H1 hp st m1
  obtain ⟨v0, v1, v2, rfl, ⟨a, ha, rfl⟩, r1, r2⟩ : ∃ v0 v1 v2, vs = [v0, v1, v2] ∧ RpS K (hide ad H) ad v0 (.m 0) ∧ RpS K (hide ad H) ad v1 (.d (.int (n : Int))) ∧ RpS K (hide ad H) ad v2 (.d (.int 6)) := by
    cases r with
    | cons h1 r => cases r with
      | cons h2 r => cases r with
        | cons h3 r => cases r with
          | nil => exact ⟨_, _, _, rfl, h1, h2, h3⟩
  obtain rfl := rp_int r1
  obtain rfl := rp_int r2
  obtain ⟨m2, rp, hpa⟩ := m1.last
  have hc : H1 p = some (.lst []) := by
    obtain ⟨b, xs, q1, q2, q3⟩ := m1.at_ 1 [] rfl
    have hl1 : ad.length = 1 := hl
    rw [List.getElem?_append_right (by omega), hl1] at q1
    cases q1
    cases q3
    exact q2
  have es : L2.start N [.ref a, .int (n : Int), .int 6] = [some (.ref a), some (.int (n : Int)), some (.int 6), none, none, none, none, none, none, none] := by
    unfold L2.start
    rw [hN]
    rfl
  have t0 : At K H ad p n w0 [] [] none none none ((L2.start N [.ref a, .int (n : Int), .int 6]).set 3 (some (.ref p))) H1 := by
    rw [es]
    exact ⟨hw, ⟨step_less st, m2, (fun b hb => by rw [List.mem_singleton] at hb; exact hb ▸ hpa), (fun b hb => by rw [List.mem_singleton] at hb; exact hb ▸ hp), by simp, hc, rfl, (fun i b l h1 _ => by cases h1)⟩, rfl, ⟨a, ha, rfl⟩, rfl, rfl, rfl, (fun _ h => by cases h), (fun _ h => by cases h), (fun _ h => by cases h), .inl rfl, .inl rfl, .inl rfl⟩
  refine loop1_reads t0 n4 fun w1 as1 cols1 q4 q6 M σ1 H2 t1 g1 M1 M6 => ?_
  refine loop2_reads t1 n4 M1 M6 ⟨g1.len, g1.bnd, fun s hs => absurd hs (Nat.not_lt_zero s)⟩ fun w2 cols2 q5 σ2 H3 t2 g2 => ?_
  refine ⟨ad, _, _, t2.sim, r_tail g2 M6 n4 ?_⟩
  intro v H4 ad4 s4 m4 rv
  obtain ⟨m5, sm⟩ := m4.take s4.pre
  rw [show ad.length = 1 from hl] at m5
  have less : DV.Step ad H3 ad H4 := ⟨List.prefix_refl _, fun b o h e => ⟨h, (s4.keep b o h e).2⟩⟩
  exact q _ M w2 t2.iw (tri_of g2 M1 M6) v H4 (t2.o.st.trans less) m5 (Rp.mono sm rv)


abbrev s__law_trial : Stmt := topS 50
abbrev N__law_trial : List Str := ["well", "n", "most", "columns", "turn", "s", "way", "sums", "x", "column"]
theorem sc__law_trial : FnScope N__law_trial ["well", "n", "most"] (defScope s__law_trial) := ⟨rfl, rfl, rfl, by decide +kernel, rfl, by decide +kernel, by decide +kernel⟩

theorem ok__law_trial (t : Top K mg "_law_trial" s__law_trial ["well", "n", "most"]) (C__law_draw : DefOk P w K mg base "_law_draw" 1 2 T__law_draw) (C__law_lean : DefOk P w K mg base "_law_lean" 1 2 T__law_lean) (C__law_one : DefOk P w K mg base "_law_one" 2 2 T__law_one) (m_len : mg "len" = none) (m_range : mg "range" = none) (m_sum : mg "sum" = none) (m_tuple : mg "tuple" = none) :
    DefOk P w K mg base "_law_trial" 3 3 T__law_trial := by
  have nd := (sc__law_trial).nd
  obtain ⟨fa, fd, F, hb, hg⟩ := t
  refine ⟨mon__law_trial, fa, fd, ["well", "n", "most"], hg, F.kp, hb, F.ok (k := 2) sc__law_trial (fun vs H Q E h => ?_) ?_⟩
  · obtain ⟨ad, ss, μ, r, m, l, _⟩ := h
    rw [rpSA_len r]
    exact l
  intro cdv A outer s H vs Q E hr h
  refine ⟨_, (pss_cons (ps_set (i := 3) nd rfl (by first | exact Or.inl rfl | exact Or.inr rfl) (pdn_lst pda_nil).run)
      (pss_cons (ps_for PassesOwn.never rfl (pi_range1 (by rfl) m_range (pda_cons (pd_op addW_ok mon_gF snd_addW pd_int (pd_callD C__law_draw (hr.mono (by decide)) (by rfl) (pda_cons (pd_var (pv 0)) (pda_cons (pd_var (pv 2)) pda_nil)))) pda_nil).run) (pg_name (i := 4) nd rfl (by first | exact Or.inl rfl | exact Or.inr rfl)) (pss_cons (ps_expr (pe_bm PySem.F.plainAttrs_list PySem.F.slot_list_append PySem.F.type_list_append mt_append (pv 3) (pa_cons (pdn_lc (own := [("s", 5)]) rfl nd (pdi_range (by rfl) m_range (pda_cons (pd_var (pv 1)) pda_nil)) (blkOk_by (N := N__law_trial) (sc := defScope s__law_trial) (by decide +kernel)) (fun _ _ _ _ _ => (pdg_name (pg_name (i := 5) nd rfl (by first | exact Or.inl rfl | exact Or.inr rfl)))) (fun _ _ _ _ _ => pdts_nil) (fun _ _ _ _ _ => (pd_callD C__law_one (hr.mono (by decide)) (by rfl) (pda_cons (pd_var (pv 0)) (pda_cons (pd_tup (pda_cons pd_int (pda_cons pd_int (pda_cons pd_int (pda_cons pd_int (pda_cons pd_int (pda_cons pd_int pda_nil))))))) pda_nil)))) (by decide)).run pa_nil)))
        (pss_cons (ps_set (i := 6) nd rfl (by first | exact Or.inl rfl | exact Or.inr rfl) (pd_callD C__law_draw (hr.mono (by decide)) (by rfl) (pda_cons (pd_var (pv 0)) (pda_cons pd_int pda_nil))).run)
        (pss_one (ps_if (ptd_cmp (eq_ok hr.units) mon_gF snd_eq (nomark _) (pd_var (pv 6)) pd_int).run (pss_one (ps_asg (pdn_lc (own := [("x", 8)]) rfl nd (pdi_seq (pd_ix ix_ok mon_gF snd_ix (fun _ _ => rfl) (pd_var (pv 3)) pd_int)) (blkOk_by (N := N__law_trial) (sc := defScope s__law_trial) (by decide +kernel)) (fun _ _ _ _ _ => (pdg_name (pg_name (i := 8) nd rfl (by first | exact Or.inl rfl | exact Or.inr rfl)))) (fun _ _ _ _ _ => pdts_nil) (fun _ _ _ _ _ => (pd_op op_mulW mon_gF snd_I pd_int (pd_var (pv 8)))) (by decide)).run (pg_sub (pv 3) (pd_neg pd_int).run set_list))) (pss_one (ps_if (ptd_cmp (eq_ok hr.units) mon_gF snd_eq (nomark _) (pd_var (pv 6)) pd_int).run (pss_one (ps_asg (pdn_rep (pda_cons pd_int pda_nil) (pd_var (pv 1))).run (pg_sub (pv 3) (pd_neg pd_int).run set_list))) pss_nil)))))))
      (pss_cons (ps_for PassesOwn.never rfl (pi_range1 (by rfl) m_range (pda_cons (pd_var (pv 1)) pda_nil).run) (pg_name (i := 5) nd rfl (by first | exact Or.inl rfl | exact Or.inr rfl)) (pss_one (ps_if (ptd_cmp (eq_ok hr.units) mon_gF snd_eq (nomark _) (pd_B (cr_sum rfl) snd_sum mon_gA (by rfl) m_sum bt_sum (pda_cons (pd_of_N (pdn_lc (own := [("column", 9)]) rfl nd (pdi_seq (pd_var (pv 3))) (blkOk_by (N := N__law_trial) (sc := defScope s__law_trial) (by decide +kernel)) (fun _ _ _ _ _ => (pdg_name (pg_name (i := 9) nd rfl (by first | exact Or.inl rfl | exact Or.inr rfl)))) (fun _ _ _ _ _ => pdts_nil) (fun _ _ _ _ _ => (pd_ix ix_ok mon_gF snd_ix (fun _ _ => rfl) (pd_var (pv 9)) (pd_var (pv 5)))) (by decide))) pda_nil)) pd_int).run (pss_one (ps_asg pe_int (pg_sub (pe_ix ix_list (pv 3) (pd_callD C__law_draw (hr.mono (by decide)) (by rfl) (pda_cons (pd_var (pv 0)) (pda_cons (pd_B call_len_seq snd_len mon_gA (by rfl) m_len bt_len (pda_cons (pd_var (pv 3)) pda_nil)) pda_nil))).run (fun _ _ => rfl)) (pv 5) set_list))) pss_nil)))
      (pds_cons (W := WZ) (pds_set (pd_of_N (pdn_lc (own := [("s", 5)]) rfl nd (pdi_range (by rfl) m_range (pda_cons (pd_var (pv 1)) pda_nil)) (blkOk_by (N := N__law_trial) (sc := defScope s__law_trial) (by decide +kernel)) (fun _ _ _ _ _ => (pdg_name (pg_name (i := 5) nd rfl (by first | exact Or.inl rfl | exact Or.inr rfl)))) (fun _ _ _ _ _ => pdts_nil) (fun _ _ _ _ _ => (pd_B (cr_sum rfl) snd_sum mon_gA (by rfl) m_sum bt_sum (pda_cons (pd_of_N (pdn_lc (own := [("column", 9)]) rfl nd (pdi_seq (pd_var (pv 3))) (blkOk_in (N := N__law_trial) rfl (by decide +kernel)) (fun _ _ _ _ _ => (pdg_name (pg_name (i := 9) nd rfl (by first | exact Or.inl rfl | exact Or.inr rfl)))) (fun _ _ _ _ _ => pdts_nil) (fun _ _ _ _ _ => (pd_ix ix_ok mon_gF snd_ix (fun _ _ => rfl) (pd_var (pv 9)) (pd_var (pv 5)))) (by decide))) pda_nil))) (by decide))) (fun _ h => ps_set (i := 7) nd rfl (by first | exact Or.inl rfl | exact Or.inr rfl) h))
      (pds_one (pd_ret (pd_Ty call_tuple_of snd_tupleOf mon_gA (by rfl) m_tuple bt_tuple (pda_cons (pd_of_N (pdn_lc (own := [("s", 5)]) rfl nd (pdi_range (by rfl) m_range (pda_cons (pd_var (pv 1)) pda_nil)) (blkOk_by (N := N__law_trial) (sc := defScope s__law_trial) (by decide +kernel)) (fun _ _ _ _ _ => (pdg_name (pg_name (i := 5) nd rfl (by first | exact Or.inl rfl | exact Or.inr rfl)))) (fun _ _ _ _ _ => pdts_nil) (fun _ _ _ _ _ => (pd_Ty call_tuple_of snd_tupleOf mon_gA (by rfl) m_tuple bt_tuple (pda_cons (pd_of_N (pdn_lc (own := [("column", 9)]) rfl nd (pdi_seq (pd_var (pv 3))) (blkOk_in (N := N__law_trial) rfl (by decide +kernel)) (fun _ _ _ _ _ => (pdg_name (pg_name (i := 9) nd rfl (by first | exact Or.inl rfl | exact Or.inr rfl)))) (fun _ _ _ _ _ => pdts_nil) (fun _ _ _ _ _ => (pd_callD C__law_lean (hr.mono (by decide)) (by rfl) (pda_cons (pd_ix ix_ok mon_gF snd_ix (fun _ _ => rfl) (pd_var (pv 9)) (pd_var (pv 5))) (pda_cons (pd_ix ix_ok mon_gF snd_ix (fun _ _ => rfl) (pd_var (pv 7)) (pd_var (pv 5))) pda_nil)))) (by decide))) pda_nil))) (by decide))) pda_nil))))).run))), ?_⟩
  obtain ⟨ad, ss, μ, r, m, l, q⟩ := h
  obtain ⟨w0, ms, n, rfl, rfl, ⟨hw, n1, n4, rfl⟩, q⟩ := q
  exact all_reads (N := N__law_trial) rfl m r hw n1 n4 fun t k w' h1 h2 v H' s3 m3 r3 => q t k w' h1 h2 v H' s3 m3 r3

end K2

/-! part Q21 -/
set_option Elab.async false
set_option linter.all false
set_option maxRecDepth 100000
set_option autoImplicit false
set_option exponentiation.threshold 9000
set_option maxHeartbeats 2000000
namespace K2
open PySem PySem.Spec L2 DV
open PyProof.Rows (envOfC)

theorem top_mk {K : PySem.W.Frag} {h : Heap} {mg : Str → Option Value} {x : Str} {st : Stmt} {ps : List Str} {f : Addr} {od an : Option Addr} {sl : Array (Option Value)} {oc kV dc pm cd ct : Value} (inK : K.In h) (G : h.Ns mainGlobals mg)
    (hb : ∀ (kV doc pm : Value) (an : Option Addr) (cdv ct : Value) (us : List Value), us.length = ps.length → bindArgs (PySem.W.fnOf x x (defArgs st) (defBody st) (defScope st) .none kV doc pm an cdv ct) ⟨us, []⟩ = pure (ps.zip us))
    (a : PySem.W.nsIn K mainGlobals x = some (some (.ref f))) (l : K.lookup f = some ⟨oc, od, .func (PySem.W.fnOf x x (defArgs st) (defBody st) (defScope st) .none kV dc pm an cd ct), sl⟩) (c : PySem.W.codeIn K cd x = true) (k : PySem.W.keepIn K (.ref f) = true) : Top K mg x st ps :=
  ⟨f, _, fun_mk l c k, (fun_mk (K := K) l c k).binds hb, PySem.W.mg_of inK G a⟩
theorem law_ok {P : Program} {w : World} {K : PySem.W.Frag} {mg : Str → Option Value} {base : Heap} {f : Addr} {fd : FuncData} (F : Fun K "law" "law" s_law f fd)
    (t__law_below : Top K mg "_law_below" s__law_below ["x", "y"])
    (t__law_row_below : Top K mg "_law_row_below" s__law_row_below ["one", "two"])
    (t__law_ascending : Top K mg "_law_ascending" s__law_ascending ["rows"])
    (t__law_draw : Top K mg "_law_draw" s__law_draw ["well", "few"])
    (t__law_one : Top K mg "_law_one" s__law_one ["well", "some"])
    (t__law_odd : Top K mg "_law_odd" s__law_odd ["well"])
    (t__law_bent : Top K mg "_law_bent" s__law_bent ["well", "thing"])
    (t__law_lean : Top K mg "_law_lean" s__law_lean ["top", "base"])
    (t__law_chance : Top K mg "_law_chance" s__law_chance ["well", "n"])
    (t__law_plus : Top K mg "_law_plus" s__law_plus ["x", "y"])
    (t__law_times : Top K mg "_law_times" s__law_times ["x", "y"])
    (t__law_dot : Top K mg "_law_dot" s__law_dot ["one", "two"])
    (t__law_is_tuple : Top K mg "_law_is_tuple" s__law_is_tuple ["thing", "few"])
    (t__law_is_whole : Top K mg "_law_is_whole" s__law_is_whole ["thing"])
    (t__law_is_part : Top K mg "_law_is_part" s__law_is_part ["thing"])
    (t__law_is_row : Top K mg "_law_is_row" s__law_is_row ["thing", "few"])
    (t__law_is_chance : Top K mg "_law_is_chance" s__law_is_chance ["thing", "few"])
    (t__law_mean : Top K mg "_law_mean" s__law_mean ["parting", "n"])
    (t__law_is_parting : Top K mg "_law_is_parting" s__law_is_parting ["thing", "start"])
    (t__law_is_trial : Top K mg "_law_is_trial" s__law_is_trial ["thing", "n"])
    (t__law_is_world : Top K mg "_law_is_world" s__law_is_world ["thing"])
    (t__law_number : Top K mg "_law_number" s__law_number ["well"])
    (t__law_parting : Top K mg "_law_parting" s__law_parting ["well", "n", "most"])
    (t__law_put_in : Top K mg "_law_put_in" s__law_put_in ["parting", "weight", "chance"])
    (t_is_whole : Top K mg "is_whole" s_is_whole ["value"])
    (t_is_fraction : Top K mg "is_fraction" s_is_fraction ["value"])
    (t_is_row : Top K mg "is_row" s_is_row ["value", "many"])
    (t_is_table : Top K mg "is_table" s_is_table ["value", "many", "states"])
    (t_is_setting : Top K mg "is_setting" s_is_setting ["value"])
    (t_check_setting : Top K mg "check_setting" s_check_setting ["setting"])
    (t_lowest : Top K mg "lowest" s_lowest ["above", "below"])
    (t_row_product : Top K mg "row_product" s_row_product ["row", "other"])
    (t_row_sum : Top K mg "row_sum" s_row_sum ["row"])
    (t_is_row_of_chances : Top K mg "is_row_of_chances" s_is_row_of_chances ["value", "many"])
    (t_state_count : Top K mg "state_count" s_state_count ["setting"])
    (t_is_belief : Top K mg "is_belief" s_is_belief ["setting", "value"])
    (t_is_experiment_for : Top K mg "is_experiment_for" s_is_experiment_for ["states", "value"])
    (t_is_experiment : Top K mg "is_experiment" s_is_experiment ["setting", "value"])
    (t_check_belief : Top K mg "check_belief" s_check_belief ["setting", "belief"])
    (t_is_less : Top K mg "is_less" s_is_less ["left", "right"])
    (t_is_row_less : Top K mg "is_row_less" s_is_row_less ["row", "other"])
    (t_are_ascending : Top K mg "are_ascending" s_are_ascending ["rows"])
    (t_is_part : Top K mg "is_part" s_is_part ["value", "states"])
    (t_row_mix : Top K mg "row_mix" s_row_mix ["shares", "rows"])
    (t_mean_of : Top K mg "mean_of" s_mean_of ["split"])
    (t_is_split_for : Top K mg "is_split_for" s_is_split_for ["prior", "value"])
    (t_is_split : Top K mg "is_split" s_is_split ["setting", "prior", "value"])
    (t__law_sizes : Top K mg "_law_sizes" s__law_sizes ["well"])
    (t__law_some_chance : Top K mg "_law_some_chance" s__law_some_chance ["well", "n"])
    (t__law_signed : Top K mg "_law_signed" s__law_signed ["well", "n"])
    (t__law_some_parting : Top K mg "_law_some_parting" s__law_some_parting ["well", "n"])
    (t__law_trial : Top K mg "_law_trial" s__law_trial ["well", "n", "most"])
    (t__law_some_trial : Top K mg "_law_some_trial" s__law_some_trial ["well", "n"])
    (t__law_row : Top K mg "_law_row" s__law_row ["well", "n"])
    (t__law_table_of : Top K mg "_law_table_of" s__law_table_of ["well", "n", "m"])
    (t__law_some_world : Top K mg "_law_some_world" s__law_some_world ["well", "n", "m"])
    (t__law_right : Top K mg "_law_right" s__law_right ["well"])
    (t__law_well : Top K mg "_law_well" s__law_well ["script", "lap"])
    (C_MOST_SIGNALS : ConstOk K mg "MOST_SIGNALS" V_MOST_SIGNALS)
    (C_ONE : ConstOk K mg "ONE" V_ONE)
    (m_abs : mg "abs" = none)
    (m_all : mg "all" = none)
    (m_any : mg "any" = none)
    (m_bool : mg "bool" = none)
    (m_divmod : mg "divmod" = none)
    (m_int : mg "int" = none)
    (m_isinstance : mg "isinstance" = none)
    (m_len : mg "len" = none)
    (m_list : mg "list" = none)
    (m_max : mg "max" = none)
    (m_min : mg "min" = none)
    (m_range : mg "range" = none)
    (m_repr : mg "repr" = none)
    (m_str : mg "str" = none)
    (m_sum : mg "sum" = none)
    (m_tuple : mg "tuple" = none)
    (m_zip : mg "zip" = none)
    (g_gcd : mg "gcd" = some (.builtin "math.gcd"))
    : DG.GOk P w K mg base 12 f fd ["script"] (spT 1 K T_law) := by
  have C__law_below : DefOk P w K mg base "_law_below" 1 2 T__law_below := ok__law_below t__law_below
  have C__law_row_below : DefOk P w K mg base "_law_row_below" 2 2 T__law_row_below := ok__law_row_below t__law_row_below C__law_below m_zip
  have C__law_ascending : DefOk P w K mg base "_law_ascending" 3 1 T__law_ascending := ok__law_ascending t__law_ascending C__law_row_below m_len
  have C__law_draw : DefOk P w K mg base "_law_draw" 1 2 T__law_draw := ok__law_draw t__law_draw m_divmod m_int
  have C__law_one : DefOk P w K mg base "_law_one" 2 2 T__law_one := ok__law_one t__law_one C__law_draw m_len
  have C__law_odd : DefOk P w K mg base "_law_odd" 3 1 T__law_odd := ok__law_odd t__law_odd C__law_one
  have C__law_bent : DefOk P w K mg base "_law_bent" 9 2 (T__law_bent 6) := ok__law_bent t__law_bent C__law_draw C__law_odd m_int m_isinstance m_len m_list m_str m_tuple
  have C__law_lean : DefOk P w K mg base "_law_lean" 1 2 T__law_lean := ok__law_lean t__law_lean m_abs m_int
  have C__law_chance : DefOk P w K mg base "_law_chance" 3 2 T__law_chance := ok__law_chance t__law_chance C__law_draw C__law_lean C__law_one m_range m_sum m_tuple
  have C__law_plus : DefOk P w K mg base "_law_plus" 2 2 T__law_plus := ok__law_plus t__law_plus C__law_lean
  have C__law_times : DefOk P w K mg base "_law_times" 2 2 T__law_times := ok__law_times t__law_times C__law_lean
  have C__law_dot : DefOk P w K mg base "_law_dot" 3 2 T__law_dot := ok__law_dot t__law_dot C__law_plus C__law_times m_zip
  have C__law_is_tuple : DefOk P w K mg base "_law_is_tuple" 1 2 T__law_is_tuple := ok__law_is_tuple t__law_is_tuple m_isinstance m_len m_tuple
  have C__law_is_whole : DefOk P w K mg base "_law_is_whole" 1 1 T__law_is_whole := ok__law_is_whole t__law_is_whole m_bool m_int m_isinstance
  have C__law_is_part : DefOk P w K mg base "_law_is_part" 2 1 T__law_is_part := ok__law_is_part t__law_is_part C__law_is_tuple C__law_is_whole C__law_lean
  have C__law_is_row : DefOk P w K mg base "_law_is_row" 3 2 T__law_is_row := ok__law_is_row t__law_is_row C__law_is_part C__law_is_tuple m_all
  have C__law_is_chance : DefOk P w K mg base "_law_is_chance" 4 2 T__law_is_chance := ok__law_is_chance t__law_is_chance C__law_dot C__law_is_row m_any
  have C__law_mean : DefOk P w K mg base "_law_mean" 3 2 T__law_mean := ok__law_mean t__law_mean C__law_plus C__law_times m_tuple m_zip
  have C__law_is_parting : DefOk P w K mg base "_law_is_parting" 5 2 T__law_is_parting := ok__law_is_parting t__law_is_parting C__law_is_chance C__law_is_part C__law_is_tuple C__law_mean C__law_row_below m_all m_isinstance m_len m_range m_tuple
  have C__law_is_trial : DefOk P w K mg base "_law_is_trial" 5 2 T__law_is_trial := ok__law_is_trial t__law_is_trial C__law_is_chance C__law_is_tuple m_all m_isinstance m_len m_tuple
  have C__law_is_world : DefOk P w K mg base "_law_is_world" 4 1 T__law_is_world := ok__law_is_world t__law_is_world C__law_is_row C__law_is_tuple m_all m_isinstance m_len m_tuple
  have C__law_number : DefOk P w K mg base "_law_number" 2 1 T__law_number := ok__law_number t__law_number C__law_draw C__law_lean
  have C__law_parting : DefOk P w K mg base "_law_parting" 4 3 T__law_parting := ok__law_parting t__law_parting C__law_ascending C__law_chance C__law_draw C__law_lean C__law_one m_range m_sum m_tuple m_zip
  have C__law_put_in : DefOk P w K mg base "_law_put_in" 4 3 T__law_put_in := ok__law_put_in t__law_put_in C__law_ascending m_list m_tuple
  have C_is_whole : DefOk P w K mg base "is_whole" 1 1 T_is_whole := ok_is_whole t_is_whole m_bool m_int m_isinstance
  have C_is_fraction : DefOk P w K mg base "is_fraction" 2 1 T_is_fraction := ok_is_fraction t_is_fraction C_is_whole g_gcd m_isinstance m_len m_tuple
  have C_is_row : DefOk P w K mg base "is_row" 3 2 T_is_row := ok_is_row t_is_row C_is_fraction m_all m_isinstance m_len m_tuple
  have C_is_table : DefOk P w K mg base "is_table" 4 3 T_is_table := ok_is_table t_is_table C_is_row m_all m_isinstance m_len m_tuple
  have C_is_setting : DefOk P w K mg base "is_setting" 5 1 T_is_setting := ok_is_setting t_is_setting C_is_table m_isinstance m_len m_tuple
  have CK_is_setting__value : DefOkK P w K mg base "is_setting" 5 1 ["value"] T_is_setting [0] := (okT_is_setting t_is_setting C_is_table m_isinstance m_len m_tuple).kw (by simp) fun _ _ _ _ _ _ ws hl => match ws, hl with | [_], _ => rfl
  have C_check_setting : DefOk P w K mg base "check_setting" 6 1 T_check_setting := ok_check_setting t_check_setting C_is_setting
  have C_lowest : DefOk P w K mg base "lowest" 1 2 T_lowest := ok_lowest t_lowest g_gcd
  have C_row_product : DefOk P w K mg base "row_product" 2 2 T_row_product := ok_row_product t_row_product C_lowest m_zip
  have C_row_sum : DefOk P w K mg base "row_sum" 3 1 T_row_sum := ok_row_sum t_row_sum C_row_product C_ONE m_len
  have C_is_row_of_chances : DefOk P w K mg base "is_row_of_chances" 4 2 T_is_row_of_chances := ok_is_row_of_chances t_is_row_of_chances C_is_row C_row_sum C_ONE m_all
  have C_state_count : DefOk P w K mg base "state_count" 1 1 T_state_count := ok_state_count t_state_count m_len
  have C_is_belief : DefOk P w K mg base "is_belief" 7 2 T_is_belief := ok_is_belief t_is_belief C_check_setting C_is_row_of_chances C_state_count
  have CK_is_belief__value_setting : DefOkK P w K mg base "is_belief" 7 2 ["value", "setting"] T_is_belief [1, 0] := (okT_is_belief t_is_belief C_check_setting C_is_row_of_chances C_state_count).kw (by simp) fun _ _ _ _ _ _ ws hl => match ws, hl with | [_, _], _ => rfl
  have C_is_experiment_for : DefOk P w K mg base "is_experiment_for" 5 2 T_is_experiment_for := ok_is_experiment_for t_is_experiment_for C_is_row_of_chances C_MOST_SIGNALS m_all m_isinstance m_len m_tuple
  have C_is_experiment : DefOk P w K mg base "is_experiment" 7 2 T_is_experiment := ok_is_experiment t_is_experiment C_check_setting C_is_experiment_for C_state_count
  have CK_is_experiment__setting_value : DefOkK P w K mg base "is_experiment" 7 2 ["setting", "value"] T_is_experiment [0, 1] := (okT_is_experiment t_is_experiment C_check_setting C_is_experiment_for C_state_count).kw (by simp) fun _ _ _ _ _ _ ws hl => match ws, hl with | [_, _], _ => rfl
  have C_check_belief : DefOk P w K mg base "check_belief" 5 2 T_check_belief := ok_check_belief t_check_belief C_is_row_of_chances C_state_count
  have C_is_less : DefOk P w K mg base "is_less" 1 2 T_is_less := ok_is_less t_is_less
  have C_is_row_less : DefOk P w K mg base "is_row_less" 2 2 T_is_row_less := ok_is_row_less t_is_row_less C_is_less m_zip
  have C_are_ascending : DefOk P w K mg base "are_ascending" 3 1 T_are_ascending := ok_are_ascending t_are_ascending C_is_row_less m_all m_zip
  have C_is_part : DefOk P w K mg base "is_part" 5 2 T_is_part := ok_is_part t_is_part C_is_fraction C_is_row_of_chances m_isinstance m_len m_tuple
  have C_row_mix : DefOk P w K mg base "row_mix" 3 2 T_row_mix := ok_row_mix t_row_mix C_row_product m_tuple m_zip
  have C_mean_of : DefOk P w K mg base "mean_of" 4 1 T_mean_of := ok_mean_of t_mean_of C_row_mix
  have C_is_split_for : DefOk P w K mg base "is_split_for" 6 2 T_is_split_for := ok_is_split_for t_is_split_for C_are_ascending C_is_part C_mean_of m_all m_isinstance m_len m_tuple
  have C_is_split : DefOk P w K mg base "is_split" 7 3 T_is_split := ok_is_split t_is_split C_check_belief C_check_setting C_is_split_for
  have CK_is_split__prior_value_setting : DefOkK P w K mg base "is_split" 7 3 ["prior", "value", "setting"] T_is_split [2, 0, 1] := (okT_is_split t_is_split C_check_belief C_check_setting C_is_split_for).kw (by simp) fun _ _ _ _ _ _ ws hl => match ws, hl with | [_, _, _], _ => rfl
  have C__law_sizes : DefOk P w K mg base "_law_sizes" 3 1 T__law_sizes := ok__law_sizes t__law_sizes C__law_one
  have C__law_some_chance : DefOk P w K mg base "_law_some_chance" 10 2 T__law_some_chance := ok__law_some_chance t__law_some_chance C__law_bent C__law_chance C__law_draw C__law_odd C__law_plus
  have C__law_signed : DefOk P w K mg base "_law_signed" 5 2 T__law_signed := ok__law_signed t__law_signed C__law_chance C__law_plus C__law_put_in C__law_times m_tuple m_zip
  have C__law_some_parting : DefOk P w K mg base "_law_some_parting" 10 2 T__law_some_parting := ok__law_some_parting t__law_some_parting C__law_bent C__law_chance C__law_draw C__law_mean C__law_parting C__law_plus C__law_put_in C__law_signed C__law_times m_len m_tuple
  have C__law_trial : DefOk P w K mg base "_law_trial" 3 3 T__law_trial := ok__law_trial t__law_trial C__law_draw C__law_lean C__law_one m_len m_range m_sum m_tuple
  have C__law_some_trial : DefOk P w K mg base "_law_some_trial" 10 2 T__law_some_trial := ok__law_some_trial t__law_some_trial C__law_bent C__law_draw C__law_plus C__law_trial m_len m_tuple
  have C__law_row : DefOk P w K mg base "_law_row" 3 2 T__law_row := ok__law_row t__law_row C__law_number m_range
  have C__law_table_of : DefOk P w K mg base "_law_table_of" 4 3 T__law_table_of := ok__law_table_of t__law_table_of C__law_row m_range m_tuple
  have C__law_some_world : DefOk P w K mg base "_law_some_world" 10 3 T__law_some_world := ok__law_some_world t__law_some_world C__law_bent C__law_draw C__law_table_of m_tuple
  have C__law_right : DefOkG P w K mg base "_law_right" 11 1 T__law_right := ok__law_right t__law_right CK_is_belief__value_setting CK_is_experiment__setting_value CK_is_setting__value CK_is_split__prior_value_setting C__law_is_chance C__law_is_parting C__law_is_trial C__law_is_world C__law_odd C__law_sizes C__law_some_chance C__law_some_parting C__law_some_trial C__law_some_world C__law_table_of C_is_belief C_is_experiment C_is_setting C_is_split m_range m_repr
  have C__law_well : DefOkN P w K mg base "_law_well" 1 2 T__law_well := ok__law_well t__law_well m_abs m_int m_len
  exact okF_law F C__law_right C__law_well m_all m_len m_max m_min m_range
theorem law_starts (K : PySem.W.Frag) (T : Hp) (a : Addr) (ns : List Int) (hl : ns.length ≤ 63) (_ : Only T) (h : SqL K T a (ns.map V.int)) : spT 1 K T_law [.ref a] T (fun v _ => v = .bl true) fun _ _ _ => False := by
  have sm : Same T (hide [] T) := fun b o e => by
    rw [hide_out (List.not_mem_nil)]
    exact e
  refine ⟨[], [.d (.lst (ns.map D.int))], [], .cons (.lst (sqL_same sm h) (RpA.ints ns)) .nil, ⟨rfl, List.nodup_nil, fun j ds e => by cases e⟩, rfl, ns, rfl, by omega, fun v H' _ _ r => ?_⟩
  cases r
  rfl
theorem const_mk {K : PySem.W.Frag} {h : Heap} {mg : Str → Option Value} {x : Str} {a : Addr} {i j : Int} {t1 t2 n : Nat} {od : Option Addr} {sl : Array (Option Value)} (inK : K.In h) (G : h.Ns mainGlobals mg)
    (ha : PySem.W.nsIn K mainGlobals x = some (some (.ref a))) (hl : K.lookup a = some ⟨.type "tuple", od, .seq #[.int i t1, .int j t2] n, sl⟩) : ConstOk K mg x (.tup [.int i, .int j]) :=
  ⟨.ref a, .ref a, PySem.W.mg_of inK G ha, rfl, fun F => .tup (xs := [.int i, .int j]) (.inr ⟨_, _, n, hl, rfl, rfl, by show 2 ≤ sizeLine; decide, .cons ⟨t1, rfl⟩ (.cons ⟨t2, rfl⟩ .nil)⟩) (.cons (.int i) (.cons (.int j) .nil))⟩
theorem const_int {K : PySem.W.Frag} {h : Heap} {mg : Str → Option Value} {x : Str} {i : Int} {t : Nat} (inK : K.In h) (G : h.Ns mainGlobals mg) (ha : PySem.W.nsIn K mainGlobals x = some (some (.int i t))) : ConstOk K mg x (.int i) :=
  ⟨.int i, .int i t, PySem.W.mg_of inK G ha, ⟨t, rfl⟩, fun F => .int i⟩
theorem all_mk {P : Program} {w : World} {K : PySem.W.Frag} {h : Heap} {mg : Str → Option Value} {fa : Addr} (inK : K.In h) (G : h.Ns mainGlobals mg) (hfa : mg "law" = some (.ref fa))
    {f0 : Addr} {od0 an0 : Option Addr} {sl0 : Array (Option Value)} {oc0 kV0 dc0 pm0 cd0 ct0 : Value}
    (a0 : PySem.W.nsIn K mainGlobals "_law_below" = some (some (.ref f0))) (l0 : K.lookup f0 = some ⟨oc0, od0, .func (PySem.W.fnOf "_law_below" "_law_below" (defArgs s__law_below) (defBody s__law_below) (defScope s__law_below) .none kV0 dc0 pm0 an0 cd0 ct0), sl0⟩) (c0 : PySem.W.codeIn K cd0 "_law_below" = true) (k0 : PySem.W.keepIn K (.ref f0) = true)
    {f1 : Addr} {od1 an1 : Option Addr} {sl1 : Array (Option Value)} {oc1 kV1 dc1 pm1 cd1 ct1 : Value}
    (a1 : PySem.W.nsIn K mainGlobals "_law_row_below" = some (some (.ref f1))) (l1 : K.lookup f1 = some ⟨oc1, od1, .func (PySem.W.fnOf "_law_row_below" "_law_row_below" (defArgs s__law_row_below) (defBody s__law_row_below) (defScope s__law_row_below) .none kV1 dc1 pm1 an1 cd1 ct1), sl1⟩) (c1 : PySem.W.codeIn K cd1 "_law_row_below" = true) (k1 : PySem.W.keepIn K (.ref f1) = true)
    {f2 : Addr} {od2 an2 : Option Addr} {sl2 : Array (Option Value)} {oc2 kV2 dc2 pm2 cd2 ct2 : Value}
    (a2 : PySem.W.nsIn K mainGlobals "_law_ascending" = some (some (.ref f2))) (l2 : K.lookup f2 = some ⟨oc2, od2, .func (PySem.W.fnOf "_law_ascending" "_law_ascending" (defArgs s__law_ascending) (defBody s__law_ascending) (defScope s__law_ascending) .none kV2 dc2 pm2 an2 cd2 ct2), sl2⟩) (c2 : PySem.W.codeIn K cd2 "_law_ascending" = true) (k2 : PySem.W.keepIn K (.ref f2) = true)
    {f3 : Addr} {od3 an3 : Option Addr} {sl3 : Array (Option Value)} {oc3 kV3 dc3 pm3 cd3 ct3 : Value}
    (a3 : PySem.W.nsIn K mainGlobals "_law_draw" = some (some (.ref f3))) (l3 : K.lookup f3 = some ⟨oc3, od3, .func (PySem.W.fnOf "_law_draw" "_law_draw" (defArgs s__law_draw) (defBody s__law_draw) (defScope s__law_draw) .none kV3 dc3 pm3 an3 cd3 ct3), sl3⟩) (c3 : PySem.W.codeIn K cd3 "_law_draw" = true) (k3 : PySem.W.keepIn K (.ref f3) = true)
    {f4 : Addr} {od4 an4 : Option Addr} {sl4 : Array (Option Value)} {oc4 kV4 dc4 pm4 cd4 ct4 : Value}
    (a4 : PySem.W.nsIn K mainGlobals "_law_one" = some (some (.ref f4))) (l4 : K.lookup f4 = some ⟨oc4, od4, .func (PySem.W.fnOf "_law_one" "_law_one" (defArgs s__law_one) (defBody s__law_one) (defScope s__law_one) .none kV4 dc4 pm4 an4 cd4 ct4), sl4⟩) (c4 : PySem.W.codeIn K cd4 "_law_one" = true) (k4 : PySem.W.keepIn K (.ref f4) = true)
    {f5 : Addr} {od5 an5 : Option Addr} {sl5 : Array (Option Value)} {oc5 kV5 dc5 pm5 cd5 ct5 : Value}
    (a5 : PySem.W.nsIn K mainGlobals "_law_odd" = some (some (.ref f5))) (l5 : K.lookup f5 = some ⟨oc5, od5, .func (PySem.W.fnOf "_law_odd" "_law_odd" (defArgs s__law_odd) (defBody s__law_odd) (defScope s__law_odd) .none kV5 dc5 pm5 an5 cd5 ct5), sl5⟩) (c5 : PySem.W.codeIn K cd5 "_law_odd" = true) (k5 : PySem.W.keepIn K (.ref f5) = true)
    {f6 : Addr} {od6 an6 : Option Addr} {sl6 : Array (Option Value)} {oc6 kV6 dc6 pm6 cd6 ct6 : Value}
    (a6 : PySem.W.nsIn K mainGlobals "_law_bent" = some (some (.ref f6))) (l6 : K.lookup f6 = some ⟨oc6, od6, .func (PySem.W.fnOf "_law_bent" "_law_bent" (defArgs s__law_bent) (defBody s__law_bent) (defScope s__law_bent) .none kV6 dc6 pm6 an6 cd6 ct6), sl6⟩) (c6 : PySem.W.codeIn K cd6 "_law_bent" = true) (k6 : PySem.W.keepIn K (.ref f6) = true)
    {f7 : Addr} {od7 an7 : Option Addr} {sl7 : Array (Option Value)} {oc7 kV7 dc7 pm7 cd7 ct7 : Value}
    (a7 : PySem.W.nsIn K mainGlobals "_law_lean" = some (some (.ref f7))) (l7 : K.lookup f7 = some ⟨oc7, od7, .func (PySem.W.fnOf "_law_lean" "_law_lean" (defArgs s__law_lean) (defBody s__law_lean) (defScope s__law_lean) .none kV7 dc7 pm7 an7 cd7 ct7), sl7⟩) (c7 : PySem.W.codeIn K cd7 "_law_lean" = true) (k7 : PySem.W.keepIn K (.ref f7) = true)
    {f8 : Addr} {od8 an8 : Option Addr} {sl8 : Array (Option Value)} {oc8 kV8 dc8 pm8 cd8 ct8 : Value}
    (a8 : PySem.W.nsIn K mainGlobals "_law_chance" = some (some (.ref f8))) (l8 : K.lookup f8 = some ⟨oc8, od8, .func (PySem.W.fnOf "_law_chance" "_law_chance" (defArgs s__law_chance) (defBody s__law_chance) (defScope s__law_chance) .none kV8 dc8 pm8 an8 cd8 ct8), sl8⟩) (c8 : PySem.W.codeIn K cd8 "_law_chance" = true) (k8 : PySem.W.keepIn K (.ref f8) = true)
    {f9 : Addr} {od9 an9 : Option Addr} {sl9 : Array (Option Value)} {oc9 kV9 dc9 pm9 cd9 ct9 : Value}
    (a9 : PySem.W.nsIn K mainGlobals "_law_plus" = some (some (.ref f9))) (l9 : K.lookup f9 = some ⟨oc9, od9, .func (PySem.W.fnOf "_law_plus" "_law_plus" (defArgs s__law_plus) (defBody s__law_plus) (defScope s__law_plus) .none kV9 dc9 pm9 an9 cd9 ct9), sl9⟩) (c9 : PySem.W.codeIn K cd9 "_law_plus" = true) (k9 : PySem.W.keepIn K (.ref f9) = true)
    {f10 : Addr} {od10 an10 : Option Addr} {sl10 : Array (Option Value)} {oc10 kV10 dc10 pm10 cd10 ct10 : Value}
    (a10 : PySem.W.nsIn K mainGlobals "_law_times" = some (some (.ref f10))) (l10 : K.lookup f10 = some ⟨oc10, od10, .func (PySem.W.fnOf "_law_times" "_law_times" (defArgs s__law_times) (defBody s__law_times) (defScope s__law_times) .none kV10 dc10 pm10 an10 cd10 ct10), sl10⟩) (c10 : PySem.W.codeIn K cd10 "_law_times" = true) (k10 : PySem.W.keepIn K (.ref f10) = true)
    {f11 : Addr} {od11 an11 : Option Addr} {sl11 : Array (Option Value)} {oc11 kV11 dc11 pm11 cd11 ct11 : Value}
    (a11 : PySem.W.nsIn K mainGlobals "_law_dot" = some (some (.ref f11))) (l11 : K.lookup f11 = some ⟨oc11, od11, .func (PySem.W.fnOf "_law_dot" "_law_dot" (defArgs s__law_dot) (defBody s__law_dot) (defScope s__law_dot) .none kV11 dc11 pm11 an11 cd11 ct11), sl11⟩) (c11 : PySem.W.codeIn K cd11 "_law_dot" = true) (k11 : PySem.W.keepIn K (.ref f11) = true)
    {f12 : Addr} {od12 an12 : Option Addr} {sl12 : Array (Option Value)} {oc12 kV12 dc12 pm12 cd12 ct12 : Value}
    (a12 : PySem.W.nsIn K mainGlobals "_law_is_tuple" = some (some (.ref f12))) (l12 : K.lookup f12 = some ⟨oc12, od12, .func (PySem.W.fnOf "_law_is_tuple" "_law_is_tuple" (defArgs s__law_is_tuple) (defBody s__law_is_tuple) (defScope s__law_is_tuple) .none kV12 dc12 pm12 an12 cd12 ct12), sl12⟩) (c12 : PySem.W.codeIn K cd12 "_law_is_tuple" = true) (k12 : PySem.W.keepIn K (.ref f12) = true)
    {f13 : Addr} {od13 an13 : Option Addr} {sl13 : Array (Option Value)} {oc13 kV13 dc13 pm13 cd13 ct13 : Value}
    (a13 : PySem.W.nsIn K mainGlobals "_law_is_whole" = some (some (.ref f13))) (l13 : K.lookup f13 = some ⟨oc13, od13, .func (PySem.W.fnOf "_law_is_whole" "_law_is_whole" (defArgs s__law_is_whole) (defBody s__law_is_whole) (defScope s__law_is_whole) .none kV13 dc13 pm13 an13 cd13 ct13), sl13⟩) (c13 : PySem.W.codeIn K cd13 "_law_is_whole" = true) (k13 : PySem.W.keepIn K (.ref f13) = true)
    {f14 : Addr} {od14 an14 : Option Addr} {sl14 : Array (Option Value)} {oc14 kV14 dc14 pm14 cd14 ct14 : Value}
    (a14 : PySem.W.nsIn K mainGlobals "_law_is_part" = some (some (.ref f14))) (l14 : K.lookup f14 = some ⟨oc14, od14, .func (PySem.W.fnOf "_law_is_part" "_law_is_part" (defArgs s__law_is_part) (defBody s__law_is_part) (defScope s__law_is_part) .none kV14 dc14 pm14 an14 cd14 ct14), sl14⟩) (c14 : PySem.W.codeIn K cd14 "_law_is_part" = true) (k14 : PySem.W.keepIn K (.ref f14) = true)
    {f15 : Addr} {od15 an15 : Option Addr} {sl15 : Array (Option Value)} {oc15 kV15 dc15 pm15 cd15 ct15 : Value}
    (a15 : PySem.W.nsIn K mainGlobals "_law_is_row" = some (some (.ref f15))) (l15 : K.lookup f15 = some ⟨oc15, od15, .func (PySem.W.fnOf "_law_is_row" "_law_is_row" (defArgs s__law_is_row) (defBody s__law_is_row) (defScope s__law_is_row) .none kV15 dc15 pm15 an15 cd15 ct15), sl15⟩) (c15 : PySem.W.codeIn K cd15 "_law_is_row" = true) (k15 : PySem.W.keepIn K (.ref f15) = true)
    {f16 : Addr} {od16 an16 : Option Addr} {sl16 : Array (Option Value)} {oc16 kV16 dc16 pm16 cd16 ct16 : Value}
    (a16 : PySem.W.nsIn K mainGlobals "_law_is_chance" = some (some (.ref f16))) (l16 : K.lookup f16 = some ⟨oc16, od16, .func (PySem.W.fnOf "_law_is_chance" "_law_is_chance" (defArgs s__law_is_chance) (defBody s__law_is_chance) (defScope s__law_is_chance) .none kV16 dc16 pm16 an16 cd16 ct16), sl16⟩) (c16 : PySem.W.codeIn K cd16 "_law_is_chance" = true) (k16 : PySem.W.keepIn K (.ref f16) = true)
    {f17 : Addr} {od17 an17 : Option Addr} {sl17 : Array (Option Value)} {oc17 kV17 dc17 pm17 cd17 ct17 : Value}
    (a17 : PySem.W.nsIn K mainGlobals "_law_mean" = some (some (.ref f17))) (l17 : K.lookup f17 = some ⟨oc17, od17, .func (PySem.W.fnOf "_law_mean" "_law_mean" (defArgs s__law_mean) (defBody s__law_mean) (defScope s__law_mean) .none kV17 dc17 pm17 an17 cd17 ct17), sl17⟩) (c17 : PySem.W.codeIn K cd17 "_law_mean" = true) (k17 : PySem.W.keepIn K (.ref f17) = true)
    {f18 : Addr} {od18 an18 : Option Addr} {sl18 : Array (Option Value)} {oc18 kV18 dc18 pm18 cd18 ct18 : Value}
    (a18 : PySem.W.nsIn K mainGlobals "_law_is_parting" = some (some (.ref f18))) (l18 : K.lookup f18 = some ⟨oc18, od18, .func (PySem.W.fnOf "_law_is_parting" "_law_is_parting" (defArgs s__law_is_parting) (defBody s__law_is_parting) (defScope s__law_is_parting) .none kV18 dc18 pm18 an18 cd18 ct18), sl18⟩) (c18 : PySem.W.codeIn K cd18 "_law_is_parting" = true) (k18 : PySem.W.keepIn K (.ref f18) = true)
    {f19 : Addr} {od19 an19 : Option Addr} {sl19 : Array (Option Value)} {oc19 kV19 dc19 pm19 cd19 ct19 : Value}
    (a19 : PySem.W.nsIn K mainGlobals "_law_is_trial" = some (some (.ref f19))) (l19 : K.lookup f19 = some ⟨oc19, od19, .func (PySem.W.fnOf "_law_is_trial" "_law_is_trial" (defArgs s__law_is_trial) (defBody s__law_is_trial) (defScope s__law_is_trial) .none kV19 dc19 pm19 an19 cd19 ct19), sl19⟩) (c19 : PySem.W.codeIn K cd19 "_law_is_trial" = true) (k19 : PySem.W.keepIn K (.ref f19) = true)
    {f20 : Addr} {od20 an20 : Option Addr} {sl20 : Array (Option Value)} {oc20 kV20 dc20 pm20 cd20 ct20 : Value}
    (a20 : PySem.W.nsIn K mainGlobals "_law_is_world" = some (some (.ref f20))) (l20 : K.lookup f20 = some ⟨oc20, od20, .func (PySem.W.fnOf "_law_is_world" "_law_is_world" (defArgs s__law_is_world) (defBody s__law_is_world) (defScope s__law_is_world) .none kV20 dc20 pm20 an20 cd20 ct20), sl20⟩) (c20 : PySem.W.codeIn K cd20 "_law_is_world" = true) (k20 : PySem.W.keepIn K (.ref f20) = true)
    {f21 : Addr} {od21 an21 : Option Addr} {sl21 : Array (Option Value)} {oc21 kV21 dc21 pm21 cd21 ct21 : Value}
    (a21 : PySem.W.nsIn K mainGlobals "_law_number" = some (some (.ref f21))) (l21 : K.lookup f21 = some ⟨oc21, od21, .func (PySem.W.fnOf "_law_number" "_law_number" (defArgs s__law_number) (defBody s__law_number) (defScope s__law_number) .none kV21 dc21 pm21 an21 cd21 ct21), sl21⟩) (c21 : PySem.W.codeIn K cd21 "_law_number" = true) (k21 : PySem.W.keepIn K (.ref f21) = true)
    {f22 : Addr} {od22 an22 : Option Addr} {sl22 : Array (Option Value)} {oc22 kV22 dc22 pm22 cd22 ct22 : Value}
    (a22 : PySem.W.nsIn K mainGlobals "_law_parting" = some (some (.ref f22))) (l22 : K.lookup f22 = some ⟨oc22, od22, .func (PySem.W.fnOf "_law_parting" "_law_parting" (defArgs s__law_parting) (defBody s__law_parting) (defScope s__law_parting) .none kV22 dc22 pm22 an22 cd22 ct22), sl22⟩) (c22 : PySem.W.codeIn K cd22 "_law_parting" = true) (k22 : PySem.W.keepIn K (.ref f22) = true)
    {f23 : Addr} {od23 an23 : Option Addr} {sl23 : Array (Option Value)} {oc23 kV23 dc23 pm23 cd23 ct23 : Value}
    (a23 : PySem.W.nsIn K mainGlobals "_law_put_in" = some (some (.ref f23))) (l23 : K.lookup f23 = some ⟨oc23, od23, .func (PySem.W.fnOf "_law_put_in" "_law_put_in" (defArgs s__law_put_in) (defBody s__law_put_in) (defScope s__law_put_in) .none kV23 dc23 pm23 an23 cd23 ct23), sl23⟩) (c23 : PySem.W.codeIn K cd23 "_law_put_in" = true) (k23 : PySem.W.keepIn K (.ref f23) = true)
    {f24 : Addr} {od24 an24 : Option Addr} {sl24 : Array (Option Value)} {oc24 kV24 dc24 pm24 cd24 ct24 : Value}
    (a24 : PySem.W.nsIn K mainGlobals "is_whole" = some (some (.ref f24))) (l24 : K.lookup f24 = some ⟨oc24, od24, .func (PySem.W.fnOf "is_whole" "is_whole" (defArgs s_is_whole) (defBody s_is_whole) (defScope s_is_whole) .none kV24 dc24 pm24 an24 cd24 ct24), sl24⟩) (c24 : PySem.W.codeIn K cd24 "is_whole" = true) (k24 : PySem.W.keepIn K (.ref f24) = true)
    {f25 : Addr} {od25 an25 : Option Addr} {sl25 : Array (Option Value)} {oc25 kV25 dc25 pm25 cd25 ct25 : Value}
    (a25 : PySem.W.nsIn K mainGlobals "is_fraction" = some (some (.ref f25))) (l25 : K.lookup f25 = some ⟨oc25, od25, .func (PySem.W.fnOf "is_fraction" "is_fraction" (defArgs s_is_fraction) (defBody s_is_fraction) (defScope s_is_fraction) .none kV25 dc25 pm25 an25 cd25 ct25), sl25⟩) (c25 : PySem.W.codeIn K cd25 "is_fraction" = true) (k25 : PySem.W.keepIn K (.ref f25) = true)
    {f26 : Addr} {od26 an26 : Option Addr} {sl26 : Array (Option Value)} {oc26 kV26 dc26 pm26 cd26 ct26 : Value}
    (a26 : PySem.W.nsIn K mainGlobals "is_row" = some (some (.ref f26))) (l26 : K.lookup f26 = some ⟨oc26, od26, .func (PySem.W.fnOf "is_row" "is_row" (defArgs s_is_row) (defBody s_is_row) (defScope s_is_row) .none kV26 dc26 pm26 an26 cd26 ct26), sl26⟩) (c26 : PySem.W.codeIn K cd26 "is_row" = true) (k26 : PySem.W.keepIn K (.ref f26) = true)
    {f27 : Addr} {od27 an27 : Option Addr} {sl27 : Array (Option Value)} {oc27 kV27 dc27 pm27 cd27 ct27 : Value}
    (a27 : PySem.W.nsIn K mainGlobals "is_table" = some (some (.ref f27))) (l27 : K.lookup f27 = some ⟨oc27, od27, .func (PySem.W.fnOf "is_table" "is_table" (defArgs s_is_table) (defBody s_is_table) (defScope s_is_table) .none kV27 dc27 pm27 an27 cd27 ct27), sl27⟩) (c27 : PySem.W.codeIn K cd27 "is_table" = true) (k27 : PySem.W.keepIn K (.ref f27) = true)
    {f28 : Addr} {od28 an28 : Option Addr} {sl28 : Array (Option Value)} {oc28 kV28 dc28 pm28 cd28 ct28 : Value}
    (a28 : PySem.W.nsIn K mainGlobals "is_setting" = some (some (.ref f28))) (l28 : K.lookup f28 = some ⟨oc28, od28, .func (PySem.W.fnOf "is_setting" "is_setting" (defArgs s_is_setting) (defBody s_is_setting) (defScope s_is_setting) .none kV28 dc28 pm28 an28 cd28 ct28), sl28⟩) (c28 : PySem.W.codeIn K cd28 "is_setting" = true) (k28 : PySem.W.keepIn K (.ref f28) = true)
    {f29 : Addr} {od29 an29 : Option Addr} {sl29 : Array (Option Value)} {oc29 kV29 dc29 pm29 cd29 ct29 : Value}
    (a29 : PySem.W.nsIn K mainGlobals "check_setting" = some (some (.ref f29))) (l29 : K.lookup f29 = some ⟨oc29, od29, .func (PySem.W.fnOf "check_setting" "check_setting" (defArgs s_check_setting) (defBody s_check_setting) (defScope s_check_setting) .none kV29 dc29 pm29 an29 cd29 ct29), sl29⟩) (c29 : PySem.W.codeIn K cd29 "check_setting" = true) (k29 : PySem.W.keepIn K (.ref f29) = true)
    {f30 : Addr} {od30 an30 : Option Addr} {sl30 : Array (Option Value)} {oc30 kV30 dc30 pm30 cd30 ct30 : Value}
    (a30 : PySem.W.nsIn K mainGlobals "lowest" = some (some (.ref f30))) (l30 : K.lookup f30 = some ⟨oc30, od30, .func (PySem.W.fnOf "lowest" "lowest" (defArgs s_lowest) (defBody s_lowest) (defScope s_lowest) .none kV30 dc30 pm30 an30 cd30 ct30), sl30⟩) (c30 : PySem.W.codeIn K cd30 "lowest" = true) (k30 : PySem.W.keepIn K (.ref f30) = true)
    {f31 : Addr} {od31 an31 : Option Addr} {sl31 : Array (Option Value)} {oc31 kV31 dc31 pm31 cd31 ct31 : Value}
    (a31 : PySem.W.nsIn K mainGlobals "row_product" = some (some (.ref f31))) (l31 : K.lookup f31 = some ⟨oc31, od31, .func (PySem.W.fnOf "row_product" "row_product" (defArgs s_row_product) (defBody s_row_product) (defScope s_row_product) .none kV31 dc31 pm31 an31 cd31 ct31), sl31⟩) (c31 : PySem.W.codeIn K cd31 "row_product" = true) (k31 : PySem.W.keepIn K (.ref f31) = true)
    {f32 : Addr} {od32 an32 : Option Addr} {sl32 : Array (Option Value)} {oc32 kV32 dc32 pm32 cd32 ct32 : Value}
    (a32 : PySem.W.nsIn K mainGlobals "row_sum" = some (some (.ref f32))) (l32 : K.lookup f32 = some ⟨oc32, od32, .func (PySem.W.fnOf "row_sum" "row_sum" (defArgs s_row_sum) (defBody s_row_sum) (defScope s_row_sum) .none kV32 dc32 pm32 an32 cd32 ct32), sl32⟩) (c32 : PySem.W.codeIn K cd32 "row_sum" = true) (k32 : PySem.W.keepIn K (.ref f32) = true)
    {f33 : Addr} {od33 an33 : Option Addr} {sl33 : Array (Option Value)} {oc33 kV33 dc33 pm33 cd33 ct33 : Value}
    (a33 : PySem.W.nsIn K mainGlobals "is_row_of_chances" = some (some (.ref f33))) (l33 : K.lookup f33 = some ⟨oc33, od33, .func (PySem.W.fnOf "is_row_of_chances" "is_row_of_chances" (defArgs s_is_row_of_chances) (defBody s_is_row_of_chances) (defScope s_is_row_of_chances) .none kV33 dc33 pm33 an33 cd33 ct33), sl33⟩) (c33 : PySem.W.codeIn K cd33 "is_row_of_chances" = true) (k33 : PySem.W.keepIn K (.ref f33) = true)
    {f34 : Addr} {od34 an34 : Option Addr} {sl34 : Array (Option Value)} {oc34 kV34 dc34 pm34 cd34 ct34 : Value}
    (a34 : PySem.W.nsIn K mainGlobals "state_count" = some (some (.ref f34))) (l34 : K.lookup f34 = some ⟨oc34, od34, .func (PySem.W.fnOf "state_count" "state_count" (defArgs s_state_count) (defBody s_state_count) (defScope s_state_count) .none kV34 dc34 pm34 an34 cd34 ct34), sl34⟩) (c34 : PySem.W.codeIn K cd34 "state_count" = true) (k34 : PySem.W.keepIn K (.ref f34) = true)
    {f35 : Addr} {od35 an35 : Option Addr} {sl35 : Array (Option Value)} {oc35 kV35 dc35 pm35 cd35 ct35 : Value}
    (a35 : PySem.W.nsIn K mainGlobals "is_belief" = some (some (.ref f35))) (l35 : K.lookup f35 = some ⟨oc35, od35, .func (PySem.W.fnOf "is_belief" "is_belief" (defArgs s_is_belief) (defBody s_is_belief) (defScope s_is_belief) .none kV35 dc35 pm35 an35 cd35 ct35), sl35⟩) (c35 : PySem.W.codeIn K cd35 "is_belief" = true) (k35 : PySem.W.keepIn K (.ref f35) = true)
    {f36 : Addr} {od36 an36 : Option Addr} {sl36 : Array (Option Value)} {oc36 kV36 dc36 pm36 cd36 ct36 : Value}
    (a36 : PySem.W.nsIn K mainGlobals "is_experiment_for" = some (some (.ref f36))) (l36 : K.lookup f36 = some ⟨oc36, od36, .func (PySem.W.fnOf "is_experiment_for" "is_experiment_for" (defArgs s_is_experiment_for) (defBody s_is_experiment_for) (defScope s_is_experiment_for) .none kV36 dc36 pm36 an36 cd36 ct36), sl36⟩) (c36 : PySem.W.codeIn K cd36 "is_experiment_for" = true) (k36 : PySem.W.keepIn K (.ref f36) = true)
    {f37 : Addr} {od37 an37 : Option Addr} {sl37 : Array (Option Value)} {oc37 kV37 dc37 pm37 cd37 ct37 : Value}
    (a37 : PySem.W.nsIn K mainGlobals "is_experiment" = some (some (.ref f37))) (l37 : K.lookup f37 = some ⟨oc37, od37, .func (PySem.W.fnOf "is_experiment" "is_experiment" (defArgs s_is_experiment) (defBody s_is_experiment) (defScope s_is_experiment) .none kV37 dc37 pm37 an37 cd37 ct37), sl37⟩) (c37 : PySem.W.codeIn K cd37 "is_experiment" = true) (k37 : PySem.W.keepIn K (.ref f37) = true)
    {f38 : Addr} {od38 an38 : Option Addr} {sl38 : Array (Option Value)} {oc38 kV38 dc38 pm38 cd38 ct38 : Value}
    (a38 : PySem.W.nsIn K mainGlobals "check_belief" = some (some (.ref f38))) (l38 : K.lookup f38 = some ⟨oc38, od38, .func (PySem.W.fnOf "check_belief" "check_belief" (defArgs s_check_belief) (defBody s_check_belief) (defScope s_check_belief) .none kV38 dc38 pm38 an38 cd38 ct38), sl38⟩) (c38 : PySem.W.codeIn K cd38 "check_belief" = true) (k38 : PySem.W.keepIn K (.ref f38) = true)
    {f39 : Addr} {od39 an39 : Option Addr} {sl39 : Array (Option Value)} {oc39 kV39 dc39 pm39 cd39 ct39 : Value}
    (a39 : PySem.W.nsIn K mainGlobals "is_less" = some (some (.ref f39))) (l39 : K.lookup f39 = some ⟨oc39, od39, .func (PySem.W.fnOf "is_less" "is_less" (defArgs s_is_less) (defBody s_is_less) (defScope s_is_less) .none kV39 dc39 pm39 an39 cd39 ct39), sl39⟩) (c39 : PySem.W.codeIn K cd39 "is_less" = true) (k39 : PySem.W.keepIn K (.ref f39) = true)
    {f40 : Addr} {od40 an40 : Option Addr} {sl40 : Array (Option Value)} {oc40 kV40 dc40 pm40 cd40 ct40 : Value}
    (a40 : PySem.W.nsIn K mainGlobals "is_row_less" = some (some (.ref f40))) (l40 : K.lookup f40 = some ⟨oc40, od40, .func (PySem.W.fnOf "is_row_less" "is_row_less" (defArgs s_is_row_less) (defBody s_is_row_less) (defScope s_is_row_less) .none kV40 dc40 pm40 an40 cd40 ct40), sl40⟩) (c40 : PySem.W.codeIn K cd40 "is_row_less" = true) (k40 : PySem.W.keepIn K (.ref f40) = true)
    {f41 : Addr} {od41 an41 : Option Addr} {sl41 : Array (Option Value)} {oc41 kV41 dc41 pm41 cd41 ct41 : Value}
    (a41 : PySem.W.nsIn K mainGlobals "are_ascending" = some (some (.ref f41))) (l41 : K.lookup f41 = some ⟨oc41, od41, .func (PySem.W.fnOf "are_ascending" "are_ascending" (defArgs s_are_ascending) (defBody s_are_ascending) (defScope s_are_ascending) .none kV41 dc41 pm41 an41 cd41 ct41), sl41⟩) (c41 : PySem.W.codeIn K cd41 "are_ascending" = true) (k41 : PySem.W.keepIn K (.ref f41) = true)
    {f42 : Addr} {od42 an42 : Option Addr} {sl42 : Array (Option Value)} {oc42 kV42 dc42 pm42 cd42 ct42 : Value}
    (a42 : PySem.W.nsIn K mainGlobals "is_part" = some (some (.ref f42))) (l42 : K.lookup f42 = some ⟨oc42, od42, .func (PySem.W.fnOf "is_part" "is_part" (defArgs s_is_part) (defBody s_is_part) (defScope s_is_part) .none kV42 dc42 pm42 an42 cd42 ct42), sl42⟩) (c42 : PySem.W.codeIn K cd42 "is_part" = true) (k42 : PySem.W.keepIn K (.ref f42) = true)
    {f43 : Addr} {od43 an43 : Option Addr} {sl43 : Array (Option Value)} {oc43 kV43 dc43 pm43 cd43 ct43 : Value}
    (a43 : PySem.W.nsIn K mainGlobals "row_mix" = some (some (.ref f43))) (l43 : K.lookup f43 = some ⟨oc43, od43, .func (PySem.W.fnOf "row_mix" "row_mix" (defArgs s_row_mix) (defBody s_row_mix) (defScope s_row_mix) .none kV43 dc43 pm43 an43 cd43 ct43), sl43⟩) (c43 : PySem.W.codeIn K cd43 "row_mix" = true) (k43 : PySem.W.keepIn K (.ref f43) = true)
    {f44 : Addr} {od44 an44 : Option Addr} {sl44 : Array (Option Value)} {oc44 kV44 dc44 pm44 cd44 ct44 : Value}
    (a44 : PySem.W.nsIn K mainGlobals "mean_of" = some (some (.ref f44))) (l44 : K.lookup f44 = some ⟨oc44, od44, .func (PySem.W.fnOf "mean_of" "mean_of" (defArgs s_mean_of) (defBody s_mean_of) (defScope s_mean_of) .none kV44 dc44 pm44 an44 cd44 ct44), sl44⟩) (c44 : PySem.W.codeIn K cd44 "mean_of" = true) (k44 : PySem.W.keepIn K (.ref f44) = true)
    {f45 : Addr} {od45 an45 : Option Addr} {sl45 : Array (Option Value)} {oc45 kV45 dc45 pm45 cd45 ct45 : Value}
    (a45 : PySem.W.nsIn K mainGlobals "is_split_for" = some (some (.ref f45))) (l45 : K.lookup f45 = some ⟨oc45, od45, .func (PySem.W.fnOf "is_split_for" "is_split_for" (defArgs s_is_split_for) (defBody s_is_split_for) (defScope s_is_split_for) .none kV45 dc45 pm45 an45 cd45 ct45), sl45⟩) (c45 : PySem.W.codeIn K cd45 "is_split_for" = true) (k45 : PySem.W.keepIn K (.ref f45) = true)
    {f46 : Addr} {od46 an46 : Option Addr} {sl46 : Array (Option Value)} {oc46 kV46 dc46 pm46 cd46 ct46 : Value}
    (a46 : PySem.W.nsIn K mainGlobals "is_split" = some (some (.ref f46))) (l46 : K.lookup f46 = some ⟨oc46, od46, .func (PySem.W.fnOf "is_split" "is_split" (defArgs s_is_split) (defBody s_is_split) (defScope s_is_split) .none kV46 dc46 pm46 an46 cd46 ct46), sl46⟩) (c46 : PySem.W.codeIn K cd46 "is_split" = true) (k46 : PySem.W.keepIn K (.ref f46) = true)
    {f47 : Addr} {od47 an47 : Option Addr} {sl47 : Array (Option Value)} {oc47 kV47 dc47 pm47 cd47 ct47 : Value}
    (a47 : PySem.W.nsIn K mainGlobals "_law_sizes" = some (some (.ref f47))) (l47 : K.lookup f47 = some ⟨oc47, od47, .func (PySem.W.fnOf "_law_sizes" "_law_sizes" (defArgs s__law_sizes) (defBody s__law_sizes) (defScope s__law_sizes) .none kV47 dc47 pm47 an47 cd47 ct47), sl47⟩) (c47 : PySem.W.codeIn K cd47 "_law_sizes" = true) (k47 : PySem.W.keepIn K (.ref f47) = true)
    {f48 : Addr} {od48 an48 : Option Addr} {sl48 : Array (Option Value)} {oc48 kV48 dc48 pm48 cd48 ct48 : Value}
    (a48 : PySem.W.nsIn K mainGlobals "_law_some_chance" = some (some (.ref f48))) (l48 : K.lookup f48 = some ⟨oc48, od48, .func (PySem.W.fnOf "_law_some_chance" "_law_some_chance" (defArgs s__law_some_chance) (defBody s__law_some_chance) (defScope s__law_some_chance) .none kV48 dc48 pm48 an48 cd48 ct48), sl48⟩) (c48 : PySem.W.codeIn K cd48 "_law_some_chance" = true) (k48 : PySem.W.keepIn K (.ref f48) = true)
    {f49 : Addr} {od49 an49 : Option Addr} {sl49 : Array (Option Value)} {oc49 kV49 dc49 pm49 cd49 ct49 : Value}
    (a49 : PySem.W.nsIn K mainGlobals "_law_signed" = some (some (.ref f49))) (l49 : K.lookup f49 = some ⟨oc49, od49, .func (PySem.W.fnOf "_law_signed" "_law_signed" (defArgs s__law_signed) (defBody s__law_signed) (defScope s__law_signed) .none kV49 dc49 pm49 an49 cd49 ct49), sl49⟩) (c49 : PySem.W.codeIn K cd49 "_law_signed" = true) (k49 : PySem.W.keepIn K (.ref f49) = true)
    {f50 : Addr} {od50 an50 : Option Addr} {sl50 : Array (Option Value)} {oc50 kV50 dc50 pm50 cd50 ct50 : Value}
    (a50 : PySem.W.nsIn K mainGlobals "_law_some_parting" = some (some (.ref f50))) (l50 : K.lookup f50 = some ⟨oc50, od50, .func (PySem.W.fnOf "_law_some_parting" "_law_some_parting" (defArgs s__law_some_parting) (defBody s__law_some_parting) (defScope s__law_some_parting) .none kV50 dc50 pm50 an50 cd50 ct50), sl50⟩) (c50 : PySem.W.codeIn K cd50 "_law_some_parting" = true) (k50 : PySem.W.keepIn K (.ref f50) = true)
    {f51 : Addr} {od51 an51 : Option Addr} {sl51 : Array (Option Value)} {oc51 kV51 dc51 pm51 cd51 ct51 : Value}
    (a51 : PySem.W.nsIn K mainGlobals "_law_trial" = some (some (.ref f51))) (l51 : K.lookup f51 = some ⟨oc51, od51, .func (PySem.W.fnOf "_law_trial" "_law_trial" (defArgs s__law_trial) (defBody s__law_trial) (defScope s__law_trial) .none kV51 dc51 pm51 an51 cd51 ct51), sl51⟩) (c51 : PySem.W.codeIn K cd51 "_law_trial" = true) (k51 : PySem.W.keepIn K (.ref f51) = true)
    {f52 : Addr} {od52 an52 : Option Addr} {sl52 : Array (Option Value)} {oc52 kV52 dc52 pm52 cd52 ct52 : Value}
    (a52 : PySem.W.nsIn K mainGlobals "_law_some_trial" = some (some (.ref f52))) (l52 : K.lookup f52 = some ⟨oc52, od52, .func (PySem.W.fnOf "_law_some_trial" "_law_some_trial" (defArgs s__law_some_trial) (defBody s__law_some_trial) (defScope s__law_some_trial) .none kV52 dc52 pm52 an52 cd52 ct52), sl52⟩) (c52 : PySem.W.codeIn K cd52 "_law_some_trial" = true) (k52 : PySem.W.keepIn K (.ref f52) = true)
    {f53 : Addr} {od53 an53 : Option Addr} {sl53 : Array (Option Value)} {oc53 kV53 dc53 pm53 cd53 ct53 : Value}
    (a53 : PySem.W.nsIn K mainGlobals "_law_row" = some (some (.ref f53))) (l53 : K.lookup f53 = some ⟨oc53, od53, .func (PySem.W.fnOf "_law_row" "_law_row" (defArgs s__law_row) (defBody s__law_row) (defScope s__law_row) .none kV53 dc53 pm53 an53 cd53 ct53), sl53⟩) (c53 : PySem.W.codeIn K cd53 "_law_row" = true) (k53 : PySem.W.keepIn K (.ref f53) = true)
    {f54 : Addr} {od54 an54 : Option Addr} {sl54 : Array (Option Value)} {oc54 kV54 dc54 pm54 cd54 ct54 : Value}
    (a54 : PySem.W.nsIn K mainGlobals "_law_table_of" = some (some (.ref f54))) (l54 : K.lookup f54 = some ⟨oc54, od54, .func (PySem.W.fnOf "_law_table_of" "_law_table_of" (defArgs s__law_table_of) (defBody s__law_table_of) (defScope s__law_table_of) .none kV54 dc54 pm54 an54 cd54 ct54), sl54⟩) (c54 : PySem.W.codeIn K cd54 "_law_table_of" = true) (k54 : PySem.W.keepIn K (.ref f54) = true)
    {f55 : Addr} {od55 an55 : Option Addr} {sl55 : Array (Option Value)} {oc55 kV55 dc55 pm55 cd55 ct55 : Value}
    (a55 : PySem.W.nsIn K mainGlobals "_law_some_world" = some (some (.ref f55))) (l55 : K.lookup f55 = some ⟨oc55, od55, .func (PySem.W.fnOf "_law_some_world" "_law_some_world" (defArgs s__law_some_world) (defBody s__law_some_world) (defScope s__law_some_world) .none kV55 dc55 pm55 an55 cd55 ct55), sl55⟩) (c55 : PySem.W.codeIn K cd55 "_law_some_world" = true) (k55 : PySem.W.keepIn K (.ref f55) = true)
    {f56 : Addr} {od56 an56 : Option Addr} {sl56 : Array (Option Value)} {oc56 kV56 dc56 pm56 cd56 ct56 : Value}
    (a56 : PySem.W.nsIn K mainGlobals "_law_right" = some (some (.ref f56))) (l56 : K.lookup f56 = some ⟨oc56, od56, .func (PySem.W.fnOf "_law_right" "_law_right" (defArgs s__law_right) (defBody s__law_right) (defScope s__law_right) .none kV56 dc56 pm56 an56 cd56 ct56), sl56⟩) (c56 : PySem.W.codeIn K cd56 "_law_right" = true) (k56 : PySem.W.keepIn K (.ref f56) = true)
    {f57 : Addr} {od57 an57 : Option Addr} {sl57 : Array (Option Value)} {oc57 kV57 dc57 pm57 cd57 ct57 : Value}
    (a57 : PySem.W.nsIn K mainGlobals "_law_well" = some (some (.ref f57))) (l57 : K.lookup f57 = some ⟨oc57, od57, .func (PySem.W.fnOf "_law_well" "_law_well" (defArgs s__law_well) (defBody s__law_well) (defScope s__law_well) .none kV57 dc57 pm57 an57 cd57 ct57), sl57⟩) (c57 : PySem.W.codeIn K cd57 "_law_well" = true) (k57 : PySem.W.keepIn K (.ref f57) = true)
    {f58 : Addr} {od58 an58 : Option Addr} {sl58 : Array (Option Value)} {oc58 kV58 dc58 pm58 cd58 ct58 : Value}
    (a58 : PySem.W.nsIn K mainGlobals "law" = some (some (.ref f58))) (l58 : K.lookup f58 = some ⟨oc58, od58, .func (PySem.W.fnOf "law" "law" (defArgs s_law) (defBody s_law) (defScope s_law) .none kV58 dc58 pm58 an58 cd58 ct58), sl58⟩) (c58 : PySem.W.codeIn K cd58 "law" = true) (k58 : PySem.W.keepIn K (.ref f58) = true)
    {vt0 : Nat} (va0 : PySem.W.nsIn K mainGlobals "MOST_SIGNALS" = some (some (.int 6 vt0)))
    {v1 : Addr} {vt1 vu1 vn1 : Nat} {vd1 : Option Addr} {vs1 : Array (Option Value)} (va1 : PySem.W.nsIn K mainGlobals "ONE" = some (some (.ref v1))) (vl1 : K.lookup v1 = some ⟨.type "tuple", vd1, .seq #[.int 1 vt1, .int 1 vu1] vn1, vs1⟩)
    (z0 : PySem.W.nsIn K mainGlobals "abs" = some none)
    (z1 : PySem.W.nsIn K mainGlobals "all" = some none)
    (z2 : PySem.W.nsIn K mainGlobals "any" = some none)
    (z3 : PySem.W.nsIn K mainGlobals "bool" = some none)
    (z4 : PySem.W.nsIn K mainGlobals "divmod" = some none)
    (z5 : PySem.W.nsIn K mainGlobals "int" = some none)
    (z6 : PySem.W.nsIn K mainGlobals "isinstance" = some none)
    (z7 : PySem.W.nsIn K mainGlobals "len" = some none)
    (z8 : PySem.W.nsIn K mainGlobals "list" = some none)
    (z9 : PySem.W.nsIn K mainGlobals "max" = some none)
    (z10 : PySem.W.nsIn K mainGlobals "min" = some none)
    (z11 : PySem.W.nsIn K mainGlobals "range" = some none)
    (z12 : PySem.W.nsIn K mainGlobals "repr" = some none)
    (z13 : PySem.W.nsIn K mainGlobals "str" = some none)
    (z14 : PySem.W.nsIn K mainGlobals "sum" = some none)
    (z15 : PySem.W.nsIn K mainGlobals "tuple" = some none)
    (z16 : PySem.W.nsIn K mainGlobals "zip" = some none)
    (zg : PySem.W.nsIn K mainGlobals "gcd" = some (some (.builtin "math.gcd")))
    : ∃ fd : FuncData, (∀ (s : Shared) (v : Value), BindsTo s fd ⟨[v], []⟩ [("script", v)]) ∧ ∀ base : Heap, K.In base → base.Ns mainGlobals mg → DG.GOk P w K mg base 12 fa fd ["script"] (spT 1 K T_law) := by
  have e := hfa.symm.trans (PySem.W.mg_of inK G a58)
  cases e
  have t__law_below : Top K mg "_law_below" s__law_below ["x", "y"] := top_mk inK G (fun _ _ _ _ _ _ us hl => match us, hl with | [_, _], _ => rfl) a0 l0 c0 k0
  have t__law_row_below : Top K mg "_law_row_below" s__law_row_below ["one", "two"] := top_mk inK G (fun _ _ _ _ _ _ us hl => match us, hl with | [_, _], _ => rfl) a1 l1 c1 k1
  have t__law_ascending : Top K mg "_law_ascending" s__law_ascending ["rows"] := top_mk inK G (fun _ _ _ _ _ _ us hl => match us, hl with | [_], _ => rfl) a2 l2 c2 k2
  have t__law_draw : Top K mg "_law_draw" s__law_draw ["well", "few"] := top_mk inK G (fun _ _ _ _ _ _ us hl => match us, hl with | [_, _], _ => rfl) a3 l3 c3 k3
  have t__law_one : Top K mg "_law_one" s__law_one ["well", "some"] := top_mk inK G (fun _ _ _ _ _ _ us hl => match us, hl with | [_, _], _ => rfl) a4 l4 c4 k4
  have t__law_odd : Top K mg "_law_odd" s__law_odd ["well"] := top_mk inK G (fun _ _ _ _ _ _ us hl => match us, hl with | [_], _ => rfl) a5 l5 c5 k5
  have t__law_bent : Top K mg "_law_bent" s__law_bent ["well", "thing"] := top_mk inK G (fun _ _ _ _ _ _ us hl => match us, hl with | [_, _], _ => rfl) a6 l6 c6 k6
  have t__law_lean : Top K mg "_law_lean" s__law_lean ["top", "base"] := top_mk inK G (fun _ _ _ _ _ _ us hl => match us, hl with | [_, _], _ => rfl) a7 l7 c7 k7
  have t__law_chance : Top K mg "_law_chance" s__law_chance ["well", "n"] := top_mk inK G (fun _ _ _ _ _ _ us hl => match us, hl with | [_, _], _ => rfl) a8 l8 c8 k8
  have t__law_plus : Top K mg "_law_plus" s__law_plus ["x", "y"] := top_mk inK G (fun _ _ _ _ _ _ us hl => match us, hl with | [_, _], _ => rfl) a9 l9 c9 k9
  have t__law_times : Top K mg "_law_times" s__law_times ["x", "y"] := top_mk inK G (fun _ _ _ _ _ _ us hl => match us, hl with | [_, _], _ => rfl) a10 l10 c10 k10
  have t__law_dot : Top K mg "_law_dot" s__law_dot ["one", "two"] := top_mk inK G (fun _ _ _ _ _ _ us hl => match us, hl with | [_, _], _ => rfl) a11 l11 c11 k11
  have t__law_is_tuple : Top K mg "_law_is_tuple" s__law_is_tuple ["thing", "few"] := top_mk inK G (fun _ _ _ _ _ _ us hl => match us, hl with | [_, _], _ => rfl) a12 l12 c12 k12
  have t__law_is_whole : Top K mg "_law_is_whole" s__law_is_whole ["thing"] := top_mk inK G (fun _ _ _ _ _ _ us hl => match us, hl with | [_], _ => rfl) a13 l13 c13 k13
  have t__law_is_part : Top K mg "_law_is_part" s__law_is_part ["thing"] := top_mk inK G (fun _ _ _ _ _ _ us hl => match us, hl with | [_], _ => rfl) a14 l14 c14 k14
  have t__law_is_row : Top K mg "_law_is_row" s__law_is_row ["thing", "few"] := top_mk inK G (fun _ _ _ _ _ _ us hl => match us, hl with | [_, _], _ => rfl) a15 l15 c15 k15
  have t__law_is_chance : Top K mg "_law_is_chance" s__law_is_chance ["thing", "few"] := top_mk inK G (fun _ _ _ _ _ _ us hl => match us, hl with | [_, _], _ => rfl) a16 l16 c16 k16
  have t__law_mean : Top K mg "_law_mean" s__law_mean ["parting", "n"] := top_mk inK G (fun _ _ _ _ _ _ us hl => match us, hl with | [_, _], _ => rfl) a17 l17 c17 k17
  have t__law_is_parting : Top K mg "_law_is_parting" s__law_is_parting ["thing", "start"] := top_mk inK G (fun _ _ _ _ _ _ us hl => match us, hl with | [_, _], _ => rfl) a18 l18 c18 k18
  have t__law_is_trial : Top K mg "_law_is_trial" s__law_is_trial ["thing", "n"] := top_mk inK G (fun _ _ _ _ _ _ us hl => match us, hl with | [_, _], _ => rfl) a19 l19 c19 k19
  have t__law_is_world : Top K mg "_law_is_world" s__law_is_world ["thing"] := top_mk inK G (fun _ _ _ _ _ _ us hl => match us, hl with | [_], _ => rfl) a20 l20 c20 k20
  have t__law_number : Top K mg "_law_number" s__law_number ["well"] := top_mk inK G (fun _ _ _ _ _ _ us hl => match us, hl with | [_], _ => rfl) a21 l21 c21 k21
  have t__law_parting : Top K mg "_law_parting" s__law_parting ["well", "n", "most"] := top_mk inK G (fun _ _ _ _ _ _ us hl => match us, hl with | [_, _, _], _ => rfl) a22 l22 c22 k22
  have t__law_put_in : Top K mg "_law_put_in" s__law_put_in ["parting", "weight", "chance"] := top_mk inK G (fun _ _ _ _ _ _ us hl => match us, hl with | [_, _, _], _ => rfl) a23 l23 c23 k23
  have t_is_whole : Top K mg "is_whole" s_is_whole ["value"] := top_mk inK G (fun _ _ _ _ _ _ us hl => match us, hl with | [_], _ => rfl) a24 l24 c24 k24
  have t_is_fraction : Top K mg "is_fraction" s_is_fraction ["value"] := top_mk inK G (fun _ _ _ _ _ _ us hl => match us, hl with | [_], _ => rfl) a25 l25 c25 k25
  have t_is_row : Top K mg "is_row" s_is_row ["value", "many"] := top_mk inK G (fun _ _ _ _ _ _ us hl => match us, hl with | [_, _], _ => rfl) a26 l26 c26 k26
  have t_is_table : Top K mg "is_table" s_is_table ["value", "many", "states"] := top_mk inK G (fun _ _ _ _ _ _ us hl => match us, hl with | [_, _, _], _ => rfl) a27 l27 c27 k27
  have t_is_setting : Top K mg "is_setting" s_is_setting ["value"] := top_mk inK G (fun _ _ _ _ _ _ us hl => match us, hl with | [_], _ => rfl) a28 l28 c28 k28
  have t_check_setting : Top K mg "check_setting" s_check_setting ["setting"] := top_mk inK G (fun _ _ _ _ _ _ us hl => match us, hl with | [_], _ => rfl) a29 l29 c29 k29
  have t_lowest : Top K mg "lowest" s_lowest ["above", "below"] := top_mk inK G (fun _ _ _ _ _ _ us hl => match us, hl with | [_, _], _ => rfl) a30 l30 c30 k30
  have t_row_product : Top K mg "row_product" s_row_product ["row", "other"] := top_mk inK G (fun _ _ _ _ _ _ us hl => match us, hl with | [_, _], _ => rfl) a31 l31 c31 k31
  have t_row_sum : Top K mg "row_sum" s_row_sum ["row"] := top_mk inK G (fun _ _ _ _ _ _ us hl => match us, hl with | [_], _ => rfl) a32 l32 c32 k32
  have t_is_row_of_chances : Top K mg "is_row_of_chances" s_is_row_of_chances ["value", "many"] := top_mk inK G (fun _ _ _ _ _ _ us hl => match us, hl with | [_, _], _ => rfl) a33 l33 c33 k33
  have t_state_count : Top K mg "state_count" s_state_count ["setting"] := top_mk inK G (fun _ _ _ _ _ _ us hl => match us, hl with | [_], _ => rfl) a34 l34 c34 k34
  have t_is_belief : Top K mg "is_belief" s_is_belief ["setting", "value"] := top_mk inK G (fun _ _ _ _ _ _ us hl => match us, hl with | [_, _], _ => rfl) a35 l35 c35 k35
  have t_is_experiment_for : Top K mg "is_experiment_for" s_is_experiment_for ["states", "value"] := top_mk inK G (fun _ _ _ _ _ _ us hl => match us, hl with | [_, _], _ => rfl) a36 l36 c36 k36
  have t_is_experiment : Top K mg "is_experiment" s_is_experiment ["setting", "value"] := top_mk inK G (fun _ _ _ _ _ _ us hl => match us, hl with | [_, _], _ => rfl) a37 l37 c37 k37
  have t_check_belief : Top K mg "check_belief" s_check_belief ["setting", "belief"] := top_mk inK G (fun _ _ _ _ _ _ us hl => match us, hl with | [_, _], _ => rfl) a38 l38 c38 k38
  have t_is_less : Top K mg "is_less" s_is_less ["left", "right"] := top_mk inK G (fun _ _ _ _ _ _ us hl => match us, hl with | [_, _], _ => rfl) a39 l39 c39 k39
  have t_is_row_less : Top K mg "is_row_less" s_is_row_less ["row", "other"] := top_mk inK G (fun _ _ _ _ _ _ us hl => match us, hl with | [_, _], _ => rfl) a40 l40 c40 k40
  have t_are_ascending : Top K mg "are_ascending" s_are_ascending ["rows"] := top_mk inK G (fun _ _ _ _ _ _ us hl => match us, hl with | [_], _ => rfl) a41 l41 c41 k41
  have t_is_part : Top K mg "is_part" s_is_part ["value", "states"] := top_mk inK G (fun _ _ _ _ _ _ us hl => match us, hl with | [_, _], _ => rfl) a42 l42 c42 k42
  have t_row_mix : Top K mg "row_mix" s_row_mix ["shares", "rows"] := top_mk inK G (fun _ _ _ _ _ _ us hl => match us, hl with | [_, _], _ => rfl) a43 l43 c43 k43
  have t_mean_of : Top K mg "mean_of" s_mean_of ["split"] := top_mk inK G (fun _ _ _ _ _ _ us hl => match us, hl with | [_], _ => rfl) a44 l44 c44 k44
  have t_is_split_for : Top K mg "is_split_for" s_is_split_for ["prior", "value"] := top_mk inK G (fun _ _ _ _ _ _ us hl => match us, hl with | [_, _], _ => rfl) a45 l45 c45 k45
  have t_is_split : Top K mg "is_split" s_is_split ["setting", "prior", "value"] := top_mk inK G (fun _ _ _ _ _ _ us hl => match us, hl with | [_, _, _], _ => rfl) a46 l46 c46 k46
  have t__law_sizes : Top K mg "_law_sizes" s__law_sizes ["well"] := top_mk inK G (fun _ _ _ _ _ _ us hl => match us, hl with | [_], _ => rfl) a47 l47 c47 k47
  have t__law_some_chance : Top K mg "_law_some_chance" s__law_some_chance ["well", "n"] := top_mk inK G (fun _ _ _ _ _ _ us hl => match us, hl with | [_, _], _ => rfl) a48 l48 c48 k48
  have t__law_signed : Top K mg "_law_signed" s__law_signed ["well", "n"] := top_mk inK G (fun _ _ _ _ _ _ us hl => match us, hl with | [_, _], _ => rfl) a49 l49 c49 k49
  have t__law_some_parting : Top K mg "_law_some_parting" s__law_some_parting ["well", "n"] := top_mk inK G (fun _ _ _ _ _ _ us hl => match us, hl with | [_, _], _ => rfl) a50 l50 c50 k50
  have t__law_trial : Top K mg "_law_trial" s__law_trial ["well", "n", "most"] := top_mk inK G (fun _ _ _ _ _ _ us hl => match us, hl with | [_, _, _], _ => rfl) a51 l51 c51 k51
  have t__law_some_trial : Top K mg "_law_some_trial" s__law_some_trial ["well", "n"] := top_mk inK G (fun _ _ _ _ _ _ us hl => match us, hl with | [_, _], _ => rfl) a52 l52 c52 k52
  have t__law_row : Top K mg "_law_row" s__law_row ["well", "n"] := top_mk inK G (fun _ _ _ _ _ _ us hl => match us, hl with | [_, _], _ => rfl) a53 l53 c53 k53
  have t__law_table_of : Top K mg "_law_table_of" s__law_table_of ["well", "n", "m"] := top_mk inK G (fun _ _ _ _ _ _ us hl => match us, hl with | [_, _, _], _ => rfl) a54 l54 c54 k54
  have t__law_some_world : Top K mg "_law_some_world" s__law_some_world ["well", "n", "m"] := top_mk inK G (fun _ _ _ _ _ _ us hl => match us, hl with | [_, _, _], _ => rfl) a55 l55 c55 k55
  have t__law_right : Top K mg "_law_right" s__law_right ["well"] := top_mk inK G (fun _ _ _ _ _ _ us hl => match us, hl with | [_], _ => rfl) a56 l56 c56 k56
  have t__law_well : Top K mg "_law_well" s__law_well ["script", "lap"] := top_mk inK G (fun _ _ _ _ _ _ us hl => match us, hl with | [_, _], _ => rfl) a57 l57 c57 k57
  have C_MOST_SIGNALS : ConstOk K mg "MOST_SIGNALS" V_MOST_SIGNALS := const_int inK G va0
  have C_ONE : ConstOk K mg "ONE" V_ONE := const_mk inK G va1 vl1
  have F : Fun K "law" "law" s_law fa (PySem.W.fnOf "law" "law" (defArgs s_law) (defBody s_law) (defScope s_law) .none kV58 dc58 pm58 an58 cd58 ct58) := fun_mk (st := s_law) l58 c58 k58
  have m_abs : mg "abs" = none := PySem.W.mg_none_of inK G z0
  have m_all : mg "all" = none := PySem.W.mg_none_of inK G z1
  have m_any : mg "any" = none := PySem.W.mg_none_of inK G z2
  have m_bool : mg "bool" = none := PySem.W.mg_none_of inK G z3
  have m_divmod : mg "divmod" = none := PySem.W.mg_none_of inK G z4
  have m_int : mg "int" = none := PySem.W.mg_none_of inK G z5
  have m_isinstance : mg "isinstance" = none := PySem.W.mg_none_of inK G z6
  have m_len : mg "len" = none := PySem.W.mg_none_of inK G z7
  have m_list : mg "list" = none := PySem.W.mg_none_of inK G z8
  have m_max : mg "max" = none := PySem.W.mg_none_of inK G z9
  have m_min : mg "min" = none := PySem.W.mg_none_of inK G z10
  have m_range : mg "range" = none := PySem.W.mg_none_of inK G z11
  have m_repr : mg "repr" = none := PySem.W.mg_none_of inK G z12
  have m_str : mg "str" = none := PySem.W.mg_none_of inK G z13
  have m_sum : mg "sum" = none := PySem.W.mg_none_of inK G z14
  have m_tuple : mg "tuple" = none := PySem.W.mg_none_of inK G z15
  have m_zip : mg "zip" = none := PySem.W.mg_none_of inK G z16
  have g_gcd : mg "gcd" = some (.builtin "math.gcd") := PySem.W.mg_of inK G zg
  refine ⟨PySem.W.fnOf "law" "law" (defArgs s_law) (defBody s_law) (defScope s_law) .none kV58 dc58 pm58 an58 cd58 ct58, fun s v => .of_eq ?_, fun base _ _ => ?_⟩
  · rfl
  · exact law_ok F t__law_below t__law_row_below t__law_ascending t__law_draw t__law_one t__law_odd t__law_bent t__law_lean t__law_chance t__law_plus t__law_times t__law_dot t__law_is_tuple t__law_is_whole t__law_is_part t__law_is_row t__law_is_chance t__law_mean t__law_is_parting t__law_is_trial t__law_is_world t__law_number t__law_parting t__law_put_in t_is_whole t_is_fraction t_is_row t_is_table t_is_setting t_check_setting t_lowest t_row_product t_row_sum t_is_row_of_chances t_state_count t_is_belief t_is_experiment_for t_is_experiment t_check_belief t_is_less t_is_row_less t_are_ascending t_is_part t_row_mix t_mean_of t_is_split_for t_is_split t__law_sizes t__law_some_chance t__law_signed t__law_some_parting t__law_trial t__law_some_trial t__law_row t__law_table_of t__law_some_world t__law_right t__law_well C_MOST_SIGNALS C_ONE m_abs m_all m_any m_bool m_divmod m_int m_isinstance m_len m_list m_max m_min m_range m_repr m_str m_sum m_tuple m_zip g_gcd
end K2

/-! part Q22 -/
set_option Elab.async false
set_option linter.all false
set_option maxRecDepth 100000
open PySem PySem.W PyProof.Rows
set_option maxHeartbeats 0 in
theorem PySem.Challenge.cw_persuasion_k02_settings_beliefs_splits_e_holds : PySem.Challenge.rw_persuasion_k02_settings_beliefs_splits_e.Holds := by
  w_on; o_law; k_head; (case hw => w_witness2)
  k_fill
  refine DE.go_walk (l := PySem.Challenge.rw_persuasion_k02_settings_beliefs_splits_e) (n := 63) (k := 12) (x := "script") (sp := fun K => DV.spT 1 K K2.T_law) rfl (by decide) rfl ⟨rfl, by decide, by decide⟩ (fun w h Y => PySem.W.kIn_of Y) ?F (fun K T a ns hl ho hs => K2.law_starts K T a ns hl ho hs)
  case F =>
    intro w mg fa h KX G hmg
    refine' K2.all_mk KX G hmg ?a0 ?l0 ?c0 ?k0 ?a1 ?l1 ?c1 ?k1 ?a2 ?l2 ?c2 ?k2 ?a3 ?l3 ?c3 ?k3 ?a4 ?l4 ?c4 ?k4 ?a5 ?l5 ?c5 ?k5 ?a6 ?l6 ?c6 ?k6 ?a7 ?l7 ?c7 ?k7 ?a8 ?l8 ?c8 ?k8 ?a9 ?l9 ?c9 ?k9 ?a10 ?l10 ?c10 ?k10 ?a11 ?l11 ?c11 ?k11 ?a12 ?l12 ?c12 ?k12 ?a13 ?l13 ?c13 ?k13 ?a14 ?l14 ?c14 ?k14 ?a15 ?l15 ?c15 ?k15 ?a16 ?l16 ?c16 ?k16 ?a17 ?l17 ?c17 ?k17 ?a18 ?l18 ?c18 ?k18 ?a19 ?l19 ?c19 ?k19 ?a20 ?l20 ?c20 ?k20 ?a21 ?l21 ?c21 ?k21 ?a22 ?l22 ?c22 ?k22 ?a23 ?l23 ?c23 ?k23 ?a24 ?l24 ?c24 ?k24 ?a25 ?l25 ?c25 ?k25 ?a26 ?l26 ?c26 ?k26 ?a27 ?l27 ?c27 ?k27 ?a28 ?l28 ?c28 ?k28 ?a29 ?l29 ?c29 ?k29 ?a30 ?l30 ?c30 ?k30 ?a31 ?l31 ?c31 ?k31 ?a32 ?l32 ?c32 ?k32 ?a33 ?l33 ?c33 ?k33 ?a34 ?l34 ?c34 ?k34 ?a35 ?l35 ?c35 ?k35 ?a36 ?l36 ?c36 ?k36 ?a37 ?l37 ?c37 ?k37 ?a38 ?l38 ?c38 ?k38 ?a39 ?l39 ?c39 ?k39 ?a40 ?l40 ?c40 ?k40 ?a41 ?l41 ?c41 ?k41 ?a42 ?l42 ?c42 ?k42 ?a43 ?l43 ?c43 ?k43 ?a44 ?l44 ?c44 ?k44 ?a45 ?l45 ?c45 ?k45 ?a46 ?l46 ?c46 ?k46 ?a47 ?l47 ?c47 ?k47 ?a48 ?l48 ?c48 ?k48 ?a49 ?l49 ?c49 ?k49 ?a50 ?l50 ?c50 ?k50 ?a51 ?l51 ?c51 ?k51 ?a52 ?l52 ?c52 ?k52 ?a53 ?l53 ?c53 ?k53 ?a54 ?l54 ?c54 ?k54 ?a55 ?l55 ?c55 ?k55 ?a56 ?l56 ?c56 ?k56 ?a57 ?l57 ?c57 ?k57 ?a58 ?l58 ?c58 ?k58 ?va0 ?va1 ?vl1 ?z0 ?z1 ?z2 ?z3 ?z4 ?z5 ?z6 ?z7 ?z8 ?z9 ?z10 ?z11 ?z12 ?z13 ?z14 ?z15 ?z16 ?zg
    (case a0 => k_is); (case l0 => k_is); (case c0 => k_is); (case k0 => k_is); (case a1 => k_is); (case l1 => k_is); (case c1 => k_is); (case k1 => k_is); (case a2 => k_is); (case l2 => k_is); (case c2 => k_is); (case k2 => k_is); (case a3 => k_is); (case l3 => k_is); (case c3 => k_is); (case k3 => k_is); (case a4 => k_is); (case l4 => k_is); (case c4 => k_is); (case k4 => k_is); (case a5 => k_is); (case l5 => k_is); (case c5 => k_is); (case k5 => k_is); (case a6 => k_is); (case l6 => k_is); (case c6 => k_is); (case k6 => k_is); (case a7 => k_is); (case l7 => k_is); (case c7 => k_is); (case k7 => k_is); (case a8 => k_is); (case l8 => k_is); (case c8 => k_is); (case k8 => k_is); (case a9 => k_is); (case l9 => k_is); (case c9 => k_is); (case k9 => k_is); (case a10 => k_is); (case l10 => k_is); (case c10 => k_is); (case k10 => k_is); (case a11 => k_is); (case l11 => k_is); (case c11 => k_is); (case k11 => k_is); (case a12 => k_is); (case l12 => k_is); (case c12 => k_is); (case k12 => k_is); (case a13 => k_is); (case l13 => k_is); (case c13 => k_is); (case k13 => k_is); (case a14 => k_is); (case l14 => k_is); (case c14 => k_is); (case k14 => k_is); (case a15 => k_is); (case l15 => k_is); (case c15 => k_is); (case k15 => k_is); (case a16 => k_is); (case l16 => k_is); (case c16 => k_is); (case k16 => k_is); (case a17 => k_is); (case l17 => k_is); (case c17 => k_is); (case k17 => k_is); (case a18 => k_is); (case l18 => k_is); (case c18 => k_is); (case k18 => k_is); (case a19 => k_is); (case l19 => k_is); (case c19 => k_is); (case k19 => k_is); (case a20 => k_is); (case l20 => k_is); (case c20 => k_is); (case k20 => k_is); (case a21 => k_is); (case l21 => k_is); (case c21 => k_is); (case k21 => k_is); (case a22 => k_is); (case l22 => k_is); (case c22 => k_is); (case k22 => k_is); (case a23 => k_is); (case l23 => k_is); (case c23 => k_is); (case k23 => k_is); (case a24 => k_is); (case l24 => k_is); (case c24 => k_is); (case k24 => k_is); (case a25 => k_is); (case l25 => k_is); (case c25 => k_is); (case k25 => k_is); (case a26 => k_is); (case l26 => k_is); (case c26 => k_is); (case k26 => k_is); (case a27 => k_is); (case l27 => k_is); (case c27 => k_is); (case k27 => k_is); (case a28 => k_is); (case l28 => k_is); (case c28 => k_is); (case k28 => k_is); (case a29 => k_is); (case l29 => k_is); (case c29 => k_is); (case k29 => k_is); (case a30 => k_is); (case l30 => k_is); (case c30 => k_is); (case k30 => k_is); (case a31 => k_is); (case l31 => k_is); (case c31 => k_is); (case k31 => k_is); (case a32 => k_is); (case l32 => k_is); (case c32 => k_is); (case k32 => k_is); (case a33 => k_is); (case l33 => k_is); (case c33 => k_is); (case k33 => k_is); (case a34 => k_is); (case l34 => k_is); (case c34 => k_is); (case k34 => k_is); (case a35 => k_is); (case l35 => k_is); (case c35 => k_is); (case k35 => k_is); (case a36 => k_is); (case l36 => k_is); (case c36 => k_is); (case k36 => k_is); (case a37 => k_is); (case l37 => k_is); (case c37 => k_is); (case k37 => k_is); (case a38 => k_is); (case l38 => k_is); (case c38 => k_is); (case k38 => k_is); (case a39 => k_is); (case l39 => k_is); (case c39 => k_is); (case k39 => k_is); (case a40 => k_is); (case l40 => k_is); (case c40 => k_is); (case k40 => k_is); (case a41 => k_is); (case l41 => k_is); (case c41 => k_is); (case k41 => k_is); (case a42 => k_is); (case l42 => k_is); (case c42 => k_is); (case k42 => k_is); (case a43 => k_is); (case l43 => k_is); (case c43 => k_is); (case k43 => k_is); (case a44 => k_is); (case l44 => k_is); (case c44 => k_is); (case k44 => k_is); (case a45 => k_is); (case l45 => k_is); (case c45 => k_is); (case k45 => k_is); (case a46 => k_is); (case l46 => k_is); (case c46 => k_is); (case k46 => k_is); (case a47 => k_is); (case l47 => k_is); (case c47 => k_is); (case k47 => k_is); (case a48 => k_is); (case l48 => k_is); (case c48 => k_is); (case k48 => k_is); (case a49 => k_is); (case l49 => k_is); (case c49 => k_is); (case k49 => k_is); (case a50 => k_is); (case l50 => k_is); (case c50 => k_is); (case k50 => k_is); (case a51 => k_is); (case l51 => k_is); (case c51 => k_is); (case k51 => k_is); (case a52 => k_is); (case l52 => k_is); (case c52 => k_is); (case k52 => k_is); (case a53 => k_is); (case l53 => k_is); (case c53 => k_is); (case k53 => k_is); (case a54 => k_is); (case l54 => k_is); (case c54 => k_is); (case k54 => k_is); (case a55 => k_is); (case l55 => k_is); (case c55 => k_is); (case k55 => k_is); (case a56 => k_is); (case l56 => k_is); (case c56 => k_is); (case k56 => k_is); (case a57 => k_is); (case l57 => k_is); (case c57 => k_is); (case k57 => k_is); (case a58 => k_is); (case l58 => k_is); (case c58 => k_is); (case k58 => k_is); (case va0 => k_is); (case va1 => k_is); (case vl1 => k_is); (case z0 => k_is); (case z1 => k_is); (case z2 => k_is); (case z3 => k_is); (case z4 => k_is); (case z5 => k_is); (case z6 => k_is); (case z7 => k_is); (case z8 => k_is); (case z9 => k_is); (case z10 => k_is); (case z11 => k_is); (case z12 => k_is); (case z13 => k_is); (case z14 => k_is); (case z15 => k_is); (case z16 => k_is); (case zg => k_is)


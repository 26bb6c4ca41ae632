import PyProof.Rows.All
import Wide.All
import OpenK.AllK
import Wide.FinOn
import HandS.Base
import HandS.Call
import HandS.Conv
import HandS.Exc
import HandS.ExcInit
import HandS.ExcValue
import HandS.ForMost
import HandS.Gcd
import HandS.IsInst
import HandS.Style
import HandS.TupAny
import HandS.TupMul
import HandS.Walk
import HandS.Wide
import HandS.WideBits
import HandS.Zip
import KE.GoesMore
import KE.KExcSuper
import PyProof.ReprLen
import PyProof.Rows.RegStrFacts
import PySem.Challenge.RW_persuasion_k03_whole_pays_best_actions_v
/-! part EM -/
set_option Elab.async false
set_option linter.all false
set_option maxRecDepth 100000
set_option maxHeartbeats 2000000
set_option autoImplicit false
/-! own errors: a class over ValueError (through classes of one's own) whose __init__ is: super().__init__('..'); self.f = f -/
namespace EM
open PySem PySem.W PySem.Calls PyProof.Rows PySem.Spec
/-! ### type.__call__ with keywords, too -/
section
variable {M : Model} {A : Around} {E : Value → Shared → Prop} {h : Heap} {g : Array GenState} {d : Drawn} {t : Nat} {os : OsState}
variable {nm q : Str} {C N : Addr} {bs bm bmB : List Value} {hdct : Bool} {sn : List Str} {sub : List Value} {ab : Bool} {col : Option Bool} {dd : Option Addr} {k0 k1 k2 k3 k5 : Option Value} {B newId initId : String}
theorem chk_new (F : ExcBaseFacts B newId initId bmB) (hT : ∀ Y : String, bm.contains (.type Y) = bmB.contains (.type Y)) {us : List Value} {kw : List (Str × Value)} {Q : Unit → Shared → Prop}
    (hC : h.get? C = some (excClassObj nm q C N bs bm hdct sn sub ab col dd k0 k1 k2 k3 k5 newId)) (hq : Q () ⟨h, g, d, t, os⟩) : wpAny M A (checkBuiltinCall newId ⟨.ref C :: us, kw⟩) Q E ⟨h, g, d, t, os⟩ := by
  have c1 : (Value.ref C :: bm).contains (.type B) = true := by rw [List.contains_cons, hT, F.hasB]; exact Bool.or_true _
  have c2 := F.noStar
  simp only [checkBuiltinCall, F.newKind, F.newSplit, F.newRow]
  repeat (first
    | refine wpAny_loadPart_at hC ?_
    | (refine wpAny_isSubtype_exc hC ?_; rw [c1])
    | refine wpAny_staticBase_exc hC ?_
    | refine wpAny_madeBy_exc hC ?_
    | simp only [bne_self_eq_false, Bool.false_eq_true, if_false]
    | wp_step)
  all_goals exact hq
theorem chk_call {us : List Value} {kw : List (Str × Value)} {Q : Unit → Shared → Prop} (hC : h.get? C = some (excClassObj nm q C N bs bm hdct sn sub ab col dd k0 k1 k2 k3 k5 newId))
    (hq : Q () ⟨h, g, d, t, os⟩) : wpAny M A (checkBuiltinCall "type.__call__" ⟨.ref C :: us, kw⟩) Q E ⟨h, g, d, t, os⟩ := by
  have c1 := tc_sub
  have c2 : (⟨h, g, d, t, os⟩ : Shared).TypeIs (.ref C) "type" := ⟨_, hC, rfl⟩
  simp only [checkBuiltinCall, tc_kind, tc_split]
  repeat (any_goals (first
    | assumption
    | with_reducible refine wpAny_loadPart_at hC ?_
    | with_reducible refine wpAny_onRaise ?_
    | with_reducible refine wpAny_map ?_
    | wp_step))
end
section
variable {prog : Program} {w : World} {A : Around} {E : Value → Shared → Prop} {R : Result → Shared → Prop} {h : Heap} {g : Array GenState} {d : Drawn} {t : Nat} {os : OsState}
variable {nm q : Str} {C N : Addr} {bs bm bmB : List Value} {hdct : Bool} {sn : List Str} {sub : List Value} {ab : Bool} {col : Option Bool} {dd : Option Addr} {k0 k1 k2 k3 k5 : Option Value} {B newId initId : String}
abbrev two (h : Heap) (us : List Value) (C : Addr) : Heap := (h.push (kdv_tup us)).push (HandSPX.excO C h.objs.size)
theorem new_kw (F : ExcBaseFacts B newId initId bmB) (hT : ∀ Y : String, bm.contains (.type Y) = bmB.contains (.type Y)) {us : List Value} {kw : List (Str × Value)}
    (hC : h.get? C = some (excClassObj nm q C N bs bm hdct sn sub ab col dd k0 k1 k2 k3 k5 newId)) (hus : us.length ≤ sizeLine)
    (hq : R (.ok (.ret (.ref (h.objs.size + 1)))) ⟨two h us C, g, d, t, os⟩) : codeAny (model prog w) A (.builtin newId ⟨.ref C :: us, kw⟩) R ⟨h, g, d, t, os⟩ := by
  have c0 := F.ends
  have c1 : (Value.ref C :: bm).contains (.type B) = true := by rw [List.contains_cons, hT, F.hasB]; exact Bool.or_true _
  have c2 : (Value.ref C :: bm).contains (.type "AttributeError") = false := by rw [List.contains_cons, hT, F.noAttr]; exact Bool.or_false _
  have c3 : (Value.ref C :: bm).contains (.type "NameError") = false := by rw [List.contains_cons, hT, F.noName]; exact Bool.or_false _
  refine codeAny_builtinAt F.entry ?_
  unfold Builtin.«BaseException.__new__»
  refine _root_.PySem.wpAt_bind ?_
  show _root_.PySem.wpAt _ _ _ (stack >>= _) _ _ _
  refine _root_.PySem.wpAt_bind (_root_.PySem.wpAt_stack fun p below => _root_.PySem.wpAt_of_wpAny ?_)
  wp_walk
  refine _root_.PySem.wpAt_of_wpAny ?_
  rw [F.owner]
  repeat (first
    | with_reducible refine wpAny_madeHere_exc F.canon hC ?_
    | with_reducible refine wpAny_loadPart_at hC ?_
    | (with_reducible refine wpAny_isSubtype_exc hC ?_; first | rw [c1] | rw [c2] | rw [c3])
    | wp_step)
  show R _ _
  rw [Heap.size_push]
  exact hq
theorem typ_kw (F : ExcBaseFacts B newId initId bmB) (hT : ∀ Y : String, bm.contains (.type Y) = bmB.contains (.type Y)) {us : List Value} {kw : List (Str × Value)} {fI : Addr} {Q : PySem.Fin → Shared → Prop}
    (hC : h.get? C = some (excClassObj nm q C N bs bm hdct sn sub ab col dd k0 k1 k2 k3 k5 newId)) (hi : Looks (model prog w) h (typeLookup (.ref C) "__init__") (some (.ref fI)))
    (hb : ∀ self, Looks (model prog w) h (bindSpecial (.ref fI) self) (.ref fI, [self])) (hus : us.length ≤ sizeLine)
    (hq : codeAny (model prog w) A (.call (.ref fI) ⟨.ref (h.objs.size + 1) :: us, kw⟩)
      (fun r s' => match r with | .ok (.ret v) => v = .none ∧ Q (.done (.ret (.ref (h.objs.size + 1)))) s' | .ok _ => False | .error e => E e s') ⟨two h us C, g, d, t, os⟩) :
    wpAny (model prog w) A (Builtin.«type.__call__» ⟨.ref C :: us, kw⟩) Q E ⟨h, g, d, t, os⟩ := by
  repeat (first
    | with_reducible refine wpAny_loadPart_at hC ?_
    | with_reducible refine wpAny_madeBy_exc hC ?_
    | wp_step)
  refine codeAny_call_builtin_code (Code.quiet_builtin _ F.quiet) (chk_new F hT hC ?_)
  refine new_kw F hT hC hus ?_
  show wpAny _ _ _ _ _ _
  have up : ∀ b o, h.get? b = some o → (two h us C).get? b = some o := fun b o e => Heap.get?_push_of_some _ (Heap.get?_push_of_some _ e)
  have e1 := up _ _ hC
  have e2 : (two h us C).get? (h.objs.size + 1) = some (HandSPX.excO C h.objs.size) := by unfold two; heap_get
  have e3 : (Value.ref C :: bm).contains (.ref C) = true := by simp
  have e4 := hi.keeps up
  have e5 := (hb (.ref (h.objs.size + 1))).keeps up
  unfold isInstance
  repeat (first
    | with_reducible refine wpAny_loadPart_at e2 ?_
    | (with_reducible refine wpAny_isSubtype_exc e1 ?_; rw [e3])
    | wp_step)
  show wpAny _ _ (typeLookup (.ref C) _) _ _ _
  refine e4.at ?_
  refine wpAny_holding (wpAny_bind (e5.at ?_))
  refine wpAny_bind (wpAny_call (codeAny_mono hq fun r s' z => ?_))
  rcases r with e | (v | _ | _ | _) <;> first | exact z | exact z.elim | skip
  obtain ⟨rfl, z⟩ := z
  first
    | exact wpAny_pure (wpAny_pure z)
    | (wp_walk; exact z)
theorem call_kw (F : ExcBaseFacts B newId initId bmB) (hT : ∀ Y : String, bm.contains (.type Y) = bmB.contains (.type Y)) {us : List Value} {kw : List (Str × Value)} {fI : Addr}
    (hC : h.get? C = some (excClassObj nm q C N bs bm hdct sn sub ab col dd k0 k1 k2 k3 k5 newId)) (hi : Looks (model prog w) h (typeLookup (.ref C) "__init__") (some (.ref fI)))
    (hb : ∀ self, Looks (model prog w) h (bindSpecial (.ref fI) self) (.ref fI, [self])) (hus : us.length ≤ sizeLine)
    (hq : codeAny (model prog w) (A.under (.builtin "type.__call__" ⟨.ref C :: us, kw⟩)) (.call (.ref fI) ⟨.ref (h.objs.size + 1) :: us, kw⟩) (InitBack (h.objs.size + 1) R) ⟨two h us C, g, d, t, os⟩) :
    codeAny (model prog w) A (.call (.ref C) ⟨us, kw⟩) R ⟨h, g, d, t, os⟩ := by
  have c1 := tc_lookup
  have c2 := tc_bind (.ref C)
  have c3 : (⟨h, g, d, t, os⟩ : Shared).TypeIs (.ref C) "type" := ⟨_, hC, rfl⟩
  refine codeAny_of_tree ?_
  show wpAny _ _ (callAny (.ref C) _) _ _ _
  repeat (any_goals (first | assumption | with_reducible refine wpAny_loadPart_at hC ?_ | wp_step))
  refine ⟨rfl, ?_⟩
  refine codeAny_call_builtin_at (Code.quiet_builtin _ (by decide +kernel)) entry_typeCall ?_
  refine chk_call hC (typ_kw F hT hC hi hb hus ?_)
  refine codeAny_mono hq fun r s' z => ?_
  rcases r with e | (v | _ | _ | _) <;> exact z
end
end EM

/-! part EM2 -/
set_option Elab.async false
set_option linter.all false
set_option maxRecDepth 100000
set_option maxHeartbeats 2000000
set_option autoImplicit false
namespace EM
open PySem PySem.W PySem.Calls PyProof.Rows PySem.Spec
abbrev iBody (f m : Str) (j : Nat) (p0 p1 p2 p3 p4 p5 q0 q1 q2 q3 : Pos) : List Stmt :=
  [.Expr (.Call (.Attribute (.Call (.Name "super" p0) [] [] p1) "__init__" p2) [.Constant (.str m) j p3] [] p4) p5, .Assign [.Attribute (.Name "self" q0) f q1] (.Name f q2) q3]
abbrev iScope (f : Str) : Scope := { kind := .function, names := [("self", .local), (f, .local), ("__class__", .free), ("super", .globalImplicit)], isGenerator := false, isCoroutine := false, more := [] }
abbrev iPar (f : Str) (a0 a1 : Pos) : Arguments := { posonlyargs := [], args := [{ arg := "self", annotation := none, pos := a0 }, { arg := f, annotation := none, pos := a1 }], vararg := none, kwonlyargs := [], kw_defaults := [], kwarg := none, defaults := [] }
/-- the names of the attributes -/
def AttrN (f : Str) : Prop := f = "given" ∨ f = "index" ∨ f = "line"
theorem sc_no {f : Str} (hf : AttrN f) : ∀ x ∈ (iScope f).names, x.2 ≠ .cell := by rcases hf with rfl | rfl | rfl <;> decide
theorem sc_self {f : Str} (hf : AttrN f) : (iScope f).names.lookup ("self" : Str) = some NameKind.local := by rcases hf with rfl | rfl | rfl <;> decide
theorem sc_f {f : Str} (hf : AttrN f) : (iScope f).names.lookup f = some .local := by rcases hf with rfl | rfl | rfl <;> decide
theorem sc_cl {f : Str} (hf : AttrN f) : (iScope f).names.lookup ("__class__" : Str) = some .free := by rcases hf with rfl | rfl | rfl <;> decide
theorem sc_su {f : Str} (hf : AttrN f) : (iScope f).names.lookup ("super" : Str) = some .globalImplicit := by rcases hf with rfl | rfl | rfl <;> decide
theorem f_dbg {f : Str} (hf : AttrN f) : (f == ("__debug__" : Str)) = false := by rcases hf with rfl | rfl | rfl <;> decide
theorem f_self {f : Str} (hf : AttrN f) : (("self" : Str) == f) = false ∧ (f == ("self" : Str)) = false := by rcases hf with rfl | rfl | rfl <;> decide
theorem he_ok {env : Env} {m : Str} {j : Nat} {p0 p1 p2 p3 p4 : Pos} (hl : (p2.endLine == p4.line) = true) : eval (.Call (.Attribute (.Call (.Name "super" p0) [] [] p1) "__init__" p2) [.Constant (.str m) j p3] [] p4) env = (do
      let ov ← attributeBase (.Call (.Name "super" p0) [] [] p1) "__init__" env (eval (.Call (.Name "super" p0) [] [] p1) env)
      standAt p2.atName
      let (f, first) ← holding [ov] (getMethod ov "__init__" (do return (← importBound (.Call (.Name "super" p0) [] [] p1) env).getD true))
      callWith p4 f first (backTo p4 (starEach [.Constant (.str m) j p3] env)) []) := by
  have e : methodCallForm 1 (backTo p4 (starEach [.Constant (.str m) j p3] env)) [] = true := rfl
  have e2 : methodCallPos true (.Call (.Name "super" p0) [] [] p1) env p2 p4 = pure p4 := by
    unfold methodCallPos
    rw [hl]
    rfl
  show (do
    let ov ← attributeBase (.Call (.Name "super" p0) [] [] p1) "__init__" env (eval (.Call (.Name "super" p0) [] [] p1) env)
    standAt p2.atName
    methodCall (.Call (.Name "super" p0) [] [] p1) "__init__" p2 p4 env ov 1 (backTo p4 (starEach [.Constant (.str m) j p3] env)) []) = _
  unfold methodCall
  rw [e, e2]
  simp only [pure_bind]
  rfl
section
variable {prog : Program} {w : World} {A : Around} {E : Value → Shared → Prop} {h : Heap} {g : Array GenState} {d : Drawn} {t : Nat} {os : OsState}
theorem bound_init {C e t0 ua : Addr} {nm q : Str} {N : Addr} {bs bm : List Value} {sn : List Str} {sub : List Value} {ab : Bool} {col : Option Bool} {dd : Option Addr} {k0 k1 k2 k3 k5 : Option Value} {us : List Value} {Q : Value → Shared → Prop}
    (hC : h.get? C = some (excClassObj nm q C N bs bm true sn sub ab col dd k0 k1 k2 k3 k5 "ValueError.__new__")) (he : h.get? e = some (HandSPX.excO C t0)) (hu : h.get? ua = some (kxs_mw "ValueError.__init__" e)) (hz : us.length ≤ sizeLine)
    (hq : ∀ h', (∀ b o, b ≠ e → h.get? b = some o → h'.get? b = some o) → h'.get? e = some (HandSPX.excO C h.objs.size) → Q .none ⟨h', g, d, t, os⟩) : wpAny (model prog w) A (call (.ref ua) us) Q E ⟨h, g, d, t, os⟩ := by
  refine wpAny_call (codeAny_of_tree ?_)
  show wpAny _ A.in1 (callAny (.ref ua) ⟨us, []⟩) _ _ _
  simp only [callAny]
  refine wpAny_bind (wpAny_load hu ?_)
  have e1 : (Value.type "method-wrapper" == Value.type "method" || Value.type "method-wrapper" == Value.type "builtin_function_or_method" || Value.type "method-wrapper" == Value.type "method-wrapper") = true := by decide
  simp only [kxs_mw, e1, if_true]
  refine KFB.if_so (by decide) ?_
  refine wpAny_bind (check_bound_init F.excBase_ValueError.toExcCallFacts hC he rfl ?_)
  refine wpAny_bind (wpAny_pure (wpAny_pure ?_))
  refine ⟨plainId_quiet F.excBase_ValueError.init.plain _, codeAny_builtin F.excBase_ValueError.initEntry ?_⟩
  exact exc_init_tree (cls := .ref C) (t0 := t0) (dv := none) (c2 := .none) (c3 := .none) (b4 := .bool false) he hz fun h' k a _ => hq h' k a
end
section
variable {prog : Program} {w : World} {A : Around} {R : Result → Shared → Prop} {K : Frag} {mg mb : Str → Option Value}
theorem ns_keep {a : Addr} {m : Str → Option Value} {h h' : Heap} (n : h.Ns a m) (k : ∀ b o, h.get? b = some o → h'.get? b = some o) : h'.Ns a m := by
  obtain ⟨o, es, ep, e, r⟩ := n
  exact ⟨o, es, ep, k _ _ e, r⟩
theorem init_run {C fI cc cda e t0 : Addr} {f m qual : Str} {j : Nat} {p0 p1 p2 p3 p4 p5 q0 q1 q2 q3 a0 a1 : Pos} {kV doc pm ct u oc ccl cl : Value} {an od cdd cld : Option Addr} {osl ccs csl : Array (Option Value)} {vs : Array Value} {file : Str} {tf : Tok} {args : Args} {s : Shared}
    (hf : AttrN f) (hl : (p2.endLine == p4.line) = true) (X : K.In s.heap) (glob : s.heap.Ns mainGlobals mg) (bns : s.heap.Ns builtinsNs mb) (boot : ∀ y : Str, y ≠ "__name__" → mb y = bootBuiltins y) (lim : s.heap.NoLimit) (room : A.depth < recursionLimit)
    (lf : K.lookup fI = some ⟨oc, od, .func (ksFn "__init__" qual (iPar f a0 a1) (iBody f m j p0 p1 p2 p3 p4 p5 q0 q1 q2 q3) (iScope f) .none kV doc pm an (.ref cda) ct cc), osl⟩) (lc : codeIn K (.ref cda) qual = true)
    (lcd : K.lookup cda = some ⟨ccl, cdd, .fields vs, ccs⟩) (lvs : vs[2]? = some (.str file tf)) (lfile : ((prog.main.file : Str) == file) = true) (lcc : K.lookup cc = some ⟨cl, cld, .cell (some (.ref C)), csl⟩)
    (hsub : mroIn K C (.ref C) = some true) (hB : subIn K (.ref C) (.type "ValueError") = some true) (hsup : ks_superIn K C C "__init__" = some (some (.builtin "ValueError.__init__")))
    (hop : nsIn K cStatics "thirdparty.any" = some none) (hsn : nsIn K mainGlobals "super" = some none) (htop : (prog.main.scope.names.lookup ("super" : Str)).isSome = false)
    (hsa : findIn K (.ref C) "__setattr__" = some (some (.builtin "object.__setattr__"))) (hfa : findIn K (.ref C) f = some none) (hcls : ∃ nm q N bs bm sn sub ab col dd k0 k1 k2 k3 k5, K.lookup C = some (excClassObj nm q C N bs bm true sn sub ab col dd k0 k1 k2 k3 k5 "ValueError.__new__") ∧ HandSPX.refsVE bm = true)
    (he : s.heap.get? e = some (HandSPX.excO C t0)) (hKe : K.lookup e = none) (bind : BindsTo s (ksFn "__init__" qual (iPar f a0 a1) (iBody f m j p0 p1 p2 p3 p4 p5 q0 q1 q2 q3) (iScope f) .none kV doc pm an (.ref cda) ct cc) args [("self", .ref e), (f, u)])
    (hq : ∀ h' dx t1 tk', (∀ b o, b ≠ e → s.heap.get? b = some o → h'.get? b = some o) → dx ≠ e → s.heap.objs.size ≤ dx → h'.get? e = some ({ cls := .ref C, dict := some dx, data := .fields #[.ref t1, .none, .none, .none, .bool false, .none] } : Obj) →
      h'.Ns1 dx (fun y => if y = f then some u else none) → R (.ok (.ret .none)) { s with heap := h', toks := tk' }) : codeAny (model prog w) A (.call (.ref fI) args) R s := by
  obtain ⟨hp, g, d, t, os⟩ := s
  refine ks_codeAny_call_defAt (fd := ksFn "__init__" qual (iPar f a0 a1) (iBody f m j p0 p1 p2 p3 p4 p5 q0 q1 q2 q3) (iScope f) .none kV doc pm an (.ref cda) ct cc) (body := iBody f m j p0 p1 p2 p3 p4 p5 q0 q1 q2 q3) (binds := [("self", .ref e), (f, u)])
    room (X _ _ lf) rfl lim (codeRec_of X lc) rfl bind (sc_no hf) (fun x hx => ?_) (fun h0 hns hk => ?_)
  · rcases List.mem_cons.mp hx with rfl | hx
    · exact sc_self hf
    · obtain rfl := List.mem_singleton.mp hx
      exact sc_f hf
  · have he0 := hk _ _ he
    have X0 : K.In h0 := fun b o q => hk _ _ (X b o q)
    have mself : ([("self", Value.ref e), (f, u)] : List (Str × Value)).reverse.lookup ("self" : Str) = some (.ref e) := by
      simp [List.lookup, (f_self hf).1]
    have mf : ([("self", Value.ref e), (f, u)] : List (Str × Value)).reverse.lookup f = some u := by
      simp [List.lookup]
    obtain ⟨nm, q, N, bs, bm, sn, sub, ab, col, dd, k0, k1, k2, k3, k5, hC, hbm⟩ := hcls
    have hcd : clsIn K C = some { name := nm, bases := bs, mro := .ref C :: bm, ns := N, qualname := q, hasDict := true, slotNames := sn, subclasses := sub, abstract := ab, collection := col, hasDel := false } := by unfold clsIn; rw [hC] <;> rfl
    have hC1 := X0 _ _ hC
    refine ks_wpAt_execs_cons (ks_wpAt_Expr_any (ks_wpAt_MethodCall (he := he_ok hl) (ks_wpAt_super_base (sc_su hf) (sc_cl hf) (by decide) rfl (X0 _ _ lf) rfl rfl rfl (X0 _ _ lcd) rfl lvs lfile htop ?_)))
    refine ks_loadName_global rfl (sc_su hf) (loadGlobal_builtin (ns_keep glob hk) (mg_none_of X glob hsn) (ns_keep bns hk) ((boot _ (by decide)).trans (by decide +kernel : bootBuiltins "super" = some (.type "super"))) ⟨rfl, ?_⟩)
    refine wpAny_loadName_free rfl (sc_cl hf) rfl ⟨_, X0 _ _ lcc, rfl⟩ ?_
    refine wpAny_loadName_local rfl (sc_self hf) hns mself ?_
    refine ks_wpAny_isType_cls hC1 rfl ⟨rfl, ?_⟩
    refine ks_wpAny_call_super hC1 rfl he0 rfl (fun c z => by cases z) (looks_mroIn X0 hsub) (fun h1 hso k1' => ?_)
    have X1 : K.In h1 := fun b o q => k1' _ _ (X0 b o q)
    have he1 := k1' _ _ he0
    have hC2 := X1 _ _ hC
    have hxC : e ≠ C := fun z => by
      rw [z, hC2] at he1
      cases he1
    have LT : Looks (model prog w) h1 (typeOf (.ref e)) (.ref C) := fun A' Q' E' s' k q => wpAny_typeOf_ref (k _ _ he1) q
    have LI : Looks (model prog w) h1 (isInstance (.ref e) (.type "ValueError")) true := LT.andThen (looks_subIn X1 hB)
    have LM : Looks (model prog w) h1 (mroOf (.ref C)) (.ref C :: bm) := fun A' Q' E' s' k q => wpAny_bind ((looks_clsIn X1 hcd) A' _ E' s' k (wpAny_pure q))
    unfold ks_superIn at hsup
    rw [hcd] at hsup
    refine kxs_getMethod kxs_ValueError hso (looks_opaque X1 hop) LM rfl X1 hsup LI hxC (by decide) ?_
    have k2' : ∀ b o, h1.get? b = some o → (h1.push (kxs_mw "ValueError.__init__" e)).get? b = some o := fun b o z => Heap.get?_push_of_some _ z
    refine kxs_callWith (i := "ValueError.__init__") (x := e) rfl (evalArgs_plain (spliced_cons (wpAny_Constant_str (k := j) (pos := p3) (spliced_nil ⟨Heap.get?_push_size _ rfl, ?_⟩))))
    refine bound_init (k2' _ _ hC2) (k2' _ _ he1) (Heap.get?_push_size _ rfl) (by show 1 ≤ sizeLine; rw [sizeLine_eq]; omega) (fun h2 k3' he2 => ?_)
    have X2 : K.In h2 := fun b o q => k3' _ _ (fun z => by rw [z, hKe] at q; cases q) (k2' _ _ (X1 b o q))
    have up : ∀ b o, b ≠ e → hp.get? b = some o → h2.get? b = some o := fun b o z q => k3' _ _ z (k2' _ _ (k1' _ _ (hk _ _ q)))
    have ltE : e < hp.objs.size := Heap.lt_size he
    have hns2 : h2.Ns hp.objs.size (fun y => ([("self", Value.ref e), (f, u)] : List (Str × Value)).reverse.lookup y) := by
      obtain ⟨o, es, ep, z, r⟩ := hns
      exact ⟨o, es, ep, k3' _ _ (fun z => absurd ltE (by rw [← z]; exact Nat.lt_irrefl _)) (k2' _ _ (k1' _ _ z)), r⟩
    refine ks_wpAt_execs_cons (ks_wpAt_Assign_Attr (_root_.PySem.wpAt_of_wpAny (wpAny_Name (wpAny_loadName_local rfl (sc_f hf) hns2 mf ?_) (f_dbg hf))))
    refine wpAny_Name (wpAny_loadName_local rfl (sc_self hf) hns2 mself ?_) (by decide)
    refine set_plain X2 (ox := HandSPX.excO C (h1.push (kxs_mw "ValueError.__init__" e)).objs.size) (od := none) ⟨he2, rfl, rfl, trivial⟩ hsa ?_
    refine HandSPX.exc_osa X2 he2 hcd (show HandSPX.refsVE (.ref C :: bm) = true from hbm) rfl hfa (fun h3 tk' dx k4' hdx hne he3 hn3 => ?_)
    refine _root_.PySem.wpAt_of_wpAny (wpAny_execs_nil ?_)
    have hsz : hp.objs.size ≤ dx := by
      obtain ⟨o, es, ep, z, r⟩ := hns2
      exact Nat.le_of_lt (Nat.lt_of_lt_of_le (Heap.lt_size z) hdx)
    exact hq h3 dx _ tk' (fun b o z q => k4' _ _ z (up _ _ z q)) hne hsz he3 hn3
end
end EM

/-! part EM3 -/
set_option Elab.async false
set_option linter.all false
set_option maxRecDepth 100000
set_option maxHeartbeats 2000000
set_option autoImplicit false
namespace EM
open PySem PySem.W PySem.Calls PyProof.Rows PySem.Spec
/-- an own class of errors with the attribute f, told by the written part -/
structure MkC (P : Program) (K : Frag) (C : Addr) (f : Str) : Prop where
  nm : AttrN f
  ini : ∃ (fI cc cda : Addr) (m qual : Str) (j : Nat) (p0 p1 p2 p3 p4 p5 q0 q1 q2 q3 a0 a1 : Pos) (kV doc pm ct oc ccl cl : Value) (an od cdd cld : Option Addr) (osl ccs csl : Array (Option Value)) (vs : Array Value) (file : Str) (tf : Tok),
    (p2.endLine == p4.line) = true ∧ findIn K (.ref C) "__init__" = some (some (.ref fI)) ∧ typeIn K (.ref fI) = some (.type "function") ∧
    K.lookup fI = some ⟨oc, od, .func (ksFn "__init__" qual (iPar f a0 a1) (iBody f m j p0 p1 p2 p3 p4 p5 q0 q1 q2 q3) (iScope f) .none kV doc pm an (.ref cda) ct cc), osl⟩ ∧ codeIn K (.ref cda) qual = true ∧
    K.lookup cda = some ⟨ccl, cdd, .fields vs, ccs⟩ ∧ vs[2]? = some (.str file tf) ∧ ((P.main.file : Str) == file) = true ∧ K.lookup cc = some ⟨cl, cld, .cell (some (.ref C)), csl⟩
  cls : ∃ nm q N bs bm sn sub ab col dd k0 k1 k2 k3 k5, K.lookup C = some (excClassObj nm q C N bs bm true sn sub ab col dd k0 k1 k2 k3 k5 "ValueError.__new__") ∧ HandSPX.refsVE bm = true
  sub : mroIn K C (.ref C) = some true
  isV : subIn K (.ref C) (.type "ValueError") = some true
  sup : ks_superIn K C C "__init__" = some (some (.builtin "ValueError.__init__"))
  opq : nsIn K cStatics "thirdparty.any" = some none
  sgl : nsIn K mainGlobals "super" = some none
  top : (P.main.scope.names.lookup ("super" : Str)).isSome = false
  sa : findIn K (.ref C) "__setattr__" = some (some (.builtin "object.__setattr__"))
  fa : findIn K (.ref C) f = some none
  kp : keepIn K (.ref C) = true
  exB : subIn K (.ref C) (.type "BaseException") = some true
  tyC : typeIn K (.ref C) = some (.type "type")
section
variable {prog : Program} {w : World} {A : Around} {K : Frag} {mg mb : Str → Option Value} {C : Addr} {f : Str} {s : Shared}
theorem mk_raw {us : List Value} {kw : List (Str × Value)} {u : Value} {Q : Value → Shared → Prop} {E : Value → Shared → Prop} (T : MkC prog K C f) (X : K.In s.heap) (glob : s.heap.Ns mainGlobals mg) (bns : s.heap.Ns builtinsNs mb)
    (boot : ∀ y : Str, y ≠ "__name__" → mb y = bootBuiltins y) (lim : s.heap.NoLimit) (room : A.depth + 3 < recursionLimit) (hw : (us = [u] ∧ kw = []) ∨ (us = [] ∧ kw = [(f, u)]))
    (hq : ∀ h' e dx t1 tk', (∀ b o, s.heap.get? b = some o → h'.get? b = some o) → s.heap.objs.size ≤ e → s.heap.objs.size ≤ dx → dx ≠ e → h'.get? e = some ({ cls := .ref C, dict := some dx, data := .fields #[.ref t1, .none, .none, .none, .bool false, .none] } : Obj) →
      h'.Ns1 dx (fun y => if y = f then some u else none) → Q (.ref e) { s with heap := h', toks := tk' }) : wpAny (model prog w) A (call (.ref C) us kw) Q E s := by
  obtain ⟨fI, cc, cda, m, qual, j, p0, p1, p2, p3, p4, p5, q0, q1, q2, q3, a0, a1, kV, doc, pm, ct, oc, ccl, cl, an, od, cdd, cld, osl, ccs, csl, vs, file, tf, hl, hi, ht, lf, lc, lcd, lvs, lfile, lcc⟩ := T.ini
  obtain ⟨nm, q, N, bs, bm, sn, sub, ab, col, dd, k0, k1, k2, k3, k5, hC, hbm⟩ := T.cls
  obtain ⟨hp, g, d, t, os⟩ := s
  have hz : us.length ≤ sizeLine := by
    rcases hw with ⟨rfl, _⟩ | ⟨rfl, _⟩
    · show 1 ≤ sizeLine; rw [sizeLine_eq]; omega
    · exact Nat.zero_le _
  have up : ∀ b o, hp.get? b = some o → (two hp us C).get? b = some o := fun b o e => Heap.get?_push_of_some _ (Heap.get?_push_of_some _ e)
  have he : (two hp us C).get? (hp.objs.size + 1) = some (HandSPX.excO C hp.objs.size) := by unfold two; heap_get
  have Ke : K.lookup (hp.objs.size + 1) = none := by
    cases z : K.lookup (hp.objs.size + 1) with
    | none => rfl
    | some o => exact absurd (Heap.lt_size (X _ _ z)) (by show ¬ (hp.objs.size + 1 < hp.objs.size); omega)
  refine wpAny_call (call_kw F.excBase_ValueError (fun Y => HandSPX.refsVE_contains Y bm hbm) (X _ _ hC) (looks_findIn X hi) (fun self => bind_fn X self ht) hz ?_)
  refine init_run (e := hp.objs.size + 1) (t0 := hp.objs.size) (u := u) T.nm hl (fun b o z => up _ _ (X _ _ z)) (ns_keep glob up) (ns_keep bns up) boot (lim.keeps up) ?_ lf lc lcd lvs lfile lcc T.sub T.isV T.sup T.opq T.sgl T.top T.sa T.fa
    ⟨nm, q, N, bs, bm, sn, sub, ab, col, dd, k0, k1, k2, k3, k5, hC, hbm⟩ he Ke ?_ (fun h' dx t1 tk' k hne hdx he' hn => ?_)
  · rw [L2.make_depth]; omega
  · rcases hw with ⟨rfl, rfl⟩ | ⟨rfl, rfl⟩
    · refine .of_eq ?_
      rcases T.nm with rfl | rfl | rfl <;> rfl
    · refine .of_eq ?_
      rcases T.nm with rfl | rfl | rfl <;> rfl
  · have hs2 : hp.objs.size ≤ dx := Nat.le_trans (by unfold two; rw [Heap.size_push, Heap.size_push]; omega) hdx
    exact ⟨rfl, hq h' _ dx t1 tk' (fun b o z => k b o (fun w => absurd (Heap.lt_size z) (by rw [w]; show ¬ (hp.objs.size + 1 < hp.objs.size); omega)) (up _ _ z)) (Nat.le_succ _) hs2 hne he' hn⟩
end
section
open L2
variable {X : Cx} {pins : List (Addr × Obj)} {σ : L2.St} {H : Hp} {s : Shared} {C : Addr} {f : Str} {u : Value} {y : V} {us : List Value} {kw : List (Str × Value)}
theorem xd_ok {P : Program} {w : World} {H : Hp} {h : Heap} {dx : Addr} {fs : List (Str × V)} {mA : Str → Option Value} (hn : h.Ns1 dx mA) (r : ∀ g, RelO (fs.lookup g) (mA g)) : ObjOk P w H h dx (.xd fs) := ⟨mA, hn, r⟩
theorem rel1 {f : Str} {y : V} {u : Value} (ry : RelV y u) (g : Str) : RelO ([(f, y)].lookup g) (if g = f then some u else none) := relO_put (fs := []) (mA := fun _ => none) ry (fun _ => True.intro) g
theorem mk_two {h' : Heap} {e dx : Addr} {t1 : Addr} {tk' : Nat} {o1 o2 : HO} (I : Inv X pins σ H s) (k : ∀ b o, s.heap.get? b = some o → h'.get? b = some o) (he : s.heap.objs.size ≤ e) (hd : s.heap.objs.size ≤ dx) (hne : dx ≠ e)
    (hge : h'.get? e = some ({ cls := .ref C, dict := some dx, data := .fields #[.ref t1, .none, .none, .none, .bool false, .none] } : Obj)) (hn : h'.Ns1 dx (fun y => if y = f then some u else none)) (ry : RelV y u) :
    H e = none ∧ H dx = none ∧ Inv X pins σ (upd (upd H dx (exd dx [(f, y)])) e (exo e C (some dx))) { s with heap := h', toks := tk' } ∧
      ∃ G : Heap, Inv X pins σ (upd H dx (.xd [(f, y)])) { s with heap := G, toks := tk' } ∧ (∀ b o, G.get? b = some o → h'.get? b = some o) ∧ G.get? e = none ∧ upd H dx (.xd [(f, y)]) e = none := by
  have h1 : H e = none := I.hok.fresh he
  have h2 : H dx = none := I.hok.fresh hd
  obtain ⟨G, g1, g2⟩ := restrict h' fun b => decide (b ≠ e)
  have gk : ∀ b, b ≠ e → G.get? b = h'.get? b := fun b hb => g1 b (decide_eq_true hb)
  have ge : G.get? e = none := g2 e (by simp)
  have gs : ∀ b o, G.get? b = some o → h'.get? b = some o := fun b o z => by
    by_cases hb : b = e
    · rw [hb, ge] at z; cases z
    · rw [← gk b hb]; exact z
  have kG : ∀ b o, s.heap.get? b = some o → G.get? b = some o := fun b o z => by
    rw [gk b (fun w => absurd (Heap.lt_size z) (by rw [w]; exact Nat.not_lt.mpr he))]
    exact k b o z
  have hd0 : s.heap.get? dx = none := Heap.get?_none_of_le hd
  have nG : G.Ns1 dx (fun y => if y = f then some u else none) := hn.at fun o z => (gk dx hne).trans z
  have I1 : Inv X pins σ (upd H dx (exd dx [(f, y)])) { s with heap := G, toks := tk' } := I.laidN kG hd0 h2 (exd_ok nG (rel1 ry))
  have I1' : Inv X pins σ (upd H dx (.xd [(f, y)])) { s with heap := G, toks := tk' } := I.laidN kG hd0 h2 (xd_ok nG (rel1 ry))
  have n1 : upd H dx (exd dx [(f, y)]) e = none := by rw [upd_ne (Ne.symm hne)]; exact h1
  have n2 : upd H dx (.xd [(f, y)]) e = none := by rw [upd_ne (Ne.symm hne)]; exact h1
  exact ⟨h1, h2, I1.laidN (t' := tk') gs ge n1 (exo_ok hge), G, I1', gs, ge, n2⟩
/-- C(x), C(f=x): a new error -/
theorem mk_inv {Q : VK} (T : MkC X.prog X.K C f) (I : Inv X pins σ H s) (hr : Room 1 X.A) (ry : RelV y u) (hw : (us = [u] ∧ kw = []) ∨ (us = [] ∧ kw = [(f, u)]))
    (q : ∀ e dx, H e = none → H dx = none → dx ≠ e → Q (.ref e) (upd (upd H dx (exd dx [(f, y)])) e (exo e C (some dx)))) : wpAny (model X.prog X.w) X.A (call (.ref C) us kw) (EP X pins σ Q) X.xe s := by
  obtain ⟨mb, nb, boot⟩ := I.ok.mod.blt
  refine mk_raw T I.kIn (ns_keep I.ok.mod.glob I.bk) (ns_keep nb I.bk) boot I.nolimit (by have := hr.dp; omega) hw fun h' e dx t1 tk' k he hd hne hge hn => ?_
  obtain ⟨h1, h2, J, _⟩ := mk_two (o1 := .lst []) (o2 := .lst []) (tk' := tk') I k he hd hne hge hn ry
  exact ⟨.ref e, _, J, rfl, q e dx h1 h2 hne⟩
theorem mk_mkp {Q : XK} (T : MkC X.prog X.K C f) (I : Inv X pins σ H s) (hr : Room 1 X.A) (ry : RelV y u) (hw : (us = [u] ∧ kw = []) ∨ (us = [] ∧ kw = [(f, u)]))
    (q : ∀ dx, H dx = none → Q (.ref C) (some dx) (upd H dx (.xd [(f, y)]))) : wpAny (model X.prog X.w) X.A (call (.ref C) us kw) (MkP X pins σ Q) X.xe s := by
  obtain ⟨mb, nb, boot⟩ := I.ok.mod.blt
  refine mk_raw T I.kIn (ns_keep I.ok.mod.glob I.bk) (ns_keep nb I.bk) boot I.nolimit (by have := hr.dp; omega) hw fun h' e dx t1 tk' k he hd hne hge hn => ?_
  obtain ⟨h1, h2, _, G, J, gs, ge, n2⟩ := mk_two (o1 := .lst []) (o2 := .lst []) (tk' := tk') I k he hd hne hge hn ry
  exact ⟨e, _, _, { s with heap := G, toks := tk' }, _, .ref C, some dx, rfl, J, gs, ge, hge, ⟨rfl, rfl⟩, rfl, rfl, n2, rfl, I.bare, raises_own T.exB T.tyC, q dx h2⟩
end
end EM

/-! part DV -/
set_option Elab.async false
set_option linter.all false
set_option maxRecDepth 100000
set_option autoImplicit false
/-! Values as pure data over the hand layer: what an expression, a test, a statement comes to, without the heap. -/
namespace DV
open PySem PySem.Spec L2

/-- pure data -/
inductive D where
  | non | bl (b : Bool) | int (i : Int) | str (x : Str) | tup (ds : List D) | lst (ds : List D)
  /-- a dict with text or int keys; an own error of the class at C whose attribute f holds x; one without attributes -/
  | dct (ks : List Key) (ds : List D) | err (C : Addr) (f : Str) (x : D) | erb (C : Addr)
/-- what a slot holds: data, or the j-th of the lists that change -/
inductive S where
  | d (x : D) | m (j : Nat)
  /-- the caught error x, an object at a of the class cls with the dict d -/
  | ex (a : Addr) (cls : Value) (d : Option Addr) (x : D)

abbrev Mu := List (List D)
abbrev Rho := List (Option S)

def hide (ad : List Addr) (H : Hp) : Hp := fun a => if a ∈ ad then none else H a
theorem hide_in {ad : List Addr} {H : Hp} {a : Addr} (h : a ∈ ad) : hide ad H a = none := if_pos h
theorem hide_out {ad : List Addr} {H : Hp} {a : Addr} (h : a ∉ ad) : hide ad H a = H a := if_neg h
theorem hide_some {ad : List Addr} {H : Hp} {a : Addr} {o : HO} (h : hide ad H a = some o) : a ∉ ad ∧ H a = some o := by
  unfold hide at h
  by_cases q : a ∈ ad
  · rw [if_pos q] at h; cases h
  · rw [if_neg q] at h; exact ⟨q, h⟩

mutual
inductive Rp (K : PySem.W.Frag) (F : Hp) : V → D → Prop
  | non : Rp K F .non .non
  | bl (b : Bool) : Rp K F (.bl b) (.bl b)
  | int (i : Int) : Rp K F (.int i) (.int i)
  | str (x : Str) : Rp K F (.str x) (.str x)
  | tup {a : Addr} {xs : List V} {ds : List D} : SqT K F a xs → RpA K F xs ds → Rp K F (.ref a) (.tup ds)
  | lst {a : Addr} {xs : List V} {ds : List D} : SqL K F a xs → RpA K F xs ds → Rp K F (.ref a) (.lst ds)
  | dct {a : Addr} {kvs : List (Key × V)} {ds : List D} : F a = some (.dK kvs) → RpA K F (kvs.map (·.2)) ds → Rp K F (.ref a) (.dct (kvs.map (·.1)) ds)
  | err {a dx C : Addr} {f : Str} {v : V} {x : D} : F a = some (exo a C (some dx)) → F dx = some (exd dx [(f, v)]) → Rp K F v x → Rp K F (.ref a) (.err C f x)
  | erb {a C : Addr} : F a = some (ExO (.ref C) a) → Rp K F (.ref a) (.erb C)
inductive RpA (K : PySem.W.Frag) (F : Hp) : List V → List D → Prop
  | nil : RpA K F [] []
  | cons {v : V} {vs : List V} {d : D} {ds : List D} : Rp K F v d → RpA K F vs ds → RpA K F (v :: vs) (d :: ds)
end

theorem sqL_same {K : PySem.W.Frag} {H H' : Hp} {a : Addr} {xs : List V} (e : Same H H') (h : SqL K H a xs) : SqL K H' a xs := e.seq h
theorem sqT_same {K : PySem.W.Frag} {H H' : Hp} {a : Addr} {xs : List V} (e : Same H H') (h : SqT K H a xs) : SqT K H' a xs := by
  rcases h with (h | ⟨o, h⟩) | h
  · exact .inl (.inl (e _ _ h))
  · exact .inl (.inr ⟨o, e _ _ h⟩)
  · exact .inr h
mutual
theorem Rp.mono {K : PySem.W.Frag} {F F' : Hp} (e : Same F F') : ∀ {v : V} {d : D}, Rp K F v d → Rp K F' v d
  | _, _, .non => .non
  | _, _, .bl b => .bl b
  | _, _, .int i => .int i
  | _, _, .str x => .str x
  | _, _, .tup h r => .tup (sqT_same e h) (RpA.mono e r)
  | _, _, .lst h r => .lst (sqL_same e h) (RpA.mono e r)
  | _, _, .dct h r => .dct (e _ _ h) (RpA.mono e r)
  | _, _, .err h g r => .err (e _ _ h) (e _ _ g) (Rp.mono e r)
  | _, _, .erb h => .erb (e _ _ h)
theorem RpA.mono {K : PySem.W.Frag} {F F' : Hp} (e : Same F F') : ∀ {vs : List V} {ds : List D}, RpA K F vs ds → RpA K F' vs ds
  | _, _, .nil => .nil
  | _, _, .cons h r => .cons (Rp.mono e h) (RpA.mono e r)
end
theorem RpA.length {K : PySem.W.Frag} {F : Hp} : ∀ {vs : List V} {ds : List D}, RpA K F vs ds → vs.length = ds.length
  | _, _, .nil => rfl
  | _, _, .cons _ r => congrArg (· + 1) r.length
theorem RpA.get {K : PySem.W.Frag} {F : Hp} : ∀ {vs : List V} {ds : List D} {i : Nat} {d : D}, RpA K F vs ds → ds[i]? = some d → ∃ v, vs[i]? = some v ∧ Rp K F v d
  | _, _, _, _, .nil, e => by simp at e
  | _, _, 0, _, .cons h _, e => by simp at e; subst e; exact ⟨_, rfl, h⟩
  | _, _, i + 1, _, .cons _ r, e => by
    obtain ⟨v, h1, h2⟩ := RpA.get (i := i) r (by simpa using e)
    exact ⟨v, by simpa using h1, h2⟩
theorem RpA.append {K : PySem.W.Frag} {F : Hp} : ∀ {vs us : List V} {ds es : List D}, RpA K F vs ds → RpA K F us es → RpA K F (vs ++ us) (ds ++ es)
  | _, _, _, _, .nil, s => s
  | _, _, _, _, .cons h r, s => .cons h (RpA.append r s)
theorem RpA.take {K : PySem.W.Frag} {F : Hp} : ∀ {vs : List V} {ds : List D} (n : Nat), RpA K F vs ds → RpA K F (vs.take n) (ds.take n)
  | _, _, 0, _ => .nil
  | _, _, _ + 1, .nil => .nil
  | _, _, n + 1, .cons h r => .cons h (RpA.take n r)
theorem RpA.drop {K : PySem.W.Frag} {F : Hp} : ∀ {vs : List V} {ds : List D} (n : Nat), RpA K F vs ds → RpA K F (vs.drop n) (ds.drop n)
  | _, _, 0, r => r
  | _, _, _ + 1, .nil => .nil
  | _, _, n + 1, .cons _ r => RpA.drop n r
theorem RpA.set {K : PySem.W.Frag} {F : Hp} {v : V} {d : D} (h : Rp K F v d) : ∀ {vs : List V} {ds : List D} (n : Nat), RpA K F vs ds → RpA K F (vs.set n v) (ds.set n d)
  | _, _, _, .nil => .nil
  | _, _, 0, .cons _ r => .cons h r
  | _, _, n + 1, .cons q r => .cons q (RpA.set h n r)
theorem RpA.at {K : PySem.W.Frag} {F : Hp} : ∀ {vs : List V} {ds : List D} {i : Nat} {v : V}, RpA K F vs ds → vs[i]? = some v → ∃ d, ds[i]? = some d ∧ Rp K F v d
  | _, _, _, _, .nil, e => by simp at e
  | _, _, 0, _, .cons h _, e => by simp at e; subst e; exact ⟨_, rfl, h⟩
  | _, _, i + 1, _, .cons _ r, e => by
    obtain ⟨v, h1, h2⟩ := RpA.at (i := i) r (by simpa using e)
    exact ⟨v, by simpa using h1, h2⟩
theorem RpA.rep {K : PySem.W.Frag} {F : Hp} {vs : List V} {ds : List D} (r : RpA K F vs ds) : ∀ n : Nat, RpA K F (List.replicate n vs).flatten (List.replicate n ds).flatten
  | 0 => .nil
  | n + 1 => by
    rw [List.replicate_succ, List.replicate_succ, List.flatten_cons, List.flatten_cons]
    exact r.append (RpA.rep r n)
theorem RpA.ints {K : PySem.W.Frag} {F : Hp} : ∀ (ns : List Int), RpA K F (ns.map V.int) (ns.map D.int)
  | [] => .nil
  | n :: r => .cons (.int n) (RpA.ints r)

/-- an error that is raised: its class, its own dict -/
def RpX (K : PySem.W.Frag) (F : Hp) (cls : Value) (d : Option Addr) : D → Prop
  | .err C f x => cls = .ref C ∧ ∃ dd v, d = some dd ∧ F dd = some (.xd [(f, v)]) ∧ Rp K F v x
  | .erb C => cls = .ref C ∧ d = none
  | _ => False
theorem RpX.mono {K : PySem.W.Frag} {F F' : Hp} (e : Same F F') {cls : Value} {d : Option Addr} : ∀ {x : D}, RpX K F cls d x → RpX K F' cls d x
  | .err C f x, h => by
    obtain ⟨h1, dd, v, h2, h3, h4⟩ := h
    exact ⟨h1, dd, v, h2, e _ _ h3, Rp.mono e h4⟩
  | .erb C, h => h
  | .non, h => h.elim
  | .bl _, h => h.elim
  | .int _, h => h.elim
  | .str _, h => h.elim
  | .tup _, h => h.elim
  | .lst _, h => h.elim
  | .dct _ _, h => h.elim
def RpS (K : PySem.W.Frag) (F : Hp) (ad : List Addr) (v : V) : S → Prop
  | .d x => Rp K F v x
  | .m j => ∃ a, ad[j]? = some a ∧ v = .ref a
  | .ex a cls d x => v = .ref a ∧ RpX K F cls d x
inductive RpSA (K : PySem.W.Frag) (F : Hp) (ad : List Addr) : List V → List S → Prop
  | nil : RpSA K F ad [] []
  | cons {v : V} {vs : List V} {s : S} {ss : List S} : RpS K F ad v s → RpSA K F ad vs ss → RpSA K F ad (v :: vs) (s :: ss)

/-- from one heap to a later one: what does not change stands -/
structure Step (ad : List Addr) (H : Hp) (ad' : List Addr) (H' : Hp) : Prop where
  pre : ad <+: ad'
  keep : ∀ b o, b ∉ ad → H b = some o → b ∉ ad' ∧ H' b = some o
theorem Step.refl (ad : List Addr) (H : Hp) : Step ad H ad H := ⟨List.prefix_refl _, fun _ _ h e => ⟨h, e⟩⟩
theorem Step.trans {a1 a2 a3 : List Addr} {H1 H2 H3 : Hp} (s : Step a1 H1 a2 H2) (t : Step a2 H2 a3 H3) : Step a1 H1 a3 H3 :=
  ⟨s.pre.trans t.pre, fun b o h e => let ⟨h2, e2⟩ := s.keep b o h e; t.keep b o h2 e2⟩
theorem Step.same {a1 a2 : List Addr} {H1 H2 : Hp} (s : Step a1 H1 a2 H2) : Same (hide a1 H1) (hide a2 H2) := fun b o e => by
  obtain ⟨h, e1⟩ := hide_some e
  obtain ⟨h2, e2⟩ := s.keep b o h e1
  rw [hide_out h2]
  exact e2
theorem Step.new {ad : List Addr} {H : Hp} {p : Addr} {o : HO} (h : H p = none) : Step ad H ad (upd H p o) :=
  ⟨List.prefix_refl _, fun b u hb e => ⟨hb, by rw [upd_ne (ne_of_none e h)]; exact e⟩⟩
theorem Step.newM {ad : List Addr} {H : Hp} {p : Addr} {o : HO} (h : H p = none) : Step ad H (ad ++ [p]) (upd H p o) :=
  ⟨List.prefix_append _ _, fun b u hb e => ⟨by
    intro q
    rcases List.mem_append.mp q with q | q
    · exact hb q
    · rw [List.mem_singleton] at q
      exact ne_of_none e h q, by rw [upd_ne (ne_of_none e h)]; exact e⟩⟩
theorem Step.mut {ad : List Addr} {H : Hp} {p : Addr} {o : HO} (h : p ∈ ad) : Step ad H ad (upd H p o) :=
  ⟨List.prefix_refl _, fun b u hb e => ⟨hb, by rw [upd_ne (fun q : b = p => hb (by rw [q]; exact h))]; exact e⟩⟩
theorem Step.get {a1 a2 : List Addr} {H1 H2 : Hp} (s : Step a1 H1 a2 H2) {j : Nat} {a : Addr} (h : a1[j]? = some a) : a2[j]? = some a := by
  obtain ⟨t, rfl⟩ := s.pre
  rw [List.getElem?_append_left (List.getElem?_eq_some_iff.mp h).1]
  exact h
theorem RpS.step {K : PySem.W.Frag} {a1 a2 : List Addr} {H1 H2 : Hp} (s : Step a1 H1 a2 H2) {v : V} {x : S} (r : RpS K (hide a1 H1) a1 v x) : RpS K (hide a2 H2) a2 v x := by
  cases x with
  | d x => exact Rp.mono s.same r
  | m j => obtain ⟨a, h, e⟩ := r; exact ⟨a, s.get h, e⟩
  | ex a cls d x => exact ⟨r.1, r.2.mono s.same⟩
theorem RpSA.step {K : PySem.W.Frag} {a1 a2 : List Addr} {H1 H2 : Hp} (s : Step a1 H1 a2 H2) : ∀ {vs : List V} {ss : List S}, RpSA K (hide a1 H1) a1 vs ss → RpSA K (hide a2 H2) a2 vs ss
  | _, _, .nil => .nil
  | _, _, .cons r t => .cons (r.step s) (RpSA.step s t)

/-- the lists that change, as they stand -/
structure RpM (K : PySem.W.Frag) (H : Hp) (ad : List Addr) (μ : Mu) : Prop where
  len : ad.length = μ.length
  nd : ad.Nodup
  at_ : ∀ (j : Nat) (ds : List D), μ[j]? = some ds → ∃ (a : Addr) (xs : List V), ad[j]? = some a ∧ H a = some (.lst xs) ∧ RpA K (hide ad H) xs ds
theorem RpM.there {K : PySem.W.Frag} {H : Hp} {ad : List Addr} {μ : Mu} (m : RpM K H ad μ) {a : Addr} (h : a ∈ ad) : ∃ xs, H a = some (.lst xs) := by
  obtain ⟨j, hj, e⟩ := List.getElem_of_mem h
  have h1 : j < μ.length := by rw [← m.len]; exact hj
  obtain ⟨b, xs, q1, q2, _⟩ := m.at_ j μ[j] (List.getElem?_eq_getElem h1)
  rw [List.getElem?_eq_getElem hj, e] at q1
  cases q1
  exact ⟨xs, q2⟩
theorem RpM.fresh {K : PySem.W.Frag} {H : Hp} {ad : List Addr} {μ : Mu} (m : RpM K H ad μ) {p : Addr} (h : H p = none) : p ∉ ad := fun q => by
  obtain ⟨xs, e⟩ := m.there q
  rw [h] at e
  cases e
/-- a step that leaves the changing lists alone -/
theorem RpM.step {K : PySem.W.Frag} {H H' : Hp} {ad : List Addr} {μ : Mu} (m : RpM K H ad μ) (s : Step ad H ad H') (k : ∀ a ∈ ad, H' a = H a) : RpM K H' ad μ :=
  ⟨m.len, m.nd, fun j ds h => by
    obtain ⟨a, xs, q1, q2, q3⟩ := m.at_ j ds h
    exact ⟨a, xs, q1, by rw [k a (List.mem_of_getElem? q1)]; exact q2, q3.mono s.same⟩⟩
theorem RpM.new {K : PySem.W.Frag} {H : Hp} {ad : List Addr} {μ : Mu} (m : RpM K H ad μ) {p : Addr} {o : HO} (h : H p = none) : RpM K (upd H p o) ad μ :=
  m.step (Step.new h) fun a ha => upd_ne fun e => m.fresh h (e ▸ ha)
theorem RpM.newM {K : PySem.W.Frag} {H : Hp} {ad : List Addr} {μ : Mu} (m : RpM K H ad μ) {p : Addr} {xs : List V} {ds : List D} (h : H p = none) (r : RpA K (hide ad H) xs ds) : RpM K (upd H p (.lst xs)) (ad ++ [p]) (μ ++ [ds]) := by
  have hp := m.fresh h
  have st : Step ad H (ad ++ [p]) (upd H p (.lst xs)) := Step.newM h
  refine ⟨by rw [List.length_append, List.length_append, m.len]; rfl, ?_, fun j es q => ?_⟩
  · rw [List.nodup_append]
    exact ⟨m.nd, by simp, fun a ha b hb e => by rw [List.mem_singleton] at hb; subst hb; subst e; exact hp ha⟩
  · by_cases hj : j < μ.length
    · rw [List.getElem?_append_left hj] at q
      obtain ⟨a, ys, q1, q2, q3⟩ := m.at_ j es q
      exact ⟨a, ys, st.get q1, by rw [upd_ne (fun e : a = p => hp (by rw [← e]; exact List.mem_of_getElem? q1))]; exact q2, q3.mono st.same⟩
    · have hj2 : j = μ.length := by
        have := (List.getElem?_eq_some_iff.mp q).1
        rw [List.length_append] at this
        simp at this
        omega
      subst hj2
      rw [List.getElem?_append_right (Nat.le_refl _), Nat.sub_self] at q
      cases q
      refine ⟨p, xs, ?_, upd_same, r.mono st.same⟩
      rw [← m.len, List.getElem?_append_right (Nat.le_refl _), Nat.sub_self]
      rfl
/-- the j-th changed -/
theorem RpM.put {K : PySem.W.Frag} {H : Hp} {ad : List Addr} {μ : Mu} (m : RpM K H ad μ) {j : Nat} {a : Addr} {xs : List V} {ds : List D} (h : ad[j]? = some a) (r : RpA K (hide ad H) xs ds) : RpM K (upd H a (.lst xs)) ad (μ.set j ds) := by
  have ha := List.mem_of_getElem? h
  have st : Step ad H ad (upd H a (.lst xs)) := Step.mut ha
  refine ⟨by rw [List.length_set]; exact m.len, m.nd, fun i es q => ?_⟩
  by_cases e : j = i
  · subst e
    by_cases hl : j < μ.length
    · rw [List.getElem?_set_self hl] at q
      cases q
      exact ⟨a, xs, h, upd_same, r.mono st.same⟩
    · rw [List.getElem?_eq_none (by rw [List.length_set]; omega)] at q
      cases q
  · rw [List.getElem?_set_ne e] at q
    obtain ⟨b, ys, q1, q2, q3⟩ := m.at_ i es q
    refine ⟨b, ys, q1, ?_, q3.mono st.same⟩
    rw [upd_ne fun z => ?_]
    · exact q2
    · subst z
      obtain ⟨l1, e1⟩ := List.getElem?_eq_some_iff.mp h
      obtain ⟨l2, e2⟩ := List.getElem?_eq_some_iff.mp q1
      exact e ((List.getElem_inj m.nd).mp (e1.trans e2.symm))
/-- the last one does not change any more -/
theorem hide_less {ad : List Addr} {p : Addr} {H : Hp} : Same (hide (ad ++ [p]) H) (hide ad H) := fun b o e => by
  obtain ⟨h, e1⟩ := hide_some e
  rw [hide_out fun q => h (List.mem_append_left _ q)]
  exact e1
theorem RpM.last {K : PySem.W.Frag} {H : Hp} {ad : List Addr} {p : Addr} {μ : Mu} {ds : List D} (m : RpM K H (ad ++ [p]) (μ ++ [ds])) : RpM K H ad μ ∧ Rp K (hide ad H) (.ref p) (.lst ds) ∧ p ∉ ad := by
  have hl : ad.length = μ.length := by
    have := m.len
    rw [List.length_append, List.length_append] at this
    simpa using this
  have hp : p ∉ ad := fun q => by
    have := m.nd
    rw [List.nodup_append] at this
    exact this.2.2 p q p (by simp) rfl
  refine ⟨⟨hl, (List.nodup_append.mp m.nd).1, fun j es q => ?_⟩, ?_, hp⟩
  · have hj := (List.getElem?_eq_some_iff.mp q).1
    obtain ⟨a, xs, q1, q2, q3⟩ := m.at_ j es (by rw [List.getElem?_append_left hj]; exact q)
    rw [List.getElem?_append_left (by omega)] at q1
    exact ⟨a, xs, q1, q2, q3.mono hide_less⟩
  · obtain ⟨a, xs, q1, q2, q3⟩ := m.at_ μ.length ds (by rw [List.getElem?_append_right (Nat.le_refl _), Nat.sub_self]; rfl)
    rw [← hl, List.getElem?_append_right (Nat.le_refl _), Nat.sub_self] at q1
    cases q1
    refine .lst (xs := xs) (.inl (.inl ?_)) (q3.mono hide_less)
    rw [hide_out hp]
    exact q2

structure Sim (K : PySem.W.Frag) (H : Hp) (ad : List Addr) (ρ : Rho) (μ : Mu) (σ : St) : Prop where
  m : RpM K H ad μ
  len : ρ.length = σ.length
  e : ∀ (i : Nat) (x : S), ρ[i]? = some (some x) → ∃ v, σ[i]? = some (some v) ∧ RpS K (hide ad H) ad v x
theorem Sim.step {K : PySem.W.Frag} {H H' : Hp} {ad ad' : List Addr} {ρ : Rho} {μ μ' : Mu} {σ : St} (s : Sim K H ad ρ μ σ) (t : Step ad H ad' H') (m : RpM K H' ad' μ') : Sim K H' ad' ρ μ' σ :=
  ⟨m, s.len, fun i x h => let ⟨v, q, r⟩ := s.e i x h; ⟨v, q, r.step t⟩⟩
theorem Sim.set {K : PySem.W.Frag} {H : Hp} {ad : List Addr} {ρ : Rho} {μ : Mu} {σ : St} (s : Sim K H ad ρ μ σ) {i : Nat} {v : V} {x : S} (r : RpS K (hide ad H) ad v x) : Sim K H ad (ρ.set i (some x)) μ (σ.set i (some v)) := by
  refine ⟨s.m, by rw [List.length_set, List.length_set]; exact s.len, fun k y h => ?_⟩
  by_cases e : i = k
  · subst e
    by_cases hl : i < ρ.length
    · rw [List.getElem?_set_self hl] at h
      cases h
      exact ⟨v, by rw [List.getElem?_set_self (by rw [← s.len]; exact hl)], r⟩
    · rw [List.getElem?_eq_none (by rw [List.length_set]; omega)] at h
      cases h
  · rw [List.getElem?_set_ne e] at h
    obtain ⟨w, q, t⟩ := s.e k y h
    exact ⟨w, by rw [List.getElem?_set_ne e]; exact q, t⟩
def wipeR (ρ : Rho) : List Nat → Rho
  | [] => ρ
  | v :: vs => (wipeR ρ vs).set v none
theorem Sim.unset {K : PySem.W.Frag} {H : Hp} {ad : List Addr} {ρ : Rho} {μ : Mu} {σ : St} (s : Sim K H ad ρ μ σ) (i : Nat) : Sim K H ad (ρ.set i none) μ (σ.set i none) := by
  refine ⟨s.m, by rw [List.length_set, List.length_set]; exact s.len, fun k y h => ?_⟩
  by_cases e : i = k
  · subst e
    by_cases hl : i < ρ.length
    · rw [List.getElem?_set_self hl] at h
      cases h
    · rw [List.getElem?_eq_none (by rw [List.length_set]; omega)] at h
      cases h
  · rw [List.getElem?_set_ne e] at h
    obtain ⟨w, q, t⟩ := s.e k y h
    exact ⟨w, by rw [List.getElem?_set_ne e]; exact q, t⟩
theorem Sim.wipe {K : PySem.W.Frag} {H : Hp} {ad : List Addr} {ρ : Rho} {μ : Mu} {σ : St} (s : Sim K H ad ρ μ σ) : ∀ vs : List Nat, Sim K H ad (wipeR ρ vs) μ (L2.wipe σ vs)
  | [] => s
  | v :: vs => (Sim.wipe s vs).unset v

/-! ### judgements -/
abbrev SE := Rho → Mu → (S → Mu → Prop) → Prop
abbrev STe := Rho → Mu → (Bool → Mu → Prop) → Prop
abbrev SA := Rho → Mu → (List S → Mu → Prop) → Prop
structure K4 where
  nx : Rho → Mu → Prop
  rt : S → Mu → Prop
  bk : Rho → Mu → Prop
  ct : Rho → Mu → Prop
  er : D → Rho → Mu → Prop
structure K4.le (k k' : K4) : Prop where
  nx : ∀ ρ μ, k.nx ρ μ → k'.nx ρ μ
  rt : ∀ d μ, k.rt d μ → k'.rt d μ
  bk : ∀ ρ μ, k.bk ρ μ → k'.bk ρ μ
  ct : ∀ ρ μ, k.ct ρ μ → k'.ct ρ μ
  er : ∀ d ρ μ, k.er d ρ μ → k'.er d ρ μ
abbrev SS := Rho → Mu → K4 → Prop
def MonE {α : Type} (f : Rho → Mu → (α → Mu → Prop) → Prop) : Prop := ∀ ρ μ (P P' : α → Mu → Prop), (∀ d μ', P d μ' → P' d μ') → f ρ μ P → f ρ μ P'
def MonS (f : SS) : Prop := ∀ ρ μ k k', K4.le k k' → f ρ μ k → f ρ μ k'

def teOf (K : PySem.W.Frag) (f : SE) : TE := fun σ H Q => ∃ ad ρ μ, Sim K H ad ρ μ σ ∧ f ρ μ fun x μ' => ∀ v H', Step ad H ad H' → RpM K H' ad μ' → RpS K (hide ad H') ad v x → Q v H'
def ttOf (K : PySem.W.Frag) (f : STe) : TT := fun σ H Q => ∃ ad ρ μ, Sim K H ad ρ μ σ ∧ f ρ μ fun b μ' => ∀ H', Step ad H ad H' → RpM K H' ad μ' → Q b H'
def taOf (K : PySem.W.Frag) (f : SA) : TA := fun σ H Q => ∃ ad ρ μ, Sim K H ad ρ μ σ ∧ f ρ μ fun xs μ' => ∀ vs H', Step ad H ad H' → RpM K H' ad μ' → RpSA K (hide ad H') ad vs xs → Q vs H'
def kOf (K : PySem.W.Frag) (W : WX) (ad : List Addr) (H : Hp) (Dn : Ends) : K4 where
  nx := fun ρ' μ' => ∀ σ' H' ad', Step ad H ad' H' → Sim K H' ad' ρ' μ' σ' → Dn.nx σ' H'
  rt := fun x μ' => ∀ v H' ad', Step ad H ad' H' → RpM K H' ad' μ' → RpS K (hide ad' H') ad' v x → Dn.rt v H'
  bk := fun ρ' μ' => ∀ σ' H' ad', Step ad H ad' H' → Sim K H' ad' ρ' μ' σ' → Dn.bk σ' H'
  ct := fun ρ' μ' => ∀ σ' H' ad', Step ad H ad' H' → Sim K H' ad' ρ' μ' σ' → Dn.ct σ' H'
  er := fun x ρ' μ' => ∀ cls d σ' H' ad', Step ad H ad' H' → Sim K H' ad' ρ' μ' σ' → RpX K (hide ad' H') cls d x → W cls d σ' H'
def tsOf (K : PySem.W.Frag) (W : WX) (f : SS) : TS := fun Dn σ H => ∃ ad ρ μ, Sim K H ad ρ μ σ ∧ f ρ μ (kOf K W ad H Dn)

structure PD (X : Cx) (e : Expr) (f : SE) : Prop where
  mo : MonE f
  run : PE X e (teOf X.K f)
structure PDT (X : Cx) (e : Expr) (f : STe) : Prop where
  mo : MonE f
  run : PT X e (ttOf X.K f)
structure PDA (X : Cx) (es : List Expr) (f : SA) : Prop where
  mo : MonE f
  run : PA X es (taOf X.K f)
structure PDS (X : Cx) (W : WX) (st : Stmt) (f : SS) : Prop where
  mo : MonS f
  run : PS X st (tsOf X.K W f)
structure PDSs (X : Cx) (W : WX) (sts : List Stmt) (f : SS) : Prop where
  mo : MonS f
  run : PSs X sts (tsOf X.K W f)
theorem _root_.L2.PE.of {X : Cx} {e : Expr} {t t' : TE} (h : PE X e t) (i : ∀ σ H Q, t' σ H Q → t σ H Q) : PE X e t' := ⟨fun pins s σ H Q I q => h.run pins s σ H Q I (i σ H Q q)⟩
theorem _root_.L2.PT.of {X : Cx} {e : Expr} {t t' : TT} (h : PT X e t) (i : ∀ σ H Q, t' σ H Q → t σ H Q) : PT X e t' := ⟨fun pins s σ H Q I q => h.run pins s σ H Q I (i σ H Q q)⟩
theorem _root_.L2.PA.of {X : Cx} {es : List Expr} {t t' : TA} (h : PA X es t) (i : ∀ σ H Q, t' σ H Q → t σ H Q) : PA X es t' := ⟨fun pos pins s σ H Q I q => h.run pos pins s σ H Q I (i σ H Q q)⟩
theorem _root_.L2.PS.of {X : Cx} {st : Stmt} {t t' : TS} (h : PS X st t) (i : ∀ D σ H, t' D σ H → t D σ H) : PS X st t' := ⟨fun pins s σ H D I q => h.run pins s σ H D I (i D σ H q)⟩
theorem _root_.L2.PSs.of {X : Cx} {st : List Stmt} {t t' : TS} (h : PSs X st t) (i : ∀ D σ H, t' D σ H → t D σ H) : PSs X st t' := ⟨fun pins s σ H D I q => h.run pins s σ H D I (i D σ H q)⟩

/-! ### names, constants -/
section
variable {X : Cx}
def fVar (i : Nat) : SE := fun ρ μ P => match ρ[i]? with | some (some x) => P x μ | _ => False
theorem pd_var {i : Nat} {x : Str} {pos : Pos} (h : PE X (.Name x pos) (tVar i)) : PD X (.Name x pos) (fVar i) := by
  refine ⟨fun ρ μ P P' k h => ?_, h.of fun σ H Q q => ?_⟩
  · unfold fVar at h ⊢
    split at h
    · exact k _ _ h
    · exact h
  · obtain ⟨ad, ρ, μ, s, q⟩ := q
    unfold fVar at q
    split at q
    · rename_i x e
      obtain ⟨v, e1, r⟩ := s.e i x e
      exact ⟨v, e1, q v H (Step.refl _ _) s.m r⟩
    · exact q.elim
def fC (d : D) : SE := fun ρ μ P => P (.d d) μ
theorem pd_c {e : Expr} {v : V} {d : D} (h : PE X e (tC v)) (r : ∀ F, Rp X.K F v d) : PD X e (fC d) :=
  ⟨fun ρ μ P P' k h => k _ _ h, h.of fun σ H Q q => by
    obtain ⟨ad, ρ, μ, s, q⟩ := q
    exact q v H (Step.refl _ _) s.m (r _)⟩
theorem pd_int {i : Int} {j pos} : PD X (.Constant (.int i) j pos) (fC (.int i)) := pd_c pe_int fun _ => .int i
theorem pd_bl {b : Bool} {j pos} : PD X (.Constant (.bool b) j pos) (fC (.bl b)) := pd_c pe_bl fun _ => .bl b
theorem pd_non {j pos} : PD X (.Constant .none j pos) (fC .non) := pd_c pe_non fun _ => .non
theorem pd_str {x : Str} {j pos} : PD X (.Constant (.str x) j pos) (fC (.str x)) := pd_c pe_str fun _ => .str x

/-! ### two in a row -/
/-- an operation on values, as pure data; new tuples and lists may be made -/
abbrev G2 := S → S → Mu → (D → Prop) → Prop
def MonG (g : G2) : Prop := ∀ x y μ P P', (∀ d, P d → P' d) → g x y μ P → g x y μ P'
def Sound2 (K : PySem.W.Frag) (r : R2) (g : G2) : Prop := ∀ (v u : V) (x y : S) (H : Hp) (ad : List Addr) (μ : Mu) (Q : VK), RpM K H ad μ → RpS K (hide ad H) ad v x → RpS K (hide ad H) ad u y →
  g x y μ (fun d => ∀ w H', Step ad H ad H' → RpM K H' ad μ → Rp K (hide ad H') w d → Q w H') → r v u H Q
def fOp (g : G2) (fa fb : SE) : SE := fun ρ μ P => fa ρ μ fun x μ1 => fb ρ μ1 fun y μ2 => g x y μ2 fun d => P (.d d) μ2
theorem mon_op {g : G2} {fa fb : SE} (mg : MonG g) (ma : MonE fa) (mb : MonE fb) : MonE (fOp g fa fb) := fun ρ μ P P' k h =>
  ma ρ μ _ _ (fun x μ1 h1 => mb ρ μ1 _ _ (fun y μ2 h2 => mg x y μ2 _ _ (fun d hd => k _ _ hd) h2) h1) h
theorem op_imp {r : R2} {g : G2} {fa fb : SE} (mg : MonG g) (ma : MonE fa) (mb : MonE fb) (sd : Sound2 X.K r g) (σ : St) (H : Hp) (Q : VK) (q : teOf X.K (fOp g fa fb) σ H Q) : tOp r (teOf X.K fa) (teOf X.K fb) σ H Q := by
  obtain ⟨ad, ρ, μ, s, q⟩ := q
  refine ⟨ad, ρ, μ, s, ma ρ μ _ _ (fun x μ1 h1 v H1 t1 m1 r1 => ?_) q⟩
  refine ⟨ad, ρ, μ1, s.step t1 m1, mb ρ μ1 _ _ (fun y μ2 h2 u H2 t2 m2 r2 => ?_) h1⟩
  refine sd v u x y H2 ad μ2 Q m2 (r1.step t2) r2 (mg x y μ2 _ _ (fun d hd w H3 t3 m3 r3 => ?_) h2)
  exact hd w H3 ((t1.trans t2).trans t3) m3 r3
theorem pd_op {a b : Expr} {op : Operator} {pos : Pos} {r : R2} {g : G2} {fa fb : SE} (ho : OpR X (binaryOp op) r) (mg : MonG g) (sd : Sound2 X.K r g) (ha : PD X a fa) (hb : PD X b fb) : PD X (.BinOp a op b pos) (fOp g fa fb) :=
  ⟨mon_op mg ha.mo hb.mo, (pe_op ho ha.run hb.run).of (op_imp mg ha.mo hb.mo sd)⟩
theorem pd_cmp {a b : Expr} {op : CmpOp} {pos : Pos} {r : R2} {g : G2} {fa fb : SE} (ho : OpR X (compareOp op) r) (mg : MonG g) (sd : Sound2 X.K r g) (hm : behindInMarks op b = false) (ha : PD X a fa) (hb : PD X b fb) : PD X (.Compare a [op] [b] pos) (fOp g fa fb) :=
  ⟨mon_op mg ha.mo hb.mo, (pe_cmpR ho ha.run hb.run hm).of (op_imp mg ha.mo hb.mo sd)⟩
theorem pd_ix {a b : Expr} {pos : Pos} {r : R2} {g : G2} {fa fb : SE} (ho : IxR X r) (mg : MonG g) (sd : Sound2 X.K r g) (hs : PlainIx b) (ha : PD X a fa) (hb : PD X b fb) : PD X (.Subscript a b pos) (fOp g fa fb) :=
  ⟨mon_op mg ha.mo hb.mo, (pe_ix ho ha.run hb.run hs).of (op_imp mg ha.mo hb.mo sd)⟩
def fTest (f : SE) : STe := fun ρ μ P => f ρ μ fun x μ' => match x with | .d (.bl b) => P b μ' | _ => False
theorem mon_test {f : SE} (m : MonE f) : MonE (fTest f) := fun ρ μ P P' k h => m ρ μ _ _ (fun x μ' h => by
  revert h
  cases x with
  | d x => cases x <;> intro h <;> first | exact h | exact k _ _ h
  | m j => exact fun h => h
  | ex _ _ _ _ => exact fun h => h) h
theorem test_imp {f : SE} (m : MonE f) (σ : St) (H : Hp) (Q : Bool → Hp → Prop) (q : ttOf X.K (fTest f) σ H Q) : tTest (teOf X.K f) σ H Q := by
  obtain ⟨ad, ρ, μ, s, q⟩ := q
  refine ⟨ad, ρ, μ, s, m ρ μ _ _ (fun x μ1 h v H1 t1 m1 r1 => ?_) q⟩
  cases x with
  | m j => exact h.elim
  | ex _ _ _ _ => exact h.elim
  | d x =>
    cases x with
    | bl b => cases r1; exact ⟨b, rfl, h H1 t1 m1⟩
    | non => exact h.elim
    | int i => exact h.elim
    | str i => exact h.elim
    | tup i => exact h.elim
    | lst i => exact h.elim
    | dct i j => exact h.elim
    | err i j x => exact h.elim
    | erb i => exact h.elim
theorem test_imp' {f : SE} (m : MonE f) (σ : St) (H : Hp) (Q : Bool → Hp → Prop) (q : ttOf X.K (fTest f) σ H Q) : tB (teOf X.K f) σ H Q := test_imp m σ H Q q
theorem ptd_cmp {a b : Expr} {op : CmpOp} {pos : Pos} {r : R2} {g : G2} {fa fb : SE} (ho : OpR X (compareOp op) r) (mg : MonG g) (sd : Sound2 X.K r g) (hm : behindInMarks op b = false) (ha : PD X a fa) (hb : PD X b fb) : PDT X (.Compare a [op] [b] pos) (fTest (fOp g fa fb)) :=
  ⟨mon_test (mon_op mg ha.mo hb.mo), (pt_cmpR ho ha.run hb.run hm).of fun σ H Q q => by
    have q' := test_imp (mon_op mg ha.mo hb.mo) σ H Q q
    exact op_imp mg ha.mo hb.mo sd σ H _ q'⟩
end
end DV

/-! part DV2 -/
set_option Elab.async false
set_option linter.all false
set_option maxRecDepth 100000
set_option autoImplicit false
namespace DV
open PySem PySem.Spec L2

theorem hide_same {ad : List Addr} {H : Hp} : Same (hide ad H) H := fun b o e => (hide_some e).2
def seqOf (μ : Mu) : S → Option (List D)
  | .d (.lst ds) => some ds
  | .m j => μ[j]?
  | _ => none
def tupOf : S → Option (List D)
  | .d (.tup ds) => some ds
  | _ => none
section
variable {K : PySem.W.Frag} {H : Hp} {ad : List Addr} {μ : Mu} {v : V} {x : S} {ds : List D}
theorem seq_sq (m : RpM K H ad μ) (r : RpS K (hide ad H) ad v x) (h : seqOf μ x = some ds) : ∃ a xs, v = .ref a ∧ SqL K H a xs ∧ RpA K (hide ad H) xs ds := by
  cases x with
  | d x =>
    cases x with
    | lst es =>
      cases h
      cases r with
      | lst h1 h2 => exact ⟨_, _, rfl, sqL_same hide_same h1, h2⟩
    | non => cases h
    | bl => cases h
    | int => cases h
    | str => cases h
    | tup => cases h
    | dct => cases h
    | err => cases h
    | erb => cases h
  | ex _ _ _ _ => cases h
  | m j =>
    obtain ⟨a, h1, rfl⟩ := r
    obtain ⟨b, xs, q1, q2, q3⟩ := m.at_ j ds h
    rw [h1] at q1
    cases q1
    exact ⟨a, xs, rfl, .inl (.inl q2), q3⟩
theorem tup_sq (r : RpS K (hide ad H) ad v x) (h : tupOf x = some ds) : ∃ a xs, v = .ref a ∧ SqT K H a xs ∧ RpA K (hide ad H) xs ds := by
  cases x with
  | d x =>
    cases x with
    | tup es =>
      cases h
      cases r with
      | tup h1 h2 => exact ⟨_, _, rfl, sqT_same hide_same h1, h2⟩
    | non => cases h
    | bl => cases h
    | int => cases h
    | str => cases h
    | lst => cases h
    | dct => cases h
    | err => cases h
    | erb => cases h
  | ex _ _ _ _ => cases h
  | m j => cases h
/-- a new tuple, a new list that will not change -/
theorem new_tup {xs : List V} {Q : VK} (m : RpM K H ad μ) (r : RpA K (hide ad H) xs ds) (h : ∀ w H', Step ad H ad H' → RpM K H' ad μ → Rp K (hide ad H') w (.tup ds) → Q w H') : ∀ p, H p = none → Q (.ref p) (upd H p (.tup xs)) := fun p hp => by
  have st : Step ad H ad (upd H p (.tup xs)) := Step.new hp
  exact h _ _ st (m.new hp) (.tup (.inl (.inl (by rw [hide_out (m.fresh hp)]; exact upd_same))) (r.mono st.same))
theorem new_lst {xs : List V} {Q : VK} (m : RpM K H ad μ) (r : RpA K (hide ad H) xs ds) (h : ∀ w H', Step ad H ad H' → RpM K H' ad μ → Rp K (hide ad H') w (.lst ds) → Q w H') : ∀ p, H p = none → Q (.ref p) (upd H p (.lst xs)) := fun p hp => by
  have st : Step ad H ad (upd H p (.lst xs)) := Step.new hp
  exact h _ _ st (m.new hp) (.lst (.inl (.inl (by rw [hide_out (m.fresh hp)]; exact upd_same))) (r.mono st.same))
end

/-! ### operations on two values -/
def gF (c : S → S → Mu → Prop) (f : S → S → Mu → Option D) : G2 := fun x y μ P => c x y μ ∧ ∃ d, f x y μ = some d ∧ P d
theorem mon_gF {c : S → S → Mu → Prop} {f : S → S → Mu → Option D} : MonG (gF c f) := fun _ _ _ _ _ k ⟨h1, d, h2, h3⟩ => ⟨h1, d, h2, k d h3⟩
def cI (C : Int → Int → Prop) : S → S → Mu → Prop := fun x y _ => match x, y with
  | .d (.int i), .d (.int j) => C i j
  | _, _ => True
def fI (g : Int → Int → D) : S → S → Mu → Option D := fun x y _ => match x, y with
  | .d (.int i), .d (.int j) => some (g i j)
  | _, _ => none
def c0 : S → S → Mu → Prop := fun _ _ _ => True
theorem fI_some {g : Int → Int → D} {x y : S} {μ : Mu} {d : D} (h : fI g x y μ = some d) : ∃ i j, x = .d (.int i) ∧ y = .d (.int j) ∧ d = g i j := by
  unfold fI at h
  split at h
  · cases h; exact ⟨_, _, rfl, rfl, rfl⟩
  · cases h
section
variable {K : PySem.W.Frag}
theorem rp_int {F : Hp} {ad : List Addr} {v : V} {i : Int} (r : RpS K F ad v (.d (.int i))) : v = .int i := by cases r; rfl
theorem rp_bl {F : Hp} {ad : List Addr} {v : V} {i : Bool} (r : RpS K F ad v (.d (.bl i))) : v = .bl i := by cases r; rfl
theorem rp_str {F : Hp} {ad : List Addr} {v : V} {i : Str} (r : RpS K F ad v (.d (.str i))) : v = .str i := by cases r; rfl
theorem snd_I {C : Int → Int → Prop} {g : Int → Int → Int} : Sound2 K (rI C fun i j => .int (g i j)) (gF (cI C) (fI fun i j => .int (g i j))) := by
  intro v u x y H ad μ Q m rx ry h
  obtain ⟨h1, d, h2, h3⟩ := h
  obtain ⟨i, j, rfl, rfl, rfl⟩ := fI_some h2
  exact ⟨i, j, rp_int rx, rp_int ry, h1, h3 _ H (Step.refl _ _) m (.int _)⟩
theorem snd_I0 {g : Int → Int → Int} : Sound2 K (rI0 fun i j => .int (g i j)) (gF c0 (fI fun i j => .int (g i j))) := by
  intro v u x y H ad μ Q m rx ry h
  obtain ⟨h1, d, h2, h3⟩ := h
  obtain ⟨i, j, rfl, rfl, rfl⟩ := fI_some h2
  exact ⟨i, j, rp_int rx, rp_int ry, h3 _ H (Step.refl _ _) m (.int _)⟩
theorem snd_B0 {g : Int → Int → Bool} : Sound2 K (rI0 fun i j => .bl (g i j)) (gF c0 (fI fun i j => .bl (g i j))) := by
  intro v u x y H ad μ Q m rx ry h
  obtain ⟨h1, d, h2, h3⟩ := h
  obtain ⟨i, j, rfl, rfl, rfl⟩ := fI_some h2
  exact ⟨i, j, rp_int rx, rp_int ry, h3 _ H (Step.refl _ _) m (.bl _)⟩
theorem Sound2.or {r r' : R2} {g : G2} {g' : G2} (h : Sound2 K r g) (h' : Sound2 K r' g') : Sound2 K (fun x y H Q => r x y H Q ∨ r' x y H Q) (fun x y μ P => g x y μ P ∨ g' x y μ P) := by
  intro v u x y H ad μ Q m rx ry hh
  rcases hh with hh | hh
  · exact .inl (h v u x y H ad μ Q m rx ry hh)
  · exact .inr (h' v u x y H ad μ Q m rx ry hh)

/-- + : ints; tuples -/
def cAdd : S → S → Mu → Prop := fun x y _ => match x, y with
  | .d (.tup a), .d (.tup b) => a.length + b.length ≤ 100000
  | _, _ => True
def fAdd : S → S → Mu → Option D := fun x y _ => match x, y with
  | .d (.int i), .d (.int j) => some (.int (i + j))
  | .d (.tup a), .d (.tup b) => some (.tup (a ++ b))
  | _, _ => none
theorem sz {n : Nat} (h : n ≤ 100000) : n ≤ sizeLine := Nat.le_trans h (by decide)
theorem snd_add : Sound2 K (fun x y H Q => rI0 (fun i j => .int (i + j)) x y H Q ∨ rCatA K x y H Q) (gF cAdd fAdd) := by
  intro v u x y H ad μ Q m rx ry h
  obtain ⟨h1, d, h2, h3⟩ := h
  unfold fAdd at h2
  split at h2
  · cases h2
    exact .inl ⟨_, _, rp_int rx, rp_int ry, h3 _ H (Step.refl _ _) m (.int _)⟩
  · rename_i a b
    cases h2
    obtain ⟨p, xs, rfl, s1, r1⟩ := tup_sq rx rfl
    obtain ⟨q, ys, rfl, s2, r2⟩ := tup_sq ry rfl
    have l1 := r1.length
    have l2 := r2.length
    have hz : a.length + b.length ≤ 100000 := h1
    refine .inr ⟨p, q, xs, ys, rfl, rfl, s1, s2, sz (by omega), fun e => ?_, fun e e2 => ?_, fun _ _ => new_tup m (r1.append r2) h3⟩
    · subst e
      have e0 : a = [] := List.eq_nil_of_length_eq_zero l1.symm
      subst e0
      exact h3 _ H (Step.refl _ _) m ry
    · subst e2
      have e0 : b = [] := List.eq_nil_of_length_eq_zero l2.symm
      subst e0
      rw [List.append_nil] at h3
      exact h3 _ H (Step.refl _ _) m rx
  · cases h2
/-- an item -/
def fIx : S → S → Mu → Option D := fun x y μ => match y with
  | .d (.int i) => if i < 0 then none else match x with
    | .d (.tup ds) => ds[i.toNat]?
    | .d (.lst ds) => ds[i.toNat]?
    | .m j => match μ[j]? with
      | some ds => ds[i.toNat]?
      | none => none
    | _ => none
  | _ => none
theorem IxR.or {X : Cx} {r r' : R2} (h : IxR X r) (h' : IxR X r') : IxR X (fun x y H Q => r x y H Q ∨ r' x y H Q) := by
  intro value slice pins s σ H x y v u Q I rx ry q hs
  rcases q with q | q
  · exact h value slice pins s σ H x y v u Q I rx ry q hs
  · exact h' value slice pins s σ H x y v u Q I rx ry q hs
theorem snd_ix : Sound2 K (fun x y H Q => rIxL K x y H Q ∨ rIxT K x y H Q) (gF c0 fIx) := by
  intro v u x y H ad μ Q m rx ry h
  obtain ⟨h1, d, h2, h3⟩ := h
  unfold fIx at h2
  split at h2
  · rename_i i
    split at h2
    · cases h2
    · rename_i hi
      have e0 : i = (i.toNat : Int) := by omega
      obtain rfl := rp_int ry
      have L : ∀ es : List D, seqOf μ x = some es → es[i.toNat]? = some d → rIxL K v (.int i) H Q := fun es hs e => by
        obtain ⟨a, xs, rfl, s1, r1⟩ := seq_sq m rx hs
        obtain ⟨w, e1, rw'⟩ := r1.get e
        exact ⟨a, xs, i, w, rfl, rfl, s1, at_of e0 e1, h3 w H (Step.refl _ _) m rw'⟩
      split at h2
      · obtain ⟨a, xs, rfl, s1, r1⟩ := tup_sq rx rfl
        obtain ⟨w, e1, rw'⟩ := r1.get h2
        exact .inr ⟨a, xs, i, w, rfl, rfl, s1, at_of e0 e1, h3 w H (Step.refl _ _) m rw'⟩
      · exact .inl (L _ rfl h2)
      · split at h2
        · rename_i e
          exact .inl (L _ e h2)
        · cases h2
      · cases h2
  · cases h2
/-- tuple * int -/
def cRepT : S → S → Mu → Prop := fun x y _ => match x, y with
  | .d (.tup a), .d (.int k) => a ≠ [] ∧ 2 ≤ k ∧ k ≤ 1000 ∧ a.length ≤ 1000
  | _, _ => True
def fRepT : S → S → Mu → Option D := fun x y _ => match x, y with
  | .d (.tup a), .d (.int k) => some (.tup (List.replicate k.toNat a).flatten)
  | _, _ => none
theorem snd_repT : Sound2 K (rRepT K) (gF cRepT fRepT) := by
  intro v u x y H ad μ Q m rx ry h
  obtain ⟨h1, d, h2, h3⟩ := h
  unfold fRepT at h2
  split at h2
  · rename_i a k
    cases h2
    obtain ⟨p, xs, rfl, s1, r1⟩ := tup_sq rx rfl
    have l1 := r1.length
    have hz : a ≠ [] ∧ 2 ≤ k ∧ k ≤ 1000 ∧ a.length ≤ 1000 := h1
    refine ⟨p, k, xs, rfl, rp_int ry, s1, fun e => ?_, hz.2.1, hz.2.2.1, by omega, new_tup m (r1.rep _) h3⟩
    subst e
    exact hz.1 (List.eq_nil_of_length_eq_zero l1.symm)
  · cases h2

/-! ### data as the library tells it -/
def keyPy : Key → PyData
  | .inl i => .int i
  | .inr x => .str x
mutual
def D.py : D → PyData
  | .non => .none
  | .bl b => .bool b
  | .int i => .int i
  | .str x => .str x
  | .tup ds => .tuple (pyA ds)
  | .lst ds => .list (pyA ds)
  | .dct ks ds => .dict ((ks.map keyPy).zip (pyA ds))
  | .err _ _ _ => .dict []
  | .erb _ => .dict []
def pyA : List D → List PyData
  | [] => []
  | d :: r => d.py :: pyA r
end
mutual
/-- no dict, no error within -/
def D.plain : D → Bool
  | .tup ds => plainA ds
  | .lst ds => plainA ds
  | .dct _ _ => false
  | .err _ _ _ => false
  | .erb _ => false
  | _ => true
def plainA : List D → Bool
  | [] => true
  | d :: r => d.plain && plainA r
end
mutual
theorem plain_of : ∀ {d : D}, d.py.hasDict = false → d.plain = true
  | .non, _ => rfl
  | .bl _, _ => rfl
  | .int _, _ => rfl
  | .str _, _ => rfl
  | .tup ds, h => plainA_of (ds := ds) (by simpa only [D.py, PyData.hasDict] using h)
  | .lst ds, h => plainA_of (ds := ds) (by simpa only [D.py, PyData.hasDict] using h)
  | .dct _ _, h => by simp [D.py, PyData.hasDict] at h
  | .err _ _ _, h => by simp [D.py, PyData.hasDict] at h
  | .erb _, h => by simp [D.py, PyData.hasDict] at h
theorem plainA_of : ∀ {ds : List D}, PyData.hasDictAll (pyA ds) = false → plainA ds = true
  | [], _ => rfl
  | d :: r, h => by
    simp only [pyA, PyData.hasDictAll, Bool.or_eq_false_iff] at h
    simp only [plainA, Bool.and_eq_true]
    exact ⟨plain_of h.1, plainA_of h.2⟩
end
mutual
theorem Rp.dp {H : Hp} : ∀ {v : V} {d : D}, Rp K H v d → d.plain = true → Dp K H v d.py
  | _, _, .non, _ => .non
  | _, _, .bl b, _ => .bl b
  | _, _, .int i, _ => .int i
  | _, _, .str x, _ => .str x
  | _, _, .tup h r, p => .tup h (RpA.dp r p)
  | _, _, .lst h r, p => .lst h (RpA.dp r p)
  | _, _, .dct _ _, p => nomatch p
  | _, _, .err _ _ _, p => nomatch p
  | _, _, .erb _, p => nomatch p
theorem RpA.dp {H : Hp} : ∀ {vs : List V} {ds : List D}, RpA K H vs ds → plainA ds = true → DpAll K H vs (pyA ds)
  | _, _, .nil, _ => .nil
  | _, _, .cons h r, p => .cons (Rp.dp h (Bool.and_eq_true_iff.mp p).1) (RpA.dp r (Bool.and_eq_true_iff.mp p).2)
end
/-- == of ints, texts; of pairs of ints -/
def fEq : S → S → Mu → Option D := fun x y _ => match x, y with
  | .d (.int i), .d (.int j) => some (.bl (decide (i = j)))
  | .d (.str i), .d (.str j) => some (.bl (decide (i = j)))
  | .d (.bl i), .d (.bl j) => some (.bl (decide (i = j)))
  | .d (.tup [.int i, .int k]), .d (.tup [.int j, .int l]) => some (.bl (decide (i = j ∧ k = l)))
  | _, _ => none
def fNe : S → S → Mu → Option D := fun x y _ => match x, y with
  | .d (.int i), .d (.int j) => some (.bl (!decide (i = j)))
  | .d (.str i), .d (.str j) => some (.bl (!decide (i = j)))
  | .d (.bl i), .d (.bl j) => some (.bl (!decide (i = j)))
  | _, _ => none
theorem eqv_pair (i k j l : Int) : PyData.eqv (.tuple [.int i, .int k]) (.tuple [.int j, .int l]) = decide (i = j ∧ k = l) := by
  by_cases h1 : i = j <;> by_cases h2 : k = l <;> simp [PyData.eqv, PyData.eqvAll, h1, h2]
theorem snd_eq : Sound2 K (fun x y H Q => rEq x y H Q ∨ rEqD K x y H Q) (gF c0 fEq) := by
  intro v u x y H ad μ Q m rx ry h
  obtain ⟨h1, d, h2, h3⟩ := h
  unfold fEq at h2
  split at h2
  · cases h2
    obtain rfl := rp_int rx
    obtain rfl := rp_int ry
    refine .inl ⟨rfl, h3 _ H (Step.refl _ _) m ?_⟩
    simp only [V.int.injEq]
    exact .bl _
  · cases h2
    obtain rfl := rp_str rx
    obtain rfl := rp_str ry
    refine .inl ⟨rfl, h3 _ H (Step.refl _ _) m ?_⟩
    simp only [V.str.injEq]
    exact .bl _
  · cases h2
    obtain rfl := rp_bl rx
    obtain rfl := rp_bl ry
    refine .inl ⟨rfl, h3 _ H (Step.refl _ _) m ?_⟩
    simp only [V.bl.injEq]
    exact .bl _
  · rename_i i k j l
    cases h2
    refine .inr ⟨_, _, Rp.dp (Rp.mono hide_same rx) rfl, Rp.dp (Rp.mono hide_same ry) rfl, by rfl, by rfl, h3 _ H (Step.refl _ _) m ?_⟩
    simp only [D.py, pyA, eqv_pair]
    exact .bl _
  · cases h2
theorem snd_ne : Sound2 K rNe (gF c0 fNe) := by
  intro v u x y H ad μ Q m rx ry h
  obtain ⟨h1, d, h2, h3⟩ := h
  unfold fNe at h2
  split at h2
  · cases h2
    obtain rfl := rp_int rx
    obtain rfl := rp_int ry
    refine ⟨rfl, h3 _ H (Step.refl _ _) m ?_⟩
    simp only [V.int.injEq]
    exact .bl _
  · cases h2
    obtain rfl := rp_str rx
    obtain rfl := rp_str ry
    refine ⟨rfl, h3 _ H (Step.refl _ _) m ?_⟩
    simp only [V.str.injEq]
    exact .bl _
  · cases h2
    obtain rfl := rp_bl rx
    obtain rfl := rp_bl ry
    refine ⟨rfl, h3 _ H (Step.refl _ _) m ?_⟩
    simp only [V.bl.injEq]
    exact .bl _
  · cases h2
/-- not in a tuple of ints -/
def intsOf : List D → Option (List Int)
  | [] => some []
  | .int i :: r => (intsOf r).map (i :: ·)
  | _ => none
theorem intsOf_some : ∀ {ds : List D} {ns : List Int}, intsOf ds = some ns → ds = ns.map D.int
  | [], _, h => by cases h; rfl
  | .int i :: r, ns, h => by
    unfold intsOf at h
    cases e : intsOf r with
    | none => rw [e] at h; cases h
    | some ms => rw [e] at h; cases h; rw [intsOf_some e]; rfl
  | .non :: r, ns, h => by cases h
  | .bl _ :: r, ns, h => by cases h
  | .str _ :: r, ns, h => by cases h
  | .tup _ :: r, ns, h => by cases h
  | .lst _ :: r, ns, h => by cases h
  | .dct _ _ :: r, ns, h => by cases h
  | .err _ _ _ :: r, ns, h => by cases h
  | .erb _ :: r, ns, h => by cases h
theorem rpA_ints {F : Hp} : ∀ {vs : List V} {ns : List Int}, RpA K F vs (ns.map D.int) → vs = ns.map V.int
  | _, [], h => by cases h; rfl
  | _, n :: r, h => by
    cases h with
    | cons h1 h2 =>
      cases h1
      rw [rpA_ints h2]
      rfl
def fNotIn : S → S → Mu → Option D := fun x y μ => match x, y with
  | .d (.int i), .d (.tup ds) => match intsOf ds with
    | some ns => some (.bl (!ns.contains i))
    | none => none
  | _, _ => none
theorem inV_ints (i : Int) (ns : List Int) : inV (.int i) (ns.map V.int) = ns.contains i := by
  unfold inV
  induction ns with
  | nil => rfl
  | cons n r ih =>
    rw [List.map_cons, List.any_cons, ih, List.contains_cons]
    congr 1
    show (decide _) = _
    by_cases h : n = i
    · subst h; simp
    · have h' : ¬ i = n := fun e => h e.symm
      simp [h, h']
theorem snd_notIn : Sound2 K (rIn K true) (gF c0 fNotIn) := by
  intro v u x y H ad μ Q m rx ry h
  obtain ⟨h1, d, h2, h3⟩ := h
  unfold fNotIn at h2
  split at h2
  · split at h2
    · rename_i i ds ns e
      cases h2
      have e1 := intsOf_some e
      obtain ⟨p, xs, rfl, s1, r1⟩ := tup_sq ry rfl
      rw [e1] at r1
      have e2 := rpA_ints r1
      obtain rfl := rp_int rx
      refine ⟨p, xs, rfl, .inr s1, rfl, ?_, ?_⟩
      · rw [e2]; simp [List.all_eq_true, flatV]
      · rw [e2, inV_ints]
        exact h3 _ H (Step.refl _ _) m (.bl _)
    · cases h2
  · cases h2
end

/-! ### arguments, displays -/
section
variable {X : Cx}
def fANil : SA := fun ρ μ P => P [] μ
def fACons (f : SE) (g : SA) : SA := fun ρ μ P => f ρ μ fun x μ1 => g ρ μ1 fun xs μ2 => P (x :: xs) μ2
theorem pda_nil : PDA X [] fANil := ⟨fun ρ μ P P' k h => k _ _ h, pa_nil.of fun σ H Q ⟨ad, ρ, μ, s, q⟩ => q [] H (Step.refl _ _) s.m .nil⟩
theorem pda_cons {e : Expr} {es : List Expr} {f : SE} {g : SA} (h : PD X e f) (r : PDA X es g) (hs : starEach (e :: es) X.env = (false, eval e X.env) :: starEach es X.env := by rfl) : PDA X (e :: es) (fACons f g) := by
  refine ⟨fun ρ μ P P' k q => h.mo ρ μ _ _ (fun x μ1 q1 => r.mo ρ μ1 _ _ (fun xs μ2 q2 => k _ _ q2) q1) q, (pa_cons h.run r.run hs).of fun σ H Q q => ?_⟩
  obtain ⟨ad, ρ, μ, s, q⟩ := q
  refine ⟨ad, ρ, μ, s, h.mo ρ μ _ _ (fun x μ1 h1 v H1 t1 m1 r1 => ?_) q⟩
  refine ⟨ad, ρ, μ1, s.step t1 m1, r.mo ρ μ1 _ _ (fun xs μ2 h2 vs H2 t2 m2 r2 => ?_) h1⟩
  exact h2 (v :: vs) H2 (t1.trans t2) m2 (.cons (r1.step t2) r2)
def allD : List S → Option (List D)
  | [] => some []
  | .d x :: r => (allD r).map (x :: ·)
  | .m _ :: _ => none
  | .ex _ _ _ _ :: _ => none
theorem allD_rp {K : PySem.W.Frag} {F : Hp} {ad : List Addr} : ∀ {ss : List S} {vs : List V} {ds : List D}, RpSA K F ad vs ss → allD ss = some ds → RpA K F vs ds
  | [], _, _, r, h => by cases h; cases r; exact .nil
  | .d x :: ss, _, ds, r, h => by
    unfold allD at h
    cases e : allD ss with
    | none => rw [e] at h; cases h
    | some es =>
      rw [e] at h
      cases h
      cases r with
      | cons h1 h2 => exact .cons h1 (allD_rp h2 e)
  | .m j :: ss, _, _, _, h => by cases h
  | .ex _ _ _ _ :: ss, _, _, _, h => by cases h
theorem allD_len : ∀ {ss : List S} {ds : List D}, allD ss = some ds → ds.length = ss.length
  | [], _, h => by cases h; rfl
  | .d x :: ss, ds, h => by
    unfold allD at h
    cases e : allD ss with
    | none => rw [e] at h; cases h
    | some es => rw [e] at h; cases h; simp [allD_len e]
  | .m j :: ss, _, h => by cases h
  | .ex _ _ _ _ :: ss, _, h => by cases h
def fTup (f : SA) : SE := fun ρ μ P => f ρ μ fun ss μ' => ∃ ds, allD ss = some ds ∧ ds.length ≤ 100000 ∧ P (.d (.tup ds)) μ'
def fLst (f : SA) : SE := fun ρ μ P => f ρ μ fun ss μ' => ∃ ds, allD ss = some ds ∧ ds.length ≤ 100000 ∧ P (.d (.lst ds)) μ'
theorem pd_tup {es : List Expr} {k : Nat} {pos : Pos} {f : SA} (h : PDA X es f) : PD X (.Tuple es k pos) (fTup f) := by
  refine ⟨fun ρ μ P P' k q => h.mo ρ μ _ _ (fun x μ1 ⟨ds, h1, h2, h3⟩ => ⟨ds, h1, h2, k _ _ h3⟩) q, (pe_tup h.run).of fun σ H Q q => ?_⟩
  obtain ⟨ad, ρ, μ, s, q⟩ := q
  refine ⟨ad, ρ, μ, s, h.mo ρ μ _ _ (fun ss μ1 h1 vs H1 t1 m1 r1 => ?_) q⟩
  obtain ⟨ds, a1, a2, a3⟩ := h1
  have r2 := allD_rp r1 a1
  exact ⟨sz (by rw [r2.length]; exact a2), new_tup m1 r2 fun w H2 t2 m2 r3 => a3 w H2 (t1.trans t2) m2 r3⟩
theorem pd_lst {es : List Expr} {pos : Pos} {f : SA} (h : PDA X es f) : PD X (.List es pos) (fLst f) := by
  refine ⟨fun ρ μ P P' k q => h.mo ρ μ _ _ (fun x μ1 ⟨ds, h1, h2, h3⟩ => ⟨ds, h1, h2, k _ _ h3⟩) q, (pe_lst h.run).of fun σ H Q q => ?_⟩
  obtain ⟨ad, ρ, μ, s, q⟩ := q
  refine ⟨ad, ρ, μ, s, h.mo ρ μ _ _ (fun ss μ1 h1 vs H1 t1 m1 r1 => ?_) q⟩
  obtain ⟨ds, a1, a2, a3⟩ := h1
  have r2 := allD_rp r1 a1
  exact ⟨sz (by rw [r2.length]; exact a2), new_lst m1 r2 fun w H2 t2 m2 r3 => a3 w H2 (t1.trans t2) m2 r3⟩

/-! ### calls of built-ins, by values -/
abbrev GA := List S → Mu → (D → Prop) → Prop
def SoundA (K : PySem.W.Frag) (r : List V → Hp → VK → Prop) (g : GA) : Prop := ∀ (vs : List V) (ss : List S) (H : Hp) (ad : List Addr) (μ : Mu) (Q : VK), RpM K H ad μ → RpSA K (hide ad H) ad vs ss →
  g ss μ (fun d => ∀ w H', Step ad H ad H' → RpM K H' ad μ → Rp K (hide ad H') w d → Q w H') → r vs H Q
def gA (c : List S → Mu → Prop) (f : List S → Mu → Option D) : GA := fun ss μ P => c ss μ ∧ ∃ d, f ss μ = some d ∧ P d
def MonA (g : GA) : Prop := ∀ ss μ P P', (∀ d, P d → P' d) → g ss μ P → g ss μ P'
theorem mon_gA {c : List S → Mu → Prop} {f : List S → Mu → Option D} : MonA (gA c f) := fun _ _ _ _ k ⟨h1, d, h2, h3⟩ => ⟨h1, d, h2, k d h3⟩
def fCB (g : GA) (f : SA) : SE := fun ρ μ P => f ρ μ fun ss μ' => g ss μ' fun d => P (.d d) μ'
theorem mon_CB {g : GA} {f : SA} (mg : MonA g) (m : MonE f) : MonE (fCB g f) := fun ρ μ P P' k h => m ρ μ _ _ (fun ss μ1 h1 => mg ss μ1 _ _ (fun d hd => k _ _ hd) h1) h
theorem CB_imp {r : List V → Hp → VK → Prop} {g : GA} {f : SA} (mg : MonA g) (m : MonE f) (sd : SoundA X.K r g) (σ : L2.St) (H : Hp) (Q : VK) (q : teOf X.K (fCB g f) σ H Q) : tCB r (taOf X.K f) σ H Q := by
  obtain ⟨ad, ρ, μ, s, q⟩ := q
  refine ⟨ad, ρ, μ, s, m ρ μ _ _ (fun ss μ1 h1 vs H1 t1 m1 r1 => ?_) q⟩
  exact sd vs ss H1 ad μ1 Q m1 r1 (mg ss μ1 _ _ (fun d hd w H2 t2 m2 r2 => hd w H2 (t1.trans t2) m2 r2) h1)
theorem pd_of_CB {e : Expr} {r : List V → Hp → VK → Prop} {g : GA} {f : SA} (mg : MonA g) (m : MonE f) (sd : SoundA X.K r g) (h : PE X e (tCB r (taOf X.K f))) : PD X e (fCB g f) := ⟨mon_CB mg m, h.of (CB_imp mg m sd)⟩
end
section
variable {K : PySem.W.Frag}
theorem rsa1 {F : Hp} {ad : List Addr} {vs : List V} {x : S} (r : RpSA K F ad vs [x]) : ∃ v, vs = [v] ∧ RpS K F ad v x := by
  cases r with
  | cons h r => cases r; exact ⟨_, rfl, h⟩
theorem rsa2 {F : Hp} {ad : List Addr} {vs : List V} {x y : S} (r : RpSA K F ad vs [x, y]) : ∃ v u, vs = [v, u] ∧ RpS K F ad v x ∧ RpS K F ad u y := by
  cases r with
  | cons h r =>
    obtain ⟨u, rfl, h2⟩ := rsa1 r
    exact ⟨_, u, rfl, h, h2⟩
/-- len -/
def fLen : List S → Mu → Option D := fun ss μ => match ss with
  | [.d (.tup ds)] => some (.int ds.length)
  | [.d (.lst ds)] => some (.int ds.length)
  | [.m j] => (μ[j]?).map fun ds => .int ds.length
  | _ => none
def cA0 : List S → Mu → Prop := fun _ _ => True
theorem snd_len : SoundA K (fun xs H Q => ∃ p ys, xs = [.ref p] ∧ (SqL K H p ys ∨ SqT K H p ys) ∧ Q (.int ys.length) H) (gA cA0 fLen) := by
  intro vs ss H ad μ Q m r h
  obtain ⟨h1, d, h2, h3⟩ := h
  unfold fLen at h2
  have L : ∀ (x : S) (es : List D), ss = [x] → seqOf μ x = some es → d = .int es.length → ∃ p ys, vs = [.ref p] ∧ (SqL K H p ys ∨ SqT K H p ys) ∧ Q (.int ys.length) H := fun x es e1 e2 e3 => by
    subst e1
    obtain ⟨v, rfl, r1⟩ := rsa1 r
    obtain ⟨a, xs, rfl, s1, r2⟩ := seq_sq m r1 e2
    refine ⟨a, xs, rfl, .inl s1, ?_⟩
    rw [r2.length]
    exact h3 _ H (Step.refl _ _) m (by rw [e3]; exact .int _)
  split at h2
  · cases h2
    obtain ⟨v, rfl, r1⟩ := rsa1 r
    obtain ⟨a, xs, rfl, s1, r2⟩ := tup_sq r1 rfl
    refine ⟨a, xs, rfl, .inr s1, ?_⟩
    rw [r2.length]
    exact h3 _ H (Step.refl _ _) m (.int _)
  · cases h2
    exact L _ _ rfl rfl rfl
  · rename_i j
    cases e : μ[j]? with
    | none => rw [e] at h2; cases h2
    | some es => rw [e] at h2; cases h2; exact L _ es rfl e rfl
  · cases h2
/-- sum, all, any of a list -/
def blsOf : List D → Option (List Bool)
  | [] => some []
  | .bl i :: r => (blsOf r).map (i :: ·)
  | _ => none
theorem blsOf_some : ∀ {ds : List D} {ns : List Bool}, blsOf ds = some ns → ds = ns.map D.bl
  | [], _, h => by cases h; rfl
  | .bl i :: r, ns, h => by
    unfold blsOf at h
    cases e : blsOf r with
    | none => rw [e] at h; cases h
    | some ms => rw [e] at h; cases h; rw [blsOf_some e]; rfl
  | .non :: r, ns, h => by cases h
  | .int _ :: r, ns, h => by cases h
  | .str _ :: r, ns, h => by cases h
  | .tup _ :: r, ns, h => by cases h
  | .lst _ :: r, ns, h => by cases h
  | .dct _ _ :: r, ns, h => by cases h
  | .err _ _ _ :: r, ns, h => by cases h
  | .erb _ :: r, ns, h => by cases h
theorem rpA_bls {F : Hp} : ∀ {vs : List V} {ns : List Bool}, RpA K F vs (ns.map D.bl) → vs = ns.map V.bl
  | _, [], h => by cases h; rfl
  | _, n :: r, h => by
    cases h with
    | cons h1 h2 =>
      cases h1
      rw [rpA_bls h2]
      rfl
def f1L (g : List D → Option D) : List S → Mu → Option D := fun ss μ => match ss with
  | [x] => match seqOf μ x with
    | some ds => g ds
    | none => none
  | _ => none
theorem f1L_some {g : List D → Option D} {ss : List S} {μ : Mu} {d : D} (h : f1L g ss μ = some d) : ∃ x ds, ss = [x] ∧ seqOf μ x = some ds ∧ g ds = some d := by
  unfold f1L at h
  split at h
  · split at h
    · rename_i e
      exact ⟨_, _, rfl, e, h⟩
    · cases h
  · cases h
def gSum (ds : List D) : Option D := (intsOf ds).map fun ns => .int ns.sum
def gAll (ds : List D) : Option D := (blsOf ds).map fun bs => .bl (bs.all id)
def gAny (ds : List D) : Option D := (blsOf ds).map fun bs => .bl (bs.any id)
theorem snd_sum : SoundA K (rSum K) (gA cA0 (f1L gSum)) := by
  intro vs ss H ad μ Q m r h
  obtain ⟨h1, d, h2, h3⟩ := h
  obtain ⟨x, ds, rfl, e1, e2⟩ := f1L_some h2
  obtain ⟨v, rfl, r1⟩ := rsa1 r
  obtain ⟨a, xs, rfl, s1, r2⟩ := seq_sq m r1 e1
  unfold gSum at e2
  cases e : intsOf ds with
  | none => rw [e] at e2; cases e2
  | some ns =>
    rw [e] at e2
    cases e2
    rw [intsOf_some e] at r2
    exact ⟨a, ns, rfl, by rw [← rpA_ints r2]; exact s1, h3 _ H (Step.refl _ _) m (.int _)⟩
theorem snd_all : SoundA K (rAll K) (gA cA0 (f1L gAll)) := by
  intro vs ss H ad μ Q m r h
  obtain ⟨h1, d, h2, h3⟩ := h
  obtain ⟨x, ds, rfl, e1, e2⟩ := f1L_some h2
  obtain ⟨v, rfl, r1⟩ := rsa1 r
  obtain ⟨a, xs, rfl, s1, r2⟩ := seq_sq m r1 e1
  unfold gAll at e2
  cases e : blsOf ds with
  | none => rw [e] at e2; cases e2
  | some ns =>
    rw [e] at e2
    cases e2
    rw [blsOf_some e] at r2
    exact ⟨a, ns, rfl, by rw [← rpA_bls r2]; exact s1, h3 _ H (Step.refl _ _) m (.bl _)⟩
theorem snd_any : SoundA K (rAny K) (gA cA0 (f1L gAny)) := by
  intro vs ss H ad μ Q m r h
  obtain ⟨h1, d, h2, h3⟩ := h
  obtain ⟨x, ds, rfl, e1, e2⟩ := f1L_some h2
  obtain ⟨v, rfl, r1⟩ := rsa1 r
  obtain ⟨a, xs, rfl, s1, r2⟩ := seq_sq m r1 e1
  unfold gAny at e2
  cases e : blsOf ds with
  | none => rw [e] at e2; cases e2
  | some ns =>
    rw [e] at e2
    cases e2
    rw [blsOf_some e] at r2
    exact ⟨a, ns, rfl, by rw [← rpA_bls r2]; exact s1, h3 _ H (Step.refl _ _) m (.bl _)⟩
/-- tuple(list), tuple(tuple) -/
def fTupleOf : List S → Mu → Option D := fun ss μ => match ss with
  | [.d (.tup ds)] => some (.tup ds)
  | [x] => (seqOf μ x).map .tup
  | _ => none
theorem snd_tupleOf : SoundA K (fun xs H Q => ∃ p ys, xs = [.ref p] ∧ ((SqL K H p ys ∧ ∀ l, H l = none → Q (.ref l) (upd H l (.tup ys))) ∨ (SqT K H p ys ∧ Q (.ref p) H))) (gA cA0 fTupleOf) := by
  intro vs ss H ad μ Q m r h
  obtain ⟨h1, d, h2, h3⟩ := h
  unfold fTupleOf at h2
  split at h2
  · cases h2
    obtain ⟨v, rfl, r1⟩ := rsa1 r
    obtain ⟨a, xs, rfl, s1, r2⟩ := tup_sq r1 rfl
    exact ⟨a, xs, rfl, .inr ⟨s1, h3 _ H (Step.refl _ _) m r1⟩⟩
  · rename_i x _
    cases e : seqOf μ x with
    | none => rw [e] at h2; cases h2
    | some ds =>
      rw [e] at h2
      cases h2
      obtain ⟨v, rfl, r1⟩ := rsa1 r
      obtain ⟨a, xs, rfl, s1, r2⟩ := seq_sq m r1 e
      exact ⟨a, xs, rfl, .inl ⟨s1, new_tup m r2 h3⟩⟩
  · cases h2
/-- list(..) of a list or a tuple -/
def fListOf : List S → Mu → Option D := fun ss μ => match ss with
  | [.d (.tup ds)] => some (.lst ds)
  | [x] => (seqOf μ x).map .lst
  | _ => none
theorem snd_listOf : SoundA K (fun xs H Q => ∃ p ys, xs = [.ref p] ∧ (SqL K H p ys ∨ SqT K H p ys) ∧ ∀ l, H l = none → Q (.ref l) (upd H l (.lst ys))) (gA cA0 fListOf) := by
  intro vs ss H ad μ Q m r h
  obtain ⟨h1, d, h2, h3⟩ := h
  unfold fListOf at h2
  split at h2
  · cases h2
    obtain ⟨v, rfl, r1⟩ := rsa1 r
    obtain ⟨a, xs, rfl, s1, r2⟩ := tup_sq r1 rfl
    exact ⟨a, xs, rfl, .inr s1, new_lst m r2 h3⟩
  · rename_i x _
    cases e : seqOf μ x with
    | none => rw [e] at h2; cases h2
    | some ds =>
      rw [e] at h2
      cases h2
      obtain ⟨v, rfl, r1⟩ := rsa1 r
      obtain ⟨a, xs, rfl, s1, r2⟩ := seq_sq m r1 e
      exact ⟨a, xs, rfl, .inl s1, new_lst m r2 h3⟩
  · cases h2
/-- ints in -/
def fA1 (g : Int → D) : List S → Mu → Option D := fun ss _ => match ss with
  | [.d (.int i)] => some (g i)
  | _ => none
theorem fA1_some {g : Int → D} {ss : List S} {μ : Mu} {d : D} (h : fA1 g ss μ = some d) : ∃ i, ss = [.d (.int i)] ∧ d = g i := by
  unfold fA1 at h
  split at h
  · cases h; exact ⟨_, rfl, rfl⟩
  · cases h
def fA2 (g : Int → Int → D) : List S → Mu → Option D := fun ss _ => match ss with
  | [.d (.int i), .d (.int j)] => some (g i j)
  | _ => none
theorem fA2_some {g : Int → Int → D} {ss : List S} {μ : Mu} {d : D} (h : fA2 g ss μ = some d) : ∃ i j, ss = [.d (.int i), .d (.int j)] ∧ d = g i j := by
  unfold fA2 at h
  split at h
  · cases h; exact ⟨_, _, rfl, rfl⟩
  · cases h
theorem snd_abs : SoundA K (fun xs H Q => ∃ i, xs = [.int i] ∧ Q (.int (if i < 0 then -i else i)) H) (gA cA0 (fA1 fun i => .int (if i < 0 then -i else i))) := by
  intro vs ss H ad μ Q m r h
  obtain ⟨h1, d, h2, h3⟩ := h
  obtain ⟨i, rfl, rfl⟩ := fA1_some h2
  obtain ⟨v, rfl, r1⟩ := rsa1 r
  exact ⟨i, by rw [rp_int r1], h3 _ H (Step.refl _ _) m (.int _)⟩
theorem snd_int1 : SoundA K (fun xs H Q => (∃ i, xs = [.int i] ∧ Q (.int i) H) ∨ ∃ k, xs = [.bl k] ∧ Q (.int (if k then 1 else 0)) H) (gA cA0 (fA1 fun i => .int i)) := by
  intro vs ss H ad μ Q m r h
  obtain ⟨h1, d, h2, h3⟩ := h
  obtain ⟨i, rfl, rfl⟩ := fA1_some h2
  obtain ⟨v, rfl, r1⟩ := rsa1 r
  exact .inl ⟨i, by rw [rp_int r1], h3 _ H (Step.refl _ _) m (.int _)⟩
theorem snd_max2 : SoundA K (fun xs H Q => ∃ i j, xs = [.int i, .int j] ∧ Q (.int (if j > i then j else i)) H) (gA cA0 (fA2 fun i j => .int (if j > i then j else i))) := by
  intro vs ss H ad μ Q m r h
  obtain ⟨h1, d, h2, h3⟩ := h
  obtain ⟨i, j, rfl, rfl⟩ := fA2_some h2
  obtain ⟨v, u, rfl, r1, r2⟩ := rsa2 r
  exact ⟨i, j, by rw [rp_int r1, rp_int r2], h3 _ H (Step.refl _ _) m (.int _)⟩
theorem snd_min2 : SoundA K (fun xs H Q => ∃ i j, xs = [.int i, .int j] ∧ Q (.int (if j < i then j else i)) H) (gA cA0 (fA2 fun i j => .int (if j < i then j else i))) := by
  intro vs ss H ad μ Q m r h
  obtain ⟨h1, d, h2, h3⟩ := h
  obtain ⟨i, j, rfl, rfl⟩ := fA2_some h2
  obtain ⟨v, u, rfl, r1, r2⟩ := rsa2 r
  exact ⟨i, j, by rw [rp_int r1, rp_int r2], h3 _ H (Step.refl _ _) m (.int _)⟩
theorem snd_gcd : SoundA K rGcd (gA cA0 (fA2 fun i j => .int ((Nat.gcd i.natAbs j.natAbs : Nat) : Int))) := by
  intro vs ss H ad μ Q m r h
  obtain ⟨h1, d, h2, h3⟩ := h
  obtain ⟨i, j, rfl, rfl⟩ := fA2_some h2
  obtain ⟨v, u, rfl, r1, r2⟩ := rsa2 r
  exact ⟨i, j, by rw [rp_int r1, rp_int r2], h3 _ H (Step.refl _ _) m (.int _)⟩
/-- divmod by a positive divisor of few figures -/
def cDm : List S → Mu → Prop := fun ss _ => match ss with
  | [.d (.int i), .d (.int j)] => 0 < j ∧ j < 2 ^ 100
  | _ => True
theorem divp_small {i j : Int} (h : 0 < j) (h2 : j < 2 ^ 100) : CDivP i j := by
  refine ⟨h, ?_⟩
  unfold Builtin.divisionGoesByPylong
  have e : j.natAbs.log2 < 100 := by
    have h3 : j.natAbs < 2 ^ 100 := by omega
    exact (Nat.log2_lt (by omega)).mpr h3
  have e2 : (j == 0) = false := by simpa using (show j ≠ 0 by omega)
  simp only [e2]
  have e3 : decide (j.natAbs.log2 / 30 + 1 > 300) = false := by
    rw [decide_eq_false]
    omega
  simp [e3]
theorem snd_divmod : SoundA K (fun xs H Q => ∃ i j, xs = [.int i, .int j] ∧ CDivP i j ∧ ∀ p, H p = none → Q (.ref p) (upd H p (.tup [.int (i / j), .int (i % j)]))) (gA cDm (fA2 fun i j => .tup [.int (i / j), .int (i % j)])) := by
  intro vs ss H ad μ Q m r h
  obtain ⟨h1, d, h2, h3⟩ := h
  obtain ⟨i, j, rfl, rfl⟩ := fA2_some h2
  obtain ⟨v, u, rfl, r1, r2⟩ := rsa2 r
  have h1' : 0 < j ∧ j < 2 ^ 100 := h1
  exact ⟨i, j, by rw [rp_int r1, rp_int r2], divp_small h1'.1 h1'.2, new_tup m (.cons (.int _) (.cons (.int _) .nil)) h3⟩
end
end DV

/-! part DV3 -/
set_option Elab.async false
set_option linter.all false
set_option maxRecDepth 100000
set_option autoImplicit false
namespace DV
open PySem PySem.Spec L2
section
variable {X : Cx} {W : WX}
/-! ### tests and values of and, or, not, if -/
def fTAnd (f g : STe) : STe := fun ρ μ P => f ρ μ fun b μ1 => if b = true then g ρ μ1 P else P false μ1
def fTOr (f g : STe) : STe := fun ρ μ P => f ρ μ fun b μ1 => if b = true then P true μ1 else g ρ μ1 P
def fTNot (f : STe) : STe := fun ρ μ P => f ρ μ fun b μ1 => P (!b) μ1
theorem mon_TAnd {f g : STe} (mf : MonE f) (mg : MonE g) : MonE (fTAnd f g) := fun ρ μ P P' k h => mf ρ μ _ _ (fun b μ1 q => by
  cases b with
  | true => exact mg ρ μ1 _ _ k q
  | false => exact k _ _ q) h
theorem mon_TOr {f g : STe} (mf : MonE f) (mg : MonE g) : MonE (fTOr f g) := fun ρ μ P P' k h => mf ρ μ _ _ (fun b μ1 q => by
  cases b with
  | true => exact k _ _ q
  | false => exact mg ρ μ1 _ _ k q) h
structure PDW (X : Cx) (e : Expr) (f : STe) : Prop where
  mo : MonE f
  run : PW X e (ttOf X.K f)
theorem PW.of {e : Expr} {t t' : TT} (h : PW X e t) (i : ∀ σ H Q, t' σ H Q → t σ H Q) : PW X e t' := ⟨fun w pins s σ H Q I q => h.run w pins s σ H Q I (i σ H Q q)⟩
theorem tt_and {f g : STe} (mf : MonE f) (mg : MonE g) (σ : L2.St) (H : Hp) (Q : Bool → Hp → Prop) (q : ttOf X.K (fTAnd f g) σ H Q) : tAnd (ttOf X.K f) (ttOf X.K g) σ H Q := by
  obtain ⟨ad, ρ, μ, s, q⟩ := q
  refine ⟨ad, ρ, μ, s, mf ρ μ _ _ (fun b μ1 h H1 t1 m1 => ?_) q⟩
  cases b with
  | true => exact ⟨ad, ρ, μ1, s.step t1 m1, mg ρ μ1 _ _ (fun c μ2 h2 H2 t2 m2 => h2 H2 (t1.trans t2) m2) h⟩
  | false => exact h H1 t1 m1
theorem tt_or {f g : STe} (mf : MonE f) (mg : MonE g) (σ : L2.St) (H : Hp) (Q : Bool → Hp → Prop) (q : ttOf X.K (fTOr f g) σ H Q) : tOr (ttOf X.K f) (ttOf X.K g) σ H Q := by
  obtain ⟨ad, ρ, μ, s, q⟩ := q
  refine ⟨ad, ρ, μ, s, mf ρ μ _ _ (fun b μ1 h H1 t1 m1 => ?_) q⟩
  cases b with
  | false => exact ⟨ad, ρ, μ1, s.step t1 m1, mg ρ μ1 _ _ (fun c μ2 h2 H2 t2 m2 => h2 H2 (t1.trans t2) m2) h⟩
  | true => exact h H1 t1 m1
variable {a b c e : Expr} {rest : List Expr} {pos : Pos}
theorem pdw_and1 {f : STe} (h : PDT X a f) : PDW X (.BoolOp .And [a] pos) f := ⟨h.mo, pw_and1 h.run⟩
theorem pdw_or1 {f : STe} (h : PDT X a f) : PDW X (.BoolOp .Or [a] pos) f := ⟨h.mo, pw_or1 h.run⟩
theorem pdw_and {f g : STe} (h : PDT X a f) (r : PDW X (.BoolOp .And (b :: rest) pos) g) : PDW X (.BoolOp .And (a :: b :: rest) pos) (fTAnd f g) := ⟨mon_TAnd h.mo r.mo, PW.of (pw_and h.run r.run) (tt_and h.mo r.mo)⟩
theorem pdw_or {f g : STe} (h : PDT X a f) (r : PDW X (.BoolOp .Or (b :: rest) pos) g) : PDW X (.BoolOp .Or (a :: b :: rest) pos) (fTOr f g) := ⟨mon_TOr h.mo r.mo, PW.of (pw_or h.run r.run) (tt_or h.mo r.mo)⟩
theorem ptd_w {f : STe} (h : PDW X e f) : PDT X e f := ⟨h.mo, h.run.pt⟩
theorem ptd_not {f : STe} (h : PDT X a f) : PDT X (.UnaryOp .Not a pos) (fTNot f) := by
  refine ⟨fun ρ μ P P' k q => h.mo ρ μ _ _ (fun b μ1 q => k _ _ q) q, (pt_not h.run).of fun σ H Q q => ?_⟩
  obtain ⟨ad, ρ, μ, s, q⟩ := q
  exact ⟨ad, ρ, μ, s, q⟩
theorem ptd_val {f : SE} (h : PD X e f) (he : ∀ whole, isTrue e X.env whole = (do let v ← whole; standAt e.pos; holding [v] (truthy v)) := by intro _; rfl) : PDT X e (fTest f) :=
  ⟨mon_test h.mo, (pt_val h.run he).of (test_imp' h.mo)⟩
/-- values -/
def fVAnd (f g : SE) : SE := fun ρ μ P => fTest f ρ μ fun b μ1 => if b = true then g ρ μ1 P else P (.d (.bl false)) μ1
def fVOr (f g : SE) : SE := fun ρ μ P => fTest f ρ μ fun b μ1 => if b = true then P (.d (.bl true)) μ1 else g ρ μ1 P
def fVNot (f : SE) : SE := fun ρ μ P => fTest f ρ μ fun b μ1 => P (.d (.bl (!b))) μ1
theorem pd_one {op} {f : SE} (h : PD X a f) : PD X (.BoolOp op [a] pos) f := ⟨h.mo, pe_one h.run⟩
theorem of_test {K : PySem.W.Frag} {f : SE} (mf : MonE f) {σ : L2.St} {H : Hp} {ad : List Addr} {ρ : Rho} {μ : Mu} (s : Sim K H ad ρ μ σ) {P : Bool → Mu → Prop} {R : V → Hp → Prop} (q : fTest f ρ μ P)
    (k : ∀ b μ1 H1, P b μ1 → Step ad H ad H1 → RpM K H1 ad μ1 → R (.bl b) H1) : teOf K f σ H R := by
  refine ⟨ad, ρ, μ, s, mf ρ μ _ _ (fun x μ1 h v H1 t1 m1 r1 => ?_) q⟩
  cases x with
  | m j => exact h.elim
  | ex _ _ _ _ => exact h.elim
  | d x =>
    cases x with
    | bl b => cases r1; exact k b μ1 H1 h t1 m1
    | non => exact h.elim
    | int i => exact h.elim
    | str i => exact h.elim
    | tup i => exact h.elim
    | lst i => exact h.elim
    | dct i j => exact h.elim
    | err i j x => exact h.elim
    | erb i => exact h.elim
theorem pd_and {f g : SE} (h : PD X a f) (r : PD X (.BoolOp .And (b :: rest) pos) g) : PD X (.BoolOp .And (a :: b :: rest) pos) (fVAnd f g) := by
  refine ⟨fun ρ μ P P' k q => mon_test h.mo ρ μ _ _ (fun b μ1 q => ?_) q, (pe_and h.run r.run).of fun σ H Q q => ?_⟩
  · cases b with
    | true => exact r.mo ρ μ1 _ _ k q
    | false => exact k _ _ q
  · obtain ⟨ad, ρ, μ, s, q⟩ := q
    refine of_test h.mo s q fun b μ1 H1 h1 t1 m1 => ⟨b, rfl, ?_⟩
    cases b with
    | true => exact ⟨ad, ρ, μ1, s.step t1 m1, r.mo ρ μ1 _ _ (fun c μ2 h2 v H2 t2 m2 r2 => h2 v H2 (t1.trans t2) m2 r2) h1⟩
    | false => exact h1 _ H1 t1 m1 (.bl _)
theorem pd_or {f g : SE} (h : PD X a f) (r : PD X (.BoolOp .Or (b :: rest) pos) g) : PD X (.BoolOp .Or (a :: b :: rest) pos) (fVOr f g) := by
  refine ⟨fun ρ μ P P' k q => mon_test h.mo ρ μ _ _ (fun b μ1 q => ?_) q, (pe_or h.run r.run).of fun σ H Q q => ?_⟩
  · cases b with
    | false => exact r.mo ρ μ1 _ _ k q
    | true => exact k _ _ q
  · obtain ⟨ad, ρ, μ, s, q⟩ := q
    refine of_test h.mo s q fun b μ1 H1 h1 t1 m1 => ⟨b, rfl, ?_⟩
    cases b with
    | false => exact ⟨ad, ρ, μ1, s.step t1 m1, r.mo ρ μ1 _ _ (fun c μ2 h2 v H2 t2 m2 r2 => h2 v H2 (t1.trans t2) m2 r2) h1⟩
    | true => exact h1 _ H1 t1 m1 (.bl _)
theorem pd_not {f : SE} (h : PD X a f) : PD X (.UnaryOp .Not a pos) (fVNot f) := by
  refine ⟨fun ρ μ P P' k q => mon_test h.mo ρ μ _ _ (fun b μ1 q => k _ _ q) q, (pe_not h.run).of fun σ H Q q => ?_⟩
  obtain ⟨ad, ρ, μ, s, q⟩ := q
  exact of_test h.mo s q fun b μ1 H1 h1 t1 m1 => ⟨b, rfl, h1 _ H1 t1 m1 (.bl _)⟩
def fNeg (f : SE) : SE := fun ρ μ P => f ρ μ fun x μ1 => match x with | .d (.int i) => P (.d (.int (-i))) μ1 | _ => False
theorem pd_neg {f : SE} (h : PD X a f) : PD X (.UnaryOp .USub a pos) (fNeg f) := by
  refine ⟨fun ρ μ P P' k q => h.mo ρ μ _ _ (fun x μ1 q => ?_) q, (pe_un un_neg h.run).of fun σ H Q q => ?_⟩
  · revert q
    cases x with
    | m j => exact fun h => h
    | ex _ _ _ _ => exact fun h => h
    | d x => cases x <;> intro q <;> first | exact q | exact k _ _ q
  · obtain ⟨ad, ρ, μ, s, q⟩ := q
    refine ⟨ad, ρ, μ, s, h.mo ρ μ _ _ (fun x μ1 h v H1 t1 m1 r1 => ?_) q⟩
    cases x with
    | m j => exact h.elim
    | ex _ _ _ _ => exact h.elim
    | d x =>
      cases x with
      | int i => cases r1; exact ⟨i, rfl, h _ H1 t1 m1 (.int _)⟩
      | non => exact h.elim
      | bl i => exact h.elim
      | str i => exact h.elim
      | tup i => exact h.elim
      | lst i => exact h.elim
      | dct i j => exact h.elim
      | err i j x => exact h.elim
      | erb i => exact h.elim
def fIf (t : STe) (f g : SE) : SE := fun ρ μ P => t ρ μ fun b μ1 => if b = true then f ρ μ1 P else g ρ μ1 P
theorem pd_if {t : STe} {f g : SE} (hc : PDT X c t) (ha : PD X a f) (hb : PD X b g) : PD X (.IfExp c a b pos) (fIf t f g) := by
  refine ⟨fun ρ μ P P' k q => hc.mo ρ μ _ _ (fun b μ1 q => ?_) q, (pe_ifExp hc.run ha.run hb.run).of fun σ H Q q => ?_⟩
  · cases b with
    | true => exact ha.mo ρ μ1 _ _ k q
    | false => exact hb.mo ρ μ1 _ _ k q
  · obtain ⟨ad, ρ, μ, s, q⟩ := q
    refine ⟨ad, ρ, μ, s, hc.mo ρ μ _ _ (fun b μ1 h H1 t1 m1 => ?_) q⟩
    cases b with
    | true => exact ⟨ad, ρ, μ1, s.step t1 m1, ha.mo ρ μ1 _ _ (fun c μ2 h2 v H2 t2 m2 r2 => h2 v H2 (t1.trans t2) m2 r2) h⟩
    | false => exact ⟨ad, ρ, μ1, s.step t1 m1, hb.mo ρ μ1 _ _ (fun c μ2 h2 v H2 t2 m2 r2 => h2 v H2 (t1.trans t2) m2 r2) h⟩
/-- a op b op' c of ints -/
def fChain (g g' : G2) (fa fb fc : SE) : SE := fun ρ μ P => fa ρ μ fun x μ1 => fb ρ μ1 fun y μ2 => g x y μ2 fun d => match d with
  | .bl k => if k = true then fc ρ μ2 fun z μ3 => g' y z μ3 fun d => P (.d d) μ3 else P (.d (.bl false)) μ2
  | _ => False
theorem mon_chain {g g' : G2} {fa fb fc : SE} (mg : MonG g) (mg' : MonG g') (ma : MonE fa) (mb : MonE fb) (mc : MonE fc) : MonE (fChain g g' fa fb fc) := fun ρ μ P P' k h =>
  ma ρ μ _ _ (fun x μ1 h1 => mb ρ μ1 _ _ (fun y μ2 h2 => mg x y μ2 _ _ (fun d hd => by
    cases d with
    | bl k' =>
      cases k' with
      | true => exact mc ρ μ2 _ _ (fun z μ3 h3 => mg' y z μ3 _ _ (fun d hd => k _ _ hd) h3) hd
      | false => exact k _ _ hd
    | non => exact hd
    | int _ => exact hd
    | str _ => exact hd
    | tup _ => exact hd
    | lst _ => exact hd
    | dct _ _ => exact hd
    | err _ _ _ => exact hd
    | erb _ => exact hd) h2) h1) h
theorem chain_imp {r r' : R2} {g g' : G2} {fa fb fc : SE} (mg : MonG g) (mg' : MonG g') (ma : MonE fa) (mb : MonE fb) (mc : MonE fc) (sd : Sound2 X.K r g) (sd' : Sound2 X.K r' g') (σ : L2.St) (H : Hp) (Q : VK) (q : teOf X.K (fChain g g' fa fb fc) σ H Q) :
    tChain r r' (teOf X.K fa) (teOf X.K fb) (teOf X.K fc) σ H Q := by
  obtain ⟨ad, ρ, μ, s, q⟩ := q
  refine ⟨ad, ρ, μ, s, ma ρ μ _ _ (fun x μ1 h1 v H1 t1 m1 r1 => ?_) q⟩
  refine ⟨ad, ρ, μ1, s.step t1 m1, mb ρ μ1 _ _ (fun y μ2 h2 u H2 t2 m2 r2 => ?_) h1⟩
  refine sd v u x y H2 ad μ2 _ m2 (r1.step t2) r2 (mg x y μ2 _ _ (fun d hd w H3 t3 m3 r3 => ?_) h2)
  cases d with
  | bl k =>
    cases r3
    refine ⟨k, rfl, ?_⟩
    cases k with
    | true =>
      refine ⟨ad, ρ, μ2, s.step ((t1.trans t2).trans t3) m3, mc ρ μ2 _ _ (fun z μ3 h3 w' H4 t4 m4 r4 => ?_) hd⟩
      exact sd' u w' y z H4 ad μ3 Q m4 (r2.step (t3.trans t4)) r4 (mg' y z μ3 _ _ (fun d hd w H5 t5 m5 r5 => hd w H5 ((((t1.trans t2).trans t3).trans t4).trans t5) m5 r5) h3)
    | false => exact hd _ H3 ((t1.trans t2).trans t3) m3 (.bl _)
  | non => exact hd.elim
  | int _ => exact hd.elim
  | str _ => exact hd.elim
  | tup _ => exact hd.elim
  | lst _ => exact hd.elim
  | dct _ _ => exact hd.elim
  | err _ _ _ => exact hd.elim
  | erb _ => exact hd.elim
theorem pd_chain {op op' : CmpOp} {r r' : R2} {g g' : G2} {fa fb fc : SE} (ho : OpR X (compareOp op) r) (ho' : OpR X (compareOp op') r') (mg : MonG g) (mg' : MonG g') (sd : Sound2 X.K r g) (sd' : Sound2 X.K r' g')
    (hm : lastMarks [op, op'] [b, c] = false) (ha : PD X a fa) (hb : PD X b fb) (hc : PD X c fc) : PD X (.Compare a [op, op'] [b, c] pos) (fChain g g' fa fb fc) :=
  ⟨mon_chain mg mg' ha.mo hb.mo hc.mo, (pe_chain ho ho' ha.run hb.run hc.run hm).of (chain_imp mg mg' ha.mo hb.mo hc.mo sd sd')⟩
theorem ptd_chain {op op' : CmpOp} {r r' : R2} {g g' : G2} {fa fb fc : SE} (ho : OpR X (compareOp op) r) (ho' : OpR X (compareOp op') r') (mg : MonG g) (mg' : MonG g') (sd : Sound2 X.K r g) (sd' : Sound2 X.K r' g')
    (hm : lastMarks [op, op'] [b, c] = false) (ha : PD X a fa) (hb : PD X b fb) (hc : PD X c fc) : PDT X (.Compare a [op, op'] [b, c] pos) (fTest (fChain g g' fa fb fc)) :=
  ⟨mon_test (mon_chain mg mg' ha.mo hb.mo hc.mo), (pt_chain ho ho' ha.run hb.run hc.run hm).of fun σ H Q q =>
    chain_imp mg mg' ha.mo hb.mo hc.mo sd sd' σ H _ (test_imp (mon_chain mg mg' ha.mo hb.mo hc.mo) σ H Q q)⟩

/-! ### slices -/
abbrev SO := Rho → Mu → (Option Int → Mu → Prop) → Prop
def toOf (K : PySem.W.Frag) (f : SO) : TO := fun σ H Q => ∃ ad ρ μ, Sim K H ad ρ μ σ ∧ f ρ μ fun o μ' => ∀ H', Step ad H ad H' → RpM K H' ad μ' → Q o H'
structure PDO (X : Cx) (e : Option Expr) (f : SO) : Prop where
  mo : MonE f
  run : PO X e (toOf X.K f)
def fONone : SO := fun _ μ P => P none μ
def fOSome (f : SE) : SO := fun ρ μ P => f ρ μ fun x μ1 => match x with | .d (.int i) => P (some i) μ1 | _ => False
theorem pdo_none : PDO X none fONone := ⟨fun ρ μ P P' k h => k _ _ h, ⟨fun pins s σ H Q I q => po_none.run pins s σ H Q I (by
  obtain ⟨ad, ρ, μ, s, q⟩ := q
  exact q H (Step.refl _ _) s.m)⟩⟩
theorem pdo_some {f : SE} (h : PD X e f) : PDO X (some e) (fOSome f) := by
  refine ⟨fun ρ μ P P' k q => h.mo ρ μ _ _ (fun x μ1 q => ?_) q, ⟨fun pins s σ H Q I q => (po_some h.run).run pins s σ H Q I ?_⟩⟩
  · revert q
    cases x with
    | m j => exact fun h => h
    | ex _ _ _ _ => exact fun h => h
    | d x => cases x <;> intro q <;> first | exact q | exact k _ _ q
  · obtain ⟨ad, ρ, μ, s, q⟩ := q
    refine ⟨ad, ρ, μ, s, h.mo ρ μ _ _ (fun x μ1 h v H1 t1 m1 r1 => ?_) q⟩
    cases x with
    | m j => exact h.elim
    | ex _ _ _ _ => exact h.elim
    | d x =>
      cases x with
      | int i => cases r1; exact ⟨i, rfl, h H1 t1 m1⟩
      | non => exact h.elim
      | bl i => exact h.elim
      | str i => exact h.elim
      | tup i => exact h.elim
      | lst i => exact h.elim
      | dct i j => exact h.elim
      | err i j x => exact h.elim
      | erb i => exact h.elim
def cutD (xs : List D) (lo hi : Option Int) : List D := (xs.drop (HT.sIx xs.length 0 lo)).take (HT.sIx xs.length xs.length hi - HT.sIx xs.length 0 lo)
theorem cut_rp {K : PySem.W.Frag} {F : Hp} {vs : List V} {ds : List D} (r : RpA K F vs ds) (lo hi : Option Int) : RpA K F (cutV vs lo hi) (cutD ds lo hi) := by
  unfold cutV cutD
  rw [r.length]
  exact (r.drop _).take _
def sliceF : S → Option Int → Option Int → Mu → Option D := fun x lo hi μ => match x with
  | .d (.tup ds) => some (.tup (cutD ds lo hi))
  | .d (.lst ds) => some (.lst (cutD ds lo hi))
  | .m j => (μ[j]?).map fun ds => .lst (cutD ds lo hi)
  | _ => none
def fSl (f : SE) (fl fh : SO) : SE := fun ρ μ P => f ρ μ fun x μ1 => fl ρ μ1 fun lo μ2 => fh ρ μ2 fun hi μ3 => ∃ d, sliceF x lo hi μ3 = some d ∧ P (.d d) μ3
theorem pd_slice {lo hi : Option Expr} {p2 : Pos} {f : SE} {fl fh : SO} (h : PD X a f) (hl : PDO X lo fl) (hh : PDO X hi fh) : PD X (.Subscript a (.Slice lo hi none p2) pos) (fSl f fl fh) := by
  refine ⟨fun ρ μ P P' k q => h.mo ρ μ _ _ (fun x μ1 q => hl.mo ρ μ1 _ _ (fun l μ2 q => hh.mo ρ μ2 _ _ (fun u μ3 ⟨d, q1, q2⟩ => ⟨d, q1, k _ _ q2⟩) q) q) q,
    (pe_slice (sl_list.or sl_tupA) h.run hl.run hh.run).of fun σ H Q q => ?_⟩
  obtain ⟨ad, ρ, μ, s, q⟩ := q
  refine ⟨ad, ρ, μ, s, h.mo ρ μ _ _ (fun x μ1 h1 v H1 t1 m1 r1 => ?_) q⟩
  refine ⟨ad, ρ, μ1, s.step t1 m1, hl.mo ρ μ1 _ _ (fun l μ2 h2 H2 t2 m2 => ?_) h1⟩
  refine ⟨ad, ρ, μ2, s.step (t1.trans t2) m2, hh.mo ρ μ2 _ _ (fun u μ3 h3 H3 t3 m3 => ?_) h2⟩
  obtain ⟨d, e1, q⟩ := h3
  have t13 := (t1.trans t2).trans t3
  have r3 := r1.step (t2.trans t3)
  unfold sliceF at e1
  split at e1
  · rename_i ds
    cases e1
    obtain ⟨p, xs, rfl, s1, r2⟩ := tup_sq r3 rfl
    refine .inr ⟨p, xs, rfl, s1, fun w => ?_, fun _ => new_tup m3 (cut_rp r2 l u) fun w H4 t4 m4 r4 => q w H4 (t13.trans t4) m4 r4⟩
    have e : cutD ds l u = ds := by
      unfold cutD
      rw [r2.length] at w
      rw [w.1, w.2, List.drop_zero, Nat.sub_zero, List.take_length]
    rw [e] at q
    exact q _ H3 t13 m3 r3
  · cases e1
    obtain ⟨p, xs, rfl, s1, r2⟩ := seq_sq m3 r3 rfl
    exact .inl ⟨p, xs, rfl, s1, new_lst m3 (cut_rp r2 l u) fun w H4 t4 m4 r4 => q w H4 (t13.trans t4) m4 r4⟩
  · rename_i j
    cases e2 : μ3[j]? with
    | none => rw [e2] at e1; cases e1
    | some ds =>
      rw [e2] at e1
      cases e1
      obtain ⟨p, xs, rfl, s1, r2⟩ := seq_sq (x := .m j) m3 r3 e2
      exact .inl ⟨p, xs, rfl, s1, new_lst m3 (cut_rp r2 l u) fun w H4 t4 m4 r4 => q w H4 (t13.trans t4) m4 r4⟩
  · cases e1

/-! ### targets -/
abbrev SG := S → Rho → Mu → (Rho → Mu → Prop) → Prop
abbrev SGs := List S → Rho → Mu → (Rho → Mu → Prop) → Prop
/-- is: the slots that it may set -/
def tgOf (K : PySem.W.Frag) (is : List Nat) (g : SG) : TG := fun v σ H Q => ∃ ad ρ μ x, Sim K H ad ρ μ σ ∧ RpS K (hide ad H) ad v x ∧ g x ρ μ fun ρ' μ' => ∀ σ' H', (∀ vs, (∀ i ∈ is, i ∈ vs) → L2.wipe σ' vs = L2.wipe σ vs) → Step ad H ad H' → Sim K H' ad ρ' μ' σ' → Q σ' H'
def tgsOf (K : PySem.W.Frag) (is : List Nat) (g : SGs) : TGs := fun vs σ H Q => ∃ ad ρ μ xs, Sim K H ad ρ μ σ ∧ RpSA K (hide ad H) ad vs xs ∧ g xs ρ μ fun ρ' μ' => ∀ σ' H', (∀ vs, (∀ i ∈ is, i ∈ vs) → L2.wipe σ' vs = L2.wipe σ vs) → Step ad H ad H' → Sim K H' ad ρ' μ' σ' → Q σ' H'
def MonT {α : Type} (g : α → Rho → Mu → (Rho → Mu → Prop) → Prop) : Prop := ∀ x ρ μ (P P' : Rho → Mu → Prop), (∀ ρ' μ', P ρ' μ' → P' ρ' μ') → g x ρ μ P → g x ρ μ P'
structure PDG (X : Cx) (e : Expr) (is : List Nat) (g : SG) : Prop where
  mo : MonT g
  run : PG X e (tgOf X.K is g)
structure PDGs (X : Cx) (es : List Expr) (is : List Nat) (g : SGs) : Prop where
  mo : MonT g
  run : PGs X es (tgsOf X.K is g)
def gN (i : Nat) : SG := fun x ρ μ P => P (ρ.set i (some x)) μ
theorem wipe_set {σ : L2.St} {i : Nat} {v : Option V} : ∀ {vs : List Nat}, i ∈ vs → L2.wipe (σ.set i v) vs = L2.wipe σ vs
  | [], h => by cases h
  | w :: vs, h => by
    unfold L2.wipe
    by_cases e : i ∈ vs
    · rw [wipe_set e]
    · have e2 : i = w := by simpa [e] using h
      subst e2
      have : ∀ {us : List Nat}, L2.wipe (σ.set i v) us = (L2.wipe σ us).set i v ∨ i ∈ us := fun {us} => by
        induction us with
        | nil => exact .inl rfl
        | cons u us ih =>
          rcases ih with ih | ih
          · by_cases q : i = u
            · exact .inr (q ▸ List.mem_cons_self)
            · refine .inl ?_
              unfold L2.wipe
              rw [ih, List.set_comm _ _ q]
          · exact .inr (List.mem_cons_of_mem _ ih)
      rcases @this vs with q | q
      · rw [q, List.set_set]
      · exact absurd q e
theorem pdg_name {i : Nat} {x : Str} {p : Pos} (h : PG X (.Name x p) (gName i)) : PDG X (.Name x p) [i] (gN i) := by
  refine ⟨fun x ρ μ P P' k q => k _ _ q, ⟨fun pins s σ H v u Q I r q => h.run pins s σ H v u Q I r ?_⟩⟩
  obtain ⟨ad, ρ, μ, x, s, rx, q⟩ := q
  exact q _ H (fun vs hv => wipe_set (hv i (by simp))) (Step.refl _ _) (s.set rx)
def gsNil : SGs := fun xs ρ μ P => xs = [] ∧ P ρ μ
def gsCons (g : SG) (gs : SGs) : SGs := fun xs ρ μ P => ∃ x r, xs = x :: r ∧ g x ρ μ fun ρ' μ' => gs r ρ' μ' P
theorem pdgs_nil : PDGs X [] [] gsNil := by
  refine ⟨fun x ρ μ P P' k q => ⟨q.1, k _ _ q.2⟩, ⟨fun pins s σ H vs us Q I r q => pgs_nil.run pins s σ H vs us Q I r ?_⟩⟩
  obtain ⟨ad, ρ, μ, xs, s, rx, e, q⟩ := q
  subst e
  cases rx
  exact ⟨rfl, q σ H (fun _ _ => rfl) (Step.refl _ _) s⟩
theorem pdgs_cons {es : List Expr} {is js : List Nat} {g : SG} {gs : SGs} (h : PDG X e is g) (r : PDGs X es js gs) (hs : (assignEach (e :: es) X.env).map (·.2) = assign e X.env :: (assignEach es X.env).map (·.2) := by rfl) : PDGs X (e :: es) (is ++ js) (gsCons g gs) := by
  refine ⟨fun xs ρ μ P P' k ⟨x, rr, e, q⟩ => ⟨x, rr, e, h.mo x ρ μ _ _ (fun ρ' μ' q => r.mo rr ρ' μ' _ _ k q) q⟩, ⟨fun pins s σ H vs us Q I rv q => (pgs_cons h.run r.run hs).run pins s σ H vs us Q I rv ?_⟩⟩
  obtain ⟨ad, ρ, μ, xs, s, rx, x, rr, e, q⟩ := q
  subst e
  cases rx with
  | cons r1 r2 =>
    refine ⟨_, _, rfl, ad, ρ, μ, x, s, r1, h.mo x ρ μ _ _ (fun ρ' μ' q σ' H' w1 t1 s1 => ?_) q⟩
    refine ⟨ad, ρ', μ', rr, s1, r2.step t1, r.mo rr ρ' μ' _ _ (fun ρ2 μ2 q σ2 H2 w2 t2 s2 => ?_) q⟩
    exact q σ2 H2 (fun vs hv => (w2 vs fun i hi => hv i (List.mem_append_right _ hi)).trans (w1 vs fun i hi => hv i (List.mem_append_left _ hi))) (t1.trans t2) s2
def gT (n : Nat) (gs : SGs) : SG := fun x ρ μ P => ∃ ds, tupOf x = some ds ∧ ds.length = n ∧ gs (ds.map S.d) ρ μ P
theorem rpA_sa {K : PySem.W.Frag} {F : Hp} {ad : List Addr} : ∀ {vs : List V} {ds : List D}, RpA K F vs ds → RpSA K F ad vs (ds.map S.d)
  | _, _, .nil => .nil
  | _, _, .cons h r => .cons h (rpA_sa r)
theorem pdg_tup {es : List Expr} {k : Nat} {is : List Nat} {gs : SGs} {n : Nat} (hc : X.calm = true) (h : PDGs X es is gs) (hn : (assignEach es X.env).length = n := by rfl) (hst : (assignEach es X.env).findIdx? (·.1) = none := by rfl) : PDG X (.Tuple es k pos) is (gT n gs) := by
  refine ⟨fun x ρ μ P P' k ⟨ds, e, l, q⟩ => ⟨ds, e, l, h.mo _ ρ μ _ _ k q⟩, ⟨fun pins s σ H v u Q I rv q => (pg_tup hc h.run hn hst).run pins s σ H v u Q I rv ?_⟩⟩
  obtain ⟨ad, ρ, μ, x, s, rx, ds, e, l, q⟩ := q
  obtain ⟨a, xs, rfl, s1, r1⟩ := tup_sq rx e
  exact ⟨a, xs, rfl, s1, by rw [r1.length]; exact l, ad, ρ, μ, _, s, rpA_sa r1, q⟩
/-- m[i] = v, m a list that changes -/
def gSb (fo fi : SE) : SG := fun v ρ μ P => fo ρ μ fun o μ1 => fi ρ μ1 fun i μ2 => ∃ j k ds d, o = .m j ∧ i = .d (.int k) ∧ v = .d d ∧ μ2[j]? = some ds ∧ 0 ≤ k ∧ k < ds.length ∧ P ρ (μ2.set j (ds.set k.toNat d))
theorem pdg_sub {o i : Expr} {fo fi : SE} (ho : PD X o fo) (hi : PD X i fi) (ha : ∀ v, assign (.Subscript o i pos) X.env v = (do
      let ov ← holding [v] (eval o X.env)
      let iv ← holding [v, ov] (eval i X.env)
      standAt pos
      holding [v, ov, iv] (setItem ov iv v)
      release [v, ov, iv] []) := by intro _; rfl) : PDG X (.Subscript o i pos) [] (gSb fo fi) := by
  refine ⟨fun x ρ μ P P' k q => ho.mo ρ μ _ _ (fun o μ1 q => hi.mo ρ μ1 _ _ (fun i μ2 ⟨j, kk, ds, d, e1, e2, e3, e4, e5, e6, q⟩ => ⟨j, kk, ds, d, e1, e2, e3, e4, e5, e6, k _ _ q⟩) q) q,
    ⟨fun pins s σ H v u Q I rv q => (pg_sub ho.run hi.run set_list ha).run pins s σ H v u Q I rv ?_⟩⟩
  obtain ⟨ad, ρ, μ, x, s, rx, q⟩ := q
  refine ⟨ad, ρ, μ, s, ho.mo ρ μ _ _ (fun o μ1 q ov H1 t1 m1 r1 => ?_) q⟩
  refine ⟨ad, ρ, μ1, s.step t1 m1, hi.mo ρ μ1 _ _ (fun i μ2 q iv H2 t2 m2 r2 => ?_) q⟩
  obtain ⟨j, k, ds, d, rfl, rfl, rfl, e4, e5, e6, q⟩ := q
  obtain ⟨aa, h1, rfl⟩ := r1
  obtain ⟨b, xs, q1, q2, q3⟩ := m2.at_ j ds e4
  rw [h1] at q1
  cases q1
  obtain rfl := rp_int r2
  have hl := q3.length
  have rx2 : Rp X.K (hide ad H2) v d := RpS.step (x := .d d) (t1.trans t2) rx
  have m3 := m2.put h1 (q3.set rx2 k.toNat)
  have st : Step ad H ad (upd H2 aa (.lst (xs.set k.toNat v))) := (t1.trans t2).trans (Step.mut (List.mem_of_getElem? h1))
  have ix : ixN xs.length k = some k.toNat := by
    unfold ixN
    rw [if_pos e5, if_pos (by omega)]
  exact ⟨aa, xs, k, k.toNat, rfl, rfl, q2, ix, q σ _ (fun _ _ => rfl) st (s.step st m3)⟩

/-! ### statements -/
def fNext : SS := fun ρ μ k => k.nx ρ μ
def fSeq (f g : SS) : SS := fun ρ μ k => f ρ μ { k with nx := fun ρ' μ' => g ρ' μ' k }
theorem K4.le_refl (k : K4) : K4.le k k := ⟨fun _ _ h => h, fun _ _ h => h, fun _ _ h => h, fun _ _ h => h, fun _ _ _ h => h⟩
theorem mon_next : MonS fNext := fun ρ μ k k' l h => l.nx _ _ h
theorem mon_seq {f g : SS} (mf : MonS f) (mg : MonS g) : MonS (fSeq f g) := fun ρ μ k k' l h => mf ρ μ { k with nx := fun ρ' μ' => g ρ' μ' k } { k' with nx := fun ρ' μ' => g ρ' μ' k' } ⟨fun ρ' μ' q => mg ρ' μ' k k' l q, l.rt, l.bk, l.ct, l.er⟩ h
theorem kOf_step {K : PySem.W.Frag} {ad ad' : List Addr} {H H' : Hp} {Dn : Ends} (t : Step ad H ad' H') : K4.le (kOf K W ad H Dn) (kOf K W ad' H' Dn) :=
  ⟨fun _ _ h σ' H2 a2 t2 s2 => h σ' H2 a2 (t.trans t2) s2, fun _ _ h v H2 a2 t2 s2 => h v H2 a2 (t.trans t2) s2, fun _ _ h σ' H2 a2 t2 s2 => h σ' H2 a2 (t.trans t2) s2, fun _ _ h σ' H2 a2 t2 s2 => h σ' H2 a2 (t.trans t2) s2, fun _ _ _ h cls d σ' H2 a2 t2 m2 x2 => h cls d σ' H2 a2 (t.trans t2) m2 x2⟩
theorem seq_imp {f g : SS} (mf : MonS f) (mg : MonS g) (Dn : Ends) (σ : L2.St) (H : Hp) (q : tsOf X.K W (fSeq f g) Dn σ H) : tSeq (tsOf X.K W f) (tsOf X.K W g) Dn σ H := by
  obtain ⟨ad, ρ, μ, s, q⟩ := q
  refine ⟨ad, ρ, μ, s, mf ρ μ { kOf X.K W ad H Dn with nx := fun ρ' μ' => g ρ' μ' (kOf X.K W ad H Dn) } _ ⟨fun ρ' μ' q σ' H' ad' t1 s1 => ?_, fun _ _ h => h, fun _ _ h => h, fun _ _ h => h, fun _ _ _ h => h⟩ q⟩
  exact ⟨ad', ρ', μ', s1, mg ρ' μ' _ _ (kOf_step t1) q⟩
variable {st : Stmt} {sts : List Stmt}
theorem pds_nil : PDSs X W [] fNext := ⟨mon_next, pss_nil.of fun D σ H ⟨ad, ρ, μ, s, q⟩ => q σ H ad (Step.refl _ _) s⟩
theorem pds_cons {f g : SS} (h : PDS X W st f) (r : PDSs X W sts g) : PDSs X W (st :: sts) (fSeq f g) := ⟨mon_seq h.mo r.mo, (pss_cons h.run r.run).of (seq_imp h.mo r.mo)⟩
theorem pds_one {f : SS} (h : PDS X W st f) : PDSs X W [st] f := ⟨h.mo, pss_one h.run⟩
def fRet (f : SE) : SS := fun ρ μ k => f ρ μ k.rt
theorem pd_ret {f : SE} (h : PD X e f) : PDS X W (.Return (some e) pos) (fRet f) := by
  refine ⟨fun ρ μ k k' l q => h.mo ρ μ _ _ l.rt q, (ps_ret h.run).of fun Dn σ H q => ?_⟩
  obtain ⟨ad, ρ, μ, s, q⟩ := q
  exact ⟨ad, ρ, μ, s, h.mo ρ μ _ _ (fun x μ1 q v H1 t1 m1 r1 => q v H1 ad t1 m1 r1) q⟩
def fIfS (t : STe) (f g : SS) : SS := fun ρ μ k => t ρ μ fun b μ1 => if b = true then f ρ μ1 k else g ρ μ1 k
theorem pds_if {as bs : List Stmt} {t : STe} {f g : SS} (hc : PDT X c t) (ha : PDSs X W as f) (hb : PDSs X W bs g) : PDS X W (.If c as bs pos) (fIfS t f g) := by
  refine ⟨fun ρ μ k k' l q => hc.mo ρ μ _ _ (fun b μ1 q => ?_) q, (ps_if hc.run ha.run hb.run).of fun Dn σ H q => ?_⟩
  · cases b with
    | true => exact ha.mo ρ μ1 _ _ l q
    | false => exact hb.mo ρ μ1 _ _ l q
  · obtain ⟨ad, ρ, μ, s, q⟩ := q
    refine ⟨ad, ρ, μ, s, hc.mo ρ μ _ _ (fun b μ1 q H1 t1 m1 => ?_) q⟩
    cases b with
    | true => exact ⟨ad, ρ, μ1, s.step t1 m1, ha.mo ρ μ1 _ _ (kOf_step t1) q⟩
    | false => exact ⟨ad, ρ, μ1, s.step t1 m1, hb.mo ρ μ1 _ _ (kOf_step t1) q⟩
def fNever : SS := fun _ _ _ => False
theorem pds_never : PDS X W st fNever := ⟨fun _ _ _ _ _ h => h, ps_never.of fun D σ H ⟨_, _, _, _, q⟩ => q⟩
def fAsg (f : SE) (g : SG) : SS := fun ρ μ k => f ρ μ fun x μ1 => g x ρ μ1 k.nx
theorem mon_asg {f : SE} {g : SG} (mf : MonE f) (mg : MonT g) : MonS (fAsg f g) := fun ρ μ k k' l q => mf ρ μ _ _ (fun x μ1 q => mg x ρ μ1 _ _ l.nx q) q
theorem asg_imp {f : SE} {is : List Nat} {g : SG} (mf : MonE f) (mg : MonT g) (Dn : Ends) (σ : L2.St) (H : Hp) (q : tsOf X.K W (fAsg f g) Dn σ H) : tAsg (teOf X.K f) (tgOf X.K is g) Dn σ H := by
  obtain ⟨ad, ρ, μ, s, q⟩ := q
  refine ⟨ad, ρ, μ, s, mf ρ μ _ _ (fun x μ1 q v H1 t1 m1 r1 => ?_) q⟩
  exact ⟨ad, ρ, μ1, x, s.step t1 m1, r1, mg x ρ μ1 _ _ (fun ρ' μ' q σ' H' _ t2 s2 => q σ' H' ad (t1.trans t2) s2) q⟩
theorem pds_asg {tg : Expr} {is : List Nat} {f : SE} {g : SG} (h : PD X e f) (hg : PDG X tg is g) (hs : swapsWithSole [tg] e pos.line X.env = pure false := by rfl) (hw : swappedStores [tg] e X.env = pure none := by rfl)
    (h1 : (assignEach [tg] X.env).map (·.2) = [assign tg X.env] := by rfl) : PDS X W (.Assign [tg] e pos) (fAsg f g) := ⟨mon_asg h.mo hg.mo, (ps_asg h.run hg.run hs hw h1).of (asg_imp h.mo hg.mo)⟩
theorem pds_set {i : Nat} {x : Str} {p : Pos} {f : SE} (h : PD X e f) (hp : ∀ te, PE X e te → PS X (.Assign [.Name x p] e pos) (tAsg te (gName i))) : PDS X W (.Assign [.Name x p] e pos) (fAsg f (gN i)) := by
  refine ⟨mon_asg h.mo fun x ρ μ P P' k q => k _ _ q, (hp _ h.run).of fun Dn σ H q => ?_⟩
  obtain ⟨ad, ρ, μ, s, q⟩ := q
  exact ⟨ad, ρ, μ, s, h.mo ρ μ _ _ (fun x μ1 q v H1 t1 m1 r1 => q _ H1 ad t1 ((s.step t1 m1).set r1)) q⟩
/-- a, b = x, y -/
def fPar (i j : Nat) (f : SA) : SS := fun ρ μ k => f ρ μ fun xs μ1 => ∃ x y, xs = [x, y] ∧ k.nx ((ρ.set i (some x)).set j (some y)) μ1
theorem pds_par {i j : Nat} {es : List Expr} {f : SA} (h : PDA X es f) (hp : ∀ ta, PA X es ta → PS X st (tPar i j ta)) : PDS X W st (fPar i j f) := by
  refine ⟨fun ρ μ k k' l q => h.mo ρ μ _ _ (fun xs μ1 ⟨x, y, e, q⟩ => ⟨x, y, e, l.nx _ _ q⟩) q, (hp _ h.run).of fun Dn σ H q => ?_⟩
  obtain ⟨ad, ρ, μ, s, q⟩ := q
  refine ⟨ad, ρ, μ, s, h.mo ρ μ _ _ (fun xs μ1 q vs H1 t1 m1 r1 => ?_) q⟩
  obtain ⟨x, y, rfl, q⟩ := q
  obtain ⟨v, u, rfl, r2, r3⟩ := rsa2 r1
  exact ⟨v, u, rfl, q _ H1 ad t1 (((s.step t1 m1).set r2).set r3)⟩
end
end DV

/-! part DV4 -/
set_option Elab.async false
set_option linter.all false
set_option maxRecDepth 100000
set_option autoImplicit false
namespace DV
open PySem PySem.Spec L2
/-! ### what is walked -/
def DWalk (K : PySem.W.Frag) (ad : List Addr) (J : It) (items : List D) (ok : Mu → Prop) (H0 : Hp) : Prop := ∀ H2 ad2 μ2, Step ad H0 ad2 H2 → RpM K H2 ad2 μ2 → ok μ2 →
  (∀ i, i < items.length → J.go i H2) ∧ J.stop items.length H2 ∧ ∀ i d x H3, items[i]? = some d → J.yld i H2 x H3 → Step ad2 H2 ad2 H3 ∧ RpM K H3 ad2 μ2 ∧ Rp K (hide ad2 H3) x d
abbrev SI := Rho → Mu → (List D → (Mu → Prop) → Mu → Prop) → Prop
def MonI (f : SI) : Prop := ∀ ρ μ (P P' : List D → (Mu → Prop) → Mu → Prop), (∀ ds ok μ', P ds ok μ' → P' ds ok μ') → f ρ μ P → f ρ μ P'
def tiOf (K : PySem.W.Frag) (f : SI) : TI := fun σ H R => ∃ ad ρ μ, Sim K H ad ρ μ σ ∧ f ρ μ fun items ok μ' => ∀ J H', Step ad H ad H' → RpM K H' ad μ' → DWalk K ad J items ok H' → R J H'
structure PDI (X : Cx) (tg e : Expr) (f : SI) : Prop where
  mo : MonI f
  run : PI X tg e (tiOf X.K f)
theorem _root_.L2.PI.of {X : Cx} {tg e : Expr} {t t' : TI} (h : PI X tg e t) (i : ∀ σ H R, t' σ H R → t σ H R) : PI X tg e t' := ⟨fun pins s σ H R I q => h.run pins s σ H R I (i σ H R q)⟩
section
variable {X : Cx} {W : WX}
/-- a list or a tuple -/
def iSeq (K : PySem.W.Frag) (tl : TE) : TI := fun σ H R => tl σ H fun x H1 => ∃ a, x = .ref a ∧ (((∃ xs, SqL K H1 a xs) ∧ R (Itl K a) H1) ∨ ((∃ xs, SqT K H1 a xs) ∧ R (Itt K a) H1))
theorem pi_seq {tg l : Expr} {tl : TE} (hl : PE X l tl) : PI X tg l (iSeq X.K tl) := by
  refine ⟨fun pins s σ H R I h => ?_⟩
  refine thn (hl.run pins s σ H _ I h) fun v s1 ⟨x, H1, I1, r1, q1⟩ => ?_
  obtain ⟨a, e, q1⟩ := q1
  subst e
  cases r1
  have fr : ∀ b, b ∈ [s1.heap.objs.size] → FpOk X pins H1 b := fun b hb => by
    have e : b = s1.heap.objs.size := by simpa using hb
    subst e
    exact I1.fpOk (Nat.le_refl _) (I1.hok.fresh (Nat.le_refl _))
  rcases q1 with ⟨⟨xs, hq⟩, q⟩ | ⟨⟨xs, hq⟩, q⟩
  · obtain ⟨its, rv, p, hz⟩ := I1.list hq
    refine wpAny_pyIter_list p.isList ?_
    exact ⟨s1.heap.objs.size, [s1.heap.objs.size], _, _, H1, rfl, I1.kept (t' := s1.toks) fun b o e => Heap.get?_push_of_some _ e, turn_list a _, ⟨_, Heap.get?_push_size _ rfl, rfl, rfl⟩, fr, q⟩
  · obtain ⟨its, rv, p, hz⟩ := I1.tuple hq
    refine wpAny_pyIter_tuple (show s1.heap.IsTuple a its.toArray from p) ?_
    exact ⟨s1.heap.objs.size, [s1.heap.objs.size], _, _, H1, rfl, I1.kept (t' := s1.toks) fun b o e => Heap.get?_push_of_some _ e, turn_tuple a _, ⟨_, Heap.get?_push_size _ rfl, rfl, rfl⟩, fr, q⟩
def itemsOf (μ : Mu) (x : S) : Option (List D × (Mu → Prop)) := match x with
  | .d (.tup ds) => some (ds, fun _ => True)
  | .d (.lst ds) => some (ds, fun _ => True)
  | .m j => (μ[j]?).map fun ds => (ds, fun μ' => μ'[j]? = some ds)
  | _ => none
def fISeq (f : SE) : SI := fun ρ μ P => f ρ μ fun x μ1 => ∃ w, itemsOf μ1 x = some w ∧ P w.1 w.2 μ1
theorem rpA_inj {K : PySem.W.Frag} {H : Hp} : True := True.intro
theorem sqL_det {K : PySem.W.Frag} {H : Hp} {a : Addr} {xs : List V} {i : Nat} {x : V} (h : SqL K H a xs) (f : ∀ ys, SqL K H a ys → ys[i]? = some x) : xs[i]? = some x := f xs h
theorem walk_frz_list {K : PySem.W.Frag} {ad : List Addr} {H0 : Hp} {a : Addr} {xs : List V} {ds : List D} (h : SqL K (hide ad H0) a xs) (r : RpA K (hide ad H0) xs ds) : DWalk K ad (Itl K a) ds (fun _ => True) H0 := by
  intro H2 ad2 μ2 st m _
  have h2 : SqL K H2 a xs := sqL_same hide_same (sqL_same st.same h)
  have hl := r.length
  refine ⟨fun i hi => ⟨xs, xs[i]'(by omega), h2, by simp [show i < xs.length by omega]⟩, ⟨xs, h2, by omega⟩, fun i d x H3 e y => ?_⟩
  obtain ⟨rfl, f⟩ := y
  obtain ⟨v, q1, q2⟩ := r.get e
  have := f xs h2
  rw [q1] at this
  cases this
  exact ⟨Step.refl _ _, m, q2.mono st.same⟩
theorem walk_frz_tup {K : PySem.W.Frag} {ad : List Addr} {H0 : Hp} {a : Addr} {xs : List V} {ds : List D} (h : SqT K (hide ad H0) a xs) (r : RpA K (hide ad H0) xs ds) : DWalk K ad (Itt K a) ds (fun _ => True) H0 := by
  intro H2 ad2 μ2 st m _
  have h2 : SqT K H2 a xs := sqT_same hide_same (sqT_same st.same h)
  have hl := r.length
  refine ⟨fun i hi => ⟨xs, xs[i]'(by omega), h2, by simp [show i < xs.length by omega]⟩, ⟨xs, h2, by omega⟩, fun i d x H3 e y => ?_⟩
  obtain ⟨rfl, f⟩ := y
  obtain ⟨v, q1, q2⟩ := r.get e
  have := f xs h2
  rw [q1] at this
  cases this
  exact ⟨Step.refl _ _, m, q2.mono st.same⟩
theorem walk_mut_list {K : PySem.W.Frag} {ad : List Addr} {H0 : Hp} {a : Addr} {j : Nat} {ds : List D} (h : ad[j]? = some a) : DWalk K ad (Itl K a) ds (fun μ' => μ'[j]? = some ds) H0 := by
  intro H2 ad2 μ2 st m ok
  obtain ⟨b, xs, q1, q2, q3⟩ := m.at_ j ds ok
  rw [st.get h] at q1
  cases q1
  have h2 : SqL K H2 a xs := .inl (.inl q2)
  have hl := q3.length
  refine ⟨fun i hi => ⟨xs, xs[i]'(by omega), h2, by simp [show i < xs.length by omega]⟩, ⟨xs, h2, by omega⟩, fun i d x H3 e y => ?_⟩
  obtain ⟨rfl, f⟩ := y
  obtain ⟨v, q4, q5⟩ := q3.get e
  have := f xs h2
  rw [q4] at this
  cases this
  exact ⟨Step.refl _ _, m, q5⟩
theorem pdi_seq {tg l : Expr} {f : SE} (h : PD X l f) : PDI X tg l (fISeq f) := by
  refine ⟨fun ρ μ P P' k q => h.mo ρ μ _ _ (fun x μ1 ⟨w, e, q⟩ => ⟨w, e, k _ _ _ q⟩) q, (pi_seq h.run).of fun σ H R q => ?_⟩
  obtain ⟨ad, ρ, μ, s, q⟩ := q
  refine ⟨ad, ρ, μ, s, h.mo ρ μ _ _ (fun x μ1 ⟨w, e, q⟩ v H1 t1 m1 r1 => ?_) q⟩
  unfold itemsOf at e
  split at e
  · cases e
    cases r1 with
    | tup h1 h2 => exact ⟨_, rfl, .inr ⟨⟨_, sqT_same hide_same h1⟩, q _ H1 t1 m1 (walk_frz_tup h1 h2)⟩⟩
  · cases e
    cases r1 with
    | lst h1 h2 => exact ⟨_, rfl, .inl ⟨⟨_, sqL_same hide_same h1⟩, q _ H1 t1 m1 (walk_frz_list h1 h2)⟩⟩
  · rename_i jj _
    cases e2 : μ1[jj]? with
    | none => rw [e2] at e; cases e
    | some ds =>
      rw [e2] at e
      cases e
      obtain ⟨a, h1, rfl⟩ := r1
      obtain ⟨b, xs, q1, q2, q3⟩ := m1.at_ jj ds e2
      rw [h1] at q1
      cases q1
      exact ⟨a, rfl, .inl ⟨⟨xs, .inl (.inl q2)⟩, q _ H1 t1 m1 (walk_mut_list h1)⟩⟩
  · cases e
def rngD (n : Int) : List D := (List.range n.toNat).map fun (i : Nat) => D.int (i : Int)
def fIRng (f : SA) : SI := fun ρ μ P => f ρ μ fun xs μ1 => ∃ n : Int, xs = [.d (.int n)] ∧ -1000000 ≤ n ∧ n ≤ 1000000 ∧ P (rngD n) (fun _ => True) μ1
theorem pdi_range {tg : Expr} {a : Expr} {f : SA} {p pos : Pos} (hg : Gl X "range") (hm : X.mg "range" = none) (h : PDA X [a] f) (hs : starEach [a] X.env = [(false, eval a X.env)] := by rfl) : PDI X tg (.Call (.Name "range" p) [a] [] pos) (fIRng f) := by
  refine ⟨fun ρ μ P P' k q => h.mo ρ μ _ _ (fun x μ1 ⟨n, e, l1, l2, q⟩ => ⟨n, e, l1, l2, k _ _ _ q⟩) q, (pi_range1 hg hm h.run hs).of fun σ H R q => ?_⟩
  obtain ⟨ad, ρ, μ, s, q⟩ := q
  refine ⟨ad, ρ, μ, s, h.mo ρ μ _ _ (fun xs μ1 ⟨n, e, l1, l2, q⟩ vs H1 t1 m1 r1 => ?_) q⟩
  subst e
  obtain ⟨v, rfl, r2⟩ := rsa1 r1
  obtain rfl := rp_int r2
  refine ⟨n, rfl, by omega, by omega, q _ H1 t1 m1 fun H2 ad2 μ2 st m _ => ?_⟩
  have hl : (rngD n).length = n.toNat := by unfold rngD; rw [List.length_map, List.length_range]
  refine ⟨fun i hi => by rw [hl] at hi; exact hi, by rw [hl]; exact Nat.le_refl _, fun i d x H3 e y => ?_⟩
  obtain ⟨rfl, rfl⟩ := y
  refine ⟨Step.refl _ _, m, ?_⟩
  unfold rngD at e
  rw [List.getElem?_map] at e
  cases e2 : (List.range n.toNat)[i]? with
  | none => rw [e2] at e; cases e
  | some k =>
    rw [e2] at e
    cases e
    have : k = i := by
      rw [List.getElem?_eq_some_iff] at e2
      obtain ⟨_, e3⟩ := e2
      simpa using e3.symm
    subst this
    rw [Int.zero_add]
    exact .int _
/-- enumerate(list) -/
def enumD (ds : List D) : List D := ds.mapIdx fun i d => .tup [.int (i : Int), d]
def fIEnum (f : SA) : SI := fun ρ μ P => f ρ μ fun xs μ1 => ∃ ds, xs = [.d (.lst ds)] ∧ P (enumD ds) (fun _ => True) μ1
theorem pdi_enum {e : Expr} {elts : List Expr} {kk : Nat} {f : SA} {p pos tpos : Pos} (hg : Gl X "enumerate") (hm : X.mg "enumerate" = none) (h : PDA X [e] f) (hs : starEach [e] X.env = [(false, eval e X.env)] := by rfl) :
    PDI X (.Tuple elts kk tpos) (.Call (.Name "enumerate" p) [e] [] pos) (fIEnum f) := by
  refine ⟨fun ρ μ P P' k q => h.mo ρ μ _ _ (fun x μ1 ⟨n, e, q⟩ => ⟨n, e, k _ _ _ q⟩) q, (pi_enum hg hm h.run hs).of fun σ H R q => ?_⟩
  obtain ⟨ad, ρ, μ, s, q⟩ := q
  refine ⟨ad, ρ, μ, s, h.mo ρ μ _ _ (fun xs μ1 ⟨ds, e, q⟩ vs H1 t1 m1 r1 => ?_) q⟩
  subst e
  obtain ⟨v, rfl, r2⟩ := rsa1 r1
  cases r2 with
  | @lst a ws _ h1 h2 =>
    refine ⟨a, ws, rfl, sqL_same hide_same h1, q _ H1 t1 m1 fun H2 ad2 μ2 st m _ => ?_⟩
    have h3 : SqL X.K H2 a ws := sqL_same hide_same (sqL_same st.same h1)
    have hl := h2.length
    have hz : (enumD ds).length = ds.length := by unfold enumD; rw [List.length_mapIdx]
    refine ⟨fun i hi => ⟨ws, ws[i]'(by omega), h3, by simp [show i < ws.length by omega]⟩, ⟨ws, h3, by omega⟩, fun i d x H3 e y => ?_⟩
    obtain ⟨T, x', rfl, hT, rfl, f⟩ := y
    unfold enumD at e
    rw [List.getElem?_mapIdx] at e
    cases e2 : ds[i]? with
    | none => rw [e2] at e; cases e
    | some d' =>
      rw [e2] at e
      cases e
      obtain ⟨v, q4, q5⟩ := h2.get e2
      have := f ws h3
      rw [q4] at this
      cases this
      have st2 : Step ad2 H2 ad2 (upd H2 T (.tup [.int (i : Int), x'])) := Step.new hT
      exact ⟨st2, m.new hT, .tup (.inl (.inl (by rw [hide_out (m.fresh hT)]; exact upd_same))) (.cons (.int _) (.cons (q5.mono (st.trans st2).same) .nil))⟩
/-- zip of two frozen ones, both lists or both tuples -/
def zipD : List D → List D → List D
  | a :: as, b :: bs => .tup [a, b] :: zipD as bs
  | _, _ => []
theorem zipD_length : ∀ (as bs : List D), (zipD as bs).length = min as.length bs.length
  | [], _ => by simp [zipD]
  | _ :: _, [] => by simp [zipD]
  | a :: as, b :: bs => by simp only [zipD, List.length_cons, zipD_length as bs]; omega
theorem zipD_get : ∀ {as bs : List D} {i : Nat} {d : D}, (zipD as bs)[i]? = some d → ∃ a b, as[i]? = some a ∧ bs[i]? = some b ∧ d = .tup [a, b]
  | [], _, _, _, h => by simp [zipD] at h
  | _ :: _, [], _, _, h => by simp [zipD] at h
  | a :: as, b :: bs, 0, d, h => by simp [zipD] at h; exact ⟨a, b, rfl, rfl, h.symm⟩
  | a :: as, b :: bs, i + 1, d, h => by
    obtain ⟨x, y, q1, q2, q3⟩ := zipD_get (as := as) (bs := bs) (i := i) (d := d) (by simpa [zipD] using h)
    exact ⟨x, y, by simpa using q1, by simpa using q2, q3⟩
def fIZip (f : SA) : SI := fun ρ μ P => f ρ μ fun xs μ1 => ∃ ds es, (xs = [.d (.lst ds), .d (.lst es)] ∨ xs = [.d (.tup ds), .d (.tup es)]) ∧ P (zipD ds es) (fun _ => True) μ1
theorem pdi_zip {e e2 : Expr} {elts : List Expr} {kk : Nat} {f : SA} {p pos tpos : Pos} (hg : Gl X "zip") (hm : X.mg "zip" = none) (h : PDA X [e, e2] f)
    (hs : starEach [e, e2] X.env = (false, eval e X.env) :: starEach [e2] X.env := by rfl) (hpl : (backTo pos (starEach [e2] X.env)).any (·.1) = false := by rfl) :
    PDI X (.Tuple elts kk tpos) (.Call (.Name "zip" p) [e, e2] [] pos) (fIZip f) := by
  refine ⟨fun ρ μ P P' k q => h.mo ρ μ _ _ (fun x μ1 ⟨n, n2, e, q⟩ => ⟨n, n2, e, k _ _ _ q⟩) q, (RZ.pi_zipA hg hm h.run hs hpl).of fun σ H R q => ?_⟩
  obtain ⟨ad, ρ, μ, s, q⟩ := q
  refine ⟨ad, ρ, μ, s, h.mo ρ μ _ _ (fun xs μ1 ⟨ds, es, e, q⟩ vs H1 t1 m1 r1 => ?_) q⟩
  rcases e with e | e
  · subst e
    obtain ⟨v, u, rfl, r2, r3⟩ := rsa2 r1
    cases r2 with
    | @lst a ws _ h1 h2 =>
      cases r3 with
      | @lst b us _ k1 k2 =>
        refine ⟨a, b, ws, us, rfl, .inl ⟨sqL_same hide_same h1, sqL_same hide_same k1, q _ H1 t1 m1 fun H2 ad2 μ2 st m _ => ?_⟩⟩
        have h3 : SqL X.K H2 a ws := sqL_same hide_same (sqL_same st.same h1)
        have k3 : SqL X.K H2 b us := sqL_same hide_same (sqL_same st.same k1)
        have hl := h2.length
        have kl := k2.length
        have hz := zipD_length ds es
        refine ⟨fun i hi => ⟨ws, us, ws[i]'(by omega), us[i]'(by omega), h3, k3, by simp [show i < ws.length by omega], by simp [show i < us.length by omega]⟩, ⟨ws, us, h3, k3, by omega⟩, fun i d x H3 e y => ?_⟩
        obtain ⟨T, x', y', rfl, hT, rfl, f, g⟩ := y
        obtain ⟨d1, d2, g1, g2, rfl⟩ := zipD_get e
        obtain ⟨v, q4, q5⟩ := h2.get g1
        obtain ⟨v', q4', q5'⟩ := k2.get g2
        have z1 := f ws h3
        have z2 := g us k3
        rw [q4] at z1
        rw [q4'] at z2
        cases z1
        cases z2
        have st2 : Step ad2 H2 ad2 (upd H2 T (.tup [x', y'])) := Step.new hT
        exact ⟨st2, m.new hT, .tup (.inl (.inl (by rw [hide_out (m.fresh hT)]; exact upd_same))) (.cons (q5.mono (st.trans st2).same) (.cons (q5'.mono (st.trans st2).same) .nil))⟩
  · subst e
    obtain ⟨v, u, rfl, r2, r3⟩ := rsa2 r1
    cases r2 with
    | @tup a ws _ h1 h2 =>
      cases r3 with
      | @tup b us _ k1 k2 =>
        refine ⟨a, b, ws, us, rfl, .inr ⟨sqT_same hide_same h1, sqT_same hide_same k1, q _ H1 t1 m1 fun H2 ad2 μ2 st m _ => ?_⟩⟩
        have h3 : SqT X.K H2 a ws := sqT_same hide_same (sqT_same st.same h1)
        have k3 : SqT X.K H2 b us := sqT_same hide_same (sqT_same st.same k1)
        have hl := h2.length
        have kl := k2.length
        have hz := zipD_length ds es
        refine ⟨fun i hi => ⟨ws, us, ws[i]'(by omega), us[i]'(by omega), h3, k3, by simp [show i < ws.length by omega], by simp [show i < us.length by omega]⟩, ⟨ws, us, h3, k3, by omega⟩, fun i d x H3 e y => ?_⟩
        obtain ⟨T, x', y', rfl, hT, rfl, f, g⟩ := y
        obtain ⟨d1, d2, g1, g2, rfl⟩ := zipD_get e
        obtain ⟨v, q4, q5⟩ := h2.get g1
        obtain ⟨v', q4', q5'⟩ := k2.get g2
        have z1 := f ws h3
        have z2 := g us k3
        rw [q4] at z1
        rw [q4'] at z2
        cases z1
        cases z2
        have st2 : Step ad2 H2 ad2 (upd H2 T (.tup [x', y'])) := Step.new hT
        exact ⟨st2, m.new hT, .tup (.inl (.inl (by rw [hide_out (m.fresh hT)]; exact upd_same))) (.cons (q5.mono (st.trans st2).same) (.cons (q5'.mono (st.trans st2).same) .nil))⟩

/-! ### for -/
def loopS (g : SG) (body : SS) (ok : Mu → Prop) : List D → SS
  | [], ρ, μ, k => ok μ ∧ k.nx ρ μ
  | d :: r, ρ, μ, k => ok μ ∧ g (.d d) ρ μ fun ρ1 μ1 => body ρ1 μ1 { nx := fun ρ2 μ2 => loopS g body ok r ρ2 μ2 k, rt := k.rt, bk := k.nx, ct := fun ρ2 μ2 => loopS g body ok r ρ2 μ2 k, er := k.er }
theorem mon_loop {g : SG} {body : SS} {ok : Mu → Prop} (mg : MonT g) (mb : MonS body) : ∀ ds, MonS (loopS g body ok ds)
  | [] => fun ρ μ k k' l q => ⟨q.1, l.nx _ _ q.2⟩
  | d :: r => fun ρ μ k k' l q => ⟨q.1, mg _ ρ μ _ _ (fun ρ1 μ1 q => mb ρ1 μ1 { nx := fun ρ2 μ2 => loopS g body ok r ρ2 μ2 k, rt := k.rt, bk := k.nx, ct := fun ρ2 μ2 => loopS g body ok r ρ2 μ2 k, er := k.er } { nx := fun ρ2 μ2 => loopS g body ok r ρ2 μ2 k', rt := k'.rt, bk := k'.nx, ct := fun ρ2 μ2 => loopS g body ok r ρ2 μ2 k', er := k'.er }
      ⟨fun _ _ q => mon_loop mg mb r _ _ _ _ l q, l.rt, l.nx, fun _ _ q => mon_loop mg mb r _ _ _ _ l q, l.er⟩ q) q.2⟩
def fFor (fi : SI) (g : SG) (body : SS) : SS := fun ρ μ k => fi ρ μ fun items ok μ1 => loopS g body ok items ρ μ1 k
theorem for_imp {fi : SI} {is : List Nat} {g : SG} {body : SS} (mi : MonI fi) (mg : MonT g) (mb : MonS body) (Dn : Ends) (σ : L2.St) (H : Hp) (q : tsOf X.K W (fFor fi g body) Dn σ H) : tFor (tiOf X.K fi) (tgOf X.K is g) (tsOf X.K W body) Dn σ H := by
  obtain ⟨ad, ρ, μ, s, q⟩ := q
  refine ⟨ad, ρ, μ, s, mi ρ μ _ _ (fun items ok μ1 q J H1 t1 m1 dw => ?_) q⟩
  refine ⟨fun i m σ' H' => ∃ ad' ρ' μ', m = items.length - i ∧ i ≤ items.length ∧ Step ad H1 ad' H' ∧ Sim X.K H' ad' ρ' μ' σ' ∧ loopS g body ok (items.drop i) ρ' μ' (kOf X.K W ad H Dn), ⟨items.length, ad, ρ, μ1, rfl, Nat.zero_le _, Step.refl _ _, s.step t1 m1, q⟩, ?_⟩
  rintro i m σ' H' ⟨ad', ρ', μ', rfl, hi, st, s', q⟩
  by_cases hlt : i < items.length
  · have ed : items.drop i = items[i] :: items.drop (i + 1) := List.drop_eq_getElem_cons hlt
    rw [ed] at q
    obtain ⟨ok1, q⟩ := q
    obtain ⟨d1, d2, d3⟩ := dw H' ad' μ' st s'.m ok1
    refine .inr ⟨d1 i hlt, fun σ'' H'' => ∃ ad'' ρ'' μ'', Step ad H1 ad'' H'' ∧ Sim X.K H'' ad'' ρ'' μ'' σ'' ∧ loopS g body ok (items.drop (i + 1)) ρ'' μ'' (kOf X.K W ad H Dn),
      fun σ'' H'' ⟨ad'', ρ'', μ'', st2, s2, q2⟩ => ⟨items.length - (i + 1), by omega, ad'', ρ'', μ'', rfl, hlt, st2, s2, q2⟩, fun x H3 y => ?_⟩
    obtain ⟨st3, m3, r3⟩ := d3 i _ x H3 (List.getElem?_eq_getElem hlt) y
    refine ⟨ad', ρ', μ', .d items[i], s'.step st3 m3, r3, mg _ ρ' μ' _ _ (fun ρ1 μ1 q σ2 H4 _ st4 s4 => ?_) q⟩
    have t4 := (st.trans st3).trans st4
    refine ⟨ad', ρ1, μ1, s4, mb ρ1 μ1 { nx := fun ρ2 μ2 => loopS g body ok (items.drop (i + 1)) ρ2 μ2 (kOf X.K W ad H Dn), rt := (kOf X.K W ad H Dn).rt, bk := (kOf X.K W ad H Dn).nx, ct := fun ρ2 μ2 => loopS g body ok (items.drop (i + 1)) ρ2 μ2 (kOf X.K W ad H Dn), er := (kOf X.K W ad H Dn).er } _ ⟨fun ρ2 μ2 q σ5 H5 ad5 st5 s5 => ⟨ad5, ρ2, μ2, t4.trans st5, s5, q⟩, fun x μ2 q v H5 ad5 st5 m5 r5 => q v H5 ad5 ((t1.trans t4).trans st5) m5 r5,
      fun ρ2 μ2 q σ5 H5 ad5 st5 s5 => q σ5 H5 ad5 ((t1.trans t4).trans st5) s5, fun ρ2 μ2 q σ5 H5 ad5 st5 s5 => ⟨ad5, ρ2, μ2, t4.trans st5, s5, q⟩,
      fun x ρ2 μ2 q cls d σ5 H5 ad5 st5 m5 x5 => q cls d σ5 H5 ad5 ((t1.trans t4).trans st5) m5 x5⟩ q⟩
  · have e : i = items.length := by omega
    subst e
    rw [List.drop_length] at q
    obtain ⟨ok1, q⟩ := q
    obtain ⟨d1, d2, d3⟩ := dw H' ad' μ' st s'.m ok1
    exact .inl ⟨d2, q σ' H' ad' (t1.trans st) s'⟩
theorem pds_for {tg iter : Expr} {body : List Stmt} {pos : Pos} {fi : SI} {is : List Nat} {g : SG} {fb : SS} (hp : PassesOwn (model X.prog X.w) X.A X.env X.xe) (hc : X.calm = true) (hi : PDI X tg iter fi) (hg : PDG X tg is g) (hb : PDSs X W body fb)
    (hs : ∀ x, foldedSetIterable iter X.env x = pure x := by intro _; rfl) : PDS X W (.For tg iter body [] pos) (fFor fi g fb) :=
  ⟨fun ρ μ k k' l q => hi.mo ρ μ _ _ (fun items ok μ1 q => mon_loop hg.mo hb.mo items _ _ _ _ l q) q, (ps_for hp hc hi.run hg.run hb.run hs).of (for_imp hi.mo hg.mo hb.mo)⟩
/-! ### while -/
def whileN (t : STe) (body : SS) : Nat → SS
  | 0, _, _, _ => False
  | n + 1, ρ, μ, k => t ρ μ fun b μ1 => if b = true then body ρ μ1 { nx := fun ρ2 μ2 => whileN t body n ρ2 μ2 k, rt := k.rt, bk := k.nx, ct := fun ρ2 μ2 => whileN t body n ρ2 μ2 k, er := k.er } else k.nx ρ μ1
theorem mon_whileN {t : STe} {body : SS} (mt : MonE t) (mb : MonS body) : ∀ n, MonS (whileN t body n)
  | 0 => fun _ _ _ _ _ q => q
  | n + 1 => fun ρ μ k k' l q => mt ρ μ _ _ (fun b μ1 q => by
    cases b with
    | true => exact mb ρ μ1 { nx := fun ρ2 μ2 => whileN t body n ρ2 μ2 k, rt := k.rt, bk := k.nx, ct := fun ρ2 μ2 => whileN t body n ρ2 μ2 k, er := k.er } { nx := fun ρ2 μ2 => whileN t body n ρ2 μ2 k', rt := k'.rt, bk := k'.nx, ct := fun ρ2 μ2 => whileN t body n ρ2 μ2 k', er := k'.er } ⟨fun _ _ q => mon_whileN mt mb n _ _ _ _ l q, l.rt, l.nx, fun _ _ q => mon_whileN mt mb n _ _ _ _ l q, l.er⟩ q
    | false => exact l.nx _ _ q) q
def fWhile (t : STe) (body : SS) : SS := fun ρ μ k => ∃ n, whileN t body n ρ μ k
theorem while_imp {t : STe} {body : SS} (mt : MonE t) (mb : MonS body) (Dn : Ends) (σ : L2.St) (H : Hp) (q : tsOf X.K W (fWhile t body) Dn σ H) : tWhile (ttOf X.K t) (tsOf X.K W body) Dn σ H := by
  obtain ⟨ad, ρ, μ, s, n, q⟩ := q
  refine ⟨fun m σ' H' => ∃ ad' ρ' μ', Step ad H ad' H' ∧ Sim X.K H' ad' ρ' μ' σ' ∧ whileN t body m ρ' μ' (kOf X.K W ad H Dn), ⟨n, ad, ρ, μ, Step.refl _ _, s, q⟩, ?_⟩
  rintro m σ' H' ⟨ad', ρ', μ', st, s', q⟩
  cases m with
  | zero => exact q.elim
  | succ m =>
    refine ⟨ad', ρ', μ', s', mt ρ' μ' _ _ (fun b μ1 q H1 t1 m1 => ?_) q⟩
    cases b with
    | false => exact q σ' H1 ad' (st.trans t1) (s'.step t1 m1)
    | true =>
      refine ⟨fun σ'' H'' => ∃ ad'' ρ'' μ'', Step ad H ad'' H'' ∧ Sim X.K H'' ad'' ρ'' μ'' σ'' ∧ whileN t body m ρ'' μ'' (kOf X.K W ad H Dn), fun σ'' H'' w => ⟨m, Nat.lt_succ_self m, w⟩, ?_⟩
      have t4 := st.trans t1
      exact ⟨ad', ρ', μ1, s'.step t1 m1, mb ρ' μ1 { nx := fun ρ2 μ2 => whileN t body m ρ2 μ2 (kOf X.K W ad H Dn), rt := (kOf X.K W ad H Dn).rt, bk := (kOf X.K W ad H Dn).nx, ct := fun ρ2 μ2 => whileN t body m ρ2 μ2 (kOf X.K W ad H Dn), er := (kOf X.K W ad H Dn).er } _ ⟨fun ρ2 μ2 q σ5 H5 ad5 st5 s5 => ⟨ad5, ρ2, μ2, t4.trans st5, s5, q⟩, fun x μ2 q v H5 ad5 st5 m5 r5 => q v H5 ad5 (t4.trans st5) m5 r5,
        fun ρ2 μ2 q σ5 H5 ad5 st5 s5 => q σ5 H5 ad5 (t4.trans st5) s5, fun ρ2 μ2 q σ5 H5 ad5 st5 s5 => ⟨ad5, ρ2, μ2, t4.trans st5, s5, q⟩,
        fun x ρ2 μ2 q cls d σ5 H5 ad5 st5 m5 x5 => q cls d σ5 H5 ad5 (t4.trans st5) m5 x5⟩ q⟩
theorem pds_while {c : Expr} {body : List Stmt} {pos : Pos} {t : STe} {fb : SS} (hp : PassesOwn (model X.prog X.w) X.A X.env X.xe) (hc : PDT X c t) (hb : PDSs X W body fb) : PDS X W (.While c body [] pos) (fWhile t fb) :=
  ⟨fun ρ μ k k' l ⟨n, q⟩ => ⟨n, mon_whileN hc.mo hb.mo n _ _ _ _ l q⟩, (ps_while hp hc.run hb.run).of (while_imp hc.mo hb.mo)⟩

/-! ### new lists -/
abbrev SN := Rho → Mu → (List D → Mu → Prop) → Prop
def tnOf (K : PySem.W.Frag) (f : SN) : TE := fun σ H Q => ∃ ad ρ μ, Sim K H ad ρ μ σ ∧ f ρ μ fun ds μ' => ∀ p H', H p = none → Step ad H (ad ++ [p]) H' → RpM K H' (ad ++ [p]) (μ' ++ [ds]) → Q (.ref p) H'
structure PDN (X : Cx) (e : Expr) (f : SN) : Prop where
  mo : MonE f
  run : PE X e (tnOf X.K f)
def fOfN (f : SN) : SE := fun ρ μ P => f ρ μ fun ds μ' => P (.d (.lst ds)) μ'
theorem step_less {ad : List Addr} {p : Addr} {H H' : Hp} (t : Step ad H (ad ++ [p]) H') : Step ad H ad H' := ⟨List.prefix_refl _, fun b o h e => ⟨h, (t.keep b o h e).2⟩⟩
theorem pd_of_N {e : Expr} {f : SN} (h : PDN X e f) : PD X e (fOfN f) := by
  refine ⟨fun ρ μ P P' k q => h.mo ρ μ _ _ (fun ds μ1 q => k _ _ q) q, h.run.of fun σ H Q q => ?_⟩
  obtain ⟨ad, ρ, μ, s, q⟩ := q
  refine ⟨ad, ρ, μ, s, h.mo ρ μ _ _ (fun ds μ1 q p H' hp t m => ?_) q⟩
  obtain ⟨m1, r1, _⟩ := m.last
  exact q _ H' (step_less t) m1 r1
theorem new_N {K : PySem.W.Frag} {H H1 : Hp} {ad : List Addr} {μ : Mu} {xs : List V} {ds : List D} {Q : VK} (t : Step ad H ad H1) (m : RpM K H1 ad μ) (r : RpA K (hide ad H1) xs ds) (hf : ∀ p, H1 p = none → H p = none)
    (q : ∀ p H', H p = none → Step ad H (ad ++ [p]) H' → RpM K H' (ad ++ [p]) (μ ++ [ds]) → Q (.ref p) H') : ∀ p, H1 p = none → Q (.ref p) (upd H1 p (.lst xs)) := fun p hp =>
  q p _ (hf p hp) (t.trans (Step.newM hp)) (m.newM hp r)
theorem free_back {ad : List Addr} {H H1 : Hp} {K : PySem.W.Frag} {μ μ1 : Mu} (m0 : RpM K H ad μ) (t : Step ad H ad H1) (m : RpM K H1 ad μ1) : ∀ p, H1 p = none → H p = none := fun p hp => by
  cases e : H p with
  | none => rfl
  | some o =>
    by_cases q : p ∈ ad
    · obtain ⟨xs, e2⟩ := m.there q
      rw [hp] at e2
      cases e2
    · have := (t.keep p o q e).2
      rw [hp] at this
      cases this
def fNLst (f : SA) : SN := fun ρ μ P => f ρ μ fun ss μ' => ∃ ds, allD ss = some ds ∧ ds.length ≤ 100000 ∧ P ds μ'
theorem pdn_lst {es : List Expr} {pos : Pos} {f : SA} (h : PDA X es f) : PDN X (.List es pos) (fNLst f) := by
  refine ⟨fun ρ μ P P' k q => h.mo ρ μ _ _ (fun x μ1 ⟨ds, h1, h2, h3⟩ => ⟨ds, h1, h2, k _ _ h3⟩) q, (pe_lst h.run).of fun σ H Q q => ?_⟩
  obtain ⟨ad, ρ, μ, s, q⟩ := q
  refine ⟨ad, ρ, μ, s, h.mo ρ μ _ _ (fun ss μ1 h1 vs H1 t1 m1 r1 => ?_) q⟩
  obtain ⟨ds, a1, a2, a3⟩ := h1
  have r2 := allD_rp r1 a1
  exact ⟨sz (by rw [r2.length]; exact a2), new_N t1 m1 r2 (free_back s.m t1 m1) a3⟩
/-- x = a new list that will change -/
def fNew (i : Nat) (f : SN) : SS := fun ρ μ k => f ρ μ fun ds μ1 => k.nx (ρ.set i (some (.m μ1.length))) (μ1 ++ [ds])
theorem mon_new {i : Nat} {f : SN} (m : MonE f) : MonS (fNew i f) := fun ρ μ k k' l q => m ρ μ _ _ (fun ds μ1 q => l.nx _ _ q) q
theorem new_imp {i : Nat} {f : SN} (m : MonE f) (Dn : Ends) (σ : L2.St) (H : Hp) (q : tsOf X.K W (fNew i f) Dn σ H) : tAsg (tnOf X.K f) (gName i) Dn σ H := by
  obtain ⟨ad, ρ, μ, s, q⟩ := q
  refine ⟨ad, ρ, μ, s, m ρ μ _ _ (fun ds μ1 q p H' hp t m1 => ?_) q⟩
  refine q _ H' (ad ++ [p]) t ((s.step t m1).set ⟨p, ?_, rfl⟩)
  have hl := m1.len
  rw [List.length_append, List.length_append] at hl
  have hl2 : ad.length = μ1.length := by simpa using hl
  rw [← hl2, List.getElem?_append_right (Nat.le_refl _), Nat.sub_self]
  rfl
theorem pds_new {i : Nat} {x : Str} {p pos : Pos} {e : Expr} {f : SN} (h : PDN X e f) (hp : ∀ te, PE X e te → PS X (.Assign [.Name x p] e pos) (tAsg te (gName i))) : PDS X W (.Assign [.Name x p] e pos) (fNew i f) :=
  ⟨mon_new h.mo, (hp _ h.run).of (new_imp h.mo)⟩
/-- x.append(e) -/
def fApp (fo f : SE) : SS := fun ρ μ k => fo ρ μ fun o μ1 => ∃ j, o = .m j ∧ f ρ μ1 fun y μ2 => ∃ d ds, y = .d d ∧ μ2[j]? = some ds ∧ ds.length < 50000 ∧ k.nx ρ (μ2.set j (ds ++ [d]))
theorem szl {n : Nat} (h : n < 50000) : n < sizeLine := Nat.lt_of_lt_of_le h (by decide)
theorem pds_app {o e : Expr} {apos cpos pos : Pos} {fo f : SE} (ho : PD X o fo) (h : PD X e f) (hp : ∀ to ta, PE X o to → PA X [e] ta → PS X (.Expr (.Call (.Attribute o "append" apos) [e] [] cpos) pos) (tDrop (tBM X.K "list" rAppend to ta)))
    (hs : starEach [e] X.env = (false, eval e X.env) :: starEach [] X.env := by rfl) : PDS X W (.Expr (.Call (.Attribute o "append" apos) [e] [] cpos) pos) (fApp fo f) := by
  refine ⟨fun ρ μ k k' l q => ho.mo ρ μ _ _ (fun o μ1 ⟨j, e1, q⟩ => ⟨j, e1, h.mo ρ μ1 _ _ (fun y μ2 ⟨d, ds, e2, e3, e4, q⟩ => ⟨d, ds, e2, e3, e4, l.nx _ _ q⟩) q⟩) q, (hp _ _ ho.run (pa_cons h.run pa_nil hs)).of fun Dn σ H q => ?_⟩
  obtain ⟨ad, ρ, μ, s, q⟩ := q
  refine ⟨ad, ρ, μ, s, ho.mo ρ μ _ _ (fun x μ1 ⟨j, e1, q⟩ v H1 t1 m1 r1 => ?_) q⟩
  subst e1
  obtain ⟨a, h1, rfl⟩ := r1
  refine ⟨?_, ad, ρ, μ1, s.step t1 m1, h.mo ρ μ1 _ _ (fun y μ2 q u H2 t2 m2 r2 => ?_) q⟩
  · obtain ⟨xs, h2⟩ := m1.there (List.mem_of_getElem? h1)
    exact .inl ⟨rfl, xs, .inl (.inl h2)⟩
  · obtain ⟨d, ds, rfl, e3, e4, q⟩ := q
    obtain ⟨b, xs, q1, q2, q3⟩ := m2.at_ j ds e3
    rw [h1] at q1
    cases q1
    have hl := q3.length
    have m3 := m2.put h1 (q3.append (.cons r2 .nil))
    have st : Step ad H ad (upd H2 a (.lst (xs ++ [u]))) := (t1.trans t2).trans (Step.mut (List.mem_of_getElem? h1))
    exact ⟨a, xs, u, rfl, rfl, q2, szl (by omega), q σ _ ad st (s.step st m3)⟩
end
end DV

/-! part DV5 -/
set_option Elab.async false
set_option linter.all false
set_option maxRecDepth 100000
set_option autoImplicit false
namespace DV
open PySem PySem.Spec L2
open PyProof.Rows (envOfC)
section
variable {X : Cx} {W : WX}
/-! ### list comprehensions -/
def fYes : STe := fun _ μ P => P true μ
structure PDTs (X : Cx) (ifs : List Expr) (f : STe) : Prop where
  mo : MonE f
  run : PTs X ifs (ttOf X.K f)
theorem PTs.of {X : Cx} {ifs : List Expr} {t t' : TT} (h : PTs X ifs t) (i : ∀ σ H Q, t' σ H Q → t σ H Q) : PTs X ifs t' := ⟨fun pins s σ H Q I q => h.run pins s σ H Q I (i σ H Q q)⟩
theorem pdts_nil : PDTs X [] fYes := ⟨fun ρ μ P P' k q => k _ _ q, PTs.of pts_nil fun σ H Q ⟨ad, ρ, μ, s, q⟩ => q H (Step.refl _ _) s.m⟩
theorem pdts_one {c : Expr} {f : STe} (h : PDT X c f) : PDTs X [c] f := ⟨h.mo, pts_one h.run⟩
def lcLoop (g : SG) (tt : STe) (fe : SE) (ok : Mu → Prop) (ρ : Rho) : List D → List D → Mu → (List D → Mu → Prop) → Prop
  | [], acc, μ, P => ok (μ ++ [acc]) ∧ P acc μ
  | d :: r, acc, μ, P => ok (μ ++ [acc]) ∧ acc.length < 50000 ∧ g (.d d) ρ (μ ++ [acc]) fun ρ1 μ1 => tt ρ1 μ1 fun b μ2 =>
    if b = true then fe ρ1 μ2 fun y μ3 => ∃ yd, y = .d yd ∧ μ3.getLast? = some acc ∧ lcLoop g tt fe ok ρ r (acc ++ [yd]) μ3.dropLast P
    else μ2.getLast? = some acc ∧ lcLoop g tt fe ok ρ r acc μ2.dropLast P
theorem mon_lcLoop {g : SG} {tt : STe} {fe : SE} {ok : Mu → Prop} {ρ : Rho} (mg : MonT g) (mt : MonE tt) (me : MonE fe) : ∀ (ds acc : List D) (μ : Mu) (P P' : List D → Mu → Prop), (∀ ds μ', P ds μ' → P' ds μ') → lcLoop g tt fe ok ρ ds acc μ P → lcLoop g tt fe ok ρ ds acc μ P'
  | [], _, _, _, _, k, q => ⟨q.1, k _ _ q.2⟩
  | d :: r, acc, μ, P, P', k, q => ⟨q.1, q.2.1, mg _ _ _ _ _ (fun ρ1 μ1 q => mt _ _ _ _ (fun b μ2 q => by
    cases b with
    | true => exact me _ _ _ _ (fun y μ3 ⟨yd, e1, e2, q⟩ => ⟨yd, e1, e2, mon_lcLoop mg mt me r _ _ P P' k q⟩) q
    | false => exact ⟨q.1, mon_lcLoop mg mt me r _ _ P P' k q.2⟩) q) q.2.2⟩
def fLc (fi : SI) (g : SG) (tt : STe) (fe : SE) (vs : List Nat) : SN := fun ρ μ P => fi ρ μ fun items ok μ1 => lcLoop g tt fe ok (wipeR ρ vs) items [] μ1 P
theorem mon_lc {fi : SI} {g : SG} {tt : STe} {fe : SE} {vs : List Nat} (mi : MonI fi) (mg : MonT g) (mt : MonE tt) (me : MonE fe) : MonE (fLc fi g tt fe vs) := fun ρ μ P P' k q => mi ρ μ _ _ (fun items ok μ1 q => mon_lcLoop mg mt me items [] μ1 P P' k q) q
theorem unsnoc {μ : Mu} {acc : List D} (h : μ.getLast? = some acc) : μ = μ.dropLast ++ [acc] := by
  obtain ⟨ys, rfl⟩ := List.getLast?_eq_some_iff.mp h
  rw [List.dropLast_concat]
theorem lc_imp {fi : SI} {is vs : List Nat} {g : SG} {tt : STe} {fe : SE} (mi : MonI fi) (mg : MonT g) (mt : MonE tt) (me : MonE fe) (hv : ∀ i ∈ is, i ∈ vs) (σ : L2.St) (H : Hp) (Q : VK) (q : tnOf X.K (fLc fi g tt fe vs) σ H Q) :
    tLc (tiOf X.K fi) (tgOf X.K is g) (ttOf X.K tt) (teOf X.K fe) vs σ H Q := by
  obtain ⟨ad, ρ, μ, s, q⟩ := q
  refine ⟨ad, ρ, μ, s, mi ρ μ _ _ (fun items ok μ1 q J H1 t1 m1 dw Da hD => ?_) q⟩
  have hD0 : H Da = none := free_back s.m t1 m1 Da hD
  have st0 : Step ad H1 (ad ++ [Da]) (upd H1 Da (.lst [])) := Step.newM hD
  have m0 : RpM X.K (upd H1 Da (.lst [])) (ad ++ [Da]) (μ1 ++ [[]]) := m1.newM hD .nil
  refine ⟨fun i m H' => ∃ acc μ', m = items.length - i ∧ i ≤ items.length ∧ Step ad H1 (ad ++ [Da]) H' ∧ RpM X.K H' (ad ++ [Da]) (μ' ++ [acc]) ∧ lcLoop g tt fe ok (wipeR ρ vs) (items.drop i) acc μ' (fun ds μ' => ∀ p H', H p = none → Step ad H (ad ++ [p]) H' → RpM X.K H' (ad ++ [p]) (μ' ++ [ds]) → Q (.ref p) H'),
    ⟨items.length, [], μ1, rfl, Nat.zero_le _, st0, m0, q⟩, ?_⟩
  rintro i m H' ⟨acc, μ', rfl, hi, st, m', q⟩
  by_cases hlt : i < items.length
  · have ed : items.drop i = items[i] :: items.drop (i + 1) := List.drop_eq_getElem_cons hlt
    rw [ed] at q
    obtain ⟨ok1, hz, q⟩ := q
    obtain ⟨d1, d2, d3⟩ := dw H' (ad ++ [Da]) _ st m' ok1
    refine .inr ⟨d1 i hlt, fun H'' => ∃ acc μ'', Step ad H1 (ad ++ [Da]) H'' ∧ RpM X.K H'' (ad ++ [Da]) (μ'' ++ [acc]) ∧ lcLoop g tt fe ok (wipeR ρ vs) (items.drop (i + 1)) acc μ'' (fun ds μ' => ∀ p H', H p = none → Step ad H (ad ++ [p]) H' → RpM X.K H' (ad ++ [p]) (μ' ++ [ds]) → Q (.ref p) H'),
      fun H'' ⟨acc, μ'', st2, m2, q2⟩ => ⟨items.length - (i + 1), by omega, acc, μ'', rfl, hlt, st2, m2, q2⟩, fun x H3 y => ?_⟩
    obtain ⟨st3, m3, r3⟩ := d3 i _ x H3 (List.getElem?_eq_getElem hlt) y
    have s3 : Sim X.K H3 (ad ++ [Da]) (wipeR ρ vs) (μ' ++ [acc]) (L2.wipe σ vs) := ((s.step ((t1.trans st).trans st3) m3).wipe vs)
    refine ⟨ad ++ [Da], wipeR ρ vs, μ' ++ [acc], .d items[i], s3, r3, mg _ _ _ _ _ (fun ρ1 μ1 q σ2 H4 w4 st4 s4 => ?_) q⟩
    refine ⟨(w4 vs hv).trans (wipe_wipe σ vs), ad ++ [Da], ρ1, μ1, s4, mt _ _ _ _ (fun b μ2 q H5 st5 m5 => ?_) q⟩
    have t35 := (st3.trans st4).trans st5
    cases b with
    | false =>
      obtain ⟨e1, q⟩ := q
      have e2 := unsnoc e1
      show ∃ acc μ'', _
      exact ⟨acc, _, st.trans t35, by rw [← e2]; exact m5, q⟩
    | true =>
      refine ⟨ad ++ [Da], ρ1, μ2, s4.step st5 m5, me _ _ _ _ (fun y μ3 q u H6 st6 m6 r6 => ?_) q⟩
      obtain ⟨yd, rfl, e1, q⟩ := q
      have e2 := unsnoc e1
      have hl := m6.len
      rw [e2] at m6 hl
      rw [List.length_append, List.length_append] at hl
      have hl2 : ad.length = μ3.dropLast.length := by simpa using hl
      have hget : (ad ++ [Da])[μ3.dropLast.length]? = some Da := by
        rw [← hl2, List.getElem?_append_right (Nat.le_refl _), Nat.sub_self]
        rfl
      obtain ⟨b, xs, q1, q2, q3⟩ := m6.at_ μ3.dropLast.length acc (by rw [List.getElem?_append_right (Nat.le_refl _), Nat.sub_self]; rfl)
      rw [hget] at q1
      cases q1
      have hla := q3.length
      have m7 := m6.put hget (q3.append (.cons r6 .nil))
      have e3 : (μ3.dropLast ++ [acc]).set μ3.dropLast.length (acc ++ [yd]) = μ3.dropLast ++ [acc ++ [yd]] := by
        rw [List.set_append_right _ _ (Nat.le_refl _), Nat.sub_self]
        rfl
      rw [e3] at m7
      refine ⟨xs, q2, szl (by omega), acc ++ [yd], μ3.dropLast, (st.trans (t35.trans st6)).trans (Step.mut (by simp)), m7, q⟩
  · have e : i = items.length := by omega
    subst e
    rw [List.drop_length] at q
    obtain ⟨ok1, q⟩ := q
    obtain ⟨d1, d2, d3⟩ := dw H' (ad ++ [Da]) _ st m' ok1
    exact .inl ⟨d2, q Da H' hD0 (t1.trans st) m'⟩
where
  wipe_wipe (σ : L2.St) (vs : List Nat) : L2.wipe (L2.wipe σ vs) vs = L2.wipe σ vs := by
    have key : ∀ (us ws : List Nat), (∀ i ∈ us, i ∈ ws) → ∀ τ : L2.St, L2.wipe (L2.wipe τ us) ws = L2.wipe τ ws := by
      intro us
      induction us with
      | nil => intro ws _ τ; rfl
      | cons u us ih =>
        intro ws hw τ
        show L2.wipe ((L2.wipe τ us).set u none) ws = _
        rw [wipe_set (hw u (by simp)), ih ws (fun i hi => hw i (List.mem_cons_of_mem _ hi)) τ]
    exact key vs vs (fun _ h => h) σ
theorem pdn_lc {elt tg iter : Expr} {ifs : List Expr} {scope : Scope} {own : List (Str × Nat)} {pos : Pos} {fi : SI} {is : List Nat} {g : SG} {tt : STe} {fe : SE} (hc : X.calm = true) (hN : X.N.Nodup) (hi : PDI X tg iter fi) (ok : BlkOk X.N X.env.scope scope own)
    (hg : ∀ (s : Shared) (H : Hp) (C : Addr) (cl : List (Str × Addr)) (fp : List Addr), PDG (X.blk s H scope (compEnvC scope cl C X.env) fp) tg is g) (ht : ∀ (s : Shared) (H : Hp) (C : Addr) (cl : List (Str × Addr)) (fp : List Addr), PDTs (X.blk s H scope (compEnvC scope cl C X.env) fp) ifs tt)
    (he : ∀ (s : Shared) (H : Hp) (C : Addr) (cl : List (Str × Addr)) (fp : List Addr), PD (X.blk s H scope (compEnvC scope cl C X.env) fp) elt fe) (hv : ∀ i ∈ is, i ∈ own.map (·.2)) (hs : ∀ x, foldedSetIterable iter X.env x = pure x := by intro _; rfl) :
    PDN X (.ListComp elt [⟨tg, iter, ifs, 0⟩] scope pos) (fLc fi g tt fe (own.map (·.2))) := by
  have d : Shared × Hp × Addr := ⟨X.s_0, fun _ => none, 0⟩
  have mg := (hg d.1 d.2.1 d.2.2 [] []).mo
  have mt := (ht d.1 d.2.1 d.2.2 [] []).mo
  have me := (he d.1 d.2.1 d.2.2 [] []).mo
  exact ⟨mon_lc hi.mo mg mt me, (pe_lc hc hN hi.run ok (fun s H C cl fp => (hg s H C cl fp).run) (fun s H C cl fp => (ht s H C cl fp).run) (fun s H C cl fp => (he s H C cl fp).run) hs).of (lc_imp hi.mo mg mt me hv)⟩
/-- name = [..], the name a local of the def -/
theorem pds_setLc {i : Nat} {y : Str} {py : Pos} {elt tg iter : Expr} {ifs : List Expr} {scope : Scope} {own : List (Str × Nat)} {pos spos : Pos} {fi : SI} {is : List Nat} {g : SG} {tt : STe} {fe : SE} (hc : X.calm = true) (hN : X.N.Nodup) (hy : X.N[i]? = some y) (hyl : X.env.scope.names.lookup y = some .local)
    (hsw : swapsWith (.ListComp elt [⟨tg, iter, ifs, 0⟩] scope pos) (some (.Name y py)) spos.line X.env = pure true) (hi : PDI X tg iter fi) (ok : BlkOk X.N X.env.scope scope own)
    (hg : ∀ (s : Shared) (H : Hp) (C : Addr) (cl : List (Str × Addr)) (fp : List Addr), PDG (X.blk s H scope (compEnvC scope cl C X.env) fp) tg is g) (ht : ∀ (s : Shared) (H : Hp) (C : Addr) (cl : List (Str × Addr)) (fp : List Addr), PDTs (X.blk s H scope (compEnvC scope cl C X.env) fp) ifs tt)
    (he : ∀ (s : Shared) (H : Hp) (C : Addr) (cl : List (Str × Addr)) (fp : List Addr), PD (X.blk s H scope (compEnvC scope cl C X.env) fp) elt fe) (hv : ∀ i ∈ is, i ∈ own.map (·.2)) (hs : ∀ x, foldedSetIterable iter X.env x = pure x := by intro _; rfl) :
    PDS X W (.Assign [.Name y py] (.ListComp elt [⟨tg, iter, ifs, 0⟩] scope pos) spos) (fAsg (fOfN (fLc fi g tt fe (own.map (·.2)))) (gN i)) := by
  have d : Shared × Hp × Addr := ⟨X.s_0, fun _ => none, 0⟩
  have mg := (hg d.1 d.2.1 d.2.2 [] []).mo
  have mt := (ht d.1 d.2.1 d.2.2 [] []).mo
  have me := (he d.1 d.2.1 d.2.2 [] []).mo
  have mo := mon_lc (vs := own.map (·.2)) hi.mo mg mt me
  refine ⟨mon_asg (fun ρ μ P P' k q => mo ρ μ _ _ (fun ds μ1 q => k _ _ q) q) fun x ρ μ P P' k q => k _ _ q,
    (ps_setLc hc hN hy hyl hsw hi.run ok (fun s H C cl fp => (hg s H C cl fp).run) (fun s H C cl fp => (ht s H C cl fp).run) (fun s H C cl fp => (he s H C cl fp).run) hs).of fun Dn σ H q => lc_imp hi.mo mg mt me hv σ H _ ?_⟩
  obtain ⟨ad, ρ, μ, s, q⟩ := q
  refine ⟨ad, ρ, μ, s, mo ρ μ _ _ (fun ds μ1 q p H' hp t m => ?_) q⟩
  obtain ⟨m1, r1, _⟩ := m.last
  exact q _ H' ad (step_less t) ((s.step (step_less t) m1).set r1)

/-! ### calls of own defs -/
abbrev TF := List S → Mu → (D → Mu → Prop) → Prop
def MonF (T : TF) : Prop := ∀ ss μ (P P' : D → Mu → Prop), (∀ d μ', P d μ' → P' d μ') → T ss μ P → T ss μ P'
def spT (n : Nat) (K : PySem.W.Frag) (T : TF) : Sp := fun vs H Q _ => ∃ ad ss μ, RpSA K (hide ad H) ad vs ss ∧ RpM K H ad μ ∧ ss.length = n ∧ T ss μ fun d μ' => ∀ v H', Step ad H ad H' → RpM K H' ad μ' → Rp K (hide ad H') v d → Q v H'
theorem rpSA_len {K : PySem.W.Frag} {F : Hp} {ad : List Addr} : ∀ {vs : List V} {ss : List S}, RpSA K F ad vs ss → vs.length = ss.length
  | _, _, .nil => rfl
  | _, _, .cons _ r => congrArg (· + 1) (rpSA_len r)
def fCall (n : Nat) (T : TF) (f : SA) : SE := fun ρ μ P => f ρ μ fun ss μ1 => ss.length = n ∧ T ss μ1 fun d μ2 => P (.d d) μ2
theorem mon_call {n : Nat} {T : TF} {f : SA} (mT : MonF T) (m : MonE f) : MonE (fCall n T f) := fun ρ μ P P' k q => m ρ μ _ _ (fun ss μ1 q => ⟨q.1, mT ss μ1 _ _ (fun d μ2 q => k _ _ q) q.2⟩) q
theorem pd_call {e : Expr} {n : Nat} {T : TF} {f : SA} {E : XK} (mT : MonF T) (m : MonE f) (h : PE X e (tCall (spT n X.K T) [] E (taOf X.K f))) : PD X e (fCall n T f) := by
  refine ⟨mon_call mT m, h.of fun σ H Q q => ?_⟩
  obtain ⟨ad, ρ, μ, s, q⟩ := q
  refine ⟨ad, ρ, μ, s, m ρ μ _ _ (fun ss μ1 q vs H1 t1 m1 r1 => ?_) q⟩
  show spT n X.K T (vs ++ []) H1 Q E
  rw [List.append_nil]
  exact ⟨ad, ss, μ1, r1, m1, q.1, mT ss μ1 _ _ (fun d μ2 q v H2 t2 m2 r2 => q v H2 (t1.trans t2) m2 r2) q.2⟩
/-- a call with keywords alone -/
structure PDK (X : Cx) (kws : List Keyword) (f : SA) : Prop where
  mo : MonE f
  run : PK X kws (taOf X.K f)
theorem _root_.L2.PK.of {kws : List Keyword} {t t' : TA} (h : PK X kws t) (i : ∀ σ H Q, t' σ H Q → t σ H Q) : PK X kws t' := ⟨fun pos pins s σ H Q I q => h.run pos pins s σ H Q I (i σ H Q q)⟩
theorem pdk_nil : PDK X [] fANil := ⟨fun ρ μ P P' k h => k _ _ h, pk_nil.of fun σ H Q ⟨ad, ρ, μ, s, q⟩ => q [] H (Step.refl _ _) s.m .nil⟩
theorem pdk_cons {e : Expr} {nm : Option Str} {kpos : Pos} {kws : List Keyword} {f : SE} {g : SA} (h : PD X e f) (r : PDK X kws g) : PDK X (⟨nm, e, kpos⟩ :: kws) (fACons f g) := by
  refine ⟨fun ρ μ P P' k q => h.mo ρ μ _ _ (fun x μ1 q1 => r.mo ρ μ1 _ _ (fun xs μ2 q2 => k _ _ q2) q1) q, (pk_cons h.run r.run).of fun σ H Q q => ?_⟩
  obtain ⟨ad, ρ, μ, s, q⟩ := q
  refine ⟨ad, ρ, μ, s, h.mo ρ μ _ _ (fun x μ1 h1 v H1 t1 m1 r1 => ?_) q⟩
  refine ⟨ad, ρ, μ1, s.step t1 m1, r.mo ρ μ1 _ _ (fun xs μ2 h2 vs H2 t2 m2 r2 => ?_) h1⟩
  exact h2 (v :: vs) H2 (t1.trans t2) m2 (.cons (r1.step t2) r2)
theorem pe_callK0 {CX : CXT} {k : Nat} {f : Addr} {fd : FuncData} {ps ks : List Str} {sp : Sp} {E : XK} {x : Str} {p pos : Pos} {kws : List Keyword} {tk : TA} {g : List Value → List Value → List Value} {gV : List V → List V → List V}
    (F : FnOk X.prog X.w X.K X.mg X.base CX k f fd ps sp) (hr : Room k X.A) (hg : Gl X x) (hm : X.mg x = some (.ref f)) (hk : PySem.W.keepIn X.K (.ref f) = true) (hb : KBinds X.K fd ps ks g gV) (hx : Passes CX X E)
    (hkw : PK X kws tk) (hall : (backToKw pos (keywordEach kws X.env)).all (·.1.isSome) = true := by rfl) (hks : (backToKw pos (keywordEach kws X.env)).filterMap (·.1) = ks := by rfl)
    (hdb : (x == ("__debug__" : Str)) = false := by decide)
    (hpl : ((backTo pos (starEach [] X.env)).any (·.1) || (backToKw pos (keywordEach kws X.env)).any (·.1.isNone)) = false := by rfl) :
    PE X (.Call (.Name x p) [] kws pos) (tCallK sp gV E tNil tk) := by
  refine ⟨fun pins s σ H Q I h => ?_⟩
  refine wpAny_Call_Name_kw (ld_glob I hg hm ?_ hdb)
  refine PySem.W.callWith_KW0 (h₀ := X.base) I.ok.mod.kin hk hall ?_ hpl
  refine thn (hkw.run pos pins s σ H _ I h) fun ws s2 ⟨zs, H2, I2, rz, q2⟩ => ⟨I2.kIn, ?_⟩
  rw [hks]
  exact run_fnk (us := []) (vs := []) F hr hb hx I2 .nil rz q2
def fCallK (n : Nat) (T : TF) (π : List S → List S) (f : SA) : SE := fun ρ μ P => f ρ μ fun ss μ1 => (π ss).length = n ∧ T (π ss) μ1 fun d μ2 => P (.d d) μ2
theorem pd_callK {e : Expr} {n : Nat} {T : TF} {π : List S → List S} {gV : List V → List V → List V} {f : SA} {E : XK} (mT : MonF T) (m : MonE f) (hπ : ∀ (F : Hp) (ad : List Addr) (vs : List V) (ss : List S), RpSA X.K F ad vs ss → RpSA X.K F ad (gV [] vs) (π ss))
    (h : PE X e (tCallK (spT n X.K T) gV E tNil (taOf X.K f))) : PD X e (fCallK n T π f) := by
  refine ⟨fun ρ μ P P' k q => m ρ μ _ _ (fun ss μ1 q => ⟨q.1, mT _ μ1 _ _ (fun d μ2 q => k _ _ q) q.2⟩) q, h.of fun σ H Q q => ?_⟩
  obtain ⟨ad, ρ, μ, s, q⟩ := q
  refine ⟨ad, ρ, μ, s, m ρ μ _ _ (fun ss μ1 q vs H1 t1 m1 r1 => ?_) q⟩
  exact ⟨ad, _, μ1, hπ _ _ _ _ r1, m1, q.1, mT _ μ1 _ _ (fun d μ2 q v H2 t2 m2 r2 => q v H2 (t1.trans t2) m2 r2) q.2⟩
end

/-! ### a def keeps its promise -/
def startR (N : List Str) (ss : List S) : Rho := ss.map some ++ List.replicate (N.length - ss.length) none
theorem sim_start {K : PySem.W.Frag} {H : Hp} {ad : List Addr} {μ : Mu} {N : List Str} {vs : List V} {ss : List S} (m : RpM K H ad μ) (r : RpSA K (hide ad H) ad vs ss) : Sim K H ad (startR N ss) μ (L2.start N vs) := by
  have hl := rpSA_len r
  refine ⟨m, by unfold startR L2.start; simp [hl], fun i x h => ?_⟩
  have key : ∀ {vs : List V} {ss : List S} (i : Nat), RpSA K (hide ad H) ad vs ss → ss[i]? = some x → ∃ v, vs[i]? = some v ∧ RpS K (hide ad H) ad v x := by
    intro vs ss i r
    induction r generalizing i with
    | nil => intro h; simp at h
    | cons h1 h2 ih =>
      intro h
      cases i with
      | zero => simp at h; subst h; exact ⟨_, rfl, h1⟩
      | succ i => obtain ⟨v, q1, q2⟩ := ih i (by simpa using h); exact ⟨v, by simpa using q1, q2⟩
  unfold startR at h
  by_cases hi : i < ss.length
  · rw [List.getElem?_append_left (by simpa using hi), List.getElem?_map] at h
    cases e : ss[i]? with
    | none => rw [e] at h; cases h
    | some y =>
      rw [e] at h
      cases h
      obtain ⟨v, q1, q2⟩ := key i r e
      refine ⟨v, ?_, q2⟩
      unfold L2.start
      rw [List.getElem?_append_left (by simp; omega), List.getElem?_map, q1]
      rfl
  · rw [List.getElem?_append_right (by simpa using hi), List.getElem?_replicate] at h
    split at h <;> cases h
/-- nothing is raised -/
abbrev WZ : WX := fun _ _ _ _ => False
def fin (n : Nat) (μ : Mu) : S → Option D
  | .d x => some x
  | .m j => if j < n then none else (μ[j]?).map .lst
  | .ex _ _ _ _ => none
def kD (n : Nat) (P : D → Mu → Prop) : K4 where
  nx := fun _ μ' => P .non (μ'.take n)
  rt := fun x μ' => ∃ d, fin n μ' x = some d ∧ P d (μ'.take n)
  bk := fun _ _ => False
  ct := fun _ _ => False
  er := fun _ _ _ => False
theorem RpM.take {K : PySem.W.Frag} {H : Hp} {ad ad' : List Addr} {μ' : Mu} (m : RpM K H ad' μ') (p : ad <+: ad') : RpM K H ad (μ'.take ad.length) ∧ Same (hide ad' H) (hide ad H) := by
  obtain ⟨t, rfl⟩ := p
  have sm : Same (hide (ad ++ t) H) (hide ad H) := fun b o e => by
    obtain ⟨h, e1⟩ := hide_some e
    rw [hide_out fun q => h (List.mem_append_left _ q)]
    exact e1
  have hl := m.len
  rw [List.length_append] at hl
  refine ⟨⟨by rw [List.length_take]; omega, (List.nodup_append.mp m.nd).1, fun j ds h => ?_⟩, sm⟩
  rw [List.getElem?_take] at h
  split at h
  · rename_i hj
    obtain ⟨a, xs, q1, q2, q3⟩ := m.at_ j ds h
    rw [List.getElem?_append_left hj] at q1
    exact ⟨a, xs, q1, q2, q3.mono sm⟩
  · cases h
theorem ok_def {P : Program} {w : World} {K : PySem.W.Frag} {mg : Str → Option Value} {base : Heap} {x qual : Str} {st : Stmt} {f : Addr} {fd : FuncData} {N ps : List Str} {k : Nat} {T : TF} {fb : SS} (F : Fun K x qual st f fd) (S : FnScope N ps (defScope st))
    (hb : ∀ (cdv : Value) (A : Around) (outer : List Env) (s : Shared) (H : Hp) (E : XK), Room k (A.deeper (envOfC qual (defScope st) s.heap.objs.size f cdv)) → PDSs (cxOf CX0 P w K mg base N qual (defScope st) f cdv A outer s H E).nox WZ (defBody st) fb)
    (hT : ∀ ss μ (Q : D → Mu → Prop), ss.length = ps.length → T ss μ Q → fb (startR N ss) μ (kD μ.length Q)) : FnOk P w K mg base CX0 (k + 1) f fd ps (spT ps.length K T) := by
  refine F.ok S (fun vs H Q E h => ?_) (fun cdv A outer s H vs Q E hr h => ?_)
  · obtain ⟨ad, ss, μ, r, m, l, _⟩ := h
    rw [rpSA_len r]
    exact l
  · obtain ⟨ad, ss, μ, r, m, l, q⟩ := h
    have B := hb cdv A outer s H E hr
    refine ⟨_, B.run, ad, startR N ss, μ, sim_start m r, B.mo _ _ _ _ ?_ (hT ss μ _ l q)⟩
    have hl := m.len
    have less : ∀ {ad' : List Addr} {H' : Hp}, Step ad H ad' H' → Step ad H ad H' := fun t => ⟨List.prefix_refl _, fun b o h e => ⟨h, (t.keep b o h e).2⟩⟩
    refine ⟨fun ρ' μ' q σ' H' ad' t s' => ?_, fun y μ' q v H' ad' t m' rv => ?_, fun _ _ q => q.elim, fun _ _ q => q.elim, fun _ _ _ q => q.elim⟩
    · obtain ⟨m2, sm⟩ := s'.m.take t.pre
      rw [hl] at m2
      exact q .non H' (less t) m2 .non
    · obtain ⟨d, e, q⟩ := q
      obtain ⟨m2, sm⟩ := m'.take t.pre
      rw [hl] at m2
      refine q v H' (less t) m2 ?_
      cases y with
      | d y => cases e; exact Rp.mono sm rv
      | ex _ _ _ _ => cases e
      | m j =>
        unfold fin at e
        simp only at e
        split at e
        · cases e
        · cases e2 : μ'[j]? with
          | none => rw [e2] at e; cases e
          | some ds =>
            rw [e2] at e
            cases e
            obtain ⟨a, h1, rfl⟩ := rv
            obtain ⟨b, xs, q1, q2, q3⟩ := m'.at_ j ds e2
            rw [h1] at q1
            cases q1
            refine .lst (xs := xs) (.inl (.inl ?_)) (q3.mono sm)
            rw [hide_out fun z => ?_]
            · exact q2
            · rename_i hj
              obtain ⟨t', e3⟩ := t.pre
              subst e3
              have hnd := m'.nd
              obtain ⟨l1, e4⟩ := List.getElem?_eq_some_iff.mp h1
              obtain ⟨i, hi, e5⟩ := List.getElem_of_mem z
              have : (ad ++ t')[i]'(by rw [List.length_append]; omega) = a := by rw [List.getElem_append_left hi]; exact e5
              have hij := (List.getElem_inj hnd).mp (this.trans e4.symm)
              omega
/-! ### isinstance -/
section
variable {X : Cx} {W : WX}
def isB (x : S) (T : String) : Option Bool := match x with
  | .d (.tup _) => kitB "tuple" T
  | .d (.int _) => kitB "int" T
  | _ => none
def fIsi (T : String) (f : SE) : SE := fun ρ μ P => f ρ μ fun x μ1 => ∃ b, isB x T = some b ∧ P (.d (.bl b)) μ1
theorem pd_isi {e : Expr} {T : String} {n : Str} {p p2 pos : Pos} {f : SE} (h : PD X e f) (hg : Gl X "isinstance") (hm : X.mg "isinstance" = none) (hg2 : Gl X n) (hm2 : X.mg n = none) (hb2 : bootBuiltins n = some (.type T)) (hn2 : n ≠ "__name__") (hd2 : (n == ("__debug__" : Str)) = false)
    (hv : bootBuiltins "isinstance" = some (.builtin "isinstance")) (hs : starEach [e, .Name n p2] X.env = (false, eval e X.env) :: starEach [.Name n p2] X.env := by rfl) (hs2 : starEach [.Name n p2] X.env = (false, eval (.Name n p2) X.env) :: starEach [] X.env := by rfl)
    (hpl : (backTo pos (starEach [.Name n p2] X.env)).any (·.1) = false := by rfl) : PD X (.Call (.Name "isinstance" p) [e, .Name n p2] [] pos) (fIsi T f) := by
  have h0 : PE X (.Call (.Name "isinstance" p) [e, .Name n p2] [] pos) (tCB (rIsi X.K) (tCons (teOf X.K f) (tCons (tC (.ty T)) tNil))) :=
    pe_callB call_isi hg hm hv (pa_cons h.run (pa_cons (pe_bltn hg2 hm2 hb2 rfl hn2 hd2) pa_nil hs2) hs) (by decide) (by decide) hs hpl
  refine ⟨fun ρ μ P P' k q => h.mo ρ μ _ _ (fun x μ1 ⟨b, e, q⟩ => ⟨b, e, k _ _ q⟩) q, h0.of fun σ H Q q => ?_⟩
  obtain ⟨ad, ρ, μ, s, q⟩ := q
  refine ⟨ad, ρ, μ, s, h.mo ρ μ _ _ (fun x μ1 ⟨b, e, q⟩ v H1 t1 m1 r1 => ?_) q⟩
  unfold isB at e
  split at e
  · cases r1 with
    | tup h1 h2 =>
      refine ⟨_, _, .type "tuple", .type T, b, rfl, .ty T, ?_, kit_ty e, q _ H1 t1 m1 (.bl b)⟩
      rcases sqT_same hide_same h1 with (z | ⟨o, z⟩) | ⟨o, its, n, z1, z2, _⟩
      · exact .base (.tup z)
      · exact .fTuple z
      · exact .kTuple z1 z2
  · cases r1
    exact ⟨_, _, .type "int", .type T, b, rfl, .ty T, .base (.int _), kit_ty e, q _ H1 t1 m1 (.bl b)⟩
  · cases e
end
end DV

/-! part DV6 -/
set_option Elab.async false
set_option linter.all false
set_option maxRecDepth 100000
set_option autoImplicit false
namespace DV
open PySem PySem.Spec L2
open PyProof.Rows (envOfC)
/-- a def of the text's top -/
def Top (K : PySem.W.Frag) (mg : Str → Option Value) (x : Str) (st : Stmt) (ps : List Str) : Prop := ∃ f fd, Fun K x x st f fd ∧ Binds K fd ps [] ∧ mg x = some (.ref f)
/-- a def that keeps its promise -/
def DefOk (P : Program) (w : World) (K : PySem.W.Frag) (mg : Str → Option Value) (base : Heap) (x : Str) (k n : Nat) (T : TF) : Prop :=
  MonF T ∧ ∃ f fd ps, mg x = some (.ref f) ∧ PySem.W.keepIn K (.ref f) = true ∧ Binds K fd ps [] ∧ FnOk P w K mg base CX0 k f fd ps (spT n K T)
theorem ok_defD {P : Program} {w : World} {K : PySem.W.Frag} {mg : Str → Option Value} {base : Heap} {x : Str} {st : Stmt} {N ps : List Str} {k : Nat} {T : TF} {fb : SS} (t : Top K mg x st ps) (S : FnScope N ps (defScope st)) (mT : MonF T)
    (hb : ∀ (f : Addr) (cdv : Value) (A : Around) (outer : List Env) (s : Shared) (H : Hp) (E : XK), Room k (A.deeper (envOfC x (defScope st) s.heap.objs.size f cdv)) → PDSs (cxOf CX0 P w K mg base N x (defScope st) f cdv A outer s H E).nox WZ (defBody st) fb)
    (hT : ∀ ss μ (Q : D → Mu → Prop), ss.length = ps.length → T ss μ Q → fb (startR N ss) μ (kD μ.length Q)) : DefOk P w K mg base x (k + 1) ps.length T := by
  obtain ⟨f, fd, F, b, g⟩ := t
  exact ⟨mT, f, fd, ps, g, F.kp, b, ok_def F S (fun cdv A outer s H E hr => hb f cdv A outer s H E hr) hT⟩
section
variable {X : Cx} {W : WX}
theorem pd_callD {x : Str} {k n : Nat} {T : TF} {p pos : Pos} {e : Expr} {es : List Expr} {f : SA} (C : DefOk X.prog X.w X.K X.mg X.base x k n T) (hr : Room k X.A) (hg : Gl X x) (h : PDA X (e :: es) f)
    (hdb : (x == ("__debug__" : Str)) = false := by decide) (he : starEach (e :: es) X.env = (false, eval e X.env) :: starEach es X.env := by rfl) (hpl : (backTo pos (starEach es X.env)).any (·.1) = false := by rfl) :
    PD X (.Call (.Name x p) (e :: es) [] pos) (fCall n T f) := by
  obtain ⟨mT, fa, fd, ps, g, kp, b, F⟩ := C
  exact pd_call mT h.mo (pe_call (E := E0) F hr hg g kp b .nil pass0 h.run hdb he hpl)
/-- a module's constant -/
def ConstOk (K : PySem.W.Frag) (mg : Str → Option Value) (x : Str) (d : D) : Prop := ∃ v u, mg x = some u ∧ RelV v u ∧ ∀ F, Rp K F v d
theorem pd_glob {x : Str} {d : D} {pos : Pos} (C : ConstOk X.K X.mg x d) (hg : Gl X x) (hdb : (x == ("__debug__" : Str)) = false := by decide) : PD X (.Name x pos) (fC d) := by
  obtain ⟨v, u, g, r, rp⟩ := C
  exact pd_c (pe_glob hg g r hdb) rp
theorem pd_B {x : Str} {id : String} {r : List V → Hp → VK → Prop} {g : GA} {p pos : Pos} {e : Expr} {es : List Expr} {f : SA} (hc : CallR X (.builtin id) r) (sd : SoundA X.K r g) (mg : MonA g) (hg : Gl X x) (hm : X.mg x = none) (hv : bootBuiltins x = some (.builtin id)) (h : PDA X (e :: es) f)
    (hn : x ≠ "__name__" := by decide) (hdb : (x == ("__debug__" : Str)) = false := by decide) (he : starEach (e :: es) X.env = (false, eval e X.env) :: starEach es X.env := by rfl) (hpl : (backTo pos (starEach es X.env)).any (·.1) = false := by rfl) :
    PD X (.Call (.Name x p) (e :: es) [] pos) (fCB g f) := pd_of_CB mg h.mo sd (pe_callB hc hg hm hv h.run hn hdb he hpl)
theorem pd_Ty {x : Str} {T : String} {r : List V → Hp → VK → Prop} {g : GA} {p pos : Pos} {e : Expr} {es : List Expr} {f : SA} (hc : CallR X (.type T) r) (sd : SoundA X.K r g) (mg : MonA g) (hg : Gl X x) (hm : X.mg x = none) (hv : bootBuiltins x = some (.type T)) (h : PDA X (e :: es) f)
    (hn : x ≠ "__name__" := by decide) (hdb : (x == ("__debug__" : Str)) = false := by decide) (he : starEach (e :: es) X.env = (false, eval e X.env) :: starEach es X.env := by rfl) (hpl : (backTo pos (starEach es X.env)).any (·.1) = false := by rfl) :
    PD X (.Call (.Name x p) (e :: es) [] pos) (fCB g f) := pd_of_CB mg h.mo sd (pe_callTy hc hg hm hv h.run hn hdb he hpl)
theorem pd_Bf {x : Str} {id : String} {r : List V → Hp → VK → Prop} {g : GA} {p pos : Pos} {e : Expr} {es : List Expr} {f : SA} (hc : CallR X (.builtin id) r) (sd : SoundA X.K r g) (mg : MonA g) (hg : Gl X x) (hm : X.mg x = some (.builtin id)) (h : PDA X (e :: es) f)
    (hdb : (x == ("__debug__" : Str)) = false := by decide) (he : starEach (e :: es) X.env = (false, eval e X.env) :: starEach es X.env := by rfl) (hpl : (backTo pos (starEach es X.env)).any (·.1) = false := by rfl) :
    PD X (.Call (.Name x p) (e :: es) [] pos) (fCB g f) := pd_of_CB mg h.mo sd (pe_callBfun hc hg hm h.run hdb he hpl)
theorem bt_len : bootBuiltins "len" = some (.builtin "len") := by decide +kernel
theorem bt_isi : bootBuiltins "isinstance" = some (.builtin "isinstance") := by decide +kernel
theorem bt_sum : bootBuiltins "sum" = some (.builtin "sum") := by decide +kernel
theorem bt_all : bootBuiltins "all" = some (.builtin "all") := by decide +kernel
theorem bt_any : bootBuiltins "any" = some (.builtin "any") := by decide +kernel
theorem bt_abs : bootBuiltins "abs" = some (.builtin "abs") := by decide +kernel
theorem bt_max : bootBuiltins "max" = some (.builtin "max") := by decide +kernel
theorem bt_min : bootBuiltins "min" = some (.builtin "min") := by decide +kernel
theorem bt_divmod : bootBuiltins "divmod" = some (.builtin "divmod") := by decide +kernel
theorem bt_repr : bootBuiltins "repr" = some (.builtin "repr") := by decide +kernel
theorem bt_int : bootBuiltins "int" = some (.type "int") := by decide +kernel
theorem bt_bool : bootBuiltins "bool" = some (.type "bool") := by decide +kernel
theorem bt_tuple : bootBuiltins "tuple" = some (.type "tuple") := by decide +kernel
theorem bt_list : bootBuiltins "list" = some (.type "list") := by decide +kernel
/-- the same, for what may be used in a def's body -/
theorem add_ok : OpR X (binaryOp .Add) (fun x y H Q => rI0 (fun i j => .int (i + j)) x y H Q ∨ rCatA X.K x y H Q) := op_add.or op_catA
theorem eq_ok (hu : X.A.units + 64 < cLine) : OpR X (compareOp .Eq) (fun x y H Q => rEq x y H Q ∨ rEqD X.K x y H Q) := op_eq.or (op_eqD hu)
theorem ix_ok : IxR X (fun x y H Q => rIxL X.K x y H Q ∨ rIxT X.K x y H Q) := IxR.or ix_list ix_tup
end
theorem gsNil_eq {ρ : Rho} {μ : Mu} {P : Rho → Mu → Prop} : gsNil [] ρ μ P = P ρ μ := propext ⟨fun h => h.2, fun h => ⟨rfl, h⟩⟩
theorem gsCons_eq {g : SG} {gs : SGs} {x : S} {r : List S} {ρ : Rho} {μ : Mu} {P : Rho → Mu → Prop} : gsCons g gs (x :: r) ρ μ P = g x ρ μ fun ρ' μ' => gs r ρ' μ' P :=
  propext ⟨fun ⟨y, s, e, h⟩ => by cases e; exact h, fun h => ⟨x, r, rfl, h⟩⟩
theorem gT_eq {n : Nat} {gs : SGs} {ds : List D} {ρ : Rho} {μ : Mu} {P : Rho → Mu → Prop} : gT n gs (.d (.tup ds)) ρ μ P = (ds.length = n ∧ gs (ds.map S.d) ρ μ P) :=
  propext ⟨fun ⟨es, e, h⟩ => by cases e; exact h, fun h => ⟨ds, rfl, h⟩⟩
theorem gSb_eq {fo fi : SE} {v : D} {ρ : Rho} {μ : Mu} {P : Rho → Mu → Prop} : gSb fo fi (.d v) ρ μ P = fo ρ μ fun o μ1 => fi ρ μ1 fun i μ2 => ∃ j k ds, o = .m j ∧ i = .d (.int k) ∧ μ2[j]? = some ds ∧ 0 ≤ k ∧ k < ds.length ∧ P ρ (μ2.set j (ds.set k.toNat v)) := by
  unfold gSb
  congr 1
  funext o μ1
  congr 1
  funext i μ2
  exact propext ⟨fun ⟨j, k, ds, d, e1, e2, e3, e4, e5, e6, h⟩ => by cases e3; exact ⟨j, k, ds, e1, e2, e4, e5, e6, h⟩, fun ⟨j, k, ds, e1, e2, e4, e5, e6, h⟩ => ⟨j, k, ds, v, e1, e2, rfl, e4, e5, e6, h⟩⟩
end DV

/-! part DV7 -/
set_option Elab.async false
set_option linter.all false
set_option maxRecDepth 100000
set_option autoImplicit false
namespace DV
open PySem PySem.Spec L2
open PyProof.Rows (envOfC)
theorem deeper_guards (A : Around) (env : Env) : (A.deeper env).guards = A.guards := rfl
section
variable {X : Cx} {W : WX}
def fDrop (f : SE) : SS := fun ρ μ k => f ρ μ fun _ μ1 => k.nx ρ μ1
theorem pds_expr {e : Expr} {pos : Pos} {f : SE} (h : PD X e f) (hs : swapsWith e none pos.line X.env = pure false := by rfl) : PDS X W (.Expr e pos) (fDrop f) := by
  refine ⟨fun ρ μ k k' l q => h.mo ρ μ _ _ (fun x μ1 q => l.nx _ _ q) q, (ps_expr h.run hs).of fun Dn σ H q => ?_⟩
  obtain ⟨ad, ρ, μ, s, q⟩ := q
  exact ⟨ad, ρ, μ, s, h.mo ρ μ _ _ (fun x μ1 q v H1 t1 m1 r1 => q σ H1 ad t1 (s.step t1 m1)) q⟩
theorem pdi_enumerate {e : Expr} {elts : List Expr} {kk : Nat} {f : SA} {p pos tpos : Pos} (hg : Gl X "enumerate") (hm : X.mg "enumerate" = none) (h : PDA X [e] f) (hs : starEach [e] X.env = [(false, eval e X.env)] := by rfl) :
    PDI X (.Tuple elts kk tpos) (.Call (.Name "enumerate" p) [e] [] pos) (fIEnum f) := pdi_enum hg hm h hs
/-- [x] * n -/
def fNRep (f : SA) (fb : SE) : SN := fun ρ μ P => f ρ μ fun ss μ1 => ∃ ds, allD ss = some ds ∧ ds.length ≤ 1000 ∧ fb ρ μ1 fun y μ2 => ∃ k : Int, y = .d (.int k) ∧ 0 ≤ k ∧ k ≤ 1000 ∧ P (List.replicate k.toNat ds).flatten μ2
theorem pdn_rep {es : List Expr} {p1 pos : Pos} {b : Expr} {f : SA} {fb : SE} (h : PDA X es f) (hb : PD X b fb) : PDN X (.BinOp (.List es p1) .Mult b pos) (fNRep f fb) := by
  refine ⟨fun ρ μ P P' k q => h.mo ρ μ _ _ (fun ss μ1 ⟨ds, e1, e2, q⟩ => ⟨ds, e1, e2, hb.mo ρ μ1 _ _ (fun y μ2 ⟨n, e3, e4, e5, q⟩ => ⟨n, e3, e4, e5, k _ _ q⟩) q⟩) q, (pe_op op_rep (pe_lst h.run) hb.run).of fun σ H Q q => ?_⟩
  obtain ⟨ad, ρ, μ, s, q⟩ := q
  refine ⟨ad, ρ, μ, s, h.mo ρ μ _ _ (fun ss μ1 ⟨ds, e1, e2, q⟩ vs H1 t1 m1 r1 => ?_) q⟩
  have r2 := allD_rp r1 e1
  have l2 := r2.length
  refine ⟨sz (by omega), fun p hp => ?_⟩
  have hpa := m1.fresh hp
  have st : Step ad H1 ad (upd H1 p (.lst vs)) := Step.new hp
  refine ⟨ad, ρ, μ1, s.step (t1.trans st) (m1.new hp), hb.mo ρ μ1 _ _ (fun y μ2 ⟨n, e3, e4, e5, q⟩ v H2 t2 m2 r3 => ?_) q⟩
  subst e3
  obtain rfl := rp_int r3
  have hp2 := (t2.keep p _ hpa upd_same).2
  have hz : vs.length * n.toNat ≤ 100000000 := by
    have a1 : vs.length ≤ 1000 := by omega
    have a2 : n.toNat ≤ 1000 := by omega
    have := Nat.mul_le_mul a1 a2
    omega
  refine ⟨p, n, vs, rfl, rfl, hp2, by omega, by omega, ?_, ?_⟩
  · have a1 : vs.length ≤ 1000 := by omega
    have a2 : n.toNat ≤ 1000 := by omega
    have := Nat.mul_le_mul a1 a2
    exact Nat.le_trans this (by decide)
  · have t3 := (t1.trans st).trans t2
    exact new_N t3 m2 ((r2.mono (st.trans t2).same).rep _) (free_back s.m t3 m2) q
/-- list(range(n)) -/
def fNRg (f : SE) : SN := fun ρ μ P => f ρ μ fun x μ1 => ∃ n : Int, x = .d (.int n) ∧ 0 ≤ n ∧ n ≤ 100000 ∧ P (rngD n) μ1
theorem pdn_listRg {a : Expr} {p p2 pos pos2 : Pos} {f : SE} (hc : X.calm = true) (hg : Gl X "list") (hm : X.mg "list" = none) (hg2 : Gl X "range") (hm2 : X.mg "range" = none) (h : PD X a f)
    (na : starEach [a] X.env = (false, eval a X.env) :: starEach [] X.env := by rfl) (na2 : starEach [.Call (.Name "range" p2) [a] [] pos2] X.env = (false, eval (.Call (.Name "range" p2) [a] [] pos2) X.env) :: starEach [] X.env := by rfl) :
    PDN X (.Call (.Name "list" p) [.Call (.Name "range" p2) [a] [] pos2] [] pos) (fNRg f) := by
  refine ⟨fun ρ μ P P' k q => h.mo ρ μ _ _ (fun x μ1 ⟨n, e1, e2, e3, q⟩ => ⟨n, e1, e2, e3, k _ _ q⟩) q, (pe_listRg hc hg hm (prg_1 hg2 hm2 h.run na) na2).of fun σ H Q q => ?_⟩
  obtain ⟨ad, ρ, μ, s, q⟩ := q
  refine ⟨ad, ρ, μ, s, h.mo ρ μ _ _ (fun x μ1 ⟨n, e1, e2, e3, q⟩ v H1 t1 m1 r1 => ?_) q⟩
  subst e1
  obtain rfl := rp_int r1
  refine ⟨n, rfl, RgOk.of_le (by omega) (by omega) (by omega) (by omega), ?_⟩
  have e : RpA X.K (hide ad H1) (rgV 0 n) (rngD n) := by
    unfold rgV rngD
    rw [Int.sub_zero]
    induction List.range n.toNat with
    | nil => exact .nil
    | cons i l ih =>
      rw [List.map_cons, List.map_cons, Int.zero_add]
      exact .cons (.int _) ih
  exact new_N t1 m1 e (free_back s.m t1 m1) q
/-- a, b = [], y -/
def fParN0 (i j : Nat) (fa : SN) (fb : SE) : SS := fun ρ μ k => fa ρ μ fun ds μ1 => fb ρ (μ1 ++ [ds]) fun y μ2 => k.nx ((ρ.set i (some (.m μ1.length))).set j (some y)) μ2
theorem last_ad {K : PySem.W.Frag} {H : Hp} {ad : List Addr} {p : Addr} {μ : Mu} {ds : List D} (m : RpM K H (ad ++ [p]) (μ ++ [ds])) : (ad ++ [p])[μ.length]? = some p := by
  have hl := m.len
  rw [List.length_append, List.length_append] at hl
  have hl2 : ad.length = μ.length := by simpa using hl
  rw [← hl2, List.getElem?_append_right (Nat.le_refl _), Nat.sub_self]
  rfl
theorem pds_parN0 {st : Stmt} {i j : Nat} {a b : Expr} {fa : SN} {fb : SE} (ha : PDN X a fa) (hb : PD X b fb) (hp : ∀ ta, PA X [a, b] ta → PS X st (tPar i j ta))
    (hs : starEach [a, b] X.env = (false, eval a X.env) :: starEach [b] X.env := by rfl) (hs2 : starEach [b] X.env = (false, eval b X.env) :: starEach [] X.env := by rfl) : PDS X W st (fParN0 i j fa fb) := by
  refine ⟨fun ρ μ k k' l q => ha.mo ρ μ _ _ (fun ds μ1 q => hb.mo ρ _ _ _ (fun y μ2 q => l.nx _ _ q) q) q, (hp _ (pa_cons ha.run (pa_cons hb.run pa_nil hs2) hs)).of fun Dn σ H q => ?_⟩
  obtain ⟨ad, ρ, μ, s, q⟩ := q
  refine ⟨ad, ρ, μ, s, ha.mo ρ μ _ _ (fun ds μ1 q p H1 hp t1 m1 => ?_) q⟩
  have hg := last_ad m1
  refine ⟨ad ++ [p], ρ, μ1 ++ [ds], s.step t1 m1, hb.mo ρ _ _ _ (fun y μ2 q v H2 t2 m2 r2 => ?_) q⟩
  have rp : RpS X.K (hide (ad ++ [p]) H2) (ad ++ [p]) (.ref p) (.m μ1.length) := ⟨p, hg, rfl⟩
  exact ⟨.ref p, v, rfl, q _ H2 (ad ++ [p]) (t1.trans t2) (((s.step (t1.trans t2) m2).set rp).set r2)⟩
/-- a, b, c = x, y, z -/
def fPar3 (i j l : Nat) (f : SA) : SS := fun ρ μ k => f ρ μ fun xs μ1 => ∃ x y z, xs = [x, y, z] ∧ k.nx (((ρ.set i (some x)).set j (some y)).set l (some z)) μ1
theorem rsa3 {K : PySem.W.Frag} {F : Hp} {ad : List Addr} {vs : List V} {x y z : S} (r : RpSA K F ad vs [x, y, z]) : ∃ v u w, vs = [v, u, w] ∧ RpS K F ad v x ∧ RpS K F ad u y ∧ RpS K F ad w z := by
  cases r with
  | cons h r =>
    obtain ⟨u, w, rfl, h2, h3⟩ := rsa2 r
    exact ⟨_, u, w, rfl, h, h2, h3⟩
theorem pds_par3 {st : Stmt} {i j l : Nat} {es : List Expr} {f : SA} (h : PDA X es f) (hp : ∀ ta, PA X es ta → PS X st (tPar3 i j l ta)) : PDS X W st (fPar3 i j l f) := by
  refine ⟨fun ρ μ k k' l q => h.mo ρ μ _ _ (fun xs μ1 ⟨x, y, z, e, q⟩ => ⟨x, y, z, e, l.nx _ _ q⟩) q, (hp _ h.run).of fun Dn σ H q => ?_⟩
  obtain ⟨ad, ρ, μ, s, q⟩ := q
  refine ⟨ad, ρ, μ, s, h.mo ρ μ _ _ (fun xs μ1 q vs H1 t1 m1 r1 => ?_) q⟩
  obtain ⟨x, y, z, rfl, q⟩ := q
  obtain ⟨v, u, w, rfl, r2, r3, r4⟩ := rsa3 r1
  exact ⟨v, u, w, rfl, q _ H1 ad t1 ((((s.step t1 m1).set r2).set r3).set r4)⟩
def fPar3N (i j l : Nat) (fa fb : SE) (fc : SN) : SS := fun ρ μ k => fa ρ μ fun x μ1 => fb ρ μ1 fun y μ2 => fc ρ μ2 fun ds μ3 => k.nx (((ρ.set i (some x)).set j (some y)).set l (some (.m μ3.length))) (μ3 ++ [ds])
theorem pds_par3N {st : Stmt} {i j l : Nat} {a b c : Expr} {fa fb : SE} {fc : SN} (ha : PD X a fa) (hb : PD X b fb) (hc : PDN X c fc) (hp : ∀ ta, PA X [a, b, c] ta → PS X st (tPar3 i j l ta))
    (hs : starEach [a, b, c] X.env = (false, eval a X.env) :: starEach [b, c] X.env := by rfl) (hs2 : starEach [b, c] X.env = (false, eval b X.env) :: starEach [c] X.env := by rfl) (hs3 : starEach [c] X.env = (false, eval c X.env) :: starEach [] X.env := by rfl) : PDS X W st (fPar3N i j l fa fb fc) := by
  refine ⟨fun ρ μ k k' l q => ha.mo ρ μ _ _ (fun x μ1 q => hb.mo ρ _ _ _ (fun y μ2 q => hc.mo ρ _ _ _ (fun ds μ3 q => l.nx _ _ q) q) q) q, (hp _ (pa_cons ha.run (pa_cons hb.run (pa_cons hc.run pa_nil hs3) hs2) hs)).of fun Dn σ H q => ?_⟩
  obtain ⟨ad, ρ, μ, s, q⟩ := q
  refine ⟨ad, ρ, μ, s, ha.mo ρ μ _ _ (fun x μ1 q v H1 t1 m1 r1 => ?_) q⟩
  refine ⟨ad, ρ, μ1, s.step t1 m1, hb.mo ρ μ1 _ _ (fun y μ2 q u H2 t2 m2 r2 => ?_) q⟩
  refine ⟨ad, ρ, μ2, s.step (t1.trans t2) m2, hc.mo ρ μ2 _ _ (fun ds μ3 q p H3 hp t3 m3 => ?_) q⟩
  have hg := last_ad m3
  have t := (t1.trans t2).trans t3
  have rp : RpS X.K (hide (ad ++ [p]) H3) (ad ++ [p]) (.ref p) (.m μ3.length) := ⟨p, hg, rfl⟩
  exact ⟨v, u, .ref p, rfl, q _ H3 (ad ++ [p]) t ((((s.step t m3).set (r1.step (t2.trans t3))).set (r2.step t3)).set rp)⟩
end
end DV

/-! part DVT -/
set_option Elab.async false
set_option linter.all false
set_option maxRecDepth 100000
set_option autoImplicit false
namespace DV
open PySem PySem.Spec L2
open PyProof.Rows (envOfC)
/-- a def that keeps its promise, with its text -/
def DefOkT (P : Program) (w : World) (K : PySem.W.Frag) (mg : Str → Option Value) (base : Heap) (x : Str) (st : Stmt) (ps : List Str) (k : Nat) (T : TF) : Prop :=
  MonF T ∧ ∃ f fd, Fun K x x st f fd ∧ Binds K fd ps [] ∧ mg x = some (.ref f) ∧ FnOk P w K mg base CX0 k f fd ps (spT ps.length K T)
section
variable {P : Program} {w : World} {K : PySem.W.Frag} {mg : Str → Option Value} {base : Heap} {x : Str} {st : Stmt} {N ps ks : List Str} {k : Nat} {T : TF} {fb : SS} {is : List Nat}
theorem ok_defT (t : Top K mg x st ps) (S : FnScope N ps (defScope st)) (mT : MonF T)
    (hb : ∀ (f : Addr) (cdv : Value) (A : Around) (outer : List Env) (s : Shared) (H : Hp) (E : XK), Room k (A.deeper (envOfC x (defScope st) s.heap.objs.size f cdv)) → PDSs (cxOf CX0 P w K mg base N x (defScope st) f cdv A outer s H E).nox WZ (defBody st) fb)
    (hT : ∀ ss μ (Q : D → Mu → Prop), ss.length = ps.length → T ss μ Q → fb (startR N ss) μ (kD μ.length Q)) : DefOkT P w K mg base x st ps (k + 1) T := by
  obtain ⟨f, fd, F, b, g⟩ := t
  exact ⟨mT, f, fd, F, b, g, ok_def F S (fun cdv A outer s H E hr => hb f cdv A outer s H E hr) hT⟩
theorem DefOkT.ok (h : DefOkT P w K mg base x st ps k T) : DefOk P w K mg base x k ps.length T := by
  obtain ⟨mT, f, fd, F, b, g, ok⟩ := h
  exact ⟨mT, f, fd, ps, g, F.kp, b, ok⟩
/-- the places told, in this order -/
def pick {α : Type} (is : List Nat) (l : List α) : List α := is.filterMap fun i => l[i]?
def kwS {α : Type} (n : Nat) (is : List Nat) (l : List α) : List α := if l.length = n then pick is l else []
theorem pick_rel {α β : Type} {R : α → β → Prop} {F : List α → List β → Prop} (nil : F [] []) (cons : ∀ a b l m, R a b → F l m → F (a :: l) (b :: m)) {l : List α} {m : List β} (h : ∀ i : Nat, (l[i]? = none ∧ m[i]? = none) ∨ ∃ a b, l[i]? = some a ∧ m[i]? = some b ∧ R a b) : ∀ is : List Nat, F (pick is l) (pick is m)
  | [] => nil
  | i :: is => by
    have ih := pick_rel nil cons h is
    unfold pick at ih ⊢
    rcases h i with ⟨h1, h2⟩ | ⟨a, b, h1, h2, r⟩
    · rw [List.filterMap_cons_none h1, List.filterMap_cons_none h2]
      exact ih
    · rw [List.filterMap_cons_some h1, List.filterMap_cons_some h2]
      exact cons a b _ _ r ih
theorem vals_at : ∀ {vs : List V} {us : List Value}, Vals vs us → ∀ i : Nat, (vs[i]? = none ∧ us[i]? = none) ∨ ∃ a b, vs[i]? = some a ∧ us[i]? = some b ∧ RelV a b
  | _, _, .nil, i => .inl ⟨rfl, rfl⟩
  | _, _, .cons r rs, 0 => .inr ⟨_, _, rfl, rfl, r⟩
  | _, _, .cons r rs, i + 1 => vals_at rs i
theorem rpSA_at {F : Hp} {ad : List Addr} : ∀ {vs : List V} {ss : List S}, RpSA K F ad vs ss → ∀ i : Nat, (vs[i]? = none ∧ ss[i]? = none) ∨ ∃ a b, vs[i]? = some a ∧ ss[i]? = some b ∧ RpS K F ad a b
  | _, _, .nil, i => .inl ⟨rfl, rfl⟩
  | _, _, .cons r rs, 0 => .inr ⟨_, _, rfl, rfl, r⟩
  | _, _, .cons r rs, i + 1 => rpSA_at rs i
/-- a def that keeps its promise when it is called with these keywords alone -/
def DefOkK (P : Program) (w : World) (K : PySem.W.Frag) (mg : Str → Option Value) (base : Heap) (x : Str) (k n : Nat) (ks : List Str) (T : TF) (is : List Nat) : Prop :=
  MonF T ∧ ∃ f fd ps, mg x = some (.ref f) ∧ PySem.W.keepIn K (.ref f) = true ∧ KBinds K fd ps ks (fun us ws => if us.length = 0 then kwS ks.length is ws else []) (fun us ws => if us.length = 0 then kwS ks.length is ws else []) ∧ FnOk P w K mg base CX0 k f fd ps (spT n K T)
theorem DefOkT.kw (h : DefOkT P w K mg base x st ps k T) (hp : ps ≠ [])
    (hb : ∀ (kV doc pm : Value) (an : Option Addr) (cdv ct : Value) (ws : List Value), ws.length = ks.length → bindArgs (PySem.W.fnOf x x (defArgs st) (defBody st) (defScope st) .none kV doc pm an cdv ct) ⟨[], ks.zip ws⟩ = pure (ps.zip (pick is ws))) : DefOkK P w K mg base x k ps.length ks T is := by
  obtain ⟨mT, f, fd, F, b, g, ok⟩ := h
  refine ⟨mT, f, fd, ps, g, F.kp, ⟨fun s us ws _ hl => ?_, fun {vs us zs ws} r1 r2 => ?_⟩, ok⟩
  · have hp' : ps.length ≠ 0 := fun e => hp (List.length_eq_zero_iff.mp e)
    by_cases c : us.length = 0
    · rw [if_pos c] at hl ⊢
      unfold kwS at hl ⊢
      by_cases d : ws.length = ks.length
      · rw [if_pos d] at hl ⊢
        obtain ⟨oc, od, kV, doc, pm, an, cdv, ct, osl, rfl, lk, hcd⟩ := F.ex
        rw [List.length_eq_zero_iff.mp c]
        exact .of_eq (hb kV doc pm an cdv ct ws d)
      · rw [if_neg d] at hl
        exact absurd hl.symm hp'
    · rw [if_neg c] at hl
      exact absurd hl.symm hp'
  · have l1 := r1.length
    have l2 := r2.length
    by_cases c : us.length = 0
    · rw [if_pos c, if_pos (l1.trans c)]
      unfold kwS
      by_cases d : ws.length = ks.length
      · rw [if_pos d, if_pos (l2.trans d)]
        exact pick_rel (R := RelV) (F := Vals) .nil (fun a b l m r q => .cons r q) (vals_at r2) is
      · rw [if_neg d, if_neg (fun e => d (l2.symm.trans e))]
        exact .nil
    · rw [if_neg c, if_neg (fun e => c (l1.symm.trans e))]
      exact .nil
end
section
variable {X : Cx} {W : WX}
theorem pd_callKD {x : Str} {k n : Nat} {ks : List Str} {T : TF} {is : List Nat} {p pos : Pos} {kws : List Keyword} {f : SA} (C : DefOkK X.prog X.w X.K X.mg X.base x k n ks T is) (hr : Room k X.A) (hg : Gl X x) (h : PDK X kws f)
    (hall : (backToKw pos (keywordEach kws X.env)).all (·.1.isSome) = true := by rfl) (hks : (backToKw pos (keywordEach kws X.env)).filterMap (·.1) = ks := by rfl)
    (hdb : (x == ("__debug__" : Str)) = false := by decide)
    (hpl : ((backTo pos (starEach [] X.env)).any (·.1) || (backToKw pos (keywordEach kws X.env)).any (·.1.isNone)) = false := by rfl) :
    PD X (.Call (.Name x p) [] kws pos) (fCallK n T (kwS ks.length is) f) := by
  obtain ⟨mT, fa, fd, ps, g, kp, b, F⟩ := C
  refine pd_callK mT h.mo (fun F ad vs ss r => ?_) (pe_callK0 (E := E0) F hr hg g kp b pass0 h.run hall hks hdb hpl)
  have l := rpSA_len r
  rw [if_pos (show ([] : List V).length = 0 from rfl)]
  unfold kwS
  by_cases d : ss.length = ks.length
  · rw [if_pos d, if_pos (l.trans d)]
    exact pick_rel (R := RpS X.K F ad) (F := RpSA X.K F ad) .nil (fun a b l m r q => .cons r q) (rpSA_at r) is
  · rw [if_neg d, if_neg (fun e => d (l.symm.trans e))]
    exact .nil
end
end DV

/-! part DV8 -/
set_option Elab.async false
set_option linter.all false
set_option autoImplicit false
namespace DV
open PySem PySem.Spec L2
theorem look_rel {p : Str → NameKind → Bool} (hp : ∀ n k, p n k = true → k = .free) : ∀ {names : List (Str × NameKind)} {x : Str}, (names.lookup x = some .cell ∨ names.lookup x = some .free) →
    ((names.map fun (n, k) => if p n k = true then (n, NameKind.cell) else (n, k)).lookup x = some .cell ∨ (names.map fun (n, k) => if p n k = true then (n, NameKind.cell) else (n, k)).lookup x = some .free)
  | [], _, h => by simp at h
  | (n, k) :: r, x, h => by
    have ih := @look_rel p hp r x
    rw [List.map_cons]
    cases hx : x == n with
    | true =>
      have e : List.lookup x ((n, k) :: r) = some k := by rw [List.lookup_cons, hx]
      rw [e] at h
      by_cases c : p n k = true
      · refine .inl ?_
        simp only [c, if_true, List.lookup_cons, hx]
      · simp only [c, if_false, Bool.false_eq_true, List.lookup_cons, hx]
        exact h
    | false =>
      have e : List.lookup x ((n, k) :: r) = List.lookup x r := by rw [List.lookup_cons, hx]
      rw [e] at h
      have q := ih h
      by_cases c : p n k = true
      · simp only [c, if_true, List.lookup_cons, hx] at q ⊢
        exact q
      · simp only [c, if_false, Bool.false_eq_true, List.lookup_cons, hx] at q ⊢
        exact q
/-- a block in a block -/
theorem blkOk_in {X : Cx} {N : List Str} {s : Shared} {H : Hp} {sc0 scope : Scope} {C : Addr} {cl : List (Str × Addr)} {E : Env} {fp : List Addr} {own : List (Str × Nat)} (hN : X.N = N) (h : blkC N sc0 scope own = true) :
    BlkOk (X.blk s H sc0 (compEnvC sc0 cl C E) fp).N (X.blk s H sc0 (compEnvC sc0 cl C E) fp).env.scope scope own := by
  subst hN
  have b := blkOk_by h
  exact ⟨b.kind, b.uniq, b.ix, fun y hy e => look_rel (p := fun n k => (k == .free && E.scope.kind == .function && E.kindOf n == some .cell)) (fun n k h => by
    simp only [Bool.and_eq_true, beq_iff_eq] at h
    exact h.1.1) (b.free y hy e), b.own⟩
end DV

/-! part DZ -/
set_option Elab.async false
set_option linter.all false
set_option maxRecDepth 100000
set_option maxHeartbeats 1000000
set_option autoImplicit false
namespace DZ
open PySem PySem.Spec PyProof.Rows L2 RZ
/-- an iterator it over the thing at l, of n values: what one more step of it gives -/
structure Src (prog : Program) (w : World) (it l : Addr) (n : Nat) (p : Nat → Value → Prop) (St : Nat → Heap → Prop) : Prop where
  fr : ∀ i h h', St i h → (∀ o, h.get? it = some o → h'.get? it = some o) → (∀ o, h.get? l = some o → h'.get? l = some o) → St i h'
  one : ∀ (A : Around) i (s : Shared) (Q E : Value → Shared → Prop), i < n → St i s.heap → (∀ x h', p i x → St (i + 1) h' → Heap.SameBut it s.heap h' → Q x { s with heap := h' }) →
    wpAny (model prog w) A (Builtin.SmallTypes.nextOf (.ref it)) Q E s
  no : ∀ (A : Around), A.handled = none → ∀ i (s : Shared) (Q E : Value → Shared → Prop), n ≤ i → St i s.heap → (∀ h' e, Heap.ExtBut it s.heap h' → (∃ o, h'.get? e = some o ∧ o.cls = .type "StopIteration") → E (.ref e) { s with heap := h' }) →
    wpAny (model prog w) A (Builtin.SmallTypes.nextOf (.ref it)) Q E s
theorem Src.tup {prog : Program} {w : World} (it l : Addr) (hne : l ≠ it) (vs : Array Value) : Src prog w it l vs.size (fun i v => vs[i]? = some v) fun i h => h.IsTupleIter it l i ∧ h.IsTuple l vs :=
  ⟨fun i h h' st k1 k2 => ⟨st.1.at k1, st.2.at k2⟩, fun A i s Q E hi st q => nextOf_tuple_item st.1 st.2 (x := vs[i]) (by simp [hi]) fun h' t sb => q _ h' (by simp [hi]) ⟨t, st.2.extBut sb.extBut hne⟩ sb,
    fun A hh i s Q E hi st q => nextOf_tuple_end hh st.1 st.2 (by simp [hi]) q⟩
theorem Src.lst {prog : Program} {w : World} (it l : Addr) (hne : l ≠ it) (vs : Array Value) : Src prog w it l vs.size (fun i v => vs[i]? = some v) fun i h => h.IsListIter it l i ∧ h.IsList l vs :=
  ⟨fun i h h' st k1 k2 => ⟨st.1.at k1, st.2.at k2⟩, fun A i s Q E hi st q => wpAny_nextOf_list_item st.1 st.2 (x := vs[i]) (by simp [hi]) fun h' t sb => q _ h' (by simp [hi]) ⟨t, st.2.extBut sb.extBut hne⟩ sb,
    fun A hh i s Q E hi st q => wpAny_nextOf_list_end hh st.1 st.2 (by simp [hi]) q⟩
section
variable {prog : Program} {w : World} {A : Around} {E : Value → Shared → Prop} {s : Shared} {z TI TO i1 i2 l1 l2 : Addr} {n1 n2 i : Nat} {p1 p2 : Nat → Value → Prop} {St1 St2 : Nat → Heap → Prop} {a b : Value}
/-- an iterator's state stands when another thing is written -/
theorem Src.by {it l c : Addr} {n : Nat} {p : Nat → Value → Prop} {St : Nat → Heap → Prop} (S : Src prog w it l n p St) {j : Nat} {h h' : Heap} (st : St j h) (sb : Heap.SameBut c h h') (d1 : it ≠ c) (d2 : l ≠ c) : St j h' :=
  S.fr j h h' st (fun o q => sb.extBut _ _ d1 q) fun o q => sb.extBut _ _ d2 q
theorem zip_more {Q : Value → Shared → Prop} (D : ZipApart z TI TO i1 i2 l1 l2) (S1 : Src prog w i1 l1 n1 p1 St1) (S2 : Src prog w i2 l2 n2 p2 St2)
    (hz : IsZip s.heap z TI TO .none) (hI : IsPair s.heap TI (.ref i1) (.ref i2)) (hO : IsPair s.heap TO a b) (t1 : St1 i s.heap) (t2 : St2 i s.heap) (k1 : i < n1) (k2 : i < n2)
    (hQ : ∀ x y h', p1 i x → p2 i y → IsZip h' z TI TO (rawInt s.heap.objs.size) → IsPair h' TO x y → St1 (i + 1) h' → St2 (i + 1) h' → IsPair h' s.heap.objs.size x y → h'.objs.size = s.heap.objs.size + 1 →
      (∀ c o, c ≠ z → c ≠ TO → c ≠ i1 → c ≠ i2 → s.heap.get? c = some o → h'.get? c = some o) → Q (.ref s.heap.objs.size) { s with heap := h' }) :
    wpAny (model prog w) A (Builtin.«zip.__next__» ⟨[.ref z], []⟩) (fun fin s' => ∃ v, fin = .done (.ret v) ∧ Q v s') E s := by
  show wpAny _ _ (field (.ref z) 2 >>= _) _ _ _; refine wpAny_bind (wpAny_field hz rfl (x := .bool false) rfl ?_)
  show wpAny _ _ (field (.ref z) 3 >>= _) _ _ _; refine wpAny_bind (wpAny_field hz rfl (x := .ref TI) rfl ?_)
  refine wpAny_bind (wpAny_seqItems hI rfl ?_); show wpAny _ _ (Builtin.SmallTypes.ownedTupleIsFree (.ref z) >>= _) _ _ _
  refine wpAny_bind ?_; unfold Builtin.SmallTypes.ownedTupleIsFree
  refine wpAny_bind (wpAny_field hz rfl (x := .none) rfl (wpAny_pure ?_)); rw [if_pos (by rfl)]
  refine wpAny_bind (wpAny_rule ?_); refine wpAny_bind (wpAny_field hz rfl (x := .ref TO) rfl ?_)
  refine wpAny_bind (wpAny_setField_rec hz (by simp) fun hA zA sA => ?_); replace zA : IsZip hA z TI TO .ellipsis := zA
  refine wpAny_bind ?_; simp only [List.zipIdx_cons, List.zipIdx_nil, List.forIn_cons, List.forIn_nil]
  refine wpAny_bind (wpAny_bind (wpAny_onRaise ?_)); show wpAny _ _ (Builtin.SmallTypes.nextOf (.ref i1) >>= _) _ _ _
  refine wpAny_bind (S1.one _ i _ _ _ k1 (S1.by t1 sA D.i1z D.l1z) fun x hB px uB sB => wpAny_pure ?_)
  have oB : IsPair hB TO a b := sB.extBut _ _ D.TOi1 (sA.extBut _ _ D.TOz hO)
  refine wpAny_bind (wpAny_seqItems oB rfl ?_); refine wpAny_bind (wpAny_updateSeq_pair oB fun hC oC sC => ?_)
  replace oC : IsPair hC TO x b := oC; refine wpAny_bind (wpAny_letGo (wpAny_pure ?_))
  refine wpAny_bind (wpAny_bind (wpAny_onRaise ?_)); show wpAny _ _ (Builtin.SmallTypes.nextOf (.ref i2) >>= _) _ _ _
  refine wpAny_bind (S2.one _ i _ _ _ k2 (S2.by (S2.by (S2.by t2 sA D.i2z D.l2z) sB D.i12.symm D.l2i1) sC D.TOi2.symm D.l2TO) fun y hD py uD sD => wpAny_pure ?_)
  have oD : IsPair hD TO x b := sD.extBut _ _ D.TOi2 oC
  refine wpAny_bind (wpAny_seqItems oD rfl ?_); refine wpAny_bind (wpAny_updateSeq_pair oD fun hE oE sE => ?_)
  replace oE : IsPair hE TO x y := oE; refine wpAny_bind (wpAny_letGo (wpAny_pure (wpAny_pure ?_)))
  refine wpAny_bind (wpAny_seqItems oE rfl ?_); refine wpAny_bind (wpAny_newTuple ?_)
  have size : hE.objs.size = s.heap.objs.size := by rw [sE.1, sD.1, sC.1, sB.1, sA.1]
  have zE : IsZip hE z TI TO .ellipsis := sE.extBut _ _ D.TOz.symm (sD.extBut _ _ D.i2z.symm (sC.extBut _ _ D.TOz.symm (sB.extBut _ _ D.i1z.symm zA)))
  have keep : ∀ c o, c ≠ z → c ≠ TO → c ≠ i1 → c ≠ i2 → s.heap.get? c = some o → hE.get? c = some o := fun c o c1 c2 c3 c4 q => sE.extBut _ _ c2 (sD.extBut _ _ c4 (sC.extBut _ _ c2 (sB.extBut _ _ c3 (sA.extBut _ _ c1 q))))
  have u1 : St1 (i + 1) hE := S1.by (S1.by (S1.by uB sC D.TOi1.symm D.l1TO) sD D.i12 D.l1i2) sE D.TOi1.symm D.l1TO
  have u2 : St2 (i + 1) hE := S2.by uD sE D.TOi2.symm D.l2TO
  have below : z < hE.objs.size := Heap.lt_size zE
  show wpAny _ _ (Builtin.SmallTypes.ownedTupleHandOut (.ref z) (.ref hE.objs.size) >>= _) _ _ _; refine wpAny_bind ?_
  unfold Builtin.SmallTypes.ownedTupleHandOut; have zF : IsZip (hE.push { cls := .type "tuple", data := .seq #[x, y] }) z TI TO .ellipsis := Heap.get?_push_of_some _ zE
  refine wpAny_bind (wpAny_setField_rec zF (by simp) fun hG zG sG => ?_); replace zG : IsZip hG z TI TO (rawInt hE.objs.size) := zG
  refine wpAny_setField_rec zG (by simp) fun hH zH sH => ?_; replace zH : IsZip hH z TI TO (rawInt hE.objs.size) := zH
  have rise : ∀ c o, c ≠ z → hE.get? c = some o → hH.get? c = some o := fun c o c1 q => sH.extBut _ _ c1 (sG.extBut _ _ c1 (Heap.get?_push_of_some _ q))
  have tH : IsPair hH hE.objs.size x y := sH.extBut _ _ (Nat.ne_of_gt below) (sG.extBut _ _ (Nat.ne_of_gt below) (Heap.get?_push_size _ rfl))
  have size2 : hH.objs.size = hE.objs.size + 1 := by rw [sH.1, sG.1, Heap.size_push]
  rw [size] at zH tH size2; refine wpAny_pure ⟨_, rfl, ?_⟩; show Q (.ref hE.objs.size) _; rw [size]
  exact hQ x y hH px py zH (rise _ _ D.TOz oE) (S1.fr _ _ _ u1 (fun o q => rise _ o D.i1z q) fun o q => rise _ o D.l1z q) (S2.fr _ _ _ u2 (fun o q => rise _ o D.i2z q) fun o q => rise _ o D.l2z q) tH size2 fun c o c1 c2 c3 c4 q => rise c o c1 (keep c o c1 c2 c3 c4 q)
theorem zip_over {Q : Fin → Shared → Prop} (hh : A.handled = none) (D : ZipApart z TI TO i1 i2 l1 l2) (S1 : Src prog w i1 l1 n1 p1 St1) (S2 : Src prog w i2 l2 n2 p2 St2)
    (hz : IsZip s.heap z TI TO .none) (hI : IsPair s.heap TI (.ref i1) (.ref i2)) (hO : IsPair s.heap TO a b) (t1 : St1 i s.heap) (t2 : St2 i s.heap) (k : n1 ≤ i ∨ n2 ≤ i)
    (hE : ∀ h' e, (∀ c o, c ≠ z → c ≠ TO → c ≠ i1 → c ≠ i2 → s.heap.get? c = some o → h'.get? c = some o) → (∃ o, h'.get? e = some o ∧ o.cls = .type "StopIteration") → E (.ref e) { s with heap := h' }) :
    wpAny (model prog w) A (Builtin.«zip.__next__» ⟨[.ref z], []⟩) Q E s := by
  show wpAny _ _ (field (.ref z) 2 >>= _) _ _ _; refine wpAny_bind (wpAny_field hz rfl (x := .bool false) rfl ?_)
  show wpAny _ _ (field (.ref z) 3 >>= _) _ _ _; refine wpAny_bind (wpAny_field hz rfl (x := .ref TI) rfl ?_)
  refine wpAny_bind (wpAny_seqItems hI rfl ?_); show wpAny _ _ (Builtin.SmallTypes.ownedTupleIsFree (.ref z) >>= _) _ _ _
  refine wpAny_bind ?_; unfold Builtin.SmallTypes.ownedTupleIsFree
  refine wpAny_bind (wpAny_field hz rfl (x := .none) rfl (wpAny_pure ?_)); rw [if_pos (by rfl)]
  refine wpAny_bind (wpAny_rule ?_); refine wpAny_bind (wpAny_field hz rfl (x := .ref TO) rfl ?_)
  refine wpAny_bind (wpAny_setField_rec hz (by simp) fun hA zA sA => ?_); replace zA : IsZip hA z TI TO .ellipsis := zA
  refine wpAny_bind ?_; simp only [List.zipIdx_cons, List.zipIdx_nil, List.forIn_cons, List.forIn_nil]
  refine wpAny_bind (wpAny_bind (wpAny_onRaise ?_)); show wpAny _ _ (Builtin.SmallTypes.nextOf (.ref i1) >>= _) _ _ _
  by_cases k1 : n1 ≤ i
  · refine wpAny_bind (S1.no _ hh i _ _ _ k1 (S1.by t1 sA D.i1z D.l1z) fun hB e sB st => ?_)
    obtain ⟨oe, ge, ce⟩ := st
    have zB : IsZip hB z TI TO .ellipsis := sB _ _ D.i1z.symm zA
    have ne : e ≠ z := fun q => by subst q; rw [zB] at ge; cases ge; simp at ce
    exact wpAny_setField_rec zB (by simp) fun hC _ sC => hE hC e (fun c o c1 _ c3 _ q => sC.extBut _ _ c1 (sB _ _ c3 (sA.extBut _ _ c1 q))) ⟨oe, sC.extBut _ _ ne ge, ce⟩
  · have k2 : n2 ≤ i := by rcases k with k | k <;> omega
    refine wpAny_bind (S1.one _ i _ _ _ (by omega) (S1.by t1 sA D.i1z D.l1z) fun x hB px uB sB => wpAny_pure ?_)
    have oB : IsPair hB TO a b := sB.extBut _ _ D.TOi1 (sA.extBut _ _ D.TOz hO)
    refine wpAny_bind (wpAny_seqItems oB rfl ?_); refine wpAny_bind (wpAny_updateSeq_pair oB fun hC oC sC => ?_)
    refine wpAny_bind (wpAny_letGo (wpAny_pure ?_)); refine wpAny_bind (wpAny_bind (wpAny_onRaise ?_))
    show wpAny _ _ (Builtin.SmallTypes.nextOf (.ref i2) >>= _) _ _ _
    refine wpAny_bind (S2.no _ hh i _ _ _ k2 (S2.by (S2.by (S2.by t2 sA D.i2z D.l2z) sB D.i12.symm D.l2i1) sC D.TOi2.symm D.l2TO) fun hD e sD st => ?_)
    obtain ⟨oe, ge, ce⟩ := st
    have zD : IsZip hD z TI TO .ellipsis := sD _ _ D.i2z.symm (sC.extBut _ _ D.TOz.symm (sB.extBut _ _ D.i1z.symm zA))
    have ne : e ≠ z := fun q => by subst q; rw [zD] at ge; cases ge; simp at ce
    exact wpAny_setField_rec zD (by simp) fun hF _ sF => hE hF e (fun c o c1 c2 c3 c4 q => sF.extBut _ _ c1 (sD _ _ c4 (sC.extBut _ _ c2 (sB.extBut _ _ c3 (sA.extBut _ _ c1 q))))) ⟨oe, sF.extBut _ _ ne ge, ce⟩
theorem next_more {Q : Option Value → Shared → Prop} (D : ZipApart z TI TO i1 i2 l1 l2) (S1 : Src prog w i1 l1 n1 p1 St1) (S2 : Src prog w i2 l2 n2 p2 St2)
    (hz : IsZip s.heap z TI TO .none) (hI : IsPair s.heap TI (.ref i1) (.ref i2)) (hO : IsPair s.heap TO a b) (t1 : St1 i s.heap) (t2 : St2 i s.heap) (k1 : i < n1) (k2 : i < n2)
    (hQ : ∀ x y h', p1 i x → p2 i y → IsZip h' z TI TO (rawInt s.heap.objs.size) → IsPair h' TO x y → St1 (i + 1) h' → St2 (i + 1) h' → IsPair h' s.heap.objs.size x y → h'.objs.size = s.heap.objs.size + 1 →
      (∀ c o, c ≠ z → c ≠ TO → c ≠ i1 → c ≠ i2 → s.heap.get? c = some o → h'.get? c = some o) → Q (some (.ref s.heap.objs.size)) { s with heap := h' }) : wpAny (model prog w) A (pyNext (.ref z)) Q E s := by
  have ty : s.TypeIs (.ref z) "zip" := ⟨_, hz, rfl⟩
  unfold pyNext
  refine wpAny_bind (wpAny_attempt (wpAny_callSpecial?_slot (name := Str.ofString "__next__") ty F.slot_zip_next (wpAny_call_entry F.slot_zip_next ty F.entry_zip_next ?_ (F.args_zip_next_1 _))))
  exact zip_more D S1 S2 hz hI hO t1 t2 k1 k2 fun x y h' a1 a2 a3 a4 a5 a6 a7 a8 a9 => wpAny_pure (hQ x y h' a1 a2 a3 a4 a5 a6 a7 a8 a9)
theorem next_over {Q : Option Value → Shared → Prop} (hh : A.handled = none) (D : ZipApart z TI TO i1 i2 l1 l2) (S1 : Src prog w i1 l1 n1 p1 St1) (S2 : Src prog w i2 l2 n2 p2 St2)
    (hz : IsZip s.heap z TI TO .none) (hI : IsPair s.heap TI (.ref i1) (.ref i2)) (hO : IsPair s.heap TO a b) (t1 : St1 i s.heap) (t2 : St2 i s.heap) (k : n1 ≤ i ∨ n2 ≤ i)
    (hQ : ∀ h', (∀ c o, c ≠ z → c ≠ TO → c ≠ i1 → c ≠ i2 → s.heap.get? c = some o → h'.get? c = some o) → Q none { s with heap := h' }) : wpAny (model prog w) A (pyNext (.ref z)) Q E s := by
  have ty : s.TypeIs (.ref z) "zip" := ⟨_, hz, rfl⟩
  unfold pyNext
  refine wpAny_bind (wpAny_attempt (wpAny_callSpecial?_slot (name := Str.ofString "__next__") ty F.slot_zip_next (wpAny_call_entry F.slot_zip_next ty F.entry_zip_next ?_ (F.args_zip_next_1 _))))
  refine zip_over hh D S1 S2 hz hI hO t1 t2 k fun h' e keep st => ?_
  obtain ⟨o, ge, ce⟩ := st
  exact wpAny_bind (wpAny_isInstance (T := "StopIteration") (b := true) ⟨o, ge, ce⟩ isSubtype_stop (wpAny_pure (hQ _ keep)))
end
/-- a tuple at a and a list at b, as they stand at each turn -/
def ItTL (K : PySem.W.Frag) (a b : Addr) : It :=
  ⟨fun i H => ∃ xs ys : List V, SqT K H a xs ∧ SqL K H b ys ∧ i < xs.length ∧ i < ys.length,
    fun i H v H' => ∃ T x y, v = .ref T ∧ H T = none ∧ H' = upd H T (.tup [x, y]) ∧ (∀ xs, SqT K H a xs → xs[i]? = some x) ∧ ∀ ys, SqL K H b ys → ys[i]? = some y,
    fun i H => ∃ xs ys : List V, SqT K H a xs ∧ SqL K H b ys ∧ (xs.length ≤ i ∨ ys.length ≤ i)⟩
theorem turn_TL {P : Program} {w : World} {K : PySem.W.Frag} {elts : List Expr} {kk : Nat} {tpos : Pos} {a b z TI TO i1 i2 : Addr} (D : ZipApart z TI TO i1 i2 a b) :
    Turn P w K (.Tuple elts kk tpos) (ItTL K a b) [z, TI, TO, i1, i2] z (fun i h => IsZip h z TI TO .none ∧ IsPair h TI (.ref i1) (.ref i2) ∧ (∃ x y, IsPair h TO x y) ∧ h.IsTupleIter i1 a i ∧ h.IsListIter i2 b i) where
  mem := .head _
  obj := fun i h st c hc => by
    obtain ⟨g0, g1, ⟨_, _, g2⟩, ⟨o3, g3, _, d3⟩, ⟨o4, g4, _, d4⟩⟩ := st
    simp only [List.mem_cons, List.not_mem_nil, or_false] at hc
    rcases hc with rfl | rfl | rfl | rfl | rfl
    · exact ⟨_, g0, fun _ q => nomatch q⟩
    · exact ⟨_, g1, fun _ q => nomatch q⟩
    · exact ⟨_, g2, fun _ q => nomatch q⟩
    · exact ⟨o3, g3, fun _ q => nomatch d3.symm.trans q⟩
    · exact ⟨o4, g4, fun _ q => nomatch d4.symm.trans q⟩
  keep := fun i h h' ⟨g0, g1, ⟨x, y, g2⟩, g3, g4⟩ k => ⟨k z (by simp) _ g0, k TI (by simp) _ g1, ⟨x, y, k TO (by simp) _ g2⟩, g3.at fun o q => k i1 (by simp) o q, g4.at fun o q => k i2 (by simp) o q⟩
  item := by
    intro X hP hw hK hc i pins s σ H E I hf ⟨g0, g1, ⟨x0, y0, g2⟩, g3, g4⟩ ⟨xs, ys, qx, qy, lx, ly⟩
    subst hP hw hK
    obtain ⟨vs, rv, p, _⟩ := I.tuple qx
    obtain ⟨us, ru, p', _⟩ := I.list qy
    have low : z < s.heap.objs.size := Heap.lt_size g0
    have l1 := rv.length
    have l2 := ru.length
    refine next_more D (Src.tup i1 a D.l1i1 vs.toArray) (Src.lst i2 b D.l2i2 us.toArray) g0 g1 g2 ⟨g3, p⟩ ⟨g4, p'.isList⟩ (by simp; omega) (by simp; omega) fun x y h' ex ey z' o' ⟨t1, _⟩ ⟨t2, _⟩ hT _ hk => ?_
    refine ⟨_, rfl, wpAny_letOwnedTupleGo_zip (s := { s with heap := h' }) z' fun h2 z2 sb => ?_⟩
    have hT2 : h2.get? s.heap.objs.size = some { cls := .type "tuple", data := .seq #[x, y] } := (sb.2 _ (Nat.ne_of_gt low)).trans hT
    obtain ⟨v, hv, r1⟩ : ∃ v, xs[i]? = some v ∧ RelV v x := by
      obtain ⟨u, hu, r⟩ := rv.get (List.getElem?_eq_getElem lx)
      have ex : vs[i]? = some x := by simpa using ex
      rw [hu] at ex
      cases ex
      exact ⟨_, List.getElem?_eq_getElem lx, r⟩
    obtain ⟨v', hv', r2⟩ : ∃ v, ys[i]? = some v ∧ RelV v y := by
      obtain ⟨u, hu, r⟩ := ru.get (List.getElem?_eq_getElem ly)
      have ey : us[i]? = some y := by simpa using ey
      rw [hu] at ey
      cases ey
      exact ⟨_, List.getElem?_eq_getElem ly, r⟩
    have new : ObjOk X.prog X.w (upd H s.heap.objs.size (.tup [v, v'])) h2 s.heap.objs.size (.tup [v, v']) := ⟨by show 2 ≤ sizeLine; decide, [x, y], .cons r1 (.cons r2 .nil), ⟨_, hT2, rfl, _, rfl⟩⟩
    have out : ∀ c, c ∉ [z, TI, TO, i1, i2] → c ≠ z ∧ c ≠ TO ∧ c ≠ i1 ∧ c ≠ i2 := fun c hc => ⟨fun q => hc (by simp [q]), fun q => hc (by simp [q]), fun q => hc (by simp [q]), fun q => hc (by simp [q])⟩
    have I1 : Inv X pins σ (upd H s.heap.objs.size (.tup [v, v'])) { s with heap := h2 } :=
      I.turnedNew (t' := s.toks) (ch := [z, TI, TO, i1, i2]) (fun c o hb q => (sb.2 c (out c hb).1).trans (hk c o (out c hb).1 (out c hb).2.1 (out c hb).2.2.1 (out c hb).2.2.2 q)) hf (Nat.le_refl _) new
    refine ⟨.ref s.heap.objs.size, _, I1, rfl, ⟨_, v, v', rfl, I.hok.fresh (Nat.le_refl _), rfl, fun l hl => by rw [I.tuple_inj hl qx]; exact hv, fun l hl => by rw [I.list_inj hl qy]; exact hv'⟩,
      ⟨z2, (sb.2 _ D.TIz).trans (hk _ _ D.TIz D.TITO D.TIi1 D.TIi2 g1), ⟨x, y, (sb.2 _ D.TOz).trans o'⟩, t1.at fun o q => (sb.2 _ D.i1z).trans q, t2.at fun o q => (sb.2 _ D.i2z).trans q⟩, fun c hcm => ?_⟩
    have lt : c < s.heap.objs.size := by
      simp only [List.mem_cons, List.not_mem_nil, or_false] at hcm
      rcases hcm with rfl | rfl | rfl | rfl | rfl
      · exact low
      · exact Heap.lt_size g1
      · exact Heap.lt_size g2
      · exact Heap.lt_size g3.choose_spec.1
      · exact Heap.lt_size g4.choose_spec.1
    rw [upd_ne (Nat.ne_of_lt lt)]
    exact (hf c hcm).1
  done := by
    intro X hP hw hK hc i pins s σ H E I hf ⟨g0, g1, ⟨x0, y0, g2⟩, g3, g4⟩ ⟨xs, ys, qx, qy, hend⟩
    subst hP hw hK
    obtain ⟨vs, rv, p, _⟩ := I.tuple qx
    obtain ⟨us, ru, p', _⟩ := I.list qy
    have l1 := rv.length
    have l2 := ru.length
    refine next_over (I.ok.hd hc) D (Src.tup i1 a D.l1i1 vs.toArray) (Src.lst i2 b D.l2i2 us.toArray) g0 g1 g2 ⟨g3, p⟩ ⟨g4, p'.isList⟩ (by simp; omega) fun h' hk => ⟨rfl, ?_⟩
    exact I.turnedL (t' := s.toks) (ch := [z, TI, TO, i1, i2]) (fun c o hb q => hk c o (fun q' => hb (by simp [q'])) (fun q' => hb (by simp [q'])) (fun q' => hb (by simp [q'])) (fun q' => hb (by simp [q'])) q) hf
  self := fun A i s Q E st h => wpAny_pyIter_zip st.1 h
end DZ

/-! part DZ2 -/
set_option Elab.async false
set_option linter.all false
set_option maxRecDepth 100000
set_option maxHeartbeats 1000000
set_option autoImplicit false
namespace DZ
open PySem PySem.Spec PyProof.Rows L2 RZ
def iTL (K : PySem.W.Frag) (ta : TA) : TI := fun σ H R => ta σ H fun vs H1 => ∃ a b xs ys, vs = [.ref a, .ref b] ∧ SqT K H1 a xs ∧ SqL K H1 b ys ∧ R (ItTL K a b) H1
theorem pi_TL {X : Cx} {e e2 : Expr} {ta : TA} {p pos tpos : Pos} {elts : List Expr} {kk : Nat} (hg : Gl X "zip") (hm : X.mg "zip" = none) (ha : PA X [e, e2] ta)
    (hs : starEach [e, e2] X.env = (false, eval e X.env) :: starEach [e2] X.env := by rfl) (hpl : (backTo pos (starEach [e2] X.env)).any (·.1) = false := by rfl) :
    PI X (.Tuple elts kk tpos) (.Call (.Name "zip" p) [e, e2] [] pos) (iTL X.K ta) := by
  refine ⟨fun pins s σ H R I h => Call_ (ld_blt I hg hm boot_zip (callWith_type1 (thn (ha.run pos pins s σ H _ I h) fun us s1 ⟨vs, H1, I1, r1, a, b, xs, ys, ex, qx, qy, q⟩ => ?_) hs hpl))⟩
  subst ex
  obtain ⟨u1, u2, rfl, r2, r3⟩ : ∃ u1 u2, us = [u1, u2] ∧ RelV (.ref a) u1 ∧ RelV (.ref b) u2 := by
    cases r1 with
    | cons r2 rr => cases rr with
      | cons r3 rr => cases rr; exact ⟨_, _, rfl, r2, r3⟩
  cases r2
  cases r3
  obtain ⟨vs, rv, p1, _⟩ := I1.tuple qx
  obtain ⟨ws, rw', p2, _⟩ := I1.list qy
  obtain ⟨o1, g1, _⟩ := id p1
  refine zip_begins2 (begins_tuple a vs.toArray) (begins_list b ws.toArray) (show s1.heap.IsTuple a vs.toArray from p1) p2.isList fun h' hz hI hO j1 j2 _ hk => wpAny_pyIter_zip hz ?_
  have fp : ∀ c, s1.heap.objs.size ≤ c → FpOk X pins H1 c := fun c le => I1.fpOk le (I1.hok.fresh le)
  refine ⟨s1.heap.objs.size + 4, [s1.heap.objs.size + 4, s1.heap.objs.size + 2, s1.heap.objs.size + 3, s1.heap.objs.size, s1.heap.objs.size + 1], _, _, H1, rfl, I1.kept (t' := s1.toks) hk,
    turn_TL (PySem.W.ktu_apart s1.heap.objs.size a b (Heap.lt_size g1) p2.lt), ⟨hz, hI, ⟨_, _, hO⟩, ⟨_, j1, rfl, rfl⟩, ⟨_, j2, rfl, rfl⟩⟩, fun c hc => fp c ?_, q⟩
  simp only [List.mem_cons, List.not_mem_nil, or_false] at hc
  rcases hc with rfl | rfl | rfl | rfl | rfl <;> omega
end DZ
namespace DV
open PySem PySem.Spec L2
section
variable {X : Cx} {W : WX}
/-- zip of a frozen tuple and a frozen list -/
def fIZipTL (f : SA) : SI := fun ρ μ P => f ρ μ fun xs μ1 => ∃ ds es, xs = [.d (.tup ds), .d (.lst es)] ∧ P (zipD ds es) (fun _ => True) μ1
theorem pdi_zipTL {e e2 : Expr} {elts : List Expr} {kk : Nat} {f : SA} {p pos tpos : Pos} (hg : Gl X "zip") (hm : X.mg "zip" = none) (h : PDA X [e, e2] f)
    (hs : starEach [e, e2] X.env = (false, eval e X.env) :: starEach [e2] X.env := by rfl) (hpl : (backTo pos (starEach [e2] X.env)).any (·.1) = false := by rfl) :
    PDI X (.Tuple elts kk tpos) (.Call (.Name "zip" p) [e, e2] [] pos) (fIZipTL f) := by
  refine ⟨fun ρ μ P P' k q => h.mo ρ μ _ _ (fun x μ1 ⟨n, n2, e, q⟩ => ⟨n, n2, e, k _ _ _ q⟩) q, (DZ.pi_TL hg hm h.run hs hpl).of fun σ H R q => ?_⟩
  obtain ⟨ad, ρ, μ, s, q⟩ := q
  refine ⟨ad, ρ, μ, s, h.mo ρ μ _ _ (fun xs μ1 ⟨ds, es, e, q⟩ vs H1 t1 m1 r1 => ?_) q⟩
  subst e
  obtain ⟨v, u, rfl, r2, r3⟩ := rsa2 r1
  cases r2 with
  | @tup a ws _ h1 h2 =>
    cases r3 with
    | @lst b us _ k1 k2 =>
      refine ⟨a, b, ws, us, rfl, sqT_same hide_same h1, sqL_same hide_same k1, q _ H1 t1 m1 fun H2 ad2 μ2 st m _ => ?_⟩
      have h3 : SqT X.K H2 a ws := sqT_same hide_same (sqT_same st.same h1)
      have k3 : SqL X.K H2 b us := sqL_same hide_same (sqL_same st.same k1)
      have hl := h2.length
      have kl := k2.length
      have hz := zipD_length ds es
      refine ⟨fun i hi => ⟨ws, us, h3, k3, by omega, by omega⟩, ⟨ws, us, h3, k3, by omega⟩, fun i d x H3 e y => ?_⟩
      obtain ⟨T, x', y', rfl, hT, rfl, f, g⟩ := y
      obtain ⟨d1, d2, g1, g2, rfl⟩ := zipD_get e
      obtain ⟨v, q4, q5⟩ := h2.get g1
      obtain ⟨v', q4', q5'⟩ := k2.get g2
      have z1 := f ws h3
      have z2 := g us k3
      rw [q4] at z1
      rw [q4'] at z2
      cases z1
      cases z2
      have st2 : Step ad2 H2 ad2 (upd H2 T (.tup [x', y'])) := Step.new hT
      exact ⟨st2, m.new hT, .tup (.inl (.inl (by rw [hide_out (m.fresh hT)]; exact upd_same))) (.cons (q5.mono (st.trans st2).same) (.cons (q5'.mono (st.trans st2).same) .nil))⟩
end
end DV

/-! part DG -/
set_option Elab.async false
set_option linter.all false
set_option maxRecDepth 100000
set_option maxHeartbeats 1000000
set_option autoImplicit false
namespace DG
open PySem PySem.Spec PyProof.Rows L2 DV
/-- FnOk where nothing is being shown -/
structure GOk (P : Program) (w : World) (K : PySem.W.Frag) (mg : Str → Option Value) (base : Heap) (k : Nat) (f : Addr) (fd : FuncData) (ps : List Str) (sp : Sp) : Prop where
  len : ∀ vs H Q E, sp vs H Q E → vs.length = ps.length
  go : ∀ (A : Around) (outer : List Env) (s : Shared) (H : Hp) (args : Args) (us : List Value) (vs : List V) (Q : VK) (E : XK), A.guards = some [] → Room k A → Env0 P w K mg base A outer s H → BindsTo s fd args (ps.zip us) → Vals vs us →
    sp vs H Q E → codeAny (model P w) A (.call (.ref f) args) (CR CX0 outer P w H s Q E) s
section
variable {P : Program} {w : World} {K : PySem.W.Frag} {mg : Str → Option Value} {base : Heap}
theorem go_of {x qual : Str} {st : Stmt} {f : Addr} {fd : FuncData} {N ps : List Str} {k : Nat} {sp : Sp} (F : Fun K x qual st f fd) (S : FnScope N ps (defScope st)) (len : ∀ vs H Q E, sp vs H Q E → vs.length = ps.length)
    (body : ∀ (cdv : Value) (A : Around) (outer : List Env) (s : Shared) (H : Hp) (vs : List V) (Q : VK) (E : XK), A.guards = some [] → Room k (A.deeper (envOfC qual (defScope st) s.heap.objs.size f cdv)) → sp vs H Q E →
      ∃ t, PSs (cxOf CX0 P w K mg base N qual (defScope st) f cdv A outer s H E).nox (defBody st) t ∧ t { nx := fun _ H' => Q .non H', rt := Q } (start N vs) H) : GOk P w K mg base (k + 1) f fd ps sp := by
  obtain ⟨oc, od, kV, doc, pm, an, cdv, ct, osl, rfl, lk, hcd⟩ := F.ex
  refine ⟨len, fun A outer s H args us vs Q E hgd room e0 bind vals keeps => ?_⟩
  have size := len _ _ _ _ keeps
  have inK : K.In s.heap := e0.mod.kin.keeps fun b o q => (e0.bs b o q).1
  have free : s.heap.NoLimit := e0.mod.nolimit.keeps fun b o q => (e0.bs b o q).1
  have kinds : ∀ y ∈ ps.zip us, (defScope st).names.lookup y.1 = some .local ∨ ((defScope st).names.lookup y.1 = some .cell ∧ ((cellsFrom (s.heap.objs.size + 1) (defScope st).names []).lookup y.1).isSome = true) := fun y hy =>
    (S.par y.1 (List.of_mem_zip (a := y.1) (b := y.2) hy).1).imp id fun q => ⟨q, PySem.W.cellsFrom_some _ _ _ (.inl q)⟩
  refine codeAny_call_function room.depth (inK _ _ lk) rfl S.co S.gen rfl (PySem.W.codeRec_of inK hcd) (bind _ _ _ _ (wpAny_newFunctionEnv_cells S.kind kinds fun env he s1 more => ?_))
  subst he
  refine ⟨free.keeps more.toInCall.keep, codeAny_func ?_⟩
  obtain ⟨t, run, holds⟩ := body cdv A outer s H vs Q E hgd (room.deeper _) keeps
  refine wpAny_mono (run.nox.run [] s1 (start N vs) H _ (inv_start S room.hd e0 size vals more) holds) (fun fl s' at_ => ?_) fun e s' q => q
  cases fl with
  | brk => exact (at_.elim fun _ q => q.elim fun _ q => q.2.elim)
  | cont => exact (at_.elim fun _ q => q.elim fun _ q => q.2.elim)
  | next => obtain ⟨_, H', J, q⟩ := at_; exact ⟨V.non, H', J.os, J.bare, J.base, J.hok, rfl, q⟩
  | ret u => obtain ⟨v, _, H', J, rv, q⟩ := at_; exact ⟨v, H', J.os, J.bare, J.base, J.hok, rv, q⟩
end
section
variable {X : Cx}
theorem pe_go {k : Nat} {f : Addr} {fd : FuncData} {ps : List Str} {sp : Sp} {x : Str} {p pos : Pos} {e : Expr} {es : List Expr} {t : TA} (F : GOk X.prog X.w X.K X.mg X.base k f fd ps sp) (hgd : X.A.guards = some []) (hr : Room k X.A) (hg : Gl X x)
    (hm : X.mg x = some (.ref f)) (hk : PySem.W.keepIn X.K (.ref f) = true) (hb : Binds X.K fd ps []) (ha : PA X (e :: es) t) (hdb : (x == ("__debug__" : Str)) = false) (he : starEach (e :: es) X.env = (false, eval e X.env) :: starEach es X.env)
    (hpl : (backTo pos (starEach es X.env)).any (·.1) = false) : PE X (.Call (.Name x p) (e :: es) [] pos) (tCall sp [] E0 t) := by
  refine ⟨fun pins s σ H Q I h => wpAny_Call_Name_kw (ld_glob I hg hm (PySem.W.callWith_K (h₀ := X.base) I.ok.mod.kin hk (thn (ha.run pos pins s σ H _ I h) fun us s1 ⟨vs, H1, I1, r, q⟩ => ⟨I1.kIn, ?_⟩) he hpl) hdb)⟩
  have q' : sp vs H1 Q E0 := by have z : sp (vs ++ []) H1 Q E0 := q; rwa [List.append_nil] at z
  have hl : us.length = ps.length := by rw [← r.length]; exact F.len _ _ _ _ q'
  have hbd := hb s1 us I1.kIn (by rw [List.append_nil]; exact hl)
  rw [List.append_nil] at hbd
  refine wpAny_call (codeAny_mono (F.go X.A X.stack s1 H1 ⟨us, []⟩ us vs Q E0 hgd hr I1.env0 hbd r q') fun fl s' hq => ?_)
  match fl, hq with
  | .error e, hq => exact pass0 pins σ H1 s1 e s' I1 hq
  | .ok (.ret u), hq => exact I1.after hq
  | .ok .next, hq => exact False.elim hq
  | .ok .brk, hq => exact False.elim hq
  | .ok .cont, hq => exact False.elim hq
end
end DG

/-! part DG2 -/
set_option Elab.async false
set_option linter.all false
set_option maxRecDepth 100000
set_option maxHeartbeats 1000000
set_option autoImplicit false
namespace DV
open PySem PySem.Spec L2
open PyProof.Rows (envOfC)
theorem ok_defg {P : Program} {w : World} {K : PySem.W.Frag} {mg : Str → Option Value} {base : Heap} {x qual : Str} {st : Stmt} {f : Addr} {fd : FuncData} {N ps : List Str} {k : Nat} {T : TF} {fb : SS} (F : Fun K x qual st f fd) (S : FnScope N ps (defScope st))
    (hb : ∀ (cdv : Value) (A : Around) (outer : List Env) (s : Shared) (H : Hp) (E : XK), A.guards = some [] → Room k (A.deeper (envOfC qual (defScope st) s.heap.objs.size f cdv)) → PDSs (cxOf CX0 P w K mg base N qual (defScope st) f cdv A outer s H E).nox WZ (defBody st) fb)
    (hT : ∀ ss μ (Q : D → Mu → Prop), ss.length = ps.length → T ss μ Q → fb (startR N ss) μ (kD μ.length Q)) : DG.GOk P w K mg base (k + 1) f fd ps (spT ps.length K T) := by
  refine DG.go_of F S (fun vs H Q E h => ?_) (fun cdv A outer s H vs Q E hgd hr h => ?_)
  · obtain ⟨ad, ss, μ, r, m, l, _⟩ := h
    rw [rpSA_len r]
    exact l
  · obtain ⟨ad, ss, μ, r, m, l, q⟩ := h
    have B := hb cdv A outer s H E hgd hr
    refine ⟨_, B.run, ad, startR N ss, μ, sim_start m r, B.mo _ _ _ _ ?_ (hT ss μ _ l q)⟩
    have hl := m.len
    have less : ∀ {ad' : List Addr} {H' : Hp}, Step ad H ad' H' → Step ad H ad H' := fun t => ⟨List.prefix_refl _, fun b o h e => ⟨h, (t.keep b o h e).2⟩⟩
    refine ⟨fun ρ' μ' q σ' H' ad' t s' => ?_, fun y μ' q v H' ad' t m' rv => ?_, fun _ _ q => q.elim, fun _ _ q => q.elim, fun _ _ _ q => q.elim⟩
    · obtain ⟨m2, sm⟩ := s'.m.take t.pre
      rw [hl] at m2
      exact q .non H' (less t) m2 .non
    · obtain ⟨d, e, q⟩ := q
      obtain ⟨m2, sm⟩ := m'.take t.pre
      rw [hl] at m2
      refine q v H' (less t) m2 ?_
      cases y with
      | d y => cases e; exact Rp.mono sm rv
      | ex _ _ _ _ => cases e
      | m j =>
        unfold fin at e
        simp only at e
        split at e
        · cases e
        · cases e2 : μ'[j]? with
          | none => rw [e2] at e; cases e
          | some ds =>
            rw [e2] at e
            cases e
            obtain ⟨a, h1, rfl⟩ := rv
            obtain ⟨b, xs, q1, q2, q3⟩ := m'.at_ j ds e2
            rw [h1] at q1
            cases q1
            refine .lst (xs := xs) (.inl (.inl ?_)) (q3.mono sm)
            rw [hide_out fun z => ?_]
            · exact q2
            · rename_i hj
              obtain ⟨t', e3⟩ := t.pre
              subst e3
              have hnd := m'.nd
              obtain ⟨l1, e4⟩ := List.getElem?_eq_some_iff.mp h1
              obtain ⟨i, hi, e5⟩ := List.getElem_of_mem z
              have : (ad ++ t')[i]'(by rw [List.length_append]; omega) = a := by rw [List.getElem_append_left hi]; exact e5
              have hij := (List.getElem_inj hnd).mp (this.trans e4.symm)
              omega

/-- a def that keeps its promise where nothing is being shown -/
def DefOkG (P : Program) (w : World) (K : PySem.W.Frag) (mg : Str → Option Value) (base : Heap) (x : Str) (k n : Nat) (T : TF) : Prop :=
  MonF T ∧ ∃ f fd ps, mg x = some (.ref f) ∧ PySem.W.keepIn K (.ref f) = true ∧ Binds K fd ps [] ∧ DG.GOk P w K mg base k f fd ps (spT n K T)
theorem ok_defDG {P : Program} {w : World} {K : PySem.W.Frag} {mg : Str → Option Value} {base : Heap} {x : Str} {st : Stmt} {N ps : List Str} {k : Nat} {T : TF} {fb : SS} (t : Top K mg x st ps) (S : FnScope N ps (defScope st)) (mT : MonF T)
    (hb : ∀ (f : Addr) (cdv : Value) (A : Around) (outer : List Env) (s : Shared) (H : Hp) (E : XK), A.guards = some [] → Room k (A.deeper (envOfC x (defScope st) s.heap.objs.size f cdv)) → PDSs (cxOf CX0 P w K mg base N x (defScope st) f cdv A outer s H E).nox WZ (defBody st) fb)
    (hT : ∀ ss μ (Q : D → Mu → Prop), ss.length = ps.length → T ss μ Q → fb (startR N ss) μ (kD μ.length Q)) : DefOkG P w K mg base x (k + 1) ps.length T := by
  obtain ⟨f, fd, F, b, g⟩ := t
  exact ⟨mT, f, fd, ps, g, F.kp, b, ok_defg F S (fun cdv A outer s H E hgd hr => hb f cdv A outer s H E hgd hr) hT⟩
section
variable {X : Cx} {W : WX}
theorem pd_callDG {x : Str} {k n : Nat} {T : TF} {p pos : Pos} {e : Expr} {es : List Expr} {f : SA} (C : DefOkG X.prog X.w X.K X.mg X.base x k n T) (hgd : X.A.guards = some []) (hr : Room k X.A) (hg : Gl X x) (h : PDA X (e :: es) f)
    (hdb : (x == ("__debug__" : Str)) = false := by decide) (he : starEach (e :: es) X.env = (false, eval e X.env) :: starEach es X.env := by rfl) (hpl : (backTo pos (starEach es X.env)).any (·.1) = false := by rfl) :
    PD X (.Call (.Name x p) (e :: es) [] pos) (fCall n T f) := by
  obtain ⟨mT, fa, fd, ps, g, kp, b, F⟩ := C
  exact pd_call mT h.mo (DG.pe_go F hgd hr hg g kp b h.run hdb he hpl)
/-! ### repr -/
/-- what may be shown: depth up to k, up to n signs -/
def Sh (k n : Nat) (d : D) : Prop := d.py.showable = true ∧ d.py.hasDict = false ∧ d.py.depth ≤ k ∧ d.py.shown.length ≤ n
def shD (d : D) : Str := d.py.shown
theorem sh_int {i : Int} (h : i.natAbs.log2 < 1920) : Sh 0 1921 (.int i) := ⟨by simpa [D.py, PyData.showable] using h, rfl, Nat.le_refl _, by
  show (PyData.shown (.int i)).length ≤ 1921
  unfold PyData.shown
  exact PyProof.Rows.int_text_len_1921 h⟩
theorem Sh.mono {k l n m : Nat} {d : D} (h : Sh k n d) (h1 : k ≤ l) (h2 : n ≤ m) : Sh l m d := ⟨h.1, h.2.1, Nat.le_trans h.2.2.1 h1, Nat.le_trans h.2.2.2 h2⟩
theorem sh_all {k n : Nat} : ∀ {ds : List D}, (∀ d ∈ ds, Sh k n d) → PyData.showableAll (pyA ds) = true ∧ PyData.hasDictAll (pyA ds) = false ∧ PyData.depthAll (pyA ds) ≤ k ∧ ((PyData.shownAll (pyA ds)).map (·.length)).sum ≤ ds.length * n ∧ (PyData.shownAll (pyA ds)).length = ds.length
  | [], _ => ⟨rfl, rfl, Nat.zero_le _, Nat.zero_le _, rfl⟩
  | d :: r, h => by
    obtain ⟨a1, a2, a3, a4⟩ := h d (by simp)
    obtain ⟨b1, b2, b3, b4, b5⟩ := sh_all (ds := r) fun x hx => h x (List.mem_cons_of_mem _ hx)
    refine ⟨?_, ?_, ?_, ?_, ?_⟩
    · simp only [pyA, PyData.showableAll, a1, b1, Bool.and_self]
    · simp only [pyA, PyData.hasDictAll, a2, b2, Bool.or_self]
    · simp only [pyA, PyData.depthAll]
      omega
    · simp only [pyA, PyData.shownAll, List.map_cons, List.sum_cons, List.length_cons, Nat.add_mul, Nat.one_mul]
      omega
    · simp only [pyA, PyData.shownAll, List.length_cons, b5]
theorem sh_tup {k n : Nat} {ds : List D} (h : ∀ d ∈ ds, Sh k n d) : Sh (k + 1) (ds.length * n + 2 * ds.length + 3) (.tup ds) := by
  obtain ⟨b1, b2, b3, b4, b5⟩ := sh_all h
  refine ⟨by simpa only [D.py, PyData.showable] using b1, by simpa only [D.py, PyData.hasDict] using b2, by simp only [D.py, PyData.depth]; omega, ?_⟩
  have q := tupleText_len_le (PyData.shownAll (pyA ds))
  simp only [D.py, PyData.shown]
  omega
theorem sh_lst {k n : Nat} {ds : List D} (h : ∀ d ∈ ds, Sh k n d) : Sh (k + 1) (ds.length * n + 2 * ds.length + 3) (.lst ds) := by
  obtain ⟨b1, b2, b3, b4, b5⟩ := sh_all h
  refine ⟨by simpa only [D.py, PyData.showable] using b1, by simpa only [D.py, PyData.hasDict] using b2, by simp only [D.py, PyData.depth]; omega, ?_⟩
  have q := listText_len_le (PyData.shownAll (pyA ds))
  simp only [D.py, PyData.shown]
  omega
def rRepr (K : PySem.W.Frag) : List V → Hp → VK → Prop := fun xs H Q => ∃ (a : Addr) (d : PyData), xs = [.ref a] ∧ Dp K H (.ref a) d ∧ (d.showable = true ∧ d.hasDict = false ∧ d.depth ≤ 10 ∧ d.shown.length ≤ sizeLine) ∧ Q (.str d.shown) H
theorem call_repr (hgd : X.A.guards = some []) {k : Nat} (hr : Room k X.A) : CallR X (.builtin "repr") (rRepr X.K) := by
  intro pins s σ H xs us Q I r h
  obtain ⟨a, d, rfl, dp, ⟨h1, h2, h3, h4⟩, q⟩ := h
  obtain ⟨u, rfl, rfl⟩ : ∃ u, us = [u] ∧ u = Value.ref a := by
    cases r with
    | cons r rr => cases rr; exact ⟨_, rfl, r⟩
  obtain ⟨as, rd⟩ := Dp.reads I d (.ref a) (.ref a) dp rfl
  have un := hr.un
  exact repr_of_reads' rd h1 (PyData.noDict_hsm h2) hgd (by omega) (fun _ _ e => e) (fun h' u tk hk => ⟨.str d.shown, H, I.kept hk, ⟨u, rfl⟩, q⟩) h4
def gRepr (ss : List S) (_ : Mu) : Option D := match ss with
  | [.d (.tup ds)] => some (.str (shD (.tup ds)))
  | [.d (.lst ds)] => some (.str (shD (.lst ds)))
  | _ => none
def cRepr (ss : List S) (_ : Mu) : Prop := match ss with
  | [.d d] => Sh 10 1000000 d
  | _ => True
theorem snd_repr : SoundA X.K (rRepr X.K) (gA cRepr gRepr) := by
  intro vs ss H ad μ Q m r h
  obtain ⟨h1, d, h2, h3⟩ := h
  have big : 1000000 ≤ sizeLine := by decide
  unfold gRepr at h2
  split at h2
  · rename_i ds
    cases h2
    obtain ⟨v, rfl, r1⟩ := rsa1 r
    cases r1 with
    | tup q1 q2 => exact ⟨_, _, rfl, Rp.dp (Rp.mono hide_same (.tup q1 q2)) (plain_of h1.2.1), ⟨h1.1, h1.2.1, h1.2.2.1, Nat.le_trans h1.2.2.2 big⟩, h3 _ H (Step.refl _ _) m (.str _)⟩
  · rename_i ds
    cases h2
    obtain ⟨v, rfl, r1⟩ := rsa1 r
    cases r1 with
    | lst q1 q2 => exact ⟨_, _, rfl, Rp.dp (Rp.mono hide_same (.lst q1 q2)) (plain_of h1.2.1), ⟨h1.1, h1.2.1, h1.2.2.1, Nat.le_trans h1.2.2.2 big⟩, h3 _ H (Step.refl _ _) m (.str _)⟩
  · cases h2
end
end DV

/-! part DN -/
set_option Elab.async false
set_option linter.all false
set_option maxRecDepth 100000
set_option maxHeartbeats 1000000
set_option autoImplicit false
namespace DV
open PySem PySem.Spec L2
open PyProof.Rows (envOfC)
/-! ### defs that return a new list, and such a list passed on alone -/
abbrev TFN := List S → Mu → (List D → Mu → Prop) → Prop
def MonFN (T : TFN) : Prop := ∀ ss μ (P P' : List D → Mu → Prop), (∀ d μ', P d μ' → P' d μ') → T ss μ P → T ss μ P'
def spN (n : Nat) (K : PySem.W.Frag) (T : TFN) : Sp := fun vs H Q _ => ∃ ad ss μ, RpSA K (hide ad H) ad vs ss ∧ RpM K H ad μ ∧ ss.length = n ∧ T ss μ fun ds μ' => ∀ p H', H p = none → Step ad H (ad ++ [p]) H' → RpM K H' (ad ++ [p]) (μ' ++ [ds]) → Q (.ref p) H'
def kN (n : Nat) (P : List D → Mu → Prop) : K4 where
  nx := fun _ _ => False
  rt := fun x μ' => ∃ j ds, x = .m j ∧ ¬ j < n ∧ μ'[j]? = some ds ∧ P ds (μ'.take n)
  bk := fun _ _ => False
  ct := fun _ _ => False
  er := fun _ _ _ => False
def DefOkN (P : Program) (w : World) (K : PySem.W.Frag) (mg : Str → Option Value) (base : Heap) (x : Str) (k n : Nat) (T : TFN) : Prop :=
  MonFN T ∧ ∃ f fd ps, mg x = some (.ref f) ∧ PySem.W.keepIn K (.ref f) = true ∧ Binds K fd ps [] ∧ FnOk P w K mg base CX0 k f fd ps (spN n K T)
theorem ok_defN {P : Program} {w : World} {K : PySem.W.Frag} {mg : Str → Option Value} {base : Heap} {x : Str} {st : Stmt} {N ps : List Str} {k : Nat} {T : TFN} {fb : SS} (t : Top K mg x st ps) (S : FnScope N ps (defScope st)) (mT : MonFN T)
    (hb : ∀ (f : Addr) (cdv : Value) (A : Around) (outer : List Env) (s : Shared) (H : Hp) (E : XK), Room k (A.deeper (envOfC x (defScope st) s.heap.objs.size f cdv)) → PDSs (cxOf CX0 P w K mg base N x (defScope st) f cdv A outer s H E).nox WZ (defBody st) fb)
    (hT : ∀ ss μ (Q : List D → Mu → Prop), ss.length = ps.length → T ss μ Q → fb (startR N ss) μ (kN μ.length Q)) : DefOkN P w K mg base x (k + 1) ps.length T := by
  obtain ⟨f, fd, F, b, g⟩ := t
  refine ⟨mT, f, fd, ps, g, F.kp, b, F.ok S (fun vs H Q E h => ?_) (fun cdv A outer s H vs Q E hr h => ?_)⟩
  · obtain ⟨ad, ss, μ, r, m, l, _⟩ := h
    rw [rpSA_len r]
    exact l
  · obtain ⟨ad, ss, μ, r, m, l, q⟩ := h
    have B := hb f cdv A outer s H E hr
    refine ⟨_, B.run, ad, startR N ss, μ, sim_start m r, B.mo _ _ _ _ ?_ (hT ss μ _ l q)⟩
    have hl := m.len
    refine ⟨fun ρ' μ' q => q.elim, fun y μ' q v H' ad' t m' rv => ?_, fun _ _ q => q.elim, fun _ _ q => q.elim, fun _ _ _ q => q.elim⟩
    obtain ⟨j, ds, rfl, hj, e2, q⟩ := q
    obtain ⟨a, h1, rfl⟩ := rv
    obtain ⟨c, xs, q1, q2, q3⟩ := m'.at_ j ds e2
    rw [h1] at q1
    cases q1
    have hin : a ∈ ad' := List.mem_of_getElem? h1
    have hna : a ∉ ad := fun z => by
      obtain ⟨t', e3⟩ := t.pre
      subst e3
      have hnd := m'.nd
      obtain ⟨l1, e4⟩ := List.getElem?_eq_some_iff.mp h1
      obtain ⟨i, hi, e5⟩ := List.getElem_of_mem z
      have : (ad ++ t')[i]'(by rw [List.length_append]; omega) = a := by rw [List.getElem_append_left hi]; exact e5
      have hij := (List.getElem_inj hnd).mp (this.trans e4.symm)
      omega
    have hfree : H a = none := by
      cases e : H a with
      | none => rfl
      | some o => exact absurd hin (t.keep a o hna e).1
    obtain ⟨m2, _⟩ := m'.take t.pre
    rw [hl] at m2
    have sub : ∀ b, b ∈ ad ++ [a] → b ∈ ad' := fun b hb => by
      rcases List.mem_append.mp hb with hb | hb
      · exact t.pre.subset hb
      · rw [List.mem_singleton] at hb; rw [hb]; exact hin
    have sm : Same (hide ad' H') (hide (ad ++ [a]) H') := fun b o e => by
      obtain ⟨h, e1⟩ := hide_some e
      rw [hide_out fun q => h (sub b q)]
      exact e1
    refine q a H' hfree ⟨List.prefix_append _ _, fun b o hb e => ⟨fun z => ?_, (t.keep b o hb e).2⟩⟩ ⟨?_, ?_, fun i es q => ?_⟩
    · exact (t.keep b o hb e).1 (sub b z)
    · have := m2.len
      rw [List.length_append, List.length_append, this]
      rfl
    · rw [List.nodup_append]
      exact ⟨m2.nd, by simp, fun x hx y hy e => by rw [List.mem_singleton] at hy; subst hy; subst e; exact hna hx⟩
    · have h2 := m2.len
      by_cases c : i < (μ'.take μ.length).length
      · rw [List.getElem?_append_left c] at q
        rw [List.getElem?_take] at q
        split at q
        · obtain ⟨b, ys, w1, w2, w3⟩ := m'.at_ i es q
          have hi : i < ad.length := by omega
          refine ⟨b, ys, ?_, w2, w3.mono sm⟩
          obtain ⟨t', e3⟩ := t.pre
          subst e3
          rw [List.getElem?_append_left hi] at w1 ⊢
          exact w1
        · cases q
      · rw [List.getElem?_append_right (by omega)] at q
        have hi : i - (μ'.take μ.length).length = 0 := by
          cases z : i - (μ'.take μ.length).length with
          | zero => rfl
          | succ z' => rw [z] at q; cases q
        rw [hi] at q
        cases q
        have hil : i = ad.length := by omega
        refine ⟨a, xs, ?_, q2, q3.mono sm⟩
        rw [hil, List.getElem?_append_right (Nat.le_refl _), Nat.sub_self]
        rfl
section
variable {X : Cx} {W : WX} {pos p : Pos}
def fRetN (f : SN) : SS := fun ρ μ k => f ρ μ fun ds μ1 => k.rt (.m μ1.length) (μ1 ++ [ds])
theorem pd_retN {e : Expr} {f : SN} (h : PDN X e f) : PDS X W (.Return (some e) pos) (fRetN f) := by
  refine ⟨fun ρ μ k k' l q => h.mo ρ μ _ _ (fun ds μ1 q => l.rt _ _ q) q, (ps_ret h.run).of fun Dn σ H q => ?_⟩
  obtain ⟨ad, ρ, μ, s, q⟩ := q
  exact ⟨ad, ρ, μ, s, h.mo ρ μ _ _ (fun ds μ1 q a H' _ t m => q (.ref a) H' (ad ++ [a]) t m ⟨a, last_ad m, rfl⟩) q⟩
def fCallN (n : Nat) (T : TFN) (f : SA) : SN := fun ρ μ P => f ρ μ fun ss μ1 => ss.length = n ∧ T ss μ1 P
theorem pdn_callN {x : Str} {k n : Nat} {T : TFN} {e : Expr} {es : List Expr} {f : SA} (C : DefOkN X.prog X.w X.K X.mg X.base x k n T) (hr : Room k X.A) (hg : Gl X x) (h : PDA X (e :: es) f)
    (hdb : (x == ("__debug__" : Str)) = false := by decide) (he : starEach (e :: es) X.env = (false, eval e X.env) :: starEach es X.env := by rfl) (hpl : (backTo pos (starEach es X.env)).any (·.1) = false := by rfl) :
    PDN X (.Call (.Name x p) (e :: es) [] pos) (fCallN n T f) := by
  obtain ⟨mT, fa, fd, ps, g, kp, b, F⟩ := C
  refine ⟨fun ρ μ P P' k q => h.mo ρ μ _ _ (fun ss μ1 q => ⟨q.1, mT ss μ1 _ _ k q.2⟩) q, (pe_call (E := E0) F hr hg g kp b .nil pass0 h.run hdb he hpl).of fun σ H Q q => ?_⟩
  obtain ⟨ad, ρ, μ, s, q⟩ := q
  refine ⟨ad, ρ, μ, s, h.mo ρ μ _ _ (fun ss μ1 q vs H1 t1 m1 r1 => ?_) q⟩
  show spN n X.K T (vs ++ []) H1 Q E0
  rw [List.append_nil]
  exact ⟨ad, ss, μ1, r1, m1, q.1, mT ss μ1 _ _ (fun ds μ2 q a H2 ha t2 m2 => q a H2 (free_back s.m t1 m1 a ha) (t1.trans t2) m2) q.2⟩
/-- f(a new list), which tells a truth -/
def fCallOn (T : TF) (f : SN) : SE := fun ρ μ P => f ρ μ fun ds μ1 => T [.m 0] [ds] fun d _ => ∃ b, d = .bl b ∧ P (.d (.bl b)) μ1
theorem pd_callOn {x : Str} {k : Nat} {T : TF} {e : Expr} {f : SN} (C : DefOkG X.prog X.w X.K X.mg X.base x k 1 T) (hgd : X.A.guards = some []) (hr : Room k X.A) (hg : Gl X x) (h : PDN X e f)
    (hdb : (x == ("__debug__" : Str)) = false := by decide) (he : starEach [e] X.env = (false, eval e X.env) :: starEach [] X.env := by rfl) (hpl : (backTo pos (starEach [] X.env)).any (·.1) = false := by rfl) :
    PD X (.Call (.Name x p) [e] [] pos) (fCallOn T f) := by
  obtain ⟨mT, fa, fd, ps, g, kp, b, F⟩ := C
  refine ⟨fun ρ μ P P' k q => h.mo ρ μ _ _ (fun ds μ1 q => mT _ _ _ _ (fun d μ2 ⟨b, e, q⟩ => ⟨b, e, k _ _ q⟩) q) q, (DG.pe_go F hgd hr hg g kp b (pa_cons h.run pa_nil he) hdb he hpl).of fun σ H Q q => ?_⟩
  obtain ⟨ad, ρ, μ, s, q⟩ := q
  refine ⟨ad, ρ, μ, s, h.mo ρ μ _ _ (fun ds μ1 q a H' ha t m => ?_) q⟩
  have hlast : (μ1 ++ [ds])[μ1.length]? = some ds := by rw [List.getElem?_append_right (Nat.le_refl _), Nat.sub_self]; rfl
  obtain ⟨a2, xs, g1, g2, g3⟩ := m.at_ _ _ hlast
  rw [last_ad m] at g1
  cases g1
  obtain ⟨mm, _, hna⟩ := m.last
  have sm1 : Same (hide (ad ++ [a]) H') (hide [a] H') := fun b o e => by
    obtain ⟨h, e1⟩ := hide_some e
    rw [hide_out fun q => h (List.mem_append_right _ q)]
    exact e1
  have m1 : RpM X.K H' [a] [ds] := ⟨rfl, by simp, fun j es q => by
    cases j with
    | zero => cases q; exact ⟨a, xs, rfl, g2, g3.mono sm1⟩
    | succ j => cases q⟩
  show spT 1 X.K T ([V.ref a] ++ []) H' Q E0
  refine ⟨[a], [.m 0], [ds], .cons ⟨a, rfl, rfl⟩ .nil, m1, rfl, mT _ _ _ _ (fun d μ2 ⟨b, e, q⟩ v H2 t2 m2 r2 => ?_) q⟩
  subst e
  cases r2
  have keep : ∀ c o, c ∉ ad ++ [a] → H' c = some o → H2 c = some o := fun c o hc e => (t2.keep c o (fun z => hc (List.mem_append_right _ z)) e).2
  refine q (.bl b) H2 ⟨List.prefix_refl _, fun c o hc e => ?_⟩ ⟨mm.len, mm.nd, fun j es q => ?_⟩ (.bl b)
  · obtain ⟨h1, h2⟩ := t.keep c o hc e
    exact ⟨hc, keep c o h1 h2⟩
  · have hj : j < μ1.length := (List.getElem?_eq_some_iff.mp q).1
    obtain ⟨c, ys, w1, w2, w3⟩ := m.at_ j es (by rw [List.getElem?_append_left hj]; exact q)
    have hlen := mm.len
    rw [List.getElem?_append_left (by omega)] at w1
    have hca : c ≠ a := fun z => hna (z ▸ List.mem_of_getElem? w1)
    refine ⟨c, ys, w1, (t2.keep c _ (fun z => hca (List.mem_singleton.mp z)) w2).2, w3.mono fun d o e => ?_⟩
    obtain ⟨h, e1⟩ := hide_some e
    rw [hide_out fun z => h (List.mem_append_left _ z)]
    exact keep d o h e1
end
end DV

/-! part DE -/
set_option Elab.async false
set_option linter.all false
set_option maxRecDepth 100000
set_option maxHeartbeats 1000000
set_option autoImplicit false
namespace DE
open PySem PySem.Spec PyProof.Rows L2 DV
/-- the call of the law's def from its caller, where nothing is being shown -/
theorem go_law {P : Program} {w : World} {K : PySem.W.Frag} {mg mb : Str → Option Value} {k : Nat} {fa a : Addr} {fd : FuncData} {x : Str} {sp : Sp} {s1 : Shared} {vs : List Value} {ns : List Int}
    (inK : K.In s1.heap) (glob : s1.heap.Ns mainGlobals mg) (bns : s1.heap.Ns builtinsNs mb) (boot : ∀ y : Str, y ≠ "__name__" → mb y = bootBuiltins y) (lim : s1.heap.NoLimit) (gens : s1.gens = #[])
    (at_ : s1.heap.get? a = some { cls := .type "list", data := .seq vs.toArray }) (numb : IntsAre vs ns) (small : ns.length ≤ sizeLine) (room : Room k callerA)
    (F : ∀ base : Heap, K.In base → base.Ns mainGlobals mg → DG.GOk P w K mg base k fa fd [x] sp) (bind : ∀ (s : Shared) (u : Value), BindsTo s fd ⟨[u], []⟩ [(x, u)])
    (keeps : ∀ T : Hp, Only T → SqL K T a (ns.map V.int) → sp [.ref a] T (fun v _ => v = .bl true) fun _ _ _ => False) :
    codeAny (model P w) callerA (.call (.ref fa) ⟨[.ref a], []⟩) (fun r s' => r = .ok (.ret (.bool true)) ∧ OldK s1.heap s'.heap ∧ s'.os = s1.os ∧ AllBare s'.gens) s1 := by
  have rel := vals_ints numb
  have lens := numb.length
  have main : ∀ T : Hp, Only T → SqL K T a (ns.map V.int) → HOk P w T s1.heap → (∀ b, T b ≠ none → b = a) → (T a ≠ none → K.lookup a = none) →
      codeAny (model P w) callerA (.call (.ref fa) ⟨[.ref a], []⟩) (fun r s' => r = .ok (.ret (.bool true)) ∧ OldK s1.heap s'.heap ∧ s'.os = s1.os ∧ AllBare s'.gens) s1 := by
    intro T only seq ok just notK
    have below : ∀ {b : Addr} {o : Obj}, s1.heap.get? b = some o → T b = none → (hidT s1.heap T).get? b = some o := fun q z => hidT_get q z
    have nodict : ∀ {b : Addr} {o : Obj} {es : Array DictEntry} {ep : Nat}, s1.heap.get? b = some o → o.data = .dict es ep → T b = none := fun {b o es ep} q d => by
      cases z : T b with
      | none => rfl
      | some u =>
        obtain rfl : b = a := just b (by rw [z]; simp)
        rw [at_] at q
        cases q
        exact nomatch (show Data.seq vs.toArray _ = Data.dict es ep from d)
    have nsT : ∀ {b : Addr} {m : Str → Option Value}, s1.heap.Ns b m → (hidT s1.heap T).Ns b m := fun {b m} ⟨o, es, ep, q, d, r⟩ => ⟨o, es, ep, below q (nodict q d), d, r⟩
    have kT : K.In (hidT s1.heap T) := fun b o q => below (inK b o q) (by
      cases z : T b with
      | none => rfl
      | some u =>
        obtain rfl : b = a := just b (by rw [z]; simp)
        rw [notK (by rw [z]; simp)] at q
        cases q)
    obtain ⟨mc, c1, c2⟩ := lim
    have e0 : Env0 P w K mg (hidT s1.heap T) callerA [] s1 T :=
      ⟨rfl, ⟨kT, nsT glob, ⟨mb, nsT bns, boot⟩, ⟨mc, nsT c1, c2⟩⟩, fun b o q => of_hidT q, Nat.le_of_eq (hidT_size _ _), trivial, fun b hb => (List.not_mem_nil hb).elim, ok, .of_eq gens⟩
    refine codeAny_mono ((F _ kT (nsT glob)).go callerA [] s1 T ⟨[.ref a], []⟩ [.ref a] [.ref a] _ _ rfl room e0 (bind s1 (.ref a)) (.cons rfl .nil) (keeps T only seq)) fun r s' h => ?_
    match r, h with
    | .error e, h => exact False.elim h
    | .ok .next, h => exact False.elim h
    | .ok .brk, h => exact False.elim h
    | .ok .cont, h => exact False.elim h
    | .ok (.ret u), ⟨v, T', os, bare, un, ok', rv, q⟩ =>
      have q : v = .bl true := q
      subst q
      obtain rfl : u = Value.bool true := rv
      refine ⟨rfl, OldK.of_keep fun b o e => ?_, os, bare⟩
      cases z : T b with
      | none => exact un.keep b o e z (fun y => (List.not_mem_nil y).elim) (by simp)
      | some u =>
        rcases only b with y | ⟨ob, xs, y⟩
        · rw [z] at y
          cases y
        · have y2 := un.frzs b ob _ y
          have e1 := (ok b _ y).1
          have e2 := (ok' b _ y2).1
          rw [e] at e1
          cases e1
          exact e2
  cases hk : K.lookup a with
  | some o =>
    have q := inK a o hk
    rw [at_] at q
    cases q
    exact main (fun _ => none) (fun _ => .inl rfl) (.inr ⟨_, vs.toArray, _, hk, rfl, rfl, rfl, by rw [List.size_toArray, lens]; exact small, by simpa using rel⟩) (fun b u z => nomatch (show (none : Option HO) = some u from z)) (fun b z => (z rfl).elim) fun z => (z rfl).elim
  | none =>
    have here : (fun b => if b = a then some (HO.frz { cls := .type "list", data := .seq vs.toArray } (.lst (ns.map V.int))) else none : Hp) a = some (.frz { cls := .type "list", data := .seq vs.toArray } (.lst (ns.map V.int))) := if_pos rfl
    refine main (fun b => if b = a then some (.frz { cls := .type "list", data := .seq vs.toArray } (.lst (ns.map V.int))) else none) (fun b => ?_) (.inl (.inr ⟨{ cls := .type "list", data := .seq vs.toArray }, here⟩)) (fun b u z => ?_) (fun b z => ?_) fun _ => hk
    · by_cases hb : b = a
      · subst hb
        exact .inr ⟨_, _, here⟩
      · exact .inl (if_neg hb)
    · by_cases hb : b = a
      · subst hb
        have z2 := here.symm.trans z
        cases z2
        exact ⟨at_, by rw [List.length_map]; exact small, vs, _, rel, at_⟩
      · exact nomatch (if_neg hb).symm.trans z
    · exact Classical.byContradiction fun hb => z (if_neg hb)
theorem go_walk {l : PySem.W.OpenLaw} {n k : Nat} {q : Program} {loose : List Str} {XP : (Str → Option Value) → Heap → Prop} {YP : World → Heap → Prop} {d : DefRec} {K : Params → PySem.W.Frag} {sp : PySem.W.Frag → Sp} {x : Str}
    (hn : l.most = some n) (hn2 : n ≤ sizeLine) (hdf : d.params.defaults = []) (room : Room k callerA) (hY : ∀ (w : World) (h : Heap), YP w h → (K w.params).In h)
    (F : ∀ (w : World) (mg : Str → Option Value) (fa : Addr) (h : Heap), (K w.params).In h → h.Ns mainGlobals mg → mg d.name = some (.ref fa) →
      ∃ fd : FuncData, (∀ (s : Shared) (u : Value), BindsTo s fd ⟨[u], []⟩ [(x, u)]) ∧ ∀ base : Heap, (K w.params).In base → base.Ns mainGlobals mg → DG.GOk l.prog w (K w.params) mg base k fa fd [x] (sp (K w.params)))
    (keeps : ∀ (K : PySem.W.Frag) (T : Hp) (a : Addr) (ns : List Int), ns.length ≤ n → Only T → SqL K T a (ns.map V.int) → sp K [.ref a] T (fun v _ => v = .bl true) fun _ _ _ => False) :
    PySem.W.WalkO q loose XP YP l.row.toRowW d [] (fun f vs => PySem.call f vs) := by
  refine Att.attach_call hn hdf fun w s0 s1 mg mb fa o pm cd doc a vs ns G Y ho hd hcd hmg hobj hints hlen hgens => ?_
  obtain ⟨fd, hb, hF⟩ := F w mg fa _ (hY w _ Y) G.T.g hmg
  exact go_law (hY w _ Y) G.T.g G.T.b G.T.builtins G.T.nolimit hgens hobj hints (Nat.le_trans hlen hn2) room hF hb fun T only seq => keeps _ T a ns hlen only seq
end DE

/-! part K3h -/
set_option Elab.async false
set_option linter.all false
set_option maxRecDepth 100000
set_option autoImplicit false
namespace K3
open PySem PySem.Spec L2 DV
def topS (i : Nat) : Stmt := PySem.Challenge.pw_persuasion_k03_whole_pays_best_actions_v.main.body.getD i (.Pass ⟨0, 0, 0, 0⟩)
abbrev s_is_whole : Stmt := topS 10
abbrev N_is_whole : List Str := ["value"]
theorem sc_is_whole : FnScope N_is_whole ["value"] (defScope s_is_whole) := ⟨rfl, rfl, rfl, by decide +kernel, rfl, by decide +kernel, by decide +kernel⟩
abbrev s_is_index : Stmt := topS 11
abbrev N_is_index : List Str := ["value", "many"]
theorem sc_is_index : FnScope N_is_index ["value", "many"] (defScope s_is_index) := ⟨rfl, rfl, rfl, by decide +kernel, rfl, by decide +kernel, by decide +kernel⟩
abbrev s_is_fraction : Stmt := topS 12
abbrev N_is_fraction : List Str := ["value", "above", "below"]
theorem sc_is_fraction : FnScope N_is_fraction ["value"] (defScope s_is_fraction) := ⟨rfl, rfl, rfl, by decide +kernel, rfl, by decide +kernel, by decide +kernel⟩
abbrev s_is_row : Stmt := topS 13
abbrev N_is_row : List Str := ["value", "many", "number"]
theorem sc_is_row : FnScope N_is_row ["value", "many"] (defScope s_is_row) := ⟨rfl, rfl, rfl, by decide +kernel, rfl, by decide +kernel, by decide +kernel⟩
abbrev s_is_row_of_chances : Stmt := topS 14
abbrev N_is_row_of_chances : List Str := ["value", "many", "above", "_"]
theorem sc_is_row_of_chances : FnScope N_is_row_of_chances ["value", "many"] (defScope s_is_row_of_chances) := ⟨rfl, rfl, rfl, by decide +kernel, rfl, by decide +kernel, by decide +kernel⟩
abbrev s_lowest : Stmt := topS 15
abbrev N_lowest : List Str := ["above", "below", "shared"]
theorem sc_lowest : FnScope N_lowest ["above", "below"] (defScope s_lowest) := ⟨rfl, rfl, rfl, by decide +kernel, rfl, by decide +kernel, by decide +kernel⟩
abbrev s_row_product : Stmt := topS 16
abbrev N_row_product : List Str := ["row", "other", "above", "below", "n", "m", "k", "d"]
theorem sc_row_product : FnScope N_row_product ["row", "other"] (defScope s_row_product) := ⟨rfl, rfl, rfl, by decide +kernel, rfl, by decide +kernel, by decide +kernel⟩
abbrev s_row_sum : Stmt := topS 17
abbrev N_row_sum : List Str := ["row"]
theorem sc_row_sum : FnScope N_row_sum ["row"] (defScope s_row_sum) := ⟨rfl, rfl, rfl, by decide +kernel, rfl, by decide +kernel, by decide +kernel⟩
abbrev s_unit_row : Stmt := topS 18
abbrev N_unit_row : List Str := ["k", "many", "j"]
theorem sc_unit_row : FnScope N_unit_row ["k", "many"] (defScope s_unit_row) := ⟨rfl, rfl, rfl, by decide +kernel, rfl, by decide +kernel, by decide +kernel⟩
abbrev s_is_less : Stmt := topS 19
abbrev N_is_less : List Str := ["left", "right"]
theorem sc_is_less : FnScope N_is_less ["left", "right"] (defScope s_is_less) := ⟨rfl, rfl, rfl, by decide +kernel, rfl, by decide +kernel, by decide +kernel⟩
abbrev s_greatest : Stmt := topS 20
abbrev N_greatest : List Str := ["row", "most", "number"]
theorem sc_greatest : FnScope N_greatest ["row"] (defScope s_greatest) := ⟨rfl, rfl, rfl, by decide +kernel, rfl, by decide +kernel, by decide +kernel⟩
abbrev s_is_setting : Stmt := topS 22
abbrev N_is_setting : List Str := ["value", "pays", "worths", "many", "states"]
theorem sc_is_setting : FnScope N_is_setting ["value"] (defScope s_is_setting) := ⟨rfl, rfl, rfl, by decide +kernel, rfl, by decide +kernel, by decide +kernel⟩
abbrev s_is_table : Stmt := topS 23
abbrev N_is_table : List Str := ["value", "many", "states", "row"]
theorem sc_is_table : FnScope N_is_table ["value", "many", "states"] (defScope s_is_table) := ⟨rfl, rfl, rfl, by decide +kernel, rfl, by decide +kernel, by decide +kernel⟩
abbrev s_state_count : Stmt := topS 24
abbrev N_state_count : List Str := ["setting"]
theorem sc_state_count : FnScope N_state_count ["setting"] (defScope s_state_count) := ⟨rfl, rfl, rfl, by decide +kernel, rfl, by decide +kernel, by decide +kernel⟩
abbrev s_action_count : Stmt := topS 25
abbrev N_action_count : List Str := ["setting"]
theorem sc_action_count : FnScope N_action_count ["setting"] (defScope s_action_count) := ⟨rfl, rfl, rfl, by decide +kernel, rfl, by decide +kernel, by decide +kernel⟩
abbrev s_check_setting : Stmt := topS 26
abbrev N_check_setting : List Str := ["setting"]
theorem sc_check_setting : FnScope N_check_setting ["setting"] (defScope s_check_setting) := ⟨rfl, rfl, rfl, by decide +kernel, rfl, by decide +kernel, by decide +kernel⟩
abbrev s_check_belief : Stmt := topS 27
abbrev N_check_belief : List Str := ["setting", "belief"]
theorem sc_check_belief : FnScope N_check_belief ["setting", "belief"] (defScope s_check_belief) := ⟨rfl, rfl, rfl, by decide +kernel, rfl, by decide +kernel, by decide +kernel⟩
abbrev s_check_action : Stmt := topS 28
abbrev N_check_action : List Str := ["setting", "action"]
theorem sc_check_action : FnScope N_check_action ["setting", "action"] (defScope s_check_action) := ⟨rfl, rfl, rfl, by decide +kernel, rfl, by decide +kernel, by decide +kernel⟩
abbrev s_check_state : Stmt := topS 29
abbrev N_check_state : List Str := ["setting", "state"]
theorem sc_check_state : FnScope N_check_state ["setting", "state"] (defScope s_check_state) := ⟨rfl, rfl, rfl, by decide +kernel, rfl, by decide +kernel, by decide +kernel⟩
abbrev s_sure : Stmt := topS 30
abbrev N_sure : List Str := ["setting", "state"]
theorem sc_sure : FnScope N_sure ["setting", "state"] (defScope s_sure) := ⟨rfl, rfl, rfl, by decide +kernel, rfl, by decide +kernel, by decide +kernel⟩
abbrev s_pay : Stmt := topS 31
abbrev N_pay : List Str := ["setting", "action", "belief"]
theorem sc_pay : FnScope N_pay ["setting", "action", "belief"] (defScope s_pay) := ⟨rfl, rfl, rfl, by decide +kernel, rfl, by decide +kernel, by decide +kernel⟩
abbrev s_worth : Stmt := topS 32
abbrev N_worth : List Str := ["setting", "action", "belief"]
theorem sc_worth : FnScope N_worth ["setting", "action", "belief"] (defScope s_worth) := ⟨rfl, rfl, rfl, by decide +kernel, rfl, by decide +kernel, by decide +kernel⟩
abbrev s_best_actions : Stmt := topS 33
abbrev N_best_actions : List Str := ["setting", "belief"]
theorem sc_best_actions : FnScope N_best_actions ["setting", "belief"] (defScope s_best_actions) := ⟨rfl, rfl, rfl, by decide +kernel, rfl, by decide +kernel, by decide +kernel⟩
abbrev s_best_actions_at : Stmt := topS 34
abbrev N_best_actions_at : List Str := ["setting", "belief", "paid", "most", "row", "action", "number"]
theorem sc_best_actions_at : FnScope N_best_actions_at ["setting", "belief"] (defScope s_best_actions_at) := ⟨rfl, rfl, rfl, by decide +kernel, rfl, by decide +kernel, by decide +kernel⟩
abbrev s_choice : Stmt := topS 35
abbrev N_choice : List Str := ["setting", "belief"]
theorem sc_choice : FnScope N_choice ["setting", "belief"] (defScope s_choice) := ⟨rfl, rfl, rfl, by decide +kernel, rfl, by decide +kernel, by decide +kernel⟩
abbrev s_choice_at : Stmt := topS 36
abbrev N_choice_at : List Str := ["setting", "belief", "most", "worths", "best", "action"]
theorem sc_choice_at : FnScope N_choice_at ["setting", "belief"] (defScope s_choice_at) := ⟨rfl, rfl, rfl, by decide +kernel, rfl, by decide +kernel, by decide +kernel⟩
abbrev s_value : Stmt := topS 37
abbrev N_value : List Str := ["setting", "belief"]
theorem sc_value : FnScope N_value ["setting", "belief"] (defScope s_value) := ⟨rfl, rfl, rfl, by decide +kernel, rfl, by decide +kernel, by decide +kernel⟩
abbrev s_value_at : Stmt := topS 38
abbrev N_value_at : List Str := ["setting", "belief", "worths", "best", "action"]
theorem sc_value_at : FnScope N_value_at ["setting", "belief"] (defScope s_value_at) := ⟨rfl, rfl, rfl, by decide +kernel, rfl, by decide +kernel, by decide +kernel⟩
abbrev s__law_well : Stmt := topS 40
abbrev N__law_well : List Str := ["_law_script", "_law_lap", "_law_mixed", "_law_cell", "_law_own"]
theorem sc__law_well : FnScope N__law_well ["_law_script", "_law_lap"] (defScope s__law_well) := ⟨rfl, rfl, rfl, by decide +kernel, rfl, by decide +kernel, by decide +kernel⟩
abbrev s__law_draw : Stmt := topS 41
abbrev N__law_draw : List Str := ["_law_well_here", "_law_few", "_law_figure", "_law_mixed"]
theorem sc__law_draw : FnScope N__law_draw ["_law_well_here", "_law_few"] (defScope s__law_draw) := ⟨rfl, rfl, rfl, by decide +kernel, rfl, by decide +kernel, by decide +kernel⟩
abbrev s__law_one : Stmt := topS 42
abbrev N__law_one : List Str := ["_law_well_here", "_law_some"]
theorem sc__law_one : FnScope N__law_one ["_law_well_here", "_law_some"] (defScope s__law_one) := ⟨rfl, rfl, rfl, by decide +kernel, rfl, by decide +kernel, by decide +kernel⟩
abbrev s__law_lean : Stmt := topS 43
abbrev N__law_lean : List Str := ["_law_top", "_law_base", "_law_far", "_law_rest"]
theorem sc__law_lean : FnScope N__law_lean ["_law_top", "_law_base"] (defScope s__law_lean) := ⟨rfl, rfl, rfl, by decide +kernel, rfl, by decide +kernel, by decide +kernel⟩
abbrev s__law_plus : Stmt := topS 44
abbrev N__law_plus : List Str := ["_law_x", "_law_y"]
theorem sc__law_plus : FnScope N__law_plus ["_law_x", "_law_y"] (defScope s__law_plus) := ⟨rfl, rfl, rfl, by decide +kernel, rfl, by decide +kernel, by decide +kernel⟩
abbrev s__law_times : Stmt := topS 45
abbrev N__law_times : List Str := ["_law_x", "_law_y"]
theorem sc__law_times : FnScope N__law_times ["_law_x", "_law_y"] (defScope s__law_times) := ⟨rfl, rfl, rfl, by decide +kernel, rfl, by decide +kernel, by decide +kernel⟩
abbrev s__law_below : Stmt := topS 46
abbrev N__law_below : List Str := ["_law_x", "_law_y"]
theorem sc__law_below : FnScope N__law_below ["_law_x", "_law_y"] (defScope s__law_below) := ⟨rfl, rfl, rfl, by decide +kernel, rfl, by decide +kernel, by decide +kernel⟩
abbrev s__law_dot : Stmt := topS 47
abbrev N__law_dot : List Str := ["_law_one_here", "_law_two", "_law_found", "_law_x", "_law_y"]
theorem sc__law_dot : FnScope N__law_dot ["_law_one_here", "_law_two"] (defScope s__law_dot) := ⟨rfl, rfl, rfl, by decide +kernel, rfl, by decide +kernel, by decide +kernel⟩
abbrev s__law_minus : Stmt := topS 48
abbrev N__law_minus : List Str := ["_law_x", "_law_y"]
theorem sc__law_minus : FnScope N__law_minus ["_law_x", "_law_y"] (defScope s__law_minus) := ⟨rfl, rfl, rfl, by decide +kernel, rfl, by decide +kernel, by decide +kernel⟩
abbrev s__law_over : Stmt := topS 49
abbrev N__law_over : List Str := ["_law_x", "_law_y"]
theorem sc__law_over : FnScope N__law_over ["_law_x", "_law_y"] (defScope s__law_over) := ⟨rfl, rfl, rfl, by decide +kernel, rfl, by decide +kernel, by decide +kernel⟩
abbrev s__law_chance : Stmt := topS 50
abbrev N__law_chance : List Str := ["_law_well_here", "_law_n", "_law_parts", "_law_at", "_law_part"]
theorem sc__law_chance : FnScope N__law_chance ["_law_well_here", "_law_n"] (defScope s__law_chance) := ⟨rfl, rfl, rfl, by decide +kernel, rfl, by decide +kernel, by decide +kernel⟩
abbrev s__law_number : Stmt := topS 51
abbrev N__law_number : List Str := ["_law_well_here", "_law_way"]
theorem sc__law_number : FnScope N__law_number ["_law_well_here"] (defScope s__law_number) := ⟨rfl, rfl, rfl, by decide +kernel, rfl, by decide +kernel, by decide +kernel⟩
abbrev s__law_row : Stmt := topS 52
abbrev N__law_row : List Str := ["_law_well_here", "_law_n", "_law_found", "_law_at"]
theorem sc__law_row : FnScope N__law_row ["_law_well_here", "_law_n"] (defScope s__law_row) := ⟨rfl, rfl, rfl, by decide +kernel, rfl, by decide +kernel, by decide +kernel⟩
abbrev s__law_sizes : Stmt := topS 53
abbrev N__law_sizes : List Str := ["_law_well_here"]
theorem sc__law_sizes : FnScope N__law_sizes ["_law_well_here"] (defScope s__law_sizes) := ⟨rfl, rfl, rfl, by decide +kernel, rfl, by decide +kernel, by decide +kernel⟩
abbrev s__law_pays : Stmt := topS 54
abbrev N__law_pays : List Str := ["_law_well_here", "_law_n", "_law_m", "_law_rows", "_law_is_near", "_law_act", "_law_row_here", "_law_spot", "_law_turn", "_law_way", "_law_one_here", "_law_two", "_law_less", "_law_s", "_law_x", "_law_y"]
theorem sc__law_pays : FnScope N__law_pays ["_law_well_here", "_law_n", "_law_m"] (defScope s__law_pays) := ⟨rfl, rfl, rfl, by decide +kernel, rfl, by decide +kernel, by decide +kernel⟩
abbrev s__law_best : Stmt := topS 55
abbrev N__law_best : List Str := ["_law_pays_here", "_law_chance_here", "_law_sums", "_law_row_here", "_law_act", "_law_x"]
theorem sc__law_best : FnScope N__law_best ["_law_pays_here", "_law_chance_here"] (defScope s__law_best) := ⟨rfl, rfl, rfl, by decide +kernel, rfl, by decide +kernel, by decide +kernel⟩
abbrev s__law_choice : Stmt := topS 56
abbrev N__law_choice : List Str := ["_law_world_here", "_law_chance_here", "_law_best_here", "_law_sums", "_law_at", "_law_act", "_law_x"]
theorem sc__law_choice : FnScope N__law_choice ["_law_world_here", "_law_chance_here"] (defScope s__law_choice) := ⟨rfl, rfl, rfl, by decide +kernel, rfl, by decide +kernel, by decide +kernel⟩
abbrev s__law_tied : Stmt := topS 57
abbrev N__law_tied : List Str := ["_law_well_here", "_law_pays_here", "_law_chance_here", "_law_one_here", "_law_two", "_law_s", "_law_more", "_law_row_here", "_law_k"]
theorem sc__law_tied : FnScope N__law_tied ["_law_well_here", "_law_pays_here", "_law_chance_here"] (defScope s__law_tied) := ⟨rfl, rfl, rfl, by decide +kernel, rfl, by decide +kernel, by decide +kernel⟩
abbrev s__law_world : Stmt := topS 58
abbrev N__law_world : List Str := ["_law_well_here", "_law_n", "_law_m", "_law_pays_here", "_law_chance_here", "_law_worths", "_law_turn", "_law_act", "_law_way"]
theorem sc__law_world : FnScope N__law_world ["_law_well_here"] (defScope s__law_world) := ⟨rfl, rfl, rfl, by decide +kernel, rfl, by decide +kernel, by decide +kernel⟩
abbrev s__law_moved : Stmt := topS 59
abbrev N__law_moved : List Str := ["_law_well_here", "_law_world_here", "_law_row_here", "_law_by", "_law_rows", "_law_each", "_law_x", "_law_y"]
theorem sc__law_moved : FnScope N__law_moved ["_law_well_here", "_law_world_here"] (defScope s__law_moved) := ⟨rfl, rfl, rfl, by decide +kernel, rfl, by decide +kernel, by decide +kernel⟩
abbrev s__law_there : Stmt := topS 60
abbrev N__law_there : List Str := ["_law_world_here", "_law_chance_here", "_law_best_here", "_law_due", "_law_acts", "_law_told", "_law_act", "_law_row_here"]
theorem sc__law_there : FnScope N__law_there ["_law_world_here", "_law_chance_here"] (defScope s__law_there) := ⟨rfl, rfl, rfl, by decide +kernel, rfl, by decide +kernel, by decide +kernel⟩
abbrev s__law_right : Stmt := topS 61
abbrev N__law_right : List Str := ["_law_well_here", "_law_world_here", "_law_chance_here", "_law_n", "_law_m", "_law_s", "_law_spot", "_law_best_here", "_law_due", "_law_moved_here", "_law_act", "_law_told", "_law_more", "_law_x", "_law_k"]
theorem sc__law_right : FnScope N__law_right ["_law_well_here"] (defScope s__law_right) := ⟨rfl, rfl, rfl, by decide +kernel, rfl, by decide +kernel, by decide +kernel⟩
abbrev s_law : Stmt := topS 62
abbrev N_law : List Str := ["_law_script", "_law_lap"]
theorem sc_law : FnScope N_law ["_law_script"] (defScope s_law) := ⟨rfl, rfl, rfl, by decide +kernel, rfl, by decide +kernel, by decide +kernel⟩
end K3

/-! part K3m -/
set_option Elab.async false
set_option linter.all false
set_option maxRecDepth 100000
set_option autoImplicit false
namespace K3
open PySem PySem.Spec L2 DV
/-! ### fractions -/
def frD (r : Rat) : D := .tup [.int r.num, .int (r.den : Int)]
theorem frD_inj {r s : Rat} : frD r = frD s ↔ r = s := by
  constructor
  · intro h
    injection h with h
    injection h with h1 h
    injection h with h2 h
    injection h1 with h1
    injection h2 with h2
    exact Rat.ext h1 (by omega)
  · rintro rfl; rfl
theorem low_div (a b : Int) (hb : 0 < b) : frD (Rat.divInt a b) = .tup [.int (a / ((Nat.gcd a.natAbs b.natAbs : Nat) : Int)), .int (b / ((Nat.gcd a.natAbs b.natAbs : Nat) : Int))] := by
  unfold frD
  rw [Rat.num_divInt, Rat.den_divInt, if_neg (by omega), Int.sign_eq_one_of_pos hb, Int.one_mul, Int.gcd_comm b a]
  have e : ((b.natAbs / a.gcd b : Nat) : Int) = b / ((a.gcd b : Nat) : Int) := by
    rw [Int.natCast_ediv, Int.natAbs_of_nonneg (by omega)]
  rw [e]
  rfl
/-- small enough for one operation more -/
def Sm (r : Rat) : Prop := r.den < 2 ^ 3000 ∧ r.num.natAbs < 2 ^ 3000
theorem log_lt {x n : Nat} (h : x < 2 ^ n) (h0 : 0 < n) : x.log2 < n := PySem.Flt.log2_lt_of h0 h
theorem mul_ok {i j : Int} {a b : Nat} (ha : i.natAbs < 2 ^ a) (hb : j.natAbs < 2 ^ b) (h : a + b ≤ 900000) : CMulW i j := by
  have x := log_lt (n := a + 1) (Nat.lt_of_lt_of_le ha (Nat.pow_le_pow_right (by decide) (by omega))) (by omega)
  have y := log_lt (n := b + 1) (Nat.lt_of_lt_of_le hb (Nat.pow_le_pow_right (by decide) (by omega))) (by omega)
  unfold CMulW
  omega
theorem div_ok {i j : Int} (h0 : 0 < j) (h : j.natAbs < 2 ^ 8000) : CDivW i j := ⟨h0, by have := log_lt h (by decide); omega⟩
theorem gcd_ok {a b : Int} (hb : 0 < b) (h : b.natAbs < 2 ^ 8000) (i : Int) : CDivW i ((Nat.gcd a.natAbs b.natAbs : Nat) : Int) := by
  have h1 : Nat.gcd a.natAbs b.natAbs ≤ b.natAbs := Nat.gcd_le_right _ (by omega)
  have h2 : 0 < Nat.gcd a.natAbs b.natAbs := Nat.gcd_pos_of_pos_right _ (by omega)
  exact div_ok (by omega) (by omega)
theorem pow_mul_lt {x y a b : Nat} (hx : x < 2 ^ a) (hy : y < 2 ^ b) : x * y < 2 ^ (a + b) := by
  rw [Nat.pow_add]
  exact Nat.mul_lt_mul'' hx hy
/-! ### comprehensions that change nothing -/
theorem lc_pure {α : Type} {g : SG} {tt : STe} {fe : SE} {ok : Mu → Prop} {ρ : Rho} (enc : α → D) (out : α → Option D) (hok : ∀ μ, ok μ) : ∀ (items : List α) (acc : List D) (μ : Mu) (P : List D → Mu → Prop),
    (∀ a ∈ items, ∀ (μ' : Mu) (P : S → Mu → Prop) (P2 : Mu → Prop), (match out a with | some d => P (.d d) μ' | none => P2 μ') → g (.d (enc a)) ρ μ' fun ρ1 μ1 => tt ρ1 μ1 fun b μ2 => if b = true then fe ρ1 μ2 P else P2 μ2) →
    acc.length + items.length ≤ 40000 → P (acc ++ items.filterMap out) μ → lcLoop g tt fe ok ρ (items.map enc) acc μ P
  | [], acc, μ, P, _, _, q => ⟨hok _, by simpa using q⟩
  | a :: r, acc, μ, P, h, hl, q => by
    refine ⟨hok _, by simp at hl; omega, h a (by simp) _ _ _ ?_⟩
    cases e : out a with
    | none =>
      refine ⟨by simp, ?_⟩
      rw [List.dropLast_concat]
      exact lc_pure enc out hok r acc μ P (fun b hb => h b (List.mem_cons_of_mem _ hb)) (by simp at hl; omega) (by simpa [e] using q)
    | some d =>
      refine ⟨d, rfl, by simp, ?_⟩
      rw [List.dropLast_concat]
      exact lc_pure enc out hok r (acc ++ [d]) μ P (fun b hb => h b (List.mem_cons_of_mem _ hb)) (by simp at hl ⊢; omega) (by simpa [e] using q)
/-! ### rows -/
def rowD (rs : List Rat) : D := .tup (rs.map frD)
def rowL (rs : List Rat) : D := .lst (rs.map frD)
def tabD (t : List (List Rat)) : D := .tup (t.map rowD)
def worldD (w : List (List Rat) × List (List Rat)) : D := .tup [tabD w.1, tabD w.2]
def dotR : List Rat → List Rat → Rat
  | x :: xs, y :: ys => x * y + dotR xs ys
  | _, _ => 0
def dp (rs : List Rat) : Nat := (rs.map fun r => r.den).foldr (· * ·) 1
/-- a row of a table -/
structure RB (rs : List Rat) : Prop where
  len : rs.length ≤ 4
  dpl : dp rs < 2 ^ 1600
  mg : ∀ r ∈ rs, r.num.natAbs < 2 ^ 150 * r.den
/-- a belief, or ones -/
structure CB (rs : List Rat) : Prop where
  len : rs.length ≤ 4
  dpl : dp rs < 2 ^ 100
  nn : ∀ r ∈ rs, 0 ≤ r.num ∧ r.num ≤ r.den
end K3

/-! part K3n -/
set_option Elab.async false
set_option linter.all false
set_option maxRecDepth 100000
set_option autoImplicit false
namespace K3
open PySem PySem.Spec L2 DV
/-! ### the sum of products, as the program reckons it -/
def accP : Int → Int → List Rat → List Rat → Int × Int
  | a, b, x :: xs, y :: ys => accP (a * x.den * y.den + x.num * y.num * b) (b * x.den * y.den) xs ys
  | a, b, _, _ => (a, b)
theorem den_pos (r : Rat) : (0 : Int) < r.den := by have := r.den_pos; omega
theorem mul_divInt (x y : Rat) : x * y = Rat.divInt (x.num * y.num) (x.den * y.den) := by
  rw [Rat.mul_def', ← Rat.divInt_ofNat]
  rw [Int.natCast_mul]
theorem accP_val : ∀ (xs ys : List Rat) (a b : Int), 0 < b → Rat.divInt (accP a b xs ys).1 (accP a b xs ys).2 = Rat.divInt a b + dotR xs ys
  | [], ys, a, b, _ => by simp only [accP, dotR]; rw [Rat.add_zero]
  | x :: xs, [], a, b, _ => by simp only [accP, dotR]; rw [Rat.add_zero]
  | x :: xs, y :: ys, a, b, h => by
    have hx := den_pos x
    have hy := den_pos y
    have h1 : 0 < (x.den : Int) * y.den := Int.mul_pos hx hy
    have h2 : 0 < b * x.den * y.den := Int.mul_pos (Int.mul_pos h hx) hy
    simp only [accP, dotR]
    rw [accP_val xs ys _ _ h2, ← Rat.add_assoc, mul_divInt, Rat.divInt_add_divInt _ _ (by omega) (by omega)]
    congr 2
    · rw [Int.mul_assoc a]
    · rw [Int.mul_assoc]
theorem accP_pos : ∀ (xs ys : List Rat) (a b : Int), 0 < b → 0 < (accP a b xs ys).2
  | [], ys, a, b, h => h
  | x :: xs, [], a, b, h => h
  | x :: xs, y :: ys, a, b, h => accP_pos xs ys _ _ (Int.mul_pos (Int.mul_pos h (den_pos x)) (den_pos y))
theorem dp_cons (x : Rat) (xs : List Rat) : dp (x :: xs) = x.den * dp xs := rfl
theorem dp_pos : ∀ xs : List Rat, 0 < dp xs
  | [] => by decide
  | x :: xs => by rw [dp_cons]; exact Nat.mul_pos x.den_pos (dp_pos xs)
theorem abs_mul_lt {n k : Int} {m d M : Nat} (h1 : n.natAbs < M * m) (h2 : k.natAbs ≤ d) (hd : 0 < d) : (n * k).natAbs < M * (m * d) := by
  rw [Int.natAbs_mul, ← Nat.mul_assoc]
  exact Nat.lt_of_le_of_lt (Nat.mul_le_mul_left _ h2) (Nat.mul_lt_mul_of_pos_right h1 hd)
/-- the state's sizes on the way -/
structure AccOk (a b : Int) (i : Nat) (R : Nat) : Prop where
  pos : 0 < b
  sz : a.natAbs ≤ i * 2 ^ 150 * b.natAbs
  room : b.natAbs * R < 2 ^ 1700
theorem acc_step {a b : Int} {i R : Nat} {x y : Rat} (h : AccOk a b i (x.den * y.den * R)) (hx : x.num.natAbs < 2 ^ 150 * x.den) (hy : 0 ≤ y.num ∧ y.num ≤ y.den) : AccOk (a * x.den * y.den + x.num * y.num * b) (b * x.den * y.den) (i + 1) R := by
  have px := den_pos x
  have py := den_pos y
  have hb : (b * x.den * y.den).natAbs = b.natAbs * (x.den * y.den) := by
    rw [Int.natAbs_mul, Int.natAbs_mul, Int.natAbs_natCast, Int.natAbs_natCast, Nat.mul_assoc]
  refine ⟨Int.mul_pos (Int.mul_pos h.pos px) py, ?_, ?_⟩
  · rw [hb]
    have h1 := Int.natAbs_add_le (a * x.den * y.den) (x.num * y.num * b)
    have h2 : (a * x.den * y.den).natAbs ≤ i * 2 ^ 150 * (b.natAbs * (x.den * y.den)) := by
      rw [Int.natAbs_mul, Int.natAbs_mul, Int.natAbs_natCast, Int.natAbs_natCast, Nat.mul_assoc a.natAbs, ← Nat.mul_assoc (i * 2 ^ 150)]
      exact Nat.mul_le_mul_right _ h.sz
    have h3 : (x.num * y.num * b).natAbs ≤ 2 ^ 150 * (b.natAbs * (x.den * y.den)) := by
      rw [Int.natAbs_mul]
      have := abs_mul_lt (M := 2 ^ 150) hx (show y.num.natAbs ≤ y.den by omega) y.den_pos
      have h4 := Nat.mul_le_mul_right b.natAbs (Nat.le_of_lt this)
      rw [Nat.mul_assoc (2 ^ 150), Nat.mul_comm (x.den * y.den)] at h4
      exact h4
    have h5 : (i + 1) * 2 ^ 150 * (b.natAbs * (x.den * y.den)) = i * 2 ^ 150 * (b.natAbs * (x.den * y.den)) + 2 ^ 150 * (b.natAbs * (x.den * y.den)) := by
      rw [Nat.add_mul, Nat.one_mul, Nat.add_mul]
    omega
  · rw [hb, Nat.mul_assoc]
    exact h.room
theorem AccOk.lt {a b : Int} {i R : Nat} (h : AccOk a b i R) (hR : 0 < R) (hi : i ≤ 8) : b.natAbs < 2 ^ 1700 ∧ a.natAbs < 2 ^ 2000 := by
  have h1 : b.natAbs < 2 ^ 1700 := Nat.lt_of_le_of_lt (Nat.le_mul_of_pos_right _ hR) h.room
  refine ⟨h1, Nat.lt_of_le_of_lt h.sz ?_⟩
  have h2 : i * 2 ^ 150 ≤ 2 ^ 153 := Nat.le_trans (Nat.mul_le_mul_right _ hi) (by decide)
  have h3 : i * 2 ^ 150 * b.natAbs < 2 ^ 153 * 2 ^ 1700 := Nat.lt_of_le_of_lt (Nat.mul_le_mul_right _ h2) (Nat.mul_lt_mul_of_pos_left h1 (by decide))
  exact Nat.lt_of_lt_of_le h3 (by rw [← Nat.pow_add]; exact Nat.pow_le_pow_right (by decide) (by decide))
theorem RB.mem {r : Rat} {rs : List Rat} (h : RB rs) (hr : r ∈ rs) : r.den < 2 ^ 1600 ∧ r.num.natAbs < 2 ^ 1750 := by
  have key : ∀ (l : List Rat), r ∈ l → r.den ≤ dp l := by
    intro l
    induction l with
    | nil => intro h; cases h
    | cons x l ih =>
      intro h
      rw [dp_cons]
      rcases List.mem_cons.mp h with e | e
      · subst e; exact Nat.le_mul_of_pos_right _ (dp_pos l)
      · exact Nat.le_trans (ih e) (Nat.le_mul_of_pos_left _ x.den_pos)
  have h1 := Nat.lt_of_le_of_lt (key rs hr) h.dpl
  have h2 := h.mg r hr
  refine ⟨h1, Nat.lt_trans h2 ?_⟩
  have h3 := Nat.mul_lt_mul_of_pos_left h1 (show 0 < 2 ^ 150 by decide)
  rw [← Nat.pow_add] at h3
  exact h3
theorem CB.mem {r : Rat} {rs : List Rat} (h : CB rs) (hr : r ∈ rs) : r.den < 2 ^ 100 ∧ r.num.natAbs < 2 ^ 101 := by
  have key : ∀ (l : List Rat), r ∈ l → r.den ≤ dp l := by
    intro l
    induction l with
    | nil => intro h; cases h
    | cons x l ih =>
      intro h
      rw [dp_cons]
      rcases List.mem_cons.mp h with e | e
      · subst e; exact Nat.le_mul_of_pos_right _ (dp_pos l)
      · exact Nat.le_trans (ih e) (Nat.le_mul_of_pos_left _ x.den_pos)
  have h1 := Nat.lt_of_le_of_lt (key rs hr) h.dpl
  have h2 := h.nn r hr
  exact ⟨h1, by omega⟩
end K3
namespace K3
open PySem PySem.Spec L2 DV
theorem cut_one (d : D) (ds : List D) : cutD (d :: ds) (some 1) none = ds := by
  unfold cutD
  rw [show HT.sIx (d :: ds).length 0 (some 1) = min 1 (d :: ds).length from HT.sIx_nat _ 0 1, HT.sIx_none]
  rw [show min 1 (d :: ds).length = 1 by rw [List.length_cons]; omega]
  show List.take ((d :: ds).length - 1) ds = ds
  rw [List.length_cons, Nat.add_sub_cancel]
  exact List.take_length
def maxR : Rat → List Rat → Rat
  | m, [] => m
  | m, y :: r => maxR (if m < y then y else m) r
theorem maxR_mem : ∀ (m : Rat) (xs : List Rat), maxR m xs ∈ m :: xs
  | m, [] => by simp [maxR]
  | m, y :: r => by
    have := maxR_mem (if m < y then y else m) r
    unfold maxR
    rcases List.mem_cons.mp this with e | e
    · rw [e]; split <;> simp
    · exact List.mem_cons_of_mem _ (List.mem_cons_of_mem _ e)
theorem maxR_ge : ∀ (m : Rat) (xs : List Rat), ∀ x ∈ m :: xs, x ≤ maxR m xs
  | m, [], x, h => by
    have : x = m := by simpa using h
    rw [this]; exact Rat.le_refl
  | m, y :: r, x, h => by
    have ih := maxR_ge (if m < y then y else m) r
    unfold maxR
    by_cases c : m < y
    · rw [if_pos c] at ih ⊢
      rcases List.mem_cons.mp h with e | e
      · rw [e]; exact Rat.le_trans (Rat.le_of_lt c) (ih y (by simp))
      · exact ih x e
    · rw [if_neg c] at ih ⊢
      have c2 : y ≤ m := Rat.not_lt.mp c
      rcases List.mem_cons.mp h with e | e
      · rw [e]; exact ih m (by simp)
      · rcases List.mem_cons.mp e with e | e
        · rw [e]; exact Rat.le_trans c2 (ih m (by simp))
        · exact ih x (List.mem_cons_of_mem _ e)
theorem bls_true {α : Type} : ∀ (l : List α), blsOf (l.filterMap fun _ => some (D.bl true)) = some (l.map fun _ => true)
  | [] => rfl
  | a :: l => by
    rw [List.filterMap_cons]
    simp only [blsOf, bls_true l, Option.map_some, List.map_cons]
theorem all_true {α : Type} (l : List α) : gAll (l.filterMap fun _ => some (D.bl true)) = some (.bl true) := by
  unfold gAll
  rw [bls_true]
  simp
def sumR : List Rat → Rat
  | [] => 0
  | x :: xs => x + sumR xs
theorem dot_ones : ∀ xs : List Rat, dotR xs (xs.map fun _ => 1) = sumR xs
  | [] => rfl
  | x :: xs => by
    simp only [List.map_cons, dotR, sumR, dot_ones xs]
    rw [Rat.mul_one]
theorem CB.rb {rs : List Rat} (h : CB rs) : RB rs := ⟨h.len, Nat.lt_trans h.dpl (Nat.pow_lt_pow_right (by decide) (by decide)), fun r hr => by
  have := h.nn r hr
  have h2 := r.den_pos
  have h3 : r.num.natAbs ≤ r.den := by omega
  exact Nat.lt_of_le_of_lt h3 (by
    have : 1 * r.den < 2 ^ 150 * r.den := Nat.mul_lt_mul_of_pos_right (by decide) h2
    omega)⟩
theorem ones_cb (xs : List Rat) (h : xs.length ≤ 4) : CB (xs.map fun _ => (1 : Rat)) := by
  refine ⟨by simpa using h, ?_, fun r hr => ?_⟩
  · have : dp (xs.map fun _ => (1 : Rat)) = 1 := by
      clear h
      induction xs with
      | nil => rfl
      | cons x xs ih =>
        rw [List.map_cons, dp_cons, ih]
        rfl
    rw [this]
    decide
  · obtain ⟨x, _, rfl⟩ := List.mem_map.mp hr
    exact ⟨by decide, by decide⟩
theorem flat_rep (n : Nat) (d : D) : (List.replicate n [d]).flatten = List.replicate n d := by
  induction n with
  | zero => rfl
  | succ n ih => rw [List.replicate_succ, List.replicate_succ, List.flatten_cons, ih]; rfl
/-- a setting -/
structure WB (w : List (List Rat) × List (List Rat)) (n : Nat) : Prop where
  m1 : 1 ≤ w.1.length
  m5 : w.1.length ≤ 5
  eq : w.2.length = w.1.length
  n2 : 2 ≤ n
  n4 : n ≤ 4
  r1 : ∀ r ∈ w.1, r.length = n ∧ RB r
  r2 : ∀ r ∈ w.2, r.length = n ∧ RB r
structure BB (ch : List Rat) (n : Nat) : Prop where
  cb : CB ch
  len : ch.length = n
  sum : sumR ch = 1
end K3

/-! part K3a -/
set_option Elab.async false
set_option linter.all false
set_option maxRecDepth 100000
set_option autoImplicit false
set_option exponentiation.threshold 100
namespace K3
open PySem PySem.Spec L2 DV
open PyProof.Rows (envOfC)
variable {P : Program} {w : World} {K : PySem.W.Frag} {mg : Str → Option Value} {base : Heap}

local macro_rules | `(tactic| walk_at "dv") => `(tactic| simp only [startR, kD, fin, fSeq, fNext, fAsg, fRet, fIfS, fNever, fPar, fNew, fApp, fVar, fC, fOp, fTest, fTAnd, fTOr, fTNot, fVAnd, fVOr, fVNot, fNeg, fIf, fChain, fANil, fACons, fTup, fLst, fCB, fNLst, fOfN, fYes, fIsi, fONone, fOSome, fSl, sliceF,
  gF, gA, cI, fI, c0, cAdd, fAdd, fIx, cRepT, fRepT, fEq, fNe, fNotIn, intsOf, blsOf, allD, seqOf, tupOf, fLen, cA0, f1L, gSum, gAll, gAny, fTupleOf, fListOf, fA1, fA2, cDm, gN, gsNil_eq, gsCons_eq, gT_eq, gSb_eq, isB, itemsOf, fISeq, fIRng, fIEnum, fIZip, fFor, fLc, wipeR, fCall, fCallK,
  List.map_cons, List.map_nil, List.length_cons, List.length_nil, List.replicate_succ, List.replicate_zero, List.cons_append, List.nil_append, List.append_nil, List.getElem?_cons_zero, List.getElem?_cons_succ, List.getElem?_nil, List.set_cons_zero, List.set_cons_succ, List.set_nil, List.take_succ_cons, List.take_zero, List.take_nil,
  Option.map_some, Option.map_none, Option.some.injEq, Option.get_some, exists_eq_left', exists_eq_left, exists_eq_right, true_and, and_true, if_true, if_false, reduceCtorEq, ite_true, ite_false, S.d.injEq, S.m.injEq, D.int.injEq, D.tup.injEq, D.lst.injEq, D.bl.injEq, D.str.injEq, List.cons.injEq, exists_and_left, exists_and_right,
  Nat.sub_zero, Nat.reduceSub, Nat.reduceAdd, Nat.zero_add, Nat.add_zero, Bool.not_true, Bool.not_false, Bool.false_eq_true, decide_eq_true_eq, Nat.reduceLT, Nat.reduceLeDiff, Nat.le_refl, List.take_length, Int.reduceLT, Int.reduceToNat, Nat.lt_irrefl, gt_iff_lt, Nat.not_lt_zero, Int.cast_ofNat_Int, decide_true, decide_false])

def V_ONE : D := .tup [.int 1, .int 1]
def V_NIL : D := .tup [.int 0, .int 1]
def T_lowest : TF := fun ss μ P => ∃ a b : Int, ss = [.d (.int a), .d (.int b)] ∧ (0 < b ∧ b.natAbs < 2 ^ 8000) ∧ P (frD (Rat.divInt a b)) μ
theorem mon_lowest : MonF T_lowest := fun ss μ P P' k ⟨a, b, e, h, q⟩ => ⟨a, b, e, h, k _ _ q⟩
theorem ok_lowest (t : Top K mg "lowest" s_lowest ["above", "below"]) (g_gcd : mg "gcd" = some (.builtin "math.gcd")) :
    DefOk P w K mg base "lowest" 1 2 T_lowest := by
  have nd := (sc_lowest).nd
  refine ok_defD (k := 0) t sc_lowest mon_lowest (fun f cdv A outer s H E hr =>
    (pds_cons (pds_set (pd_Bf cr_gcd snd_gcd mon_gA (by rfl) g_gcd (pda_cons (pd_var (pv 0)) (pda_cons (pd_var (pv 1)) pda_nil))) (fun _ h => ps_set (i := 2) nd rfl (by first | exact Or.inl rfl | exact Or.inr rfl) h))
      (pds_one (pd_ret (pd_tup (pda_cons (pd_op op_fdivW mon_gF snd_I (pd_var (pv 0)) (pd_var (pv 2))) (pda_cons (pd_op op_fdivW mon_gF snd_I (pd_var (pv 1)) (pd_var (pv 2))) pda_nil))))))) ?_
  intro ss μ Q hl h
  obtain ⟨a, b, rfl, ⟨h1, h2⟩, q⟩ := h
  rw [low_div a b h1] at q
  walk_at "dv"
  exact ⟨gcd_ok h1 h2 _, gcd_ok h1 h2 _, q⟩
def T_is_whole : TF := fun ss μ P => ∃ a : Int, ss = [.d (.int a)] ∧ P (.bl true) μ
theorem mon_is_whole : MonF T_is_whole := fun ss μ P P' k ⟨a, e, q⟩ => ⟨a, e, k _ _ q⟩
theorem ok_is_whole (t : Top K mg "is_whole" s_is_whole ["value"]) (m_bool : mg "bool" = none) (m_int : mg "int" = none) (m_isinstance : mg "isinstance" = none) :
    DefOk P w K mg base "is_whole" 1 1 T_is_whole := by
  have nd := (sc_is_whole).nd
  refine ok_defD (k := 0) t sc_is_whole mon_is_whole (fun f cdv A outer s H E hr =>
    (pds_one (pd_ret (pd_and (pd_isi (T := "int") (pd_var (pv 0)) (by rfl) m_isinstance (by rfl) m_int bt_int (by decide) (by decide) bt_isi) (pd_one (pd_not (pd_isi (T := "bool") (pd_var (pv 0)) (by rfl) m_isinstance (by rfl) m_bool bt_bool (by decide) (by decide) bt_isi))))))) ?_
  intro ss μ Q hl h
  obtain ⟨a, rfl, q⟩ := h
  have e1 : kitB "int" "int" = some true := by decide +kernel
  have e2 : kitB "int" "bool" = some false := by decide +kernel
  walk_at "dv"
  rw [e1, e2]
  walk_at "dv"
  exact q
def T_is_index : TF := fun ss μ P => ∃ a b : Int, ss = [.d (.int a), .d (.int b)] ∧ P (.bl (decide (0 ≤ a) && decide (a < b))) μ
theorem mon_is_index : MonF T_is_index := fun ss μ P P' k ⟨a, b, e, q⟩ => ⟨a, b, e, k _ _ q⟩
theorem ok_is_index (t : Top K mg "is_index" s_is_index ["value", "many"]) (C_is_whole : DefOk P w K mg base "is_whole" 1 1 T_is_whole) :
    DefOk P w K mg base "is_index" 2 2 T_is_index := by
  have nd := (sc_is_index).nd
  refine ok_defD (k := 1) t sc_is_index mon_is_index (fun f cdv A outer s H E hr =>
    (pds_one (pd_ret (pd_and (pd_callD C_is_whole (hr.mono (by decide)) (by rfl) (pda_cons (pd_var (pv 0)) pda_nil)) (pd_one (pd_chain op_le op_lt mon_gF mon_gF snd_B0 snd_B0 (by with_unfolding_all rfl) pd_int (pd_var (pv 0)) (pd_var (pv 1)))))))) ?_
  intro ss μ Q hl h
  obtain ⟨a, b, rfl, q⟩ := h
  walk_at "dv"
  refine ⟨a, rfl, ?_⟩
  walk_at "dv"
  by_cases h : 0 ≤ a
  · rw [decide_eq_true h] at q
    simpa [h] using q
  · rw [decide_eq_false h] at q
    simpa [h] using q
def T_is_fraction : TF := fun ss μ P => ∃ r : Rat, ss = [.d (frD r)] ∧ P (.bl true) μ
theorem mon_is_fraction : MonF T_is_fraction := fun ss μ P P' k ⟨a, e, q⟩ => ⟨a, e, k _ _ q⟩
theorem ok_is_fraction (t : Top K mg "is_fraction" s_is_fraction ["value"]) (C_is_whole : DefOk P w K mg base "is_whole" 1 1 T_is_whole) (g_gcd : mg "gcd" = some (.builtin "math.gcd")) (m_isinstance : mg "isinstance" = none) (m_len : mg "len" = none) (m_tuple : mg "tuple" = none) :
    DefOk P w K mg base "is_fraction" 2 1 T_is_fraction := by
  have nd := (sc_is_fraction).nd
  refine ok_defD (k := 1) t sc_is_fraction mon_is_fraction (fun f cdv A outer s H E hr =>
    (pds_cons (pds_if (ptd_w (pdw_or (ptd_not (ptd_val (pd_isi (T := "tuple") (pd_var (pv 0)) (by rfl) m_isinstance (by rfl) m_tuple bt_tuple (by decide) (by decide) bt_isi))) (pdw_or1 (ptd_cmp op_ne mon_gF snd_ne (nomark _) (pd_B call_len_seq snd_len mon_gA (by rfl) m_len bt_len (pda_cons (pd_var (pv 0)) pda_nil)) pd_int)))) (pds_one (pd_ret pd_bl)) pds_nil)
      (pds_cons (pds_asg (pd_var (pv 0)) (pdg_tup (n := 2) rfl (pdgs_cons (pdg_name (pg_name (i := 1) nd rfl (by first | exact Or.inl rfl | exact Or.inr rfl))) (pdgs_cons (pdg_name (pg_name (i := 2) nd rfl (by first | exact Or.inl rfl | exact Or.inr rfl))) pdgs_nil))))
      (pds_cons (pds_if (ptd_w (pdw_or (ptd_not (ptd_val (pd_callD C_is_whole (hr.mono (by decide)) (by rfl) (pda_cons (pd_var (pv 1)) pda_nil)))) (pdw_or1 (ptd_not (ptd_val (pd_callD C_is_whole (hr.mono (by decide)) (by rfl) (pda_cons (pd_var (pv 2)) pda_nil))))))) (pds_one (pd_ret pd_bl)) pds_nil)
      (pds_one (pd_ret (pd_and (pd_cmp op_gt mon_gF snd_B0 (nomark _) (pd_var (pv 2)) pd_int) (pd_one (pd_cmp (eq_ok hr.units) mon_gF snd_eq (nomark _) (pd_Bf cr_gcd snd_gcd mon_gA (by rfl) g_gcd (pda_cons (pd_var (pv 1)) (pda_cons (pd_var (pv 2)) pda_nil))) pd_int))))))))) ?_
  intro ss μ Q hl h
  obtain ⟨r, rfl, q⟩ := h
  have e1 : kitB "tuple" "tuple" = some true := by decide +kernel
  unfold frD
  walk_at "dv"
  rw [e1]
  walk_at "dv"
  refine ⟨r.num, rfl, ?_⟩
  walk_at "dv"
  refine ⟨(r.den : Int), rfl, ?_⟩
  walk_at "dv"
  have h1 := den_pos r
  have h2 : Nat.gcd r.num.natAbs ((r.den : Int)).natAbs = 1 := by rw [Int.natAbs_natCast]; exact r.reduced
  rw [if_pos h1, h2]
  walk_at "dv"
  exact q
def T_is_less : TF := fun ss μ P => ∃ r s : Rat, ss = [.d (frD r), .d (frD s)] ∧ (Sm r ∧ Sm s) ∧ P (.bl (decide (r < s))) μ
theorem mon_is_less : MonF T_is_less := fun ss μ P P' k ⟨a, b, e, h, q⟩ => ⟨a, b, e, h, k _ _ q⟩
theorem ok_is_less (t : Top K mg "is_less" s_is_less ["left", "right"]) :
    DefOk P w K mg base "is_less" 1 2 T_is_less := by
  have nd := (sc_is_less).nd
  refine ok_defD (k := 0) t sc_is_less mon_is_less (fun f cdv A outer s H E hr =>
    (pds_one (pd_ret (pd_cmp op_lt mon_gF snd_B0 (nomark _) (pd_op op_mulW mon_gF snd_I (pd_ix ix_ok mon_gF snd_ix (fun _ _ => rfl) (pd_var (pv 0)) pd_int) (pd_ix ix_ok mon_gF snd_ix (fun _ _ => rfl) (pd_var (pv 1)) pd_int)) (pd_op op_mulW mon_gF snd_I (pd_ix ix_ok mon_gF snd_ix (fun _ _ => rfl) (pd_var (pv 1)) pd_int) (pd_ix ix_ok mon_gF snd_ix (fun _ _ => rfl) (pd_var (pv 0)) pd_int)))))) ?_
  intro ss μ Q hl h
  obtain ⟨r, s, rfl, ⟨h1, h2⟩, q⟩ := h
  unfold frD
  walk_at "dv"
  refine ⟨mul_ok h1.2 (show ((s.den : Int)).natAbs < 2 ^ 3000 from h2.1) (by decide), mul_ok h2.2 (show ((r.den : Int)).natAbs < 2 ^ 3000 from h1.1) (by decide), ?_⟩
  have e : decide (r < s) = decide (r.num * ↑s.den < s.num * ↑r.den) := by
    rw [decide_eq_decide]
    exact Rat.lt_iff r s
  rw [e] at q
  exact q
def T_greatest : TF := fun ss μ P => ∃ (x : Rat) (xs : List Rat), ss = [.d (rowL (x :: xs))] ∧ (∀ r ∈ x :: xs, Sm r) ∧ P (frD (maxR x xs)) μ
theorem mon_greatest : MonF T_greatest := fun ss μ P P' k ⟨a, b, e, h, q⟩ => ⟨a, b, e, h, k _ _ q⟩
theorem ok_greatest (t : Top K mg "greatest" s_greatest ["row"]) (C_is_less : DefOk P w K mg base "is_less" 1 2 T_is_less) :
    DefOk P w K mg base "greatest" 2 1 T_greatest := by
  have nd := (sc_greatest).nd
  refine ok_defD (k := 1) t sc_greatest mon_greatest (fun f cdv A outer s H E hr =>
    (pds_cons (pds_set (pd_ix ix_ok mon_gF snd_ix (fun _ _ => rfl) (pd_var (pv 0)) pd_int) (fun _ h => ps_set (i := 1) nd rfl (by first | exact Or.inl rfl | exact Or.inr rfl) h))
      (pds_cons (pds_for PassesOwn.never rfl (pdi_seq (pd_slice (pd_var (pv 0)) (pdo_some pd_int) pdo_none)) (pdg_name (pg_name (i := 2) nd rfl (by first | exact Or.inl rfl | exact Or.inr rfl))) (pds_one (pds_if (ptd_val (pd_callD C_is_less (hr.mono (by decide)) (by rfl) (pda_cons (pd_var (pv 1)) (pda_cons (pd_var (pv 2)) pda_nil)))) (pds_one (pds_set (pd_var (pv 2)) (fun _ h => ps_set (i := 1) nd rfl (by first | exact Or.inl rfl | exact Or.inr rfl) h))) pds_nil)))
      (pds_one (pd_ret (pd_var (pv 1))))))) ?_
  intro ss μ Q hl h
  obtain ⟨x, xs, rfl, h1, q⟩ := h
  unfold rowL
  walk_at "dv"
  rw [cut_one]
  have key : ∀ (ys : List Rat) (m : Rat) (sl : Option S) (k : K4), (∀ r ∈ m :: ys, Sm r) → (∀ sl', k.nx [some (.d (rowL (x :: xs))), some (.d (frD (maxR m ys))), sl'] μ) →
      loopS (gN 2) (fIfS (fTest (fCall 2 T_is_less (fACons (fVar 1) (fACons (fVar 2) fANil)))) (fAsg (fVar 2) (gN 1)) fNext) (fun _ => True) (ys.map frD) [some (.d (rowL (x :: xs))), some (.d (frD m)), sl] μ k := by
    intro ys
    induction ys with
    | nil => intro m sl k _ hk; exact ⟨trivial, hk _⟩
    | cons y ys ih =>
      intro m sl k hs hk
      refine ⟨trivial, ?_⟩
      walk_at "dv"
      refine ⟨m, y, rfl, ⟨hs m (by simp), hs y (by simp)⟩, ?_⟩
      unfold maxR at hk
      by_cases c : m < y
      · rw [if_pos c] at hk
        simp only [c]
        walk_at "dv"
        exact ih y _ k (fun r hr => hs r (List.mem_cons_of_mem _ hr)) hk
      · rw [if_neg c] at hk
        simp only [c]
        walk_at "dv"
        exact ih m _ k (fun r hr => hs r (by rcases List.mem_cons.mp hr with e | e; exact e ▸ List.mem_cons_self; exact List.mem_cons_of_mem _ (List.mem_cons_of_mem _ e))) hk
  refine key xs x none _ h1 fun sl' => ?_
  walk_at "dv"
  exact q
def T_row_product : TF := fun ss μ P => ∃ xs ys : List Rat, ss = [.d (rowD xs), .d (rowD ys)] ∧ (RB xs ∧ CB ys ∧ xs.length = ys.length) ∧ P (frD (dotR xs ys)) μ
theorem mon_row_product : MonF T_row_product := fun ss μ P P' k ⟨a, b, e, h, q⟩ => ⟨a, b, e, h, k _ _ q⟩
theorem ok_row_product (t : Top K mg "row_product" s_row_product ["row", "other"]) (C_lowest : DefOk P w K mg base "lowest" 1 2 T_lowest) (m_zip : mg "zip" = none) :
    DefOk P w K mg base "row_product" 2 2 T_row_product := by
  have nd := (sc_row_product).nd
  refine ok_defD (k := 1) t sc_row_product mon_row_product (fun f cdv A outer s H E hr =>
    (pds_cons (pds_asg (pd_tup (pda_cons pd_int (pda_cons pd_int pda_nil))) (pdg_tup (n := 2) rfl (pdgs_cons (pdg_name (pg_name (i := 2) nd rfl (by first | exact Or.inl rfl | exact Or.inr rfl))) (pdgs_cons (pdg_name (pg_name (i := 3) nd rfl (by first | exact Or.inl rfl | exact Or.inr rfl))) pdgs_nil))))
      (pds_cons (pds_for PassesOwn.never rfl (pdi_zip (by rfl) m_zip (pda_cons (pd_var (pv 0)) (pda_cons (pd_var (pv 1)) pda_nil))) (pdg_tup (n := 2) rfl (pdgs_cons (pdg_tup (n := 2) rfl (pdgs_cons (pdg_name (pg_name (i := 4) nd rfl (by first | exact Or.inl rfl | exact Or.inr rfl))) (pdgs_cons (pdg_name (pg_name (i := 5) nd rfl (by first | exact Or.inl rfl | exact Or.inr rfl))) pdgs_nil))) (pdgs_cons (pdg_tup (n := 2) rfl (pdgs_cons (pdg_name (pg_name (i := 6) nd rfl (by first | exact Or.inl rfl | exact Or.inr rfl))) (pdgs_cons (pdg_name (pg_name (i := 7) nd rfl (by first | exact Or.inl rfl | exact Or.inr rfl))) pdgs_nil))) pdgs_nil))) (pds_cons (pds_set (pd_op add_ok mon_gF snd_add (pd_op op_mulW mon_gF snd_I (pd_op op_mulW mon_gF snd_I (pd_var (pv 2)) (pd_var (pv 5))) (pd_var (pv 7))) (pd_op op_mulW mon_gF snd_I (pd_op op_mulW mon_gF snd_I (pd_var (pv 4)) (pd_var (pv 6))) (pd_var (pv 3)))) (fun _ h => ps_set (i := 2) nd rfl (by first | exact Or.inl rfl | exact Or.inr rfl) h))
      (pds_one (pds_set (pd_op op_mulW mon_gF snd_I (pd_op op_mulW mon_gF snd_I (pd_var (pv 3)) (pd_var (pv 5))) (pd_var (pv 7))) (fun _ h => ps_set (i := 3) nd rfl (by first | exact Or.inl rfl | exact Or.inr rfl) h)))))
      (pds_one (pd_ret (pd_callD C_lowest (hr.mono (by decide)) (by rfl) (pda_cons (pd_var (pv 2)) (pda_cons (pd_var (pv 3)) pda_nil)))))))) ?_
  intro ss μ Q hl h
  obtain ⟨xs, ys, rfl, ⟨h1, h2, h3⟩, q⟩ := h
  unfold rowD
  walk_at "dv"
  refine ⟨_, _, .inr ⟨rfl, rfl⟩, ?_⟩
  have key : ∀ (us vs : List Rat) (a b : Int) (i : Nat) (s4 s5 s6 s7 : Option S) (k : K4), us.length = vs.length → i + us.length ≤ 8 → (∀ r ∈ us, r.den < 2 ^ 1600 ∧ r.num.natAbs < 2 ^ 1750 ∧ r.num.natAbs < 2 ^ 150 * r.den) → (∀ r ∈ vs, r.den < 2 ^ 100 ∧ r.num.natAbs < 2 ^ 101 ∧ 0 ≤ r.num ∧ r.num ≤ r.den) →
      AccOk a b i (dp us * dp vs) → (∀ (a' b' : Int) s4 s5 s6 s7, (a', b') = accP a b us vs → b'.natAbs < 2 ^ 1700 → k.nx [some (.d (.tup (xs.map frD))), some (.d (.tup (ys.map frD))), some (.d (.int a')), some (.d (.int b')), s4, s5, s6, s7] μ) →
      loopS (gT 2 (gsCons (gT 2 (gsCons (gN 4) (gsCons (gN 5) gsNil))) (gsCons (gT 2 (gsCons (gN 6) (gsCons (gN 7) gsNil))) gsNil)))
        (fSeq (fAsg (fOp (gF cAdd fAdd) (fOp (gF (cI CMulW) (fI fun i j => D.int (i * j))) (fOp (gF (cI CMulW) (fI fun i j => D.int (i * j))) (fVar 2) (fVar 5)) (fVar 7)) (fOp (gF (cI CMulW) (fI fun i j => D.int (i * j))) (fOp (gF (cI CMulW) (fI fun i j => D.int (i * j))) (fVar 4) (fVar 6)) (fVar 3))) (gN 2))
          (fAsg (fOp (gF (cI CMulW) (fI fun i j => D.int (i * j))) (fOp (gF (cI CMulW) (fI fun i j => D.int (i * j))) (fVar 3) (fVar 5)) (fVar 7)) (gN 3)))
        (fun x => True) (zipD (us.map frD) (vs.map frD)) [some (.d (.tup (xs.map frD))), some (.d (.tup (ys.map frD))), some (.d (.int a)), some (.d (.int b)), s4, s5, s6, s7] μ k := by
    intro us
    induction us with
    | nil =>
      intro vs a b i s4 s5 s6 s7 k hl _ _ _ ha hk
      cases vs with
      | nil => exact ⟨trivial, hk a b _ _ _ _ rfl (ha.lt (Nat.mul_pos (dp_pos _) (dp_pos _)) (by omega)).1⟩
      | cons v vs => simp at hl
    | cons x us ih =>
      intro vs a b i s4 s5 s6 s7 k hl hi hx hy ha hk
      cases vs with
      | nil => simp at hl
      | cons y vs =>
        obtain ⟨x1, x2, x3⟩ := hx x (by simp)
        obtain ⟨y1, y2, y3⟩ := hy y (by simp)
        have e : dp (x :: us) * dp (y :: vs) = x.den * y.den * (dp us * dp vs) := by
          rw [dp_cons, dp_cons, Nat.mul_mul_mul_comm]
        have hl2 : us.length = vs.length := by simpa using hl
        have hi2 : i + 1 + us.length ≤ 8 := by rw [List.length_cons] at hi; omega
        obtain ⟨b1, a1⟩ := ha.lt (Nat.mul_pos (dp_pos _) (dp_pos _)) (by omega)
        rw [e] at ha
        have hn := acc_step ha x3 y3
        have m1 : (a * (x.den : Int)).natAbs < 2 ^ 3600 := by rw [Int.natAbs_mul, Int.natAbs_natCast]; exact pow_mul_lt a1 x1
        have m2 : (x.num * y.num).natAbs < 2 ^ (1750 + 101) := by rw [Int.natAbs_mul]; exact pow_mul_lt x2 y2
        have m3 : (b * (x.den : Int)).natAbs < 2 ^ (1700 + 1600) := by rw [Int.natAbs_mul, Int.natAbs_natCast]; exact pow_mul_lt b1 x1
        refine ⟨trivial, ?_⟩
        unfold frD
        walk_at "dv"
        refine ⟨mul_ok a1 (show ((x.den : Int)).natAbs < 2 ^ 1600 from x1) (by decide), mul_ok m1 (show ((y.den : Int)).natAbs < 2 ^ 100 from y1) (by decide), mul_ok x2 y2 (by decide), mul_ok m2 b1 (by decide), mul_ok b1 (show ((x.den : Int)).natAbs < 2 ^ 1600 from x1) (by decide), mul_ok m3 (show ((y.den : Int)).natAbs < 2 ^ 100 from y1) (by decide), ?_⟩
        exact ih vs _ _ (i + 1) _ _ _ _ k hl2 hi2 (fun r hr => hx r (List.mem_cons_of_mem _ hr)) (fun r hr => hy r (List.mem_cons_of_mem _ hr)) hn fun a' b' t4 t5 t6 t7 e => hk a' b' t4 t5 t6 t7 e
  have hr : 1 * (dp xs * dp ys) < 2 ^ 1700 := by
    rw [Nat.one_mul]
    exact pow_mul_lt h1.dpl h2.dpl
  refine key xs ys 0 1 0 none none none none _ h3 (by have := h1.len; omega) (fun r hr => ⟨(h1.mem hr).1, (h1.mem hr).2, h1.mg r hr⟩) (fun r hr => ⟨(h2.mem hr).1, (h2.mem hr).2, h2.nn r hr⟩) ⟨by decide, by decide, hr⟩ fun a' b' s4 s5 s6 s7 e hb => ?_
  have p := accP_pos xs ys 0 1 (by decide)
  have v := accP_val xs ys 0 1 (by decide)
  rw [← e] at p v
  rw [Rat.zero_divInt, Rat.zero_add] at v
  walk_at "dv"
  refine ⟨a', b', rfl, ⟨p, Nat.lt_trans hb (Nat.pow_lt_pow_right (by decide) (by decide))⟩, ?_⟩
  rw [v]
  walk_at "dv"
  exact q
def T_row_sum : TF := fun ss μ P => ∃ xs : List Rat, ss = [.d (rowD xs)] ∧ (CB xs ∧ 2 ≤ xs.length) ∧ P (frD (sumR xs)) μ
theorem mon_row_sum : MonF T_row_sum := fun ss μ P P' k ⟨a, e, h, q⟩ => ⟨a, e, h, k _ _ q⟩
theorem ok_row_sum (t : Top K mg "row_sum" s_row_sum ["row"]) (C_row_product : DefOk P w K mg base "row_product" 2 2 T_row_product) (C_ONE : ConstOk K mg "ONE" V_ONE) (m_len : mg "len" = none) :
    DefOk P w K mg base "row_sum" 3 1 T_row_sum := by
  have nd := (sc_row_sum).nd
  refine ok_defD (k := 2) t sc_row_sum mon_row_sum (fun f cdv A outer s H E hr =>
    (pds_one (pd_ret (pd_callD C_row_product (hr.mono (by decide)) (by rfl) (pda_cons (pd_var (pv 0)) (pda_cons (pd_op op_repT mon_gF snd_repT (pd_tup (pda_cons (pd_glob C_ONE (by rfl)) pda_nil)) (pd_B call_len_seq snd_len mon_gA (by rfl) m_len bt_len (pda_cons (pd_var (pv 0)) pda_nil))) pda_nil)))))) ?_
  intro ss μ Q hl h
  obtain ⟨xs, rfl, ⟨h1, h2⟩, q⟩ := h
  unfold rowD V_ONE
  walk_at "dv"
  have hl4 := h1.len
  rw [List.length_map]
  refine ⟨⟨by simp, by omega, by omega⟩, ?_⟩
  refine ⟨xs, xs.map fun _ => 1, ?_, ⟨h1.rb, ones_cb xs hl4, by simp⟩, ?_⟩
  · unfold rowD
    rw [flat_rep, Int.toNat_natCast]
    congr 3
    congr 1
    rw [List.map_map]
    clear h1 h2 hl hl4 q
    induction xs with
    | nil => rfl
    | cons x xs ih => rw [List.length_cons, List.replicate_succ, List.map_cons, ih]; rfl
  · rw [dot_ones]
    walk_at "dv"
    exact q
def T_is_row : TF := fun ss μ P => ∃ xs : List Rat, ss = [.d (rowD xs), .d (.int (xs.length : Int))] ∧ xs.length ≤ 100 ∧ P (.bl true) μ
theorem mon_is_row : MonF T_is_row := fun ss μ P P' k ⟨a, e, h, q⟩ => ⟨a, e, h, k _ _ q⟩
theorem ok_is_row (t : Top K mg "is_row" s_is_row ["value", "many"]) (C_is_fraction : DefOk P w K mg base "is_fraction" 2 1 T_is_fraction) (m_all : mg "all" = none) (m_isinstance : mg "isinstance" = none) (m_len : mg "len" = none) (m_tuple : mg "tuple" = none) :
    DefOk P w K mg base "is_row" 3 2 T_is_row := by
  have nd := (sc_is_row).nd
  refine ok_defD (k := 2) t sc_is_row mon_is_row (fun f cdv A outer s H E hr =>
    (pds_cons (pds_if (ptd_w (pdw_or (ptd_not (ptd_val (pd_isi (T := "tuple") (pd_var (pv 0)) (by rfl) m_isinstance (by rfl) m_tuple bt_tuple (by decide) (by decide) bt_isi))) (pdw_or1 (ptd_cmp op_ne mon_gF snd_ne (nomark _) (pd_B call_len_seq snd_len mon_gA (by rfl) m_len bt_len (pda_cons (pd_var (pv 0)) pda_nil)) (pd_var (pv 1)))))) (pds_one (pd_ret pd_bl)) pds_nil)
      (pds_one (pd_ret (pd_B (cr_all rfl) snd_all mon_gA (by rfl) m_all bt_all (pda_cons (pd_of_N (pdn_lc (own := [("number", 2)]) rfl nd (pdi_seq (pd_var (pv 0))) (blkOk_by (N := N_is_row) (sc := defScope s_is_row) (by decide +kernel)) (fun _ _ _ _ _ => (pdg_name (pg_name (i := 2) nd rfl (by first | exact Or.inl rfl | exact Or.inr rfl)))) (fun _ _ _ _ _ => pdts_nil) (fun _ _ _ _ _ => (pd_callD C_is_fraction (hr.mono (by decide)) (by rfl) (pda_cons (pd_var (pv 2)) pda_nil))) (by decide))) pda_nil)))))) ?_
  intro ss μ Q hl h
  obtain ⟨xs, rfl, h1, q⟩ := h
  have e1 : kitB "tuple" "tuple" = some true := by decide +kernel
  unfold rowD
  walk_at "dv"
  rw [e1]
  walk_at "dv"
  rw [List.length_map]
  walk_at "dv"
  refine lc_pure frD (fun _ => some (.bl true)) (fun _ => trivial) xs [] μ _ (fun r _ μ' P P2 h => ?_) (by simp; omega) ?_
  · walk_at "dv"
    exact ⟨r, rfl, h⟩
  · rw [List.nil_append]
    have := all_true xs
    unfold gAll at this
    walk_at "dv"
    rw [this]
    walk_at "dv"
    exact q
def T_is_row_of_chances : TF := fun ss μ P => ∃ xs : List Rat, ss = [.d (rowD xs), .d (.int (xs.length : Int))] ∧ (CB xs ∧ 2 ≤ xs.length ∧ sumR xs = 1) ∧ P (.bl true) μ
theorem mon_is_row_of_chances : MonF T_is_row_of_chances := fun ss μ P P' k ⟨a, e, h, q⟩ => ⟨a, e, h, k _ _ q⟩
theorem ok_is_row_of_chances (t : Top K mg "is_row_of_chances" s_is_row_of_chances ["value", "many"]) (C_is_row : DefOk P w K mg base "is_row" 3 2 T_is_row) (C_row_sum : DefOk P w K mg base "row_sum" 3 1 T_row_sum) (C_ONE : ConstOk K mg "ONE" V_ONE) (m_all : mg "all" = none) :
    DefOk P w K mg base "is_row_of_chances" 4 2 T_is_row_of_chances := by
  have nd := (sc_is_row_of_chances).nd
  refine ok_defD (k := 3) t sc_is_row_of_chances mon_is_row_of_chances (fun f cdv A outer s H E hr =>
    (pds_cons (pds_if (ptd_not (ptd_val (pd_callD C_is_row (hr.mono (by decide)) (by rfl) (pda_cons (pd_var (pv 0)) (pda_cons (pd_var (pv 1)) pda_nil))))) (pds_one (pd_ret pd_bl)) pds_nil)
      (pds_one (pd_ret (pd_and (pd_B (cr_all rfl) snd_all mon_gA (by rfl) m_all bt_all (pda_cons (pd_of_N (pdn_lc (own := [("above", 2), ("_", 3)]) rfl nd (pdi_seq (pd_var (pv 0))) (blkOk_by (N := N_is_row_of_chances) (sc := defScope s_is_row_of_chances) (by decide +kernel)) (fun _ _ _ _ _ => (pdg_tup (n := 2) rfl (pdgs_cons (pdg_name (pg_name (i := 2) nd rfl (by first | exact Or.inl rfl | exact Or.inr rfl))) (pdgs_cons (pdg_name (pg_name (i := 3) nd rfl (by first | exact Or.inl rfl | exact Or.inr rfl))) pdgs_nil)))) (fun _ _ _ _ _ => pdts_nil) (fun _ _ _ _ _ => (pd_cmp op_ge mon_gF snd_B0 (nomark _) (pd_var (pv 2)) pd_int)) (by decide))) pda_nil)) (pd_one (pd_cmp (eq_ok hr.units) mon_gF snd_eq (nomark _) (pd_callD C_row_sum (hr.mono (by decide)) (by rfl) (pda_cons (pd_var (pv 0)) pda_nil)) (pd_glob C_ONE (by rfl))))))))) ?_
  intro ss μ Q hl h
  obtain ⟨xs, rfl, ⟨h1, h2, h3⟩, q⟩ := h
  have hl4 := h1.len
  unfold V_ONE
  walk_at "dv"
  refine ⟨xs, rfl, by omega, ?_⟩
  unfold rowD
  walk_at "dv"
  refine lc_pure frD (fun _ => some (.bl true)) (fun _ => trivial) xs [] μ _ (fun r hr μ' P P2 h => ?_) (by simp; omega) ?_
  · unfold frD
    walk_at "dv"
    have := (h1.nn r hr).1
    simp only [this, decide_true]
    exact h
  · rw [List.nil_append]
    have := all_true xs
    unfold gAll at this
    walk_at "dv"
    rw [this]
    walk_at "dv"
    refine ⟨xs, rfl, ⟨h1, h2⟩, ?_⟩
    rw [h3]
    have e : frD 1 = .tup [.int 1, .int 1] := rfl
    rw [e]
    walk_at "dv"
    exact q
def T_is_table : TF := fun ss μ P => ∃ (t : List (List Rat)) (n : Nat), ss = [.d (tabD t), .d (.int (t.length : Int)), .d (.int (n : Int))] ∧ (t.length ≤ 100 ∧ n ≤ 100 ∧ ∀ r ∈ t, r.length = n) ∧ P (.bl true) μ
theorem mon_is_table : MonF T_is_table := fun ss μ P P' k ⟨a, b, e, h, q⟩ => ⟨a, b, e, h, k _ _ q⟩
theorem ok_is_table (t : Top K mg "is_table" s_is_table ["value", "many", "states"]) (C_is_row : DefOk P w K mg base "is_row" 3 2 T_is_row) (m_all : mg "all" = none) (m_isinstance : mg "isinstance" = none) (m_len : mg "len" = none) (m_tuple : mg "tuple" = none) :
    DefOk P w K mg base "is_table" 4 3 T_is_table := by
  have nd := (sc_is_table).nd
  refine ok_defD (k := 3) t sc_is_table mon_is_table (fun f cdv A outer s H E hr =>
    (pds_cons (pds_if (ptd_w (pdw_or (ptd_not (ptd_val (pd_isi (T := "tuple") (pd_var (pv 0)) (by rfl) m_isinstance (by rfl) m_tuple bt_tuple (by decide) (by decide) bt_isi))) (pdw_or1 (ptd_cmp op_ne mon_gF snd_ne (nomark _) (pd_B call_len_seq snd_len mon_gA (by rfl) m_len bt_len (pda_cons (pd_var (pv 0)) pda_nil)) (pd_var (pv 1)))))) (pds_one (pd_ret pd_bl)) pds_nil)
      (pds_one (pd_ret (pd_B (cr_all rfl) snd_all mon_gA (by rfl) m_all bt_all (pda_cons (pd_of_N (pdn_lc (own := [("row", 3)]) rfl nd (pdi_seq (pd_var (pv 0))) (blkOk_by (N := N_is_table) (sc := defScope s_is_table) (by decide +kernel)) (fun _ _ _ _ _ => (pdg_name (pg_name (i := 3) nd rfl (by first | exact Or.inl rfl | exact Or.inr rfl)))) (fun _ _ _ _ _ => pdts_nil) (fun _ _ _ _ _ => (pd_callD C_is_row (hr.mono (by decide)) (by rfl) (pda_cons (pd_var (pv 3)) (pda_cons (pd_var (pv 2)) pda_nil)))) (by decide))) pda_nil)))))) ?_
  intro ss μ Q hl h
  obtain ⟨t, n, rfl, ⟨h1, h2, h3⟩, q⟩ := h
  have e1 : kitB "tuple" "tuple" = some true := by decide +kernel
  unfold tabD
  walk_at "dv"
  rw [e1]
  walk_at "dv"
  rw [List.length_map]
  walk_at "dv"
  refine lc_pure rowD (fun _ => some (.bl true)) (fun _ => trivial) t [] μ _ (fun r hr μ' P P2 h => ?_) (by simp; omega) ?_
  · walk_at "dv"
    have := h3 r hr
    exact ⟨r, by rw [this], by omega, h⟩
  · rw [List.nil_append]
    have := all_true t
    unfold gAll at this
    walk_at "dv"
    rw [this]
    walk_at "dv"
    exact q
def T_is_setting : TF := fun ss μ P => ∃ wd n, ss = [.d (worldD wd)] ∧ WB wd n ∧ P (.bl true) μ
theorem mon_is_setting : MonF T_is_setting := fun ss μ P P' k ⟨a, b, e, h, q⟩ => ⟨a, b, e, h, k _ _ q⟩
theorem ok_is_setting (t : Top K mg "is_setting" s_is_setting ["value"]) (C_is_table : DefOk P w K mg base "is_table" 4 3 T_is_table) (m_isinstance : mg "isinstance" = none) (m_len : mg "len" = none) (m_tuple : mg "tuple" = none) :
    DefOk P w K mg base "is_setting" 5 1 T_is_setting := by
  have nd := (sc_is_setting).nd
  refine ok_defD (k := 4) t sc_is_setting mon_is_setting (fun f cdv A outer s H E hr =>
    (pds_cons (pds_if (ptd_w (pdw_or (ptd_not (ptd_val (pd_isi (T := "tuple") (pd_var (pv 0)) (by rfl) m_isinstance (by rfl) m_tuple bt_tuple (by decide) (by decide) bt_isi))) (pdw_or1 (ptd_cmp op_ne mon_gF snd_ne (nomark _) (pd_B call_len_seq snd_len mon_gA (by rfl) m_len bt_len (pda_cons (pd_var (pv 0)) pda_nil)) pd_int)))) (pds_one (pd_ret pd_bl)) pds_nil)
      (pds_cons (pds_asg (pd_var (pv 0)) (pdg_tup (n := 2) rfl (pdgs_cons (pdg_name (pg_name (i := 1) nd rfl (by first | exact Or.inl rfl | exact Or.inr rfl))) (pdgs_cons (pdg_name (pg_name (i := 2) nd rfl (by first | exact Or.inl rfl | exact Or.inr rfl))) pdgs_nil))))
      (pds_cons (pds_if (ptd_w (pdw_or (ptd_not (ptd_val (pd_isi (T := "tuple") (pd_var (pv 1)) (by rfl) m_isinstance (by rfl) m_tuple bt_tuple (by decide) (by decide) bt_isi))) (pdw_or1 (ptd_not (ptd_chain op_le op_le mon_gF mon_gF snd_B0 snd_B0 (by with_unfolding_all rfl) pd_int (pd_B call_len_seq snd_len mon_gA (by rfl) m_len bt_len (pda_cons (pd_var (pv 1)) pda_nil)) pd_int))))) (pds_one (pd_ret pd_bl)) pds_nil)
      (pds_cons (pds_if (ptd_w (pdw_or (ptd_not (ptd_val (pd_isi (T := "tuple") (pd_ix ix_ok mon_gF snd_ix (fun _ _ => rfl) (pd_var (pv 1)) pd_int) (by rfl) m_isinstance (by rfl) m_tuple bt_tuple (by decide) (by decide) bt_isi))) (pdw_or1 (ptd_not (ptd_chain op_le op_le mon_gF mon_gF snd_B0 snd_B0 (by with_unfolding_all rfl) pd_int (pd_B call_len_seq snd_len mon_gA (by rfl) m_len bt_len (pda_cons (pd_ix ix_ok mon_gF snd_ix (fun _ _ => rfl) (pd_var (pv 1)) pd_int) pda_nil)) pd_int))))) (pds_one (pd_ret pd_bl)) pds_nil)
      (pds_cons (pds_par (pda_cons (pd_B call_len_seq snd_len mon_gA (by rfl) m_len bt_len (pda_cons (pd_var (pv 1)) pda_nil)) (pda_cons (pd_B call_len_seq snd_len mon_gA (by rfl) m_len bt_len (pda_cons (pd_ix ix_ok mon_gF snd_ix (fun _ _ => rfl) (pd_var (pv 1)) pd_int) pda_nil)) pda_nil)) (fun _ h => ps_par (i := 3) (j := 4) rfl nd rfl rfl (by decide) rfl rfl h rfl))
      (pds_one (pd_ret (pd_and (pd_callD C_is_table (hr.mono (by decide)) (by rfl) (pda_cons (pd_var (pv 1)) (pda_cons (pd_var (pv 3)) (pda_cons (pd_var (pv 4)) pda_nil)))) (pd_one (pd_callD C_is_table (hr.mono (by decide)) (by rfl) (pda_cons (pd_var (pv 2)) (pda_cons (pd_var (pv 3)) (pda_cons (pd_var (pv 4)) pda_nil)))))))))))))) ?_
  intro ss μ Q hl h
  obtain ⟨⟨ps, ws⟩, n, rfl, h1, q⟩ := h
  have e1 : kitB "tuple" "tuple" = some true := by decide +kernel
  obtain ⟨m1, m5, eq, n2, n4, r1, r2⟩ := h1
  simp only at m1 m5 eq r1 r2
  cases ps with
  | nil => simp at m1
  | cons p0 ps =>
    unfold worldD tabD
    walk_at "dv"
    rw [e1]
    walk_at "dv"
    have l0 := (r1 p0 (by simp)).1
    unfold rowD
    walk_at "dv"
    rw [List.length_map, List.length_map]
    rw [List.length_cons] at m5 eq
    rw [if_pos (by omega), show (!decide ((((ps.length + 1 : Nat)) : Int) ≤ 5)) = false by simp; omega]
    rw [if_neg (by decide), if_pos (by omega), show (!decide (((p0.length : Nat) : Int) ≤ 4)) = false by simp; omega]
    rw [if_neg (by decide)]
    refine ⟨_, _, ⟨rfl, rfl⟩, p0 :: ps, n, by simp only [tabD, rowD, List.map_cons, List.length_cons, l0]; rfl, ⟨by rw [List.length_cons]; omega, by omega, fun r hr => (r1 r hr).1⟩, ?_⟩
    walk_at "dv"
    refine ⟨ws, n, by simp only [tabD, rowD, l0, eq]; rfl, ⟨by omega, by omega, fun r hr => (r2 r hr).1⟩, ?_⟩
    walk_at "dv"
    exact q
def T_state_count : TF := fun ss μ P => ∃ wd n, ss = [.d (worldD wd)] ∧ WB wd n ∧ P (.int (n : Int)) μ
theorem mon_state_count : MonF T_state_count := fun ss μ P P' k ⟨a, b, e, h, q⟩ => ⟨a, b, e, h, k _ _ q⟩
theorem ok_state_count (t : Top K mg "state_count" s_state_count ["setting"]) (m_len : mg "len" = none) :
    DefOk P w K mg base "state_count" 1 1 T_state_count := by
  have nd := (sc_state_count).nd
  refine ok_defD (k := 0) t sc_state_count mon_state_count (fun f cdv A outer s H E hr =>
    (pds_one (pd_ret (pd_B call_len_seq snd_len mon_gA (by rfl) m_len bt_len (pda_cons (pd_ix ix_ok mon_gF snd_ix (fun _ _ => rfl) (pd_ix ix_ok mon_gF snd_ix (fun _ _ => rfl) (pd_var (pv 0)) pd_int) pd_int) pda_nil))))) ?_
  intro ss μ Q hl h
  obtain ⟨⟨ps, ws⟩, n, rfl, h1, q⟩ := h
  cases ps with
  | nil => exact absurd h1.m1 (by simp)
  | cons p0 ps =>
    have l0 := (h1.r1 p0 (by simp)).1
    unfold worldD tabD rowD
    walk_at "dv"
    rw [List.length_map, l0]
    exact q
def T_action_count : TF := fun ss μ P => ∃ wd n, ss = [.d (worldD wd)] ∧ WB wd n ∧ P (.int (wd.1.length : Int)) μ
theorem mon_action_count : MonF T_action_count := fun ss μ P P' k ⟨a, b, e, h, q⟩ => ⟨a, b, e, h, k _ _ q⟩
theorem ok_action_count (t : Top K mg "action_count" s_action_count ["setting"]) (m_len : mg "len" = none) :
    DefOk P w K mg base "action_count" 1 1 T_action_count := by
  have nd := (sc_action_count).nd
  refine ok_defD (k := 0) t sc_action_count mon_action_count (fun f cdv A outer s H E hr =>
    (pds_one (pd_ret (pd_B call_len_seq snd_len mon_gA (by rfl) m_len bt_len (pda_cons (pd_ix ix_ok mon_gF snd_ix (fun _ _ => rfl) (pd_var (pv 0)) pd_int) pda_nil))))) ?_
  intro ss μ Q hl h
  obtain ⟨⟨ps, ws⟩, n, rfl, h1, q⟩ := h
  unfold worldD tabD
  walk_at "dv"
  rw [List.length_map]
  exact q
def T_check_setting : TF := fun ss μ P => ∃ wd n, ss = [.d (worldD wd)] ∧ WB wd n ∧ P .non μ
theorem mon_check_setting : MonF T_check_setting := fun ss μ P P' k ⟨a, b, e, h, q⟩ => ⟨a, b, e, h, k _ _ q⟩
theorem ok_check_setting (t : Top K mg "check_setting" s_check_setting ["setting"]) (C_is_setting : DefOk P w K mg base "is_setting" 5 1 T_is_setting) :
    DefOk P w K mg base "check_setting" 6 1 T_check_setting := by
  have nd := (sc_check_setting).nd
  refine ok_defD (k := 5) t sc_check_setting mon_check_setting (fun f cdv A outer s H E hr =>
    (pds_one (pds_if (ptd_not (ptd_val (pd_callD C_is_setting (hr.mono (by decide)) (by rfl) (pda_cons (pd_var (pv 0)) pda_nil)))) (pds_one pds_never) pds_nil))) ?_
  intro ss μ Q hl h
  obtain ⟨wd, n, rfl, h1, q⟩ := h
  walk_at "dv"
  refine ⟨wd, n, rfl, h1, ?_⟩
  walk_at "dv"
  exact q
def T_check_belief : TF := fun ss μ P => ∃ wd n ch, ss = [.d (worldD wd), .d (rowD ch)] ∧ (WB wd n ∧ BB ch n) ∧ P .non μ
theorem mon_check_belief : MonF T_check_belief := fun ss μ P P' k ⟨a, b, c, e, h, q⟩ => ⟨a, b, c, e, h, k _ _ q⟩
theorem ok_check_belief (t : Top K mg "check_belief" s_check_belief ["setting", "belief"]) (C_is_row_of_chances : DefOk P w K mg base "is_row_of_chances" 4 2 T_is_row_of_chances) (C_state_count : DefOk P w K mg base "state_count" 1 1 T_state_count) :
    DefOk P w K mg base "check_belief" 5 2 T_check_belief := by
  have nd := (sc_check_belief).nd
  refine ok_defD (k := 4) t sc_check_belief mon_check_belief (fun f cdv A outer s H E hr =>
    (pds_one (pds_if (ptd_not (ptd_val (pd_callD C_is_row_of_chances (hr.mono (by decide)) (by rfl) (pda_cons (pd_var (pv 1)) (pda_cons (pd_callD C_state_count (hr.mono (by decide)) (by rfl) (pda_cons (pd_var (pv 0)) pda_nil)) pda_nil))))) (pds_one pds_never) pds_nil))) ?_
  intro ss μ Q hl h
  obtain ⟨wd, n, ch, rfl, ⟨h1, h2⟩, q⟩ := h
  walk_at "dv"
  refine ⟨wd, n, rfl, h1, ?_⟩
  walk_at "dv"
  refine ⟨ch, by rw [h2.len], ⟨h2.cb, by have := h1.n2; have := h2.len; omega, h2.sum⟩, ?_⟩
  walk_at "dv"
  exact q
def T_check_action : TF := fun ss μ P => ∃ wd n, ∃ a : Nat, ss = [.d (worldD wd), .d (.int (a : Int))] ∧ (WB wd n ∧ a < wd.1.length) ∧ P .non μ
theorem mon_check_action : MonF T_check_action := fun ss μ P P' k ⟨a, b, c, e, h, q⟩ => ⟨a, b, c, e, h, k _ _ q⟩
theorem ok_check_action (t : Top K mg "check_action" s_check_action ["setting", "action"]) (C_action_count : DefOk P w K mg base "action_count" 1 1 T_action_count) (C_is_index : DefOk P w K mg base "is_index" 2 2 T_is_index) :
    DefOk P w K mg base "check_action" 3 2 T_check_action := by
  have nd := (sc_check_action).nd
  refine ok_defD (k := 2) t sc_check_action mon_check_action (fun f cdv A outer s H E hr =>
    (pds_one (pds_if (ptd_not (ptd_val (pd_callD C_is_index (hr.mono (by decide)) (by rfl) (pda_cons (pd_var (pv 1)) (pda_cons (pd_callD C_action_count (hr.mono (by decide)) (by rfl) (pda_cons (pd_var (pv 0)) pda_nil)) pda_nil))))) (pds_one pds_never) pds_nil))) ?_
  intro ss μ Q hl h
  obtain ⟨wd, n, a, rfl, ⟨h1, h2⟩, q⟩ := h
  walk_at "dv"
  refine ⟨wd, n, rfl, h1, ?_⟩
  walk_at "dv"
  refine ⟨_, _, rfl, ?_⟩
  have e : (decide ((0 : Int) ≤ (a : Int)) && decide ((a : Int) < (wd.1.length : Int))) = true := by simp; omega
  rw [e]
  walk_at "dv"
  exact q
def T_check_state : TF := fun ss μ P => ∃ wd n, ∃ a : Nat, ss = [.d (worldD wd), .d (.int (a : Int))] ∧ (WB wd n ∧ a < n) ∧ P .non μ
theorem mon_check_state : MonF T_check_state := fun ss μ P P' k ⟨a, b, c, e, h, q⟩ => ⟨a, b, c, e, h, k _ _ q⟩
theorem ok_check_state (t : Top K mg "check_state" s_check_state ["setting", "state"]) (C_is_index : DefOk P w K mg base "is_index" 2 2 T_is_index) (C_state_count : DefOk P w K mg base "state_count" 1 1 T_state_count) :
    DefOk P w K mg base "check_state" 3 2 T_check_state := by
  have nd := (sc_check_state).nd
  refine ok_defD (k := 2) t sc_check_state mon_check_state (fun f cdv A outer s H E hr =>
    (pds_one (pds_if (ptd_not (ptd_val (pd_callD C_is_index (hr.mono (by decide)) (by rfl) (pda_cons (pd_var (pv 1)) (pda_cons (pd_callD C_state_count (hr.mono (by decide)) (by rfl) (pda_cons (pd_var (pv 0)) pda_nil)) pda_nil))))) (pds_one pds_never) pds_nil))) ?_
  intro ss μ Q hl h
  obtain ⟨wd, n, a, rfl, ⟨h1, h2⟩, q⟩ := h
  walk_at "dv"
  refine ⟨wd, n, rfl, h1, ?_⟩
  walk_at "dv"
  refine ⟨_, _, rfl, ?_⟩
  have e : (decide ((0 : Int) ≤ (a : Int)) && decide ((a : Int) < (n : Int))) = true := by simp; omega
  rw [e]
  walk_at "dv"
  exact q
end K3

/-! part K3p -/
set_option Elab.async false
set_option linter.all false
set_option maxRecDepth 100000
set_option autoImplicit false
namespace K3
open PySem PySem.Spec L2 DV
/-! ### best actions, choices, values -/
def isMax (ps : List Rat) (p : Rat) : Bool := ps.all fun x => decide (x ≤ p)
/-- the places of the greatest -/
def bestR (ps : List Rat) : List Nat := (List.range ps.length).filter fun a => isMax ps (ps.getD a 0)
def paid (t : List (List Rat)) (ch : List Rat) : List Rat := t.map fun r => dotR r ch
def bestA (wd : List (List Rat) × List (List Rat)) (ch : List Rat) : List Nat := bestR (paid wd.1 ch)
def bestW (wd : List (List Rat) × List (List Rat)) (ch : List Rat) : List Rat := (bestA wd ch).map fun a => dotR (wd.2.getD a []) ch
def valueR (wd : List (List Rat) × List (List Rat)) (ch : List Rat) : Rat := match bestW wd ch with
  | x :: xs => maxR x xs
  | [] => 0
def choiceR (wd : List (List Rat) × List (List Rat)) (ch : List Rat) : Nat := ((bestA wd ch).filter fun a => decide (dotR (wd.2.getD a []) ch = valueR wd ch)).headD 0
theorem isMax_iff {ps : List Rat} {p : Rat} : isMax ps p = true ↔ ∀ x ∈ ps, x ≤ p := by
  unfold isMax
  simp [List.all_eq_true]
theorem isMax_max {m : Rat} {xs : List Rat} {p : Rat} (h : p ∈ m :: xs) : isMax (m :: xs) p = decide (p = maxR m xs) := by
  by_cases e : p = maxR m xs
  · rw [decide_eq_true e, isMax_iff, e]
    exact maxR_ge m xs
  · rw [decide_eq_false e]
    cases q : isMax (m :: xs) p with
    | false => rfl
    | true =>
      rw [isMax_iff] at q
      exact absurd (Rat.le_antisymm (maxR_ge m xs p h) (q _ (maxR_mem m xs))) e
theorem best_ne {m : Rat} {xs : List Rat} : bestR (m :: xs) ≠ [] := by
  intro h
  obtain ⟨i, hi, e⟩ := List.getElem_of_mem (maxR_mem m xs)
  have : i ∈ bestR (m :: xs) := by
    unfold bestR
    rw [List.mem_filter, List.mem_range]
    refine ⟨hi, ?_⟩
    rw [List.getD_eq_getElem?_getD, List.getElem?_eq_getElem hi, Option.getD_some, e, isMax_max (maxR_mem m xs)]
    simp
  rw [h] at this
  cases this
theorem best_lt {ps : List Rat} {a : Nat} (h : a ∈ bestR ps) : a < ps.length := by
  unfold bestR at h
  exact List.mem_range.mp (List.mem_filter.mp h).1
/-- sizes of what comes out -/
theorem dot_den : ∀ xs ys : List Rat, (dotR xs ys).den ≤ dp xs * dp ys
  | [], ys => by simp only [dotR]; exact Nat.mul_pos (dp_pos _) (dp_pos _)
  | x :: xs, [] => by simp only [dotR]; exact Nat.mul_pos (dp_pos _) (dp_pos _)
  | x :: xs, y :: ys => by
    simp only [dotR, dp_cons]
    have h1 : (x * y).den ≤ x.den * y.den := by
      rw [Rat.den_mul]
      exact Nat.div_le_self _ _
    have h2 : (x * y + dotR xs ys).den ≤ (x * y).den * (dotR xs ys).den := by
      rw [Rat.den_add]
      exact Nat.div_le_self _ _
    have h3 := dot_den xs ys
    have h4 := Nat.mul_le_mul h1 h3
    rw [Nat.mul_mul_mul_comm]
    exact Nat.le_trans h2 h4
end K3
namespace K3
open PySem PySem.Spec L2 DV
/-! ### sizes -/
def Mg (A : Nat) (r : Rat) : Prop := r.num.natAbs ≤ A * r.den
theorem mg_div {a b : Int} {A : Nat} (hb : 0 < b) (h : a.natAbs ≤ A * b.natAbs) : Mg A (Rat.divInt a b) := by
  have h1 : (Rat.divInt a b).num * b = a * (Rat.divInt a b).den := by
    have e : Rat.divInt a b = Rat.divInt (Rat.divInt a b).num (Rat.divInt a b).den := (Rat.num_divInt_den _).symm
    have hd := den_pos (Rat.divInt a b)
    have := (Rat.divInt_eq_divInt_iff (by omega) (by omega)).mp e
    exact this.symm
  have h2 : (Rat.divInt a b).num.natAbs * b.natAbs = a.natAbs * (Rat.divInt a b).den := by
    have := congrArg Int.natAbs h1
    rw [Int.natAbs_mul, Int.natAbs_mul, Int.natAbs_natCast] at this
    exact this
  unfold Mg
  have h3 : (Rat.divInt a b).num.natAbs * b.natAbs ≤ A * (Rat.divInt a b).den * b.natAbs := by
    rw [h2, Nat.mul_assoc, Nat.mul_comm _ b.natAbs, ← Nat.mul_assoc]
    exact Nat.mul_le_mul_right _ h
  exact Nat.le_of_mul_le_mul_right h3 (by omega)
theorem mg_mono {A B : Nat} {r : Rat} (h : Mg A r) (hab : A ≤ B) : Mg B r := Nat.le_trans h (Nat.mul_le_mul_right _ hab)
theorem add_divInt (x y : Rat) : x + y = Rat.divInt (x.num * y.den + y.num * x.den) (x.den * y.den) := by
  rw [Rat.add_def', ← Rat.divInt_ofNat, Int.natCast_mul]
theorem sub_divInt (x y : Rat) : x - y = Rat.divInt (x.num * y.den - y.num * x.den) (x.den * y.den) := by
  rw [Rat.sub_def', ← Rat.divInt_ofNat, Int.natCast_mul]
theorem natAbs_dd (x y : Rat) : ((x.den : Int) * (y.den : Int)).natAbs = x.den * y.den := by
  rw [Int.natAbs_mul, Int.natAbs_natCast, Int.natAbs_natCast]
theorem mg_add {A B : Nat} {x y : Rat} (hx : Mg A x) (hy : Mg B y) : Mg (A + B) (x + y) := by
  rw [add_divInt]
  refine mg_div (Int.mul_pos (den_pos x) (den_pos y)) ?_
  rw [natAbs_dd]
  have h := Int.natAbs_add_le (x.num * y.den) (y.num * x.den)
  rw [Int.natAbs_mul, Int.natAbs_mul, Int.natAbs_natCast, Int.natAbs_natCast] at h
  have h1 := Nat.mul_le_mul_right y.den hx
  have h2 := Nat.mul_le_mul_right x.den hy
  rw [Nat.add_mul]
  rw [Nat.mul_assoc] at h1
  rw [Nat.mul_assoc, Nat.mul_comm y.den] at h2
  omega
theorem mg_sub {A B : Nat} {x y : Rat} (hx : Mg A x) (hy : Mg B y) : Mg (A + B) (x - y) := by
  rw [sub_divInt]
  refine mg_div (Int.mul_pos (den_pos x) (den_pos y)) ?_
  rw [natAbs_dd]
  have h := Int.natAbs_sub_le (x.num * y.den) (y.num * x.den)
  rw [Int.natAbs_mul, Int.natAbs_mul, Int.natAbs_natCast, Int.natAbs_natCast] at h
  have h1 := Nat.mul_le_mul_right y.den hx
  have h2 := Nat.mul_le_mul_right x.den hy
  rw [Nat.add_mul]
  rw [Nat.mul_assoc] at h1
  rw [Nat.mul_assoc, Nat.mul_comm y.den] at h2
  omega
theorem mg_mul {A B : Nat} {x y : Rat} (hx : Mg A x) (hy : Mg B y) : Mg (A * B) (x * y) := by
  rw [mul_divInt]
  refine mg_div (Int.mul_pos (den_pos x) (den_pos y)) ?_
  rw [natAbs_dd, Int.natAbs_mul]
  have := Nat.mul_le_mul hx hy
  rw [Nat.mul_mul_mul_comm] at this
  exact this
theorem den_add_le (x y : Rat) : (x + y).den ≤ x.den * y.den := by
  rw [Rat.den_add]
  exact Nat.div_le_self _ _
theorem den_mul_le (x y : Rat) : (x * y).den ≤ x.den * y.den := by
  rw [Rat.den_mul]
  exact Nat.div_le_self _ _
theorem divInt_den_le {a b : Int} (hb : 0 < b) : (Rat.divInt a b).den ≤ b.natAbs := by
  rw [Rat.den_divInt, if_neg (by omega)]
  exact Nat.div_le_self _ _
theorem den_sub_le (x y : Rat) : (x - y).den ≤ x.den * y.den := by
  rw [sub_divInt]
  have := divInt_den_le (a := x.num * y.den - y.num * x.den) (Int.mul_pos (den_pos x) (den_pos y))
  rw [natAbs_dd] at this
  exact this
theorem sm_of {a b A : Nat} {r : Rat} (hd : r.den < 2 ^ a) (hm : Mg A r) (hA : A ≤ 2 ^ b) (h : a + b ≤ 3000) : Sm r := by
  have h1 : A * r.den < 2 ^ b * 2 ^ a := Nat.lt_of_le_of_lt (Nat.mul_le_mul_right _ hA) (Nat.mul_lt_mul_of_pos_left hd (Nat.pow_pos (by decide)))
  rw [← Nat.pow_add] at h1
  have h2 : 2 ^ (b + a) ≤ 2 ^ 3000 := Nat.pow_le_pow_right (by decide) (by omega)
  exact ⟨Nat.lt_of_lt_of_le hd (Nat.pow_le_pow_right (by decide) (by omega)), Nat.lt_of_lt_of_le (Nat.lt_of_le_of_lt hm h1) h2⟩
theorem RB.mgle {rs : List Rat} (h : RB rs) {r : Rat} (hr : r ∈ rs) : Mg (2 ^ 150) r := Nat.le_of_lt (h.mg r hr)
theorem CB.mgle {rs : List Rat} (h : CB rs) {r : Rat} (hr : r ∈ rs) : Mg 1 r := by
  have := h.nn r hr
  unfold Mg
  omega
theorem mg_dot : ∀ (xs ys : List Rat), (∀ r ∈ xs, Mg (2 ^ 150) r) → (∀ r ∈ ys, Mg 1 r) → Mg (xs.length * 2 ^ 150) (dotR xs ys)
  | [], ys, _, _ => by simp only [dotR]; unfold Mg; simp
  | x :: xs, [], _, _ => by simp only [dotR]; unfold Mg; simp
  | x :: xs, y :: ys, h1, h2 => by
    simp only [dotR, List.length_cons]
    have a := mg_mul (h1 x (by simp)) (h2 y (by simp))
    have b := mg_dot xs ys (fun r hr => h1 r (List.mem_cons_of_mem _ hr)) (fun r hr => h2 r (List.mem_cons_of_mem _ hr))
    rw [Nat.mul_one] at a
    have c := mg_add a b
    rw [Nat.add_mul, Nat.one_mul, Nat.add_comm]
    exact c
theorem dot_sm {xs ys : List Rat} (h1 : RB xs) (h2 : CB ys) : (dotR xs ys).den < 2 ^ 1700 ∧ Mg (2 ^ 152) (dotR xs ys) := by
  refine ⟨Nat.lt_of_le_of_lt (dot_den xs ys) (pow_mul_lt h1.dpl h2.dpl), mg_mono (mg_dot xs ys (fun r hr => h1.mgle hr) (fun r hr => h2.mgle hr)) ?_⟩
  have := h1.len
  have h3 : xs.length * 2 ^ 150 ≤ 4 * 2 ^ 150 := Nat.mul_le_mul_right _ this
  omega
theorem dot_Sm {xs ys : List Rat} (h1 : RB xs) (h2 : CB ys) : Sm (dotR xs ys) := sm_of (dot_sm h1 h2).1 (dot_sm h1 h2).2 (Nat.le_refl _) (by decide)
end K3

/-! part K3b -/
set_option Elab.async false
set_option linter.all false
set_option maxRecDepth 100000
set_option autoImplicit false
set_option exponentiation.threshold 100
namespace K3
open PySem PySem.Spec L2 DV
open PyProof.Rows (envOfC)
variable {P : Program} {w : World} {K : PySem.W.Frag} {mg : Str → Option Value} {base : Heap}

local macro_rules | `(tactic| walk_at "dv") => `(tactic| simp only [startR, kD, fin, fSeq, fNext, fDrop, fNRep, fNRg, fParN0, fPar3, fPar3N, fAsg, fRet, fIfS, fNever, fPar, fNew, fApp, fVar, fC, fOp, fTest, fTAnd, fTOr, fTNot, fVAnd, fVOr, fVNot, fNeg, fIf, fChain, fANil, fACons, fTup, fLst, fCB, fNLst, fOfN, fYes, fIsi, fONone, fOSome, fSl, sliceF,
  gF, gA, cI, fI, c0, cAdd, fAdd, fIx, cRepT, fRepT, fEq, fNe, fNotIn, intsOf, blsOf, allD, seqOf, tupOf, fLen, cA0, f1L, gSum, gAll, gAny, fTupleOf, fListOf, fA1, fA2, cDm, gN, gsNil_eq, gsCons_eq, gT_eq, gSb_eq, isB, itemsOf, fISeq, fIRng, fIEnum, fIZip, fFor, fLc, wipeR, fCall, fCallK,
  List.map_cons, List.map_nil, List.length_cons, List.length_nil, List.replicate_succ, List.replicate_zero, List.cons_append, List.nil_append, List.append_nil, List.getElem?_cons_zero, List.getElem?_cons_succ, List.getElem?_nil, List.set_cons_zero, List.set_cons_succ, List.set_nil, List.take_succ_cons, List.take_zero, List.take_nil,
  Option.map_some, Option.map_none, Option.some.injEq, Option.get_some, exists_eq_left', exists_eq_left, exists_eq_right, true_and, and_true, if_true, if_false, reduceCtorEq, ite_true, ite_false, S.d.injEq, S.m.injEq, D.int.injEq, D.tup.injEq, D.lst.injEq, D.bl.injEq, D.str.injEq, List.cons.injEq, exists_and_left, exists_and_right,
  Nat.sub_zero, Nat.reduceSub, Nat.reduceAdd, Nat.zero_add, Nat.add_zero, Bool.not_true, Bool.not_false, Bool.false_eq_true, decide_eq_true_eq, Nat.reduceLT, Nat.reduceLeDiff, Nat.le_refl, List.take_length, Int.reduceLT, Int.reduceToNat, Nat.lt_irrefl, gt_iff_lt, Nat.not_lt_zero, Int.cast_ofNat_Int, decide_true, decide_false])


def unitR (n s : Nat) : List Rat := (List.range n).map fun k => if k = s then 1 else 0
theorem rngD_nat (n : Nat) : rngD (n : Int) = (List.range n).map fun (i : Nat) => D.int (i : Int) := by
  unfold rngD
  rw [Int.toNat_natCast]
theorem get_rows {t : List (List Rat)} {a : Nat} (h : a < t.length) : (t.map rowD)[a]? = some (rowD (t.getD a [])) := by
  rw [List.getElem?_map, List.getD_eq_getElem?_getD, List.getElem?_eq_getElem h]
  rfl
theorem getD_mem {t : List (List Rat)} {a : Nat} (h : a < t.length) : t.getD a [] ∈ t := by
  rw [List.getD_eq_getElem?_getD, List.getElem?_eq_getElem h]
  exact List.getElem_mem h
theorem enum_fr (ps : List Rat) : enumD (ps.map frD) = ps.zipIdx.map fun p => .tup [.int (p.2 : Int), frD p.1] := by
  unfold enumD
  apply List.ext_getElem?
  intro i
  rw [List.getElem?_mapIdx, List.getElem?_map, List.getElem?_map, List.getElem?_zipIdx]
  cases ps[i]? with
  | none => rfl
  | some r => simp
theorem best_enum (m : Rat) (xs : List Rat) : ((m :: xs).zipIdx.filterMap fun p => if p.1 = maxR m xs then some (D.int (p.2 : Int)) else none) = (bestR (m :: xs)).map fun (a : Nat) => D.int (a : Int) := by
  have key : ∀ (l : List Rat) (k : Nat), (∀ p ∈ l, p ∈ m :: xs) → (l.zipIdx k).filterMap (fun p => if p.1 = maxR m xs then some (D.int (p.2 : Int)) else none) = ((List.range' k l.length).filter fun a => isMax (m :: xs) (l.getD (a - k) 0)).map fun (a : Nat) => D.int (a : Int) := by
    intro l
    induction l with
    | nil => intro k _; rfl
    | cons p l ih =>
      intro k h
      rw [List.zipIdx_cons, List.filterMap_cons, List.length_cons, List.range'_succ, List.filter_cons]
      have e0 : (p :: l).getD (k - k) 0 = p := by simp
      rw [e0, isMax_max (h p (by simp))]
      have er : (List.range' (k + 1) l.length).filter (fun a => isMax (m :: xs) ((p :: l).getD (a - k) 0)) = (List.range' (k + 1) l.length).filter (fun a => isMax (m :: xs) (l.getD (a - (k + 1)) 0)) := by
        apply List.filter_congr
        intro a ha
        rw [List.mem_range'_1] at ha
        rw [show a - k = (a - (k + 1)) + 1 by omega, List.getD_cons_succ]
      rw [er]
      have i := ih (k + 1) fun q hq => h q (List.mem_cons_of_mem _ hq)
      by_cases c : p = maxR m xs
      · simp only [if_pos c, decide_eq_true c, if_true, List.map_cons, i]
      · simp only [if_neg c, decide_eq_false c, Bool.false_eq_true, if_false, i]
  have k0 := key (m :: xs) 0 fun _ h => h
  rw [k0]
  unfold bestR
  rw [List.range_eq_range']
  rfl
theorem tup_iff {r s : Rat} : (r.num = s.num ∧ (r.den : Int) = (s.den : Int)) ↔ r = s := by
  constructor
  · intro h; exact Rat.ext h.1 (by omega)
  · rintro rfl; exact ⟨rfl, rfl⟩

def T_unit_row : TF := fun ss μ P => ∃ n a : Nat, ss = [.d (.int (a : Int)), .d (.int (n : Int))] ∧ n ≤ 1000 ∧ P (rowD (unitR n a)) μ
theorem mon_unit_row : MonF T_unit_row := fun ss μ P P' k ⟨a, b, e, h, q⟩ => ⟨a, b, e, h, k _ _ q⟩
theorem ok_unit_row (t : Top K mg "unit_row" s_unit_row ["k", "many"]) (C_NIL : ConstOk K mg "NIL" V_NIL) (C_ONE : ConstOk K mg "ONE" V_ONE) (m_range : mg "range" = none) (m_tuple : mg "tuple" = none) :
    DefOk P w K mg base "unit_row" 1 2 T_unit_row := by
  have nd := (sc_unit_row).nd
  refine ok_defD (k := 0) t sc_unit_row mon_unit_row (fun f cdv A outer s H E hr =>
    (pds_one (pd_ret (pd_Ty call_tuple_of snd_tupleOf mon_gA (by rfl) m_tuple bt_tuple (pda_cons (pd_of_N (pdn_lc (own := [("j", 2)]) rfl nd (pdi_range (by rfl) m_range (pda_cons (pd_var (pv 1)) pda_nil)) (blkOk_by (N := N_unit_row) (sc := defScope s_unit_row) (by decide +kernel)) (fun _ _ _ _ _ => (pdg_name (pg_name (i := 2) nd rfl (by first | exact Or.inl rfl | exact Or.inr rfl)))) (fun _ _ _ _ _ => pdts_nil) (fun _ _ _ _ _ => (pd_if (ptd_cmp (eq_ok hr.units) mon_gF snd_eq (nomark _) (pd_var (pv 2)) (pd_var (pv 0))) (pd_glob C_ONE (by rfl)) (pd_glob C_NIL (by rfl)))) (by decide))) pda_nil))))) ?_
  intro ss μ Q hl h
  obtain ⟨n, a, rfl, h1, q⟩ := h
  unfold V_ONE V_NIL
  walk_at "dv"
  refine ⟨by omega, by omega, ?_⟩
  rw [rngD_nat]
  refine lc_pure (fun (i : Nat) => D.int (i : Int)) (fun i => some (frD (if i = a then 1 else 0))) (fun _ => trivial) (List.range n) [] μ _ (fun i _ μ' P P2 h => ?_) (by simp; omega) ?_
  · walk_at "dv"
    by_cases c : i = a
    · subst c
      rw [if_pos rfl] at h
      simp only [decide_true, if_true]
      exact h
    · rw [if_neg c] at h
      have c2 : ¬ (i : Int) = (a : Int) := by omega
      simp only [c2]
      exact h
  · walk_at "dv"
    have e : (List.range n).filterMap (fun i => some (frD (if i = a then 1 else 0))) = (unitR n a).map frD := by
      unfold unitR
      rw [List.map_map, List.filterMap_eq_map']
      rfl
    rw [e]
    exact q
def T_sure : TF := fun ss μ P => ∃ wd n, ∃ a : Nat, ss = [.d (worldD wd), .d (.int (a : Int))] ∧ (WB wd n ∧ a < n) ∧ P (rowD (unitR n a)) μ
theorem mon_sure : MonF T_sure := fun ss μ P P' k ⟨a, b, c, e, h, q⟩ => ⟨a, b, c, e, h, k _ _ q⟩
theorem okT_sure (t : Top K mg "sure" s_sure ["setting", "state"]) (C_check_setting : DefOk P w K mg base "check_setting" 6 1 T_check_setting) (C_check_state : DefOk P w K mg base "check_state" 3 2 T_check_state) (C_state_count : DefOk P w K mg base "state_count" 1 1 T_state_count) (C_unit_row : DefOk P w K mg base "unit_row" 1 2 T_unit_row) :
    DefOkT P w K mg base "sure" s_sure ["setting", "state"] 7 T_sure := by
  have nd := (sc_sure).nd
  refine ok_defT (k := 6) t sc_sure mon_sure (fun f cdv A outer s H E hr =>
    (pds_cons (pds_expr (pd_callD C_check_setting (hr.mono (by decide)) (by rfl) (pda_cons (pd_var (pv 0)) pda_nil)))
      (pds_cons (pds_expr (pd_callD C_check_state (hr.mono (by decide)) (by rfl) (pda_cons (pd_var (pv 0)) (pda_cons (pd_var (pv 1)) pda_nil))))
      (pds_one (pd_ret (pd_callD C_unit_row (hr.mono (by decide)) (by rfl) (pda_cons (pd_var (pv 1)) (pda_cons (pd_callD C_state_count (hr.mono (by decide)) (by rfl) (pda_cons (pd_var (pv 0)) pda_nil)) pda_nil)))))))) ?_
  intro ss μ Q hl h
  obtain ⟨wd, n, a, rfl, ⟨h1, h2⟩, q⟩ := h
  have n4 := h1.n4
  walk_at "dv"
  refine ⟨wd, n, rfl, h1, ?_⟩
  refine ⟨wd, n, a, rfl, ⟨h1, h2⟩, ?_⟩
  walk_at "dv"
  refine ⟨wd, n, rfl, h1, ?_⟩
  refine ⟨n, a, rfl, by omega, ?_⟩
  walk_at "dv"
  exact q
theorem ok_sure (t : Top K mg "sure" s_sure ["setting", "state"]) (C_check_setting : DefOk P w K mg base "check_setting" 6 1 T_check_setting) (C_check_state : DefOk P w K mg base "check_state" 3 2 T_check_state) (C_state_count : DefOk P w K mg base "state_count" 1 1 T_state_count) (C_unit_row : DefOk P w K mg base "unit_row" 1 2 T_unit_row) :
    DefOk P w K mg base "sure" 7 2 T_sure := (okT_sure t C_check_setting C_check_state C_state_count C_unit_row).ok
def T_pay : TF := fun ss μ P => ∃ wd n ch, ∃ a : Nat, ss = [.d (worldD wd), .d (.int (a : Int)), .d (rowD ch)] ∧ (WB wd n ∧ a < wd.1.length ∧ BB ch n) ∧ P (frD (dotR (wd.1.getD a []) ch)) μ
theorem mon_pay : MonF T_pay := fun ss μ P P' k ⟨a, b, c, d, e, h, q⟩ => ⟨a, b, c, d, e, h, k _ _ q⟩
theorem okT_pay (t : Top K mg "pay" s_pay ["setting", "action", "belief"]) (C_check_action : DefOk P w K mg base "check_action" 3 2 T_check_action) (C_check_belief : DefOk P w K mg base "check_belief" 5 2 T_check_belief) (C_check_setting : DefOk P w K mg base "check_setting" 6 1 T_check_setting) (C_row_product : DefOk P w K mg base "row_product" 2 2 T_row_product) :
    DefOkT P w K mg base "pay" s_pay ["setting", "action", "belief"] 7 T_pay := by
  have nd := (sc_pay).nd
  refine ok_defT (k := 6) t sc_pay mon_pay (fun f cdv A outer s H E hr =>
    (pds_cons (pds_expr (pd_callD C_check_setting (hr.mono (by decide)) (by rfl) (pda_cons (pd_var (pv 0)) pda_nil)))
      (pds_cons (pds_expr (pd_callD C_check_action (hr.mono (by decide)) (by rfl) (pda_cons (pd_var (pv 0)) (pda_cons (pd_var (pv 1)) pda_nil))))
      (pds_cons (pds_expr (pd_callD C_check_belief (hr.mono (by decide)) (by rfl) (pda_cons (pd_var (pv 0)) (pda_cons (pd_var (pv 2)) pda_nil))))
      (pds_one (pd_ret (pd_callD C_row_product (hr.mono (by decide)) (by rfl) (pda_cons (pd_ix ix_ok mon_gF snd_ix (fun _ _ => rfl) (pd_ix ix_ok mon_gF snd_ix (fun _ _ => rfl) (pd_var (pv 0)) pd_int) (pd_var (pv 1))) (pda_cons (pd_var (pv 2)) pda_nil))))))))) ?_
  intro ss μ Q hl h
  obtain ⟨wd, n, ch, a, rfl, ⟨h1, h2, h3⟩, q⟩ := h
  have h4 : a < wd.1.length := by have := h1.eq; omega
  have h5 := h1.r1 _ (getD_mem h4)
  walk_at "dv"
  refine ⟨wd, n, rfl, h1, ?_⟩
  refine ⟨wd, n, a, rfl, ⟨h1, h2⟩, ?_⟩
  refine ⟨wd, n, ch, rfl, ⟨h1, h3⟩, ?_⟩
  unfold worldD tabD
  walk_at "dv"
  rw [if_neg (by omega), Int.toNat_natCast, get_rows h4]
  walk_at "dv"
  refine ⟨_, ch, rfl, ⟨h5.2, h3.cb, by rw [h5.1, h3.len]⟩, ?_⟩
  walk_at "dv"
  exact q
theorem ok_pay (t : Top K mg "pay" s_pay ["setting", "action", "belief"]) (C_check_action : DefOk P w K mg base "check_action" 3 2 T_check_action) (C_check_belief : DefOk P w K mg base "check_belief" 5 2 T_check_belief) (C_check_setting : DefOk P w K mg base "check_setting" 6 1 T_check_setting) (C_row_product : DefOk P w K mg base "row_product" 2 2 T_row_product) :
    DefOk P w K mg base "pay" 7 3 T_pay := (okT_pay t C_check_action C_check_belief C_check_setting C_row_product).ok
def T_worth : TF := fun ss μ P => ∃ wd n ch, ∃ a : Nat, ss = [.d (worldD wd), .d (.int (a : Int)), .d (rowD ch)] ∧ (WB wd n ∧ a < wd.1.length ∧ BB ch n) ∧ P (frD (dotR (wd.2.getD a []) ch)) μ
theorem mon_worth : MonF T_worth := fun ss μ P P' k ⟨a, b, c, d, e, h, q⟩ => ⟨a, b, c, d, e, h, k _ _ q⟩
theorem okT_worth (t : Top K mg "worth" s_worth ["setting", "action", "belief"]) (C_check_action : DefOk P w K mg base "check_action" 3 2 T_check_action) (C_check_belief : DefOk P w K mg base "check_belief" 5 2 T_check_belief) (C_check_setting : DefOk P w K mg base "check_setting" 6 1 T_check_setting) (C_row_product : DefOk P w K mg base "row_product" 2 2 T_row_product) :
    DefOkT P w K mg base "worth" s_worth ["setting", "action", "belief"] 7 T_worth := by
  have nd := (sc_worth).nd
  refine ok_defT (k := 6) t sc_worth mon_worth (fun f cdv A outer s H E hr =>
    (pds_cons (pds_expr (pd_callD C_check_setting (hr.mono (by decide)) (by rfl) (pda_cons (pd_var (pv 0)) pda_nil)))
      (pds_cons (pds_expr (pd_callD C_check_action (hr.mono (by decide)) (by rfl) (pda_cons (pd_var (pv 0)) (pda_cons (pd_var (pv 1)) pda_nil))))
      (pds_cons (pds_expr (pd_callD C_check_belief (hr.mono (by decide)) (by rfl) (pda_cons (pd_var (pv 0)) (pda_cons (pd_var (pv 2)) pda_nil))))
      (pds_one (pd_ret (pd_callD C_row_product (hr.mono (by decide)) (by rfl) (pda_cons (pd_ix ix_ok mon_gF snd_ix (fun _ _ => rfl) (pd_ix ix_ok mon_gF snd_ix (fun _ _ => rfl) (pd_var (pv 0)) pd_int) (pd_var (pv 1))) (pda_cons (pd_var (pv 2)) pda_nil))))))))) ?_
  intro ss μ Q hl h
  obtain ⟨wd, n, ch, a, rfl, ⟨h1, h2, h3⟩, q⟩ := h
  have h4 : a < wd.2.length := by have := h1.eq; omega
  have h5 := h1.r2 _ (getD_mem h4)
  walk_at "dv"
  refine ⟨wd, n, rfl, h1, ?_⟩
  refine ⟨wd, n, a, rfl, ⟨h1, h2⟩, ?_⟩
  refine ⟨wd, n, ch, rfl, ⟨h1, h3⟩, ?_⟩
  unfold worldD tabD
  walk_at "dv"
  rw [if_neg (by omega), Int.toNat_natCast, get_rows h4]
  walk_at "dv"
  refine ⟨_, ch, rfl, ⟨h5.2, h3.cb, by rw [h5.1, h3.len]⟩, ?_⟩
  walk_at "dv"
  exact q
theorem ok_worth (t : Top K mg "worth" s_worth ["setting", "action", "belief"]) (C_check_action : DefOk P w K mg base "check_action" 3 2 T_check_action) (C_check_belief : DefOk P w K mg base "check_belief" 5 2 T_check_belief) (C_check_setting : DefOk P w K mg base "check_setting" 6 1 T_check_setting) (C_row_product : DefOk P w K mg base "row_product" 2 2 T_row_product) :
    DefOk P w K mg base "worth" 7 3 T_worth := (okT_worth t C_check_action C_check_belief C_check_setting C_row_product).ok
def T_best_actions_at : TF := fun ss μ P => ∃ wd n ch, ss = [.d (worldD wd), .d (rowD ch)] ∧ (WB wd n ∧ BB ch n) ∧ P (.tup ((bestA wd ch).map fun (a : Nat) => D.int (a : Int))) μ
theorem mon_best_actions_at : MonF T_best_actions_at := fun ss μ P P' k ⟨a, b, c, e, h, q⟩ => ⟨a, b, c, e, h, k _ _ q⟩
theorem ok_best_actions_at (t : Top K mg "best_actions_at" s_best_actions_at ["setting", "belief"]) (C_greatest : DefOk P w K mg base "greatest" 2 1 T_greatest) (C_row_product : DefOk P w K mg base "row_product" 2 2 T_row_product) (m_enumerate : mg "enumerate" = none) (m_tuple : mg "tuple" = none) :
    DefOk P w K mg base "best_actions_at" 3 2 T_best_actions_at := by
  have nd := (sc_best_actions_at).nd
  refine ok_defD (k := 2) t sc_best_actions_at mon_best_actions_at (fun f cdv A outer s H E hr =>
    (pds_cons (pds_setLc (i := 2) (own := [("row", 4)]) rfl nd rfl rfl (sw_true rfl rfl rfl (by decide +kernel)) (pdi_seq (pd_ix ix_ok mon_gF snd_ix (fun _ _ => rfl) (pd_var (pv 0)) pd_int)) (blkOk_by (N := N_best_actions_at) (sc := defScope s_best_actions_at) (by decide +kernel)) (fun _ _ _ _ _ => (pdg_name (pg_name (i := 4) nd rfl (by first | exact Or.inl rfl | exact Or.inr rfl)))) (fun _ _ _ _ _ => pdts_nil) (fun _ _ _ _ _ => (pd_callD C_row_product (hr.mono (by decide)) (by rfl) (pda_cons (pd_var (pv 4)) (pda_cons (pd_var (pv 1)) pda_nil)))) (by decide))
      (pds_cons (pds_set (pd_callD C_greatest (hr.mono (by decide)) (by rfl) (pda_cons (pd_var (pv 2)) pda_nil)) (fun _ h => ps_set (i := 3) nd rfl (by first | exact Or.inl rfl | exact Or.inr rfl) h))
      (pds_one (pd_ret (pd_Ty call_tuple_of snd_tupleOf mon_gA (by rfl) m_tuple bt_tuple (pda_cons (pd_of_N (pdn_lc (own := [("action", 5), ("number", 6)]) rfl nd (pdi_enumerate (by rfl) m_enumerate (pda_cons (pd_var (pv 2)) pda_nil)) (blkOk_by (N := N_best_actions_at) (sc := defScope s_best_actions_at) (by decide +kernel)) (fun _ _ _ _ _ => (pdg_tup (n := 2) rfl (pdgs_cons (pdg_name (pg_name (i := 5) nd rfl (by first | exact Or.inl rfl | exact Or.inr rfl))) (pdgs_cons (pdg_name (pg_name (i := 6) nd rfl (by first | exact Or.inl rfl | exact Or.inr rfl))) pdgs_nil)))) (fun _ _ _ _ _ => (pdts_one (ptd_cmp (eq_ok hr.units) mon_gF snd_eq (nomark _) (pd_var (pv 6)) (pd_var (pv 3))))) (fun _ _ _ _ _ => (pd_var (pv 5))) (by decide))) pda_nil))))))) ?_
  intro ss μ Q hl h
  obtain ⟨wd, n, ch, rfl, ⟨h1, h2⟩, q⟩ := h
  have m5 := h1.m5
  unfold worldD tabD
  walk_at "dv"
  refine lc_pure rowD (fun r => some (frD (dotR r ch))) (fun _ => trivial) wd.1 [] μ _ (fun r hr μ' P P2 h => ?_) (by simp; omega) ?_
  · walk_at "dv"
    exact ⟨r, ch, rfl, ⟨(h1.r1 r hr).2, h2.cb, by rw [(h1.r1 r hr).1, h2.len]⟩, h⟩
  · have e : wd.1.filterMap (fun r => some (frD (dotR r ch))) = (paid wd.1 ch).map frD := by
      unfold paid
      rw [List.map_map, List.filterMap_eq_map']
      rfl
    rw [e, List.nil_append]
    have hs : ∀ r ∈ paid wd.1 ch, Sm r := fun r hr => by
      obtain ⟨x, hx, rfl⟩ := List.mem_map.mp hr
      exact dot_Sm (h1.r1 x hx).2 h2.cb
    have hlen : (paid wd.1 ch).length = wd.1.length := by unfold paid; rw [List.length_map]
    unfold bestA at q
    cases ep : paid wd.1 ch with
    | nil => rw [ep] at hlen; have := h1.m1; simp at hlen; omega
    | cons m xs =>
      rw [ep] at hs q hlen
      walk_at "dv"
      refine ⟨m, xs, rfl, hs, ?_⟩
      have ee := enum_fr (m :: xs)
      walk_at "dv"
      rw [List.map_cons] at ee
      rw [ee]
      refine lc_pure (fun (p : Rat × Nat) => D.tup [D.int (p.2 : Int), frD p.1]) (fun p => if p.1 = maxR m xs then some (D.int (p.2 : Int)) else none) (fun _ => trivial) (m :: xs).zipIdx [] μ _ (fun p _ μ' P P2 h => ?_) (by simp at hlen ⊢; omega) ?_
      · unfold frD
        walk_at "dv"
        by_cases c : p.1 = maxR m xs
        · rw [if_pos c] at h
          rw [if_pos (tup_iff.mpr c)]
          exact h
        · rw [if_neg c] at h
          rw [if_neg (fun z => c (tup_iff.mp z))]
          exact h
      · rw [best_enum, List.nil_append]
        walk_at "dv"
        exact q

theorem best_of {wd : List (List Rat) × List (List Rat)} {n : Nat} {ch : List Rat} (h1 : WB wd n) : ∃ a l, bestA wd ch = a :: l ∧ (∀ b ∈ bestA wd ch, b < wd.2.length) ∧ (bestA wd ch).length ≤ 5 := by
  have hlen : (paid wd.1 ch).length = wd.1.length := by unfold paid; rw [List.length_map]
  have hlt : ∀ b ∈ bestA wd ch, b < wd.2.length := fun b hb => by
    have := best_lt hb
    have := h1.eq
    omega
  have hl5 : (bestA wd ch).length ≤ 5 := by
    have : (bestA wd ch).length ≤ (List.range (paid wd.1 ch).length).length := List.length_filter_le _ _
    rw [List.length_range] at this
    have := h1.m5
    omega
  cases e : bestA wd ch with
  | nil =>
    exfalso
    unfold bestA at e
    cases ep : paid wd.1 ch with
    | nil => rw [ep] at hlen; have := h1.m1; simp at hlen; omega
    | cons m xs => rw [ep] at e; exact best_ne e
  | cons a l => exact ⟨a, l, rfl, by rw [← e]; exact hlt, by rw [← e]; exact hl5⟩

def T_value_at : TF := fun ss μ P => ∃ wd n ch, ss = [.d (worldD wd), .d (rowD ch)] ∧ (WB wd n ∧ BB ch n) ∧ P (frD (valueR wd ch)) μ
theorem mon_value_at : MonF T_value_at := fun ss μ P P' k ⟨a, b, c, e, h, q⟩ => ⟨a, b, c, e, h, k _ _ q⟩
theorem ok_value_at (t : Top K mg "value_at" s_value_at ["setting", "belief"]) (C_best_actions_at : DefOk P w K mg base "best_actions_at" 3 2 T_best_actions_at) (C_greatest : DefOk P w K mg base "greatest" 2 1 T_greatest) (C_row_product : DefOk P w K mg base "row_product" 2 2 T_row_product) :
    DefOk P w K mg base "value_at" 4 2 T_value_at := by
  have nd := (sc_value_at).nd
  refine ok_defD (k := 3) t sc_value_at mon_value_at (fun f cdv A outer s H E hr =>
    (pds_cons (pds_set (pd_ix ix_ok mon_gF snd_ix (fun _ _ => rfl) (pd_var (pv 0)) pd_int) (fun _ h => ps_set (i := 2) nd rfl (by first | exact Or.inl rfl | exact Or.inr rfl) h))
      (pds_cons (pds_set (pd_callD C_best_actions_at (hr.mono (by decide)) (by rfl) (pda_cons (pd_var (pv 0)) (pda_cons (pd_var (pv 1)) pda_nil))) (fun _ h => ps_set (i := 3) nd rfl (by first | exact Or.inl rfl | exact Or.inr rfl) h))
      (pds_one (pd_ret (pd_callD C_greatest (hr.mono (by decide)) (by rfl) (pda_cons (pd_of_N (pdn_lc (own := [("action", 4)]) rfl nd (pdi_seq (pd_var (pv 3))) (blkOk_by (N := N_value_at) (sc := defScope s_value_at) (by decide +kernel)) (fun _ _ _ _ _ => (pdg_name (pg_name (i := 4) nd rfl (by first | exact Or.inl rfl | exact Or.inr rfl)))) (fun _ _ _ _ _ => pdts_nil) (fun _ _ _ _ _ => (pd_callD C_row_product (hr.mono (by decide)) (by rfl) (pda_cons (pd_ix ix_ok mon_gF snd_ix (fun _ _ => rfl) (pd_var (pv 2)) (pd_var (pv 4))) (pda_cons (pd_var (pv 1)) pda_nil)))) (by decide))) pda_nil))))))) ?_
  intro ss μ Q hl h
  obtain ⟨wd, n, ch, rfl, ⟨h1, h2⟩, q⟩ := h
  obtain ⟨a, l, hb, hlt, hl5⟩ := best_of (ch := ch) h1
  have hw : worldD wd = .tup [tabD wd.1, tabD wd.2] := rfl
  rw [hw]
  walk_at "dv"
  refine ⟨wd, n, ch, rfl, ⟨h1, h2⟩, ?_⟩
  walk_at "dv"
  refine lc_pure (fun (b : Nat) => D.int (b : Int)) (fun b => some (frD (dotR (wd.2.getD b []) ch))) (fun _ => trivial) (bestA wd ch) [] μ _ (fun b hb μ' P P2 h => ?_) (by simp; omega) ?_
  · have h4 := hlt b hb
    have h5 := h1.r2 _ (getD_mem h4)
    unfold tabD
    walk_at "dv"
    rw [if_neg (by omega), Int.toNat_natCast, get_rows h4]
    walk_at "dv"
    exact ⟨_, ch, rfl, ⟨h5.2, h2.cb, by rw [h5.1, h2.len]⟩, h⟩
  · have e : (bestA wd ch).filterMap (fun b => some (frD (dotR (wd.2.getD b []) ch))) = (bestW wd ch).map frD := by
      unfold bestW
      rw [List.map_map, List.filterMap_eq_map']
      rfl
    rw [e, List.nil_append]
    have hs : ∀ r ∈ bestW wd ch, Sm r := fun r hr => by
      obtain ⟨x, hx, rfl⟩ := List.mem_map.mp hr
      exact dot_Sm (h1.r2 _ (getD_mem (hlt x hx))).2 h2.cb
    have hv : ∃ x xs, bestW wd ch = x :: xs := by
      unfold bestW
      rw [hb]
      exact ⟨_, _, rfl⟩
    obtain ⟨x, xs, hx⟩ := hv
    unfold valueR at q
    rw [hx] at q hs ⊢
    walk_at "dv"
    refine ⟨x, xs, rfl, hs, ?_⟩
    walk_at "dv"
    exact q
def T_choice_at : TF := fun ss μ P => ∃ wd n ch, ss = [.d (worldD wd), .d (rowD ch)] ∧ (WB wd n ∧ BB ch n) ∧ P (.int (choiceR wd ch : Int)) μ
theorem mon_choice_at : MonF T_choice_at := fun ss μ P P' k ⟨a, b, c, e, h, q⟩ => ⟨a, b, c, e, h, k _ _ q⟩
theorem ok_choice_at (t : Top K mg "choice_at" s_choice_at ["setting", "belief"]) (C_best_actions_at : DefOk P w K mg base "best_actions_at" 3 2 T_best_actions_at) (C_row_product : DefOk P w K mg base "row_product" 2 2 T_row_product) (C_value_at : DefOk P w K mg base "value_at" 4 2 T_value_at) :
    DefOk P w K mg base "choice_at" 5 2 T_choice_at := by
  have nd := (sc_choice_at).nd
  refine ok_defD (k := 4) t sc_choice_at mon_choice_at (fun f cdv A outer s H E hr =>
    (pds_cons (pds_asg (pd_tup (pda_cons (pd_callD C_value_at (hr.mono (by decide)) (by rfl) (pda_cons (pd_var (pv 0)) (pda_cons (pd_var (pv 1)) pda_nil))) (pda_cons (pd_ix ix_ok mon_gF snd_ix (fun _ _ => rfl) (pd_var (pv 0)) pd_int) pda_nil))) (pdg_tup (n := 2) rfl (pdgs_cons (pdg_name (pg_name (i := 2) nd rfl (by first | exact Or.inl rfl | exact Or.inr rfl))) (pdgs_cons (pdg_name (pg_name (i := 3) nd rfl (by first | exact Or.inl rfl | exact Or.inr rfl))) pdgs_nil))))
      (pds_cons (pds_set (pd_callD C_best_actions_at (hr.mono (by decide)) (by rfl) (pda_cons (pd_var (pv 0)) (pda_cons (pd_var (pv 1)) pda_nil))) (fun _ h => ps_set (i := 4) nd rfl (by first | exact Or.inl rfl | exact Or.inr rfl) h))
      (pds_one (pd_ret (pd_ix ix_ok mon_gF snd_ix (fun _ _ => rfl) (pd_of_N (pdn_lc (own := [("action", 5)]) rfl nd (pdi_seq (pd_var (pv 4))) (blkOk_by (N := N_choice_at) (sc := defScope s_choice_at) (by decide +kernel)) (fun _ _ _ _ _ => (pdg_name (pg_name (i := 5) nd rfl (by first | exact Or.inl rfl | exact Or.inr rfl)))) (fun _ _ _ _ _ => (pdts_one (ptd_cmp (eq_ok hr.units) mon_gF snd_eq (nomark _) (pd_callD C_row_product (hr.mono (by decide)) (by rfl) (pda_cons (pd_ix ix_ok mon_gF snd_ix (fun _ _ => rfl) (pd_var (pv 3)) (pd_var (pv 5))) (pda_cons (pd_var (pv 1)) pda_nil))) (pd_var (pv 2))))) (fun _ _ _ _ _ => (pd_var (pv 5))) (by decide))) pd_int)))))) ?_
  intro ss μ Q hl h
  obtain ⟨wd, n, ch, rfl, ⟨h1, h2⟩, q⟩ := h
  obtain ⟨a, l, hb, hlt, hl5⟩ := best_of (ch := ch) h1
  have hw : worldD wd = .tup [tabD wd.1, tabD wd.2] := rfl
  rw [hw]
  walk_at "dv"
  refine ⟨wd, n, ch, rfl, ⟨h1, h2⟩, ?_⟩
  walk_at "dv"
  refine ⟨wd, n, ch, rfl, ⟨h1, h2⟩, ?_⟩
  walk_at "dv"
  refine lc_pure (fun (b : Nat) => D.int (b : Int)) (fun b => if dotR (wd.2.getD b []) ch = valueR wd ch then some (D.int (b : Int)) else none) (fun _ => trivial) (bestA wd ch) [] μ _ (fun b hb μ' P P2 h => ?_) (by simp; omega) ?_
  · have h4 := hlt b hb
    have h5 := h1.r2 _ (getD_mem h4)
    unfold tabD
    walk_at "dv"
    rw [if_neg (by omega), Int.toNat_natCast, get_rows h4]
    walk_at "dv"
    refine ⟨_, ch, rfl, ⟨h5.2, h2.cb, by rw [h5.1, h2.len]⟩, ?_⟩
    unfold frD
    walk_at "dv"
    by_cases c : dotR (wd.2.getD b []) ch = valueR wd ch
    · rw [if_pos c] at h
      rw [if_pos (tup_iff.mpr c)]
      exact h
    · rw [if_neg c] at h
      rw [if_neg (fun z => c (tup_iff.mp z))]
      exact h
  · have e : (bestA wd ch).filterMap (fun b => if dotR (wd.2.getD b []) ch = valueR wd ch then some (D.int (b : Int)) else none) = ((bestA wd ch).filter fun b => decide (dotR (wd.2.getD b []) ch = valueR wd ch)).map fun (b : Nat) => D.int (b : Int) := by
      clear hb hlt hl5 q
      induction bestA wd ch with
      | nil => rfl
      | cons b l ih =>
        rw [List.filterMap_cons, List.filter_cons]
        by_cases c : dotR (wd.2.getD b []) ch = valueR wd ch
        · simp only [if_pos c, decide_eq_true c, if_true, List.map_cons, ih]
        · simp only [if_neg c, decide_eq_false c, Bool.false_eq_true, if_false, ih]
    rw [e, List.nil_append]
    unfold choiceR at q
    cases ef : (bestA wd ch).filter fun b => decide (dotR (wd.2.getD b []) ch = valueR wd ch) with
    | nil =>
      exfalso
      have hv : valueR wd ch ∈ bestW wd ch := by
        unfold valueR
        cases e2 : bestW wd ch with
        | nil => unfold bestW at e2; rw [hb] at e2; cases e2
        | cons x xs => exact maxR_mem x xs
      obtain ⟨b, hb1, hb2⟩ := List.mem_map.mp hv
      have : b ∈ (bestA wd ch).filter fun b => decide (dotR (wd.2.getD b []) ch = valueR wd ch) := List.mem_filter.mpr ⟨hb1, by simpa using hb2⟩
      rw [ef] at this
      cases this
    | cons b l2 =>
      rw [ef] at q
      walk_at "dv"
      exact q
def T_best_actions : TF := fun ss μ P => ∃ wd n ch, ss = [.d (worldD wd), .d (rowD ch)] ∧ (WB wd n ∧ BB ch n) ∧ P (.tup ((bestA wd ch).map fun (a : Nat) => D.int (a : Int))) μ
theorem mon_best_actions : MonF T_best_actions := fun ss μ P P' k ⟨a, b, c, e, h, q⟩ => ⟨a, b, c, e, h, k _ _ q⟩
theorem okT_best_actions (t : Top K mg "best_actions" s_best_actions ["setting", "belief"]) (C_best_actions_at : DefOk P w K mg base "best_actions_at" 3 2 T_best_actions_at) (C_check_belief : DefOk P w K mg base "check_belief" 5 2 T_check_belief) (C_check_setting : DefOk P w K mg base "check_setting" 6 1 T_check_setting) :
    DefOkT P w K mg base "best_actions" s_best_actions ["setting", "belief"] 7 T_best_actions := by
  have nd := (sc_best_actions).nd
  refine ok_defT (k := 6) t sc_best_actions mon_best_actions (fun f cdv A outer s H E hr =>
    (pds_cons (pds_expr (pd_callD C_check_setting (hr.mono (by decide)) (by rfl) (pda_cons (pd_var (pv 0)) pda_nil)))
      (pds_cons (pds_expr (pd_callD C_check_belief (hr.mono (by decide)) (by rfl) (pda_cons (pd_var (pv 0)) (pda_cons (pd_var (pv 1)) pda_nil))))
      (pds_one (pd_ret (pd_callD C_best_actions_at (hr.mono (by decide)) (by rfl) (pda_cons (pd_var (pv 0)) (pda_cons (pd_var (pv 1)) pda_nil)))))))) ?_
  intro ss μ Q hl h
  obtain ⟨wd, n, ch, rfl, ⟨h1, h2⟩, q⟩ := h
  walk_at "dv"
  refine ⟨wd, n, rfl, h1, ?_⟩
  refine ⟨wd, n, ch, rfl, ⟨h1, h2⟩, ?_⟩
  refine ⟨wd, n, ch, rfl, ⟨h1, h2⟩, ?_⟩
  walk_at "dv"
  exact q
theorem ok_best_actions (t : Top K mg "best_actions" s_best_actions ["setting", "belief"]) (C_best_actions_at : DefOk P w K mg base "best_actions_at" 3 2 T_best_actions_at) (C_check_belief : DefOk P w K mg base "check_belief" 5 2 T_check_belief) (C_check_setting : DefOk P w K mg base "check_setting" 6 1 T_check_setting) :
    DefOk P w K mg base "best_actions" 7 2 T_best_actions := (okT_best_actions t C_best_actions_at C_check_belief C_check_setting).ok
def T_choice : TF := fun ss μ P => ∃ wd n ch, ss = [.d (worldD wd), .d (rowD ch)] ∧ (WB wd n ∧ BB ch n) ∧ P (.int (choiceR wd ch : Int)) μ
theorem mon_choice : MonF T_choice := fun ss μ P P' k ⟨a, b, c, e, h, q⟩ => ⟨a, b, c, e, h, k _ _ q⟩
theorem okT_choice (t : Top K mg "choice" s_choice ["setting", "belief"]) (C_check_belief : DefOk P w K mg base "check_belief" 5 2 T_check_belief) (C_check_setting : DefOk P w K mg base "check_setting" 6 1 T_check_setting) (C_choice_at : DefOk P w K mg base "choice_at" 5 2 T_choice_at) :
    DefOkT P w K mg base "choice" s_choice ["setting", "belief"] 7 T_choice := by
  have nd := (sc_choice).nd
  refine ok_defT (k := 6) t sc_choice mon_choice (fun f cdv A outer s H E hr =>
    (pds_cons (pds_expr (pd_callD C_check_setting (hr.mono (by decide)) (by rfl) (pda_cons (pd_var (pv 0)) pda_nil)))
      (pds_cons (pds_expr (pd_callD C_check_belief (hr.mono (by decide)) (by rfl) (pda_cons (pd_var (pv 0)) (pda_cons (pd_var (pv 1)) pda_nil))))
      (pds_one (pd_ret (pd_callD C_choice_at (hr.mono (by decide)) (by rfl) (pda_cons (pd_var (pv 0)) (pda_cons (pd_var (pv 1)) pda_nil)))))))) ?_
  intro ss μ Q hl h
  obtain ⟨wd, n, ch, rfl, ⟨h1, h2⟩, q⟩ := h
  walk_at "dv"
  refine ⟨wd, n, rfl, h1, ?_⟩
  refine ⟨wd, n, ch, rfl, ⟨h1, h2⟩, ?_⟩
  refine ⟨wd, n, ch, rfl, ⟨h1, h2⟩, ?_⟩
  walk_at "dv"
  exact q
theorem ok_choice (t : Top K mg "choice" s_choice ["setting", "belief"]) (C_check_belief : DefOk P w K mg base "check_belief" 5 2 T_check_belief) (C_check_setting : DefOk P w K mg base "check_setting" 6 1 T_check_setting) (C_choice_at : DefOk P w K mg base "choice_at" 5 2 T_choice_at) :
    DefOk P w K mg base "choice" 7 2 T_choice := (okT_choice t C_check_belief C_check_setting C_choice_at).ok
def T_value : TF := fun ss μ P => ∃ wd n ch, ss = [.d (worldD wd), .d (rowD ch)] ∧ (WB wd n ∧ BB ch n) ∧ P (frD (valueR wd ch)) μ
theorem mon_value : MonF T_value := fun ss μ P P' k ⟨a, b, c, e, h, q⟩ => ⟨a, b, c, e, h, k _ _ q⟩
theorem ok_value (t : Top K mg "value" s_value ["setting", "belief"]) (C_check_belief : DefOk P w K mg base "check_belief" 5 2 T_check_belief) (C_check_setting : DefOk P w K mg base "check_setting" 6 1 T_check_setting) (C_value_at : DefOk P w K mg base "value_at" 4 2 T_value_at) :
    DefOk P w K mg base "value" 7 2 T_value := by
  have nd := (sc_value).nd
  refine ok_defD (k := 6) t sc_value mon_value (fun f cdv A outer s H E hr =>
    (pds_cons (pds_expr (pd_callD C_check_setting (hr.mono (by decide)) (by rfl) (pda_cons (pd_var (pv 0)) pda_nil)))
      (pds_cons (pds_expr (pd_callD C_check_belief (hr.mono (by decide)) (by rfl) (pda_cons (pd_var (pv 0)) (pda_cons (pd_var (pv 1)) pda_nil))))
      (pds_one (pd_ret (pd_callD C_value_at (hr.mono (by decide)) (by rfl) (pda_cons (pd_var (pv 0)) (pda_cons (pd_var (pv 1)) pda_nil)))))))) ?_
  intro ss μ Q hl h
  obtain ⟨wd, n, ch, rfl, ⟨h1, h2⟩, q⟩ := h
  walk_at "dv"
  refine ⟨wd, n, rfl, h1, ?_⟩
  refine ⟨wd, n, ch, rfl, ⟨h1, h2⟩, ?_⟩
  refine ⟨wd, n, ch, rfl, ⟨h1, h2⟩, ?_⟩
  walk_at "dv"
  exact q
end K3

/-! part K3c -/
set_option Elab.async false
set_option linter.all false
set_option maxRecDepth 100000
set_option autoImplicit false
set_option exponentiation.threshold 100
namespace K3
open PySem PySem.Spec L2 DV
open PyProof.Rows (envOfC)
variable {P : Program} {w : World} {K : PySem.W.Frag} {mg : Str → Option Value} {base : Heap}

local macro_rules | `(tactic| walk_at "dv") => `(tactic| simp only [startR, kD, fin, fSeq, fNext, fDrop, fNRep, fNRg, fParN0, fPar3, fPar3N, fAsg, fRet, fIfS, fNever, fPar, fNew, fApp, fVar, fC, fOp, fTest, fTAnd, fTOr, fTNot, fVAnd, fVOr, fVNot, fNeg, fIf, fChain, fANil, fACons, fTup, fLst, fCB, fNLst, fOfN, fYes, fIsi, fONone, fOSome, fSl, sliceF,
  gF, gA, cI, fI, c0, cAdd, fAdd, fIx, cRepT, fRepT, fEq, fNe, fNotIn, intsOf, blsOf, allD, seqOf, tupOf, fLen, cA0, f1L, gSum, gAll, gAny, fTupleOf, fListOf, fA1, fA2, cDm, gN, gsNil_eq, gsCons_eq, gT_eq, gSb_eq, isB, itemsOf, fISeq, fIRng, fIEnum, fIZip, fFor, fLc, wipeR, fCall, fCallK,
  List.map_cons, List.map_nil, List.length_cons, List.length_nil, List.replicate_succ, List.replicate_zero, List.cons_append, List.nil_append, List.append_nil, List.getElem?_cons_zero, List.getElem?_cons_succ, List.getElem?_nil, List.set_cons_zero, List.set_cons_succ, List.set_nil, List.take_succ_cons, List.take_zero, List.take_nil,
  Option.map_some, Option.map_none, Option.some.injEq, Option.get_some, exists_eq_left', exists_eq_left, exists_eq_right, true_and, and_true, if_true, if_false, reduceCtorEq, ite_true, ite_false, S.d.injEq, S.m.injEq, D.int.injEq, D.tup.injEq, D.lst.injEq, D.bl.injEq, D.str.injEq, List.cons.injEq, exists_and_left, exists_and_right,
  Nat.sub_zero, Nat.reduceSub, Nat.reduceAdd, Nat.zero_add, Nat.add_zero, Bool.not_true, Bool.not_false, Bool.false_eq_true, decide_eq_true_eq, Nat.reduceLT, Nat.reduceLeDiff, Nat.le_refl, List.take_length, Int.reduceLT, Int.reduceToNat, Nat.lt_irrefl, gt_iff_lt, Nat.not_lt_zero, Int.cast_ofNat_Int, decide_true, decide_false, and_assoc])


theorem mod_ok {i j : Int} (h : 0 < j) : (fun (_ j : Int) => 0 < j) i j := h

def T__law_lean : TF := fun ss μ P => ∃ a b : Int, ss = [.d (.int a), .d (.int b)] ∧ (0 < b ∧ b.natAbs < 2 ^ 8000) ∧ P (frD (Rat.divInt a b)) μ
theorem mon__law_lean : MonF T__law_lean := fun ss μ P P' k ⟨a, b, e, h, q⟩ => ⟨a, b, e, h, k _ _ q⟩
theorem ok__law_lean (t : Top K mg "_law_lean" s__law_lean ["_law_top", "_law_base"]) (m_abs : mg "abs" = none) (m_int : mg "int" = none) :
    DefOk P w K mg base "_law_lean" 1 2 T__law_lean := by
  have nd := (sc__law_lean).nd
  refine ok_defD (k := 0) t sc__law_lean mon__law_lean (fun f cdv A outer s H E hr =>
    (pds_cons (pds_par (pda_cons (pd_B call_abs snd_abs mon_gA (by rfl) m_abs bt_abs (pda_cons (pd_var (pv 0)) pda_nil)) (pda_cons (pd_B call_abs snd_abs mon_gA (by rfl) m_abs bt_abs (pda_cons (pd_var (pv 1)) pda_nil)) pda_nil)) (fun _ h => ps_par (i := 2) (j := 3) rfl nd rfl rfl (by decide) rfl rfl h rfl))
      (pds_cons (pds_while PassesOwn.never (ptd_cmp op_gt mon_gF snd_B0 (nomark _) (pd_var (pv 3)) pd_int) (pds_one (pds_par (pda_cons (pd_var (pv 3)) (pda_cons (pd_op op_mod mon_gF snd_I (pd_Ty call_int1 snd_int1 mon_gA (by rfl) m_int bt_int (pda_cons (pd_var (pv 2)) pda_nil)) (pd_var (pv 3))) pda_nil)) (fun _ h => ps_par (i := 2) (j := 3) rfl nd rfl rfl (by decide) rfl rfl h rfl))))
      (pds_cons (pds_set (pd_if (ptd_cmp op_gt mon_gF snd_B0 (nomark _) (pd_var (pv 1)) pd_int) (pd_var (pv 2)) (pd_op op_sub mon_gF snd_I0 pd_int (pd_var (pv 2)))) (fun _ h => ps_set (i := 2) nd rfl (by first | exact Or.inl rfl | exact Or.inr rfl) h))
      (pds_one (pd_ret (pd_tup (pda_cons (pd_op op_fdivW mon_gF snd_I (pd_var (pv 0)) (pd_var (pv 2))) (pda_cons (pd_op op_fdivW mon_gF snd_I (pd_var (pv 1)) (pd_var (pv 2))) pda_nil))))))))) ?_
  intro ss μ Q hl h
  obtain ⟨a, b, rfl, ⟨h1, h2⟩, q⟩ := h
  rw [low_div a b h1] at q
  walk_at "dv"
  have key : ∀ (r f : Nat) (k : K4), k.nx [some (.d (.int a)), some (.d (.int b)), some (.d (.int (Nat.gcd f r : Nat))), some (.d (.int 0))] μ →
      fWhile (fTest (fOp (gF c0 (fI fun i j => D.bl (decide (j < i)))) (fVar 3) (fC (D.int 0)))) (fPar 2 3 (fACons (fVar 3) (fACons (fOp (gF (cI fun _ j => 0 < j) (fI fun i j => D.int (i % j))) (fCB (gA cA0 (fA1 fun i => D.int i)) (fACons (fVar 2) fANil)) (fVar 3)) fANil)))
        [some (.d (.int a)), some (.d (.int b)), some (.d (.int (f : Int))), some (.d (.int (r : Int)))] μ k := by
    intro r
    induction r using Nat.strongRecOn with
    | _ r ih =>
      intro f k hk
      by_cases c : r = 0
      · subst c
        refine ⟨1, ?_⟩
        unfold whileN
        walk_at "dv"
        rw [Nat.gcd_zero_right] at hk
        exact hk
      · have hr : 0 < r := by omega
        obtain ⟨m, hm⟩ := ih (f % r) (Nat.mod_lt _ hr) r k (by rw [Nat.gcd_comm r, ← Nat.gcd_rec, Nat.gcd_comm]; exact hk)
        refine ⟨m + 1, ?_⟩
        unfold whileN
        have e : (0 : Int) < (r : Int) := by omega
        walk_at "dv"
        rw [if_pos e]
        refine ⟨e, ?_⟩
        rw [← Int.natCast_emod]
        exact hm
  have ea : (if a < 0 then -a else a) = (a.natAbs : Int) := by split <;> omega
  have eb : (if b < 0 then -b else b) = (b.natAbs : Int) := by split <;> omega
  rw [ea, eb]
  refine key b.natAbs a.natAbs _ ?_
  have e0 : (0 : Int) < b := h1
  walk_at "dv"
  rw [if_pos e0]
  exact ⟨gcd_ok h1 h2 _, gcd_ok h1 h2 _, q⟩

theorem nat_cast_lt {n a : Nat} (h : n < 2 ^ a) : ((n : Int)).natAbs < 2 ^ a := h
theorem lt_8000 {a n : Nat} (h : a < 2 ^ n) (hn : n ≤ 8000) : a < 2 ^ 8000 := Nat.lt_of_lt_of_le h (Nat.pow_le_pow_right (by decide) hn)

def T__law_plus : TF := fun ss μ P => ∃ x y : Rat, ss = [.d (frD x), .d (frD y)] ∧ (Sm x ∧ Sm y) ∧ P (frD (x + y)) μ
theorem mon__law_plus : MonF T__law_plus := fun ss μ P P' k ⟨a, b, e, h, q⟩ => ⟨a, b, e, h, k _ _ q⟩
theorem ok__law_plus (t : Top K mg "_law_plus" s__law_plus ["_law_x", "_law_y"]) (C__law_lean : DefOk P w K mg base "_law_lean" 1 2 T__law_lean) :
    DefOk P w K mg base "_law_plus" 2 2 T__law_plus := by
  have nd := (sc__law_plus).nd
  refine ok_defD (k := 1) t sc__law_plus mon__law_plus (fun f cdv A outer s H E hr =>
    (pds_one (pd_ret (pd_callD C__law_lean (hr.mono (by decide)) (by rfl) (pda_cons (pd_op add_ok mon_gF snd_add (pd_op op_mulW mon_gF snd_I (pd_ix ix_ok mon_gF snd_ix (fun _ _ => rfl) (pd_var (pv 0)) pd_int) (pd_ix ix_ok mon_gF snd_ix (fun _ _ => rfl) (pd_var (pv 1)) pd_int)) (pd_op op_mulW mon_gF snd_I (pd_ix ix_ok mon_gF snd_ix (fun _ _ => rfl) (pd_var (pv 1)) pd_int) (pd_ix ix_ok mon_gF snd_ix (fun _ _ => rfl) (pd_var (pv 0)) pd_int))) (pda_cons (pd_op op_mulW mon_gF snd_I (pd_ix ix_ok mon_gF snd_ix (fun _ _ => rfl) (pd_var (pv 0)) pd_int) (pd_ix ix_ok mon_gF snd_ix (fun _ _ => rfl) (pd_var (pv 1)) pd_int)) pda_nil)))))) ?_
  intro ss μ Q hl h
  obtain ⟨x, y, rfl, ⟨hx, hy⟩, q⟩ := h
  rw [add_divInt] at q
  have hd : ((x.den : Int) * (y.den : Int)).natAbs < 2 ^ (3000 + 3000) := by rw [natAbs_dd]; exact pow_mul_lt hx.1 hy.1
  unfold frD
  walk_at "dv"
  refine ⟨mul_ok hx.2 (nat_cast_lt hy.1) (by decide), mul_ok hy.2 (nat_cast_lt hx.1) (by decide), mul_ok (nat_cast_lt hx.1) (nat_cast_lt hy.1) (by decide), ?_⟩
  refine ⟨_, _, rfl, ⟨Int.mul_pos (den_pos x) (den_pos y), lt_8000 hd (by decide)⟩, ?_⟩
  walk_at "dv"
  exact q
def T__law_minus : TF := fun ss μ P => ∃ x y : Rat, ss = [.d (frD x), .d (frD y)] ∧ (Sm x ∧ Sm y) ∧ P (frD (x - y)) μ
theorem mon__law_minus : MonF T__law_minus := fun ss μ P P' k ⟨a, b, e, h, q⟩ => ⟨a, b, e, h, k _ _ q⟩
theorem ok__law_minus (t : Top K mg "_law_minus" s__law_minus ["_law_x", "_law_y"]) (C__law_lean : DefOk P w K mg base "_law_lean" 1 2 T__law_lean) :
    DefOk P w K mg base "_law_minus" 2 2 T__law_minus := by
  have nd := (sc__law_minus).nd
  refine ok_defD (k := 1) t sc__law_minus mon__law_minus (fun f cdv A outer s H E hr =>
    (pds_one (pd_ret (pd_callD C__law_lean (hr.mono (by decide)) (by rfl) (pda_cons (pd_op op_sub mon_gF snd_I0 (pd_op op_mulW mon_gF snd_I (pd_ix ix_ok mon_gF snd_ix (fun _ _ => rfl) (pd_var (pv 0)) pd_int) (pd_ix ix_ok mon_gF snd_ix (fun _ _ => rfl) (pd_var (pv 1)) pd_int)) (pd_op op_mulW mon_gF snd_I (pd_ix ix_ok mon_gF snd_ix (fun _ _ => rfl) (pd_var (pv 1)) pd_int) (pd_ix ix_ok mon_gF snd_ix (fun _ _ => rfl) (pd_var (pv 0)) pd_int))) (pda_cons (pd_op op_mulW mon_gF snd_I (pd_ix ix_ok mon_gF snd_ix (fun _ _ => rfl) (pd_var (pv 0)) pd_int) (pd_ix ix_ok mon_gF snd_ix (fun _ _ => rfl) (pd_var (pv 1)) pd_int)) pda_nil)))))) ?_
  intro ss μ Q hl h
  obtain ⟨x, y, rfl, ⟨hx, hy⟩, q⟩ := h
  rw [sub_divInt] at q
  have hd : ((x.den : Int) * (y.den : Int)).natAbs < 2 ^ (3000 + 3000) := by rw [natAbs_dd]; exact pow_mul_lt hx.1 hy.1
  unfold frD
  walk_at "dv"
  refine ⟨mul_ok hx.2 (nat_cast_lt hy.1) (by decide), mul_ok hy.2 (nat_cast_lt hx.1) (by decide), mul_ok (nat_cast_lt hx.1) (nat_cast_lt hy.1) (by decide), ?_⟩
  refine ⟨_, _, rfl, ⟨Int.mul_pos (den_pos x) (den_pos y), lt_8000 hd (by decide)⟩, ?_⟩
  walk_at "dv"
  exact q
def T__law_times : TF := fun ss μ P => ∃ x y : Rat, ss = [.d (frD x), .d (frD y)] ∧ (Sm x ∧ Sm y) ∧ P (frD (x * y)) μ
theorem mon__law_times : MonF T__law_times := fun ss μ P P' k ⟨a, b, e, h, q⟩ => ⟨a, b, e, h, k _ _ q⟩
theorem ok__law_times (t : Top K mg "_law_times" s__law_times ["_law_x", "_law_y"]) (C__law_lean : DefOk P w K mg base "_law_lean" 1 2 T__law_lean) :
    DefOk P w K mg base "_law_times" 2 2 T__law_times := by
  have nd := (sc__law_times).nd
  refine ok_defD (k := 1) t sc__law_times mon__law_times (fun f cdv A outer s H E hr =>
    (pds_one (pd_ret (pd_callD C__law_lean (hr.mono (by decide)) (by rfl) (pda_cons (pd_op op_mulW mon_gF snd_I (pd_ix ix_ok mon_gF snd_ix (fun _ _ => rfl) (pd_var (pv 0)) pd_int) (pd_ix ix_ok mon_gF snd_ix (fun _ _ => rfl) (pd_var (pv 1)) pd_int)) (pda_cons (pd_op op_mulW mon_gF snd_I (pd_ix ix_ok mon_gF snd_ix (fun _ _ => rfl) (pd_var (pv 0)) pd_int) (pd_ix ix_ok mon_gF snd_ix (fun _ _ => rfl) (pd_var (pv 1)) pd_int)) pda_nil)))))) ?_
  intro ss μ Q hl h
  obtain ⟨x, y, rfl, ⟨hx, hy⟩, q⟩ := h
  rw [mul_divInt] at q
  have hd : ((x.den : Int) * (y.den : Int)).natAbs < 2 ^ (3000 + 3000) := by rw [natAbs_dd]; exact pow_mul_lt hx.1 hy.1
  unfold frD
  walk_at "dv"
  refine ⟨mul_ok hx.2 hy.2 (by decide), mul_ok (nat_cast_lt hx.1) (nat_cast_lt hy.1) (by decide), ?_⟩
  refine ⟨_, _, rfl, ⟨Int.mul_pos (den_pos x) (den_pos y), lt_8000 hd (by decide)⟩, ?_⟩
  walk_at "dv"
  exact q

/-- x / y, y above 0 -/
def overR (x y : Rat) : Rat := Rat.divInt (x.num * y.den) (x.den * y.num)

def T__law_over : TF := fun ss μ P => ∃ x y : Rat, ss = [.d (frD x), .d (frD y)] ∧ (Sm x ∧ Sm y ∧ 0 < y.num) ∧ P (frD (overR x y)) μ
theorem mon__law_over : MonF T__law_over := fun ss μ P P' k ⟨a, b, e, h, q⟩ => ⟨a, b, e, h, k _ _ q⟩
theorem ok__law_over (t : Top K mg "_law_over" s__law_over ["_law_x", "_law_y"]) (C__law_lean : DefOk P w K mg base "_law_lean" 1 2 T__law_lean) :
    DefOk P w K mg base "_law_over" 2 2 T__law_over := by
  have nd := (sc__law_over).nd
  refine ok_defD (k := 1) t sc__law_over mon__law_over (fun f cdv A outer s H E hr =>
    (pds_one (pd_ret (pd_callD C__law_lean (hr.mono (by decide)) (by rfl) (pda_cons (pd_op op_mulW mon_gF snd_I (pd_ix ix_ok mon_gF snd_ix (fun _ _ => rfl) (pd_var (pv 0)) pd_int) (pd_ix ix_ok mon_gF snd_ix (fun _ _ => rfl) (pd_var (pv 1)) pd_int)) (pda_cons (pd_op op_mulW mon_gF snd_I (pd_ix ix_ok mon_gF snd_ix (fun _ _ => rfl) (pd_var (pv 0)) pd_int) (pd_ix ix_ok mon_gF snd_ix (fun _ _ => rfl) (pd_var (pv 1)) pd_int)) pda_nil)))))) ?_
  intro ss μ Q hl h
  obtain ⟨x, y, rfl, ⟨hx, hy, h0⟩, q⟩ := h
  have hd : ((x.den : Int) * y.num).natAbs < 2 ^ (3000 + 3000) := by rw [Int.natAbs_mul, Int.natAbs_natCast]; exact pow_mul_lt hx.1 hy.2
  unfold frD
  walk_at "dv"
  refine ⟨mul_ok hx.2 (nat_cast_lt hy.1) (by decide), mul_ok (nat_cast_lt hx.1) hy.2 (by decide), ?_⟩
  refine ⟨_, _, rfl, ⟨Int.mul_pos (den_pos x) h0, lt_8000 hd (by decide)⟩, ?_⟩
  walk_at "dv"
  exact q
def T__law_below : TF := fun ss μ P => ∃ r s : Rat, ss = [.d (frD r), .d (frD s)] ∧ (Sm r ∧ Sm s) ∧ P (.bl (decide (r < s))) μ
theorem mon__law_below : MonF T__law_below := fun ss μ P P' k ⟨a, b, e, h, q⟩ => ⟨a, b, e, h, k _ _ q⟩
theorem ok__law_below (t : Top K mg "_law_below" s__law_below ["_law_x", "_law_y"]) :
    DefOk P w K mg base "_law_below" 1 2 T__law_below := by
  have nd := (sc__law_below).nd
  refine ok_defD (k := 0) t sc__law_below mon__law_below (fun f cdv A outer s H E hr =>
    (pds_one (pd_ret (pd_cmp op_lt mon_gF snd_B0 (nomark _) (pd_op op_mulW mon_gF snd_I (pd_ix ix_ok mon_gF snd_ix (fun _ _ => rfl) (pd_var (pv 0)) pd_int) (pd_ix ix_ok mon_gF snd_ix (fun _ _ => rfl) (pd_var (pv 1)) pd_int)) (pd_op op_mulW mon_gF snd_I (pd_ix ix_ok mon_gF snd_ix (fun _ _ => rfl) (pd_var (pv 1)) pd_int) (pd_ix ix_ok mon_gF snd_ix (fun _ _ => rfl) (pd_var (pv 0)) pd_int)))))) ?_
  intro ss μ Q hl h
  obtain ⟨r, s, rfl, ⟨h1, h2⟩, q⟩ := h
  unfold frD
  walk_at "dv"
  refine ⟨mul_ok h1.2 (nat_cast_lt h2.1) (by decide), mul_ok h2.2 (nat_cast_lt h1.1) (by decide), ?_⟩
  have e : decide (r < s) = decide (r.num * ↑s.den < s.num * ↑r.den) := by
    rw [decide_eq_decide]
    exact Rat.lt_iff r s
  rw [e] at q
  exact q
def T__law_dot : TF := fun ss μ P => ∃ xs ys : List Rat, ss = [.d (rowD xs), .d (rowD ys)] ∧ (RB xs ∧ CB ys ∧ xs.length = ys.length) ∧ P (frD (dotR xs ys)) μ
theorem mon__law_dot : MonF T__law_dot := fun ss μ P P' k ⟨a, b, e, h, q⟩ => ⟨a, b, e, h, k _ _ q⟩
theorem ok__law_dot (t : Top K mg "_law_dot" s__law_dot ["_law_one_here", "_law_two"]) (C__law_plus : DefOk P w K mg base "_law_plus" 2 2 T__law_plus) (C__law_times : DefOk P w K mg base "_law_times" 2 2 T__law_times) (m_zip : mg "zip" = none) :
    DefOk P w K mg base "_law_dot" 3 2 T__law_dot := by
  have nd := (sc__law_dot).nd
  refine ok_defD (k := 2) t sc__law_dot mon__law_dot (fun f cdv A outer s H E hr =>
    (pds_cons (pds_set (pd_tup (pda_cons pd_int (pda_cons pd_int pda_nil))) (fun _ h => ps_set (i := 2) nd rfl (by first | exact Or.inl rfl | exact Or.inr rfl) h))
      (pds_cons (pds_for PassesOwn.never rfl (pdi_zip (by rfl) m_zip (pda_cons (pd_var (pv 0)) (pda_cons (pd_var (pv 1)) pda_nil))) (pdg_tup (n := 2) rfl (pdgs_cons (pdg_name (pg_name (i := 3) nd rfl (by first | exact Or.inl rfl | exact Or.inr rfl))) (pdgs_cons (pdg_name (pg_name (i := 4) nd rfl (by first | exact Or.inl rfl | exact Or.inr rfl))) pdgs_nil))) (pds_one (pds_set (pd_callD C__law_plus (hr.mono (by decide)) (by rfl) (pda_cons (pd_var (pv 2)) (pda_cons (pd_callD C__law_times (hr.mono (by decide)) (by rfl) (pda_cons (pd_var (pv 3)) (pda_cons (pd_var (pv 4)) pda_nil))) pda_nil))) (fun _ h => ps_set (i := 2) nd rfl (by first | exact Or.inl rfl | exact Or.inr rfl) h))))
      (pds_one (pd_ret (pd_var (pv 2))))))) ?_
  intro ss μ Q hl h
  obtain ⟨xs, ys, rfl, ⟨h1, h2, h3⟩, q⟩ := h
  unfold rowD
  walk_at "dv"
  refine ⟨_, _, .inr ⟨rfl, rfl⟩, ?_⟩
  have key : ∀ (us vs : List Rat) (f : Rat) (i : Nat) (s4 s5 : Option S) (k : K4), us.length = vs.length → i + us.length ≤ 4 → (∀ r ∈ us, r.den < 2 ^ 1600 ∧ Mg (2 ^ 150) r) → (∀ r ∈ vs, r.den < 2 ^ 100 ∧ Mg 1 r) →
      f.den * (dp us * dp vs) < 2 ^ 1700 → Mg (i * 2 ^ 150) f → (∀ s4 s5, k.nx [some (.d (.tup (xs.map frD))), some (.d (.tup (ys.map frD))), some (.d (frD (f + dotR us vs))), s4, s5] μ) →
      loopS (gT 2 (gsCons (gN 3) (gsCons (gN 4) gsNil))) (fAsg (fCall 2 T__law_plus (fACons (fVar 2) (fACons (fCall 2 T__law_times (fACons (fVar 3) (fACons (fVar 4) fANil))) fANil))) (gN 2))
        (fun x => True) (zipD (us.map frD) (vs.map frD)) [some (.d (.tup (xs.map frD))), some (.d (.tup (ys.map frD))), some (.d (frD f)), s4, s5] μ k := by
    intro us
    induction us with
    | nil =>
      intro vs f i s4 s5 k hl _ _ _ _ _ hk
      cases vs with
      | nil =>
        simp only [dotR, Rat.add_zero] at hk
        exact ⟨trivial, hk _ _⟩
      | cons v vs => simp at hl
    | cons x us ih =>
      intro vs f i s4 s5 k hl hi hx hy hd hm hk
      cases vs with
      | nil => simp at hl
      | cons y vs =>
        have hx1 := hx x (by simp)
        have hy1 := hy y (by simp)
        have hl2 : us.length = vs.length := by simpa using hl
        have hi2 : i + 1 + us.length ≤ 4 := by rw [List.length_cons] at hi; omega
        have e : dp (x :: us) * dp (y :: vs) = x.den * y.den * (dp us * dp vs) := by rw [dp_cons, dp_cons, Nat.mul_mul_mul_comm]
        rw [e] at hd
        have p1 : 0 < dp us * dp vs := Nat.mul_pos (dp_pos _) (dp_pos _)
        have p2 : 0 < x.den * y.den * (dp us * dp vs) := Nat.mul_pos (Nat.mul_pos x.den_pos y.den_pos) p1
        have fd : f.den < 2 ^ 1700 := Nat.lt_of_le_of_lt (Nat.le_mul_of_pos_right _ p2) hd
        have xyd : (x * y).den < 2 ^ 1700 := by
          have a1 : x.den * y.den ≤ f.den * (x.den * y.den * (dp us * dp vs)) := Nat.le_trans (Nat.le_mul_of_pos_right _ p1) (Nat.le_mul_of_pos_left _ f.den_pos)
          exact Nat.lt_of_le_of_lt (Nat.le_trans (den_mul_le x y) a1) hd
        have xym := mg_mul hx1.2 hy1.2
        rw [Nat.mul_one] at xym
        have hnd : (f + x * y).den * (dp us * dp vs) < 2 ^ 1700 := by
          have a1 := den_add_le f (x * y)
          have a2 := Nat.mul_le_mul_left f.den (den_mul_le x y)
          have a3 := Nat.mul_le_mul_right (dp us * dp vs) (Nat.le_trans a1 a2)
          rw [Nat.mul_assoc] at a3
          exact Nat.lt_of_le_of_lt a3 hd
        have hnm : Mg ((i + 1) * 2 ^ 150) (f + x * y) := by
          have := mg_add hm xym
          rw [Nat.add_mul, Nat.one_mul]
          exact this
        have hi4 : i * 2 ^ 150 ≤ 2 ^ 153 := Nat.le_trans (Nat.mul_le_mul_right _ (show i ≤ 8 by omega)) (by decide)
        refine ⟨trivial, ?_⟩
        walk_at "dv"
        refine ⟨x, y, rfl, ⟨sm_of hx1.1 hx1.2 (Nat.le_refl _) (by decide), sm_of hy1.1 hy1.2 (show 1 ≤ 2 ^ 0 by decide) (by decide)⟩, ?_⟩
        refine ⟨f, x * y, rfl, ⟨sm_of fd hm hi4 (by decide), sm_of xyd xym (Nat.le_refl _) (by decide)⟩, ?_⟩
        refine ih vs (f + x * y) (i + 1) _ _ k hl2 hi2 (fun r hr => hx r (List.mem_cons_of_mem _ hr)) (fun r hr => hy r (List.mem_cons_of_mem _ hr)) hnd hnm ?_
        simp only [dotR] at hk
        rw [Rat.add_assoc]
        exact hk
  have hf : D.tup [D.int 0, D.int 1] = frD 0 := rfl
  rw [hf]
  refine key xs ys 0 0 none none _ h3 (by have := h1.len; omega) (fun r hr => ⟨(h1.mem hr).1, h1.mgle hr⟩) (fun r hr => ⟨(h2.mem hr).1, h2.mgle hr⟩) (by rw [show (0 : Rat).den = 1 from rfl, Nat.one_mul]; exact pow_mul_lt h1.dpl h2.dpl) (by unfold Mg; simp) fun s4 s5 => ?_
  walk_at "dv"
  rw [Rat.zero_add]
  exact q
end K3

/-! part K3d -/
set_option Elab.async false
set_option linter.all false
set_option maxRecDepth 100000
set_option autoImplicit false
set_option exponentiation.threshold 100
namespace K3
open PySem PySem.Spec L2 DV
open PyProof.Rows (envOfC)
variable {P : Program} {w : World} {K : PySem.W.Frag} {mg : Str → Option Value} {base : Heap}

local macro_rules | `(tactic| walk_at "dv") => `(tactic| simp only [startR, kD, fin, fSeq, fNext, fDrop, fNRep, fNRg, fParN0, fPar3, fPar3N, fAsg, fRet, fIfS, fNever, fPar, fNew, fApp, fVar, fC, fOp, fTest, fTAnd, fTOr, fTNot, fVAnd, fVOr, fVNot, fNeg, fIf, fChain, fANil, fACons, fTup, fLst, fCB, fNLst, fOfN, fYes, fIsi, fONone, fOSome, fSl, sliceF,
  gF, gA, cI, fI, c0, cAdd, fAdd, fIx, cRepT, fRepT, fEq, fNe, fNotIn, intsOf, blsOf, allD, seqOf, tupOf, fLen, cA0, f1L, gSum, gAll, gAny, fTupleOf, fListOf, fA1, fA2, cDm, gN, gsNil_eq, gsCons_eq, gT_eq, gSb_eq, isB, itemsOf, fISeq, fIRng, fIEnum, fIZip, fFor, fLc, wipeR, fCall, fCallK,
  List.map_cons, List.map_nil, List.length_cons, List.length_nil, List.replicate_succ, List.replicate_zero, List.cons_append, List.nil_append, List.append_nil, List.getElem?_cons_zero, List.getElem?_cons_succ, List.getElem?_nil, List.set_cons_zero, List.set_cons_succ, List.set_nil, List.take_succ_cons, List.take_zero, List.take_nil,
  Option.map_some, Option.map_none, Option.some.injEq, Option.get_some, exists_eq_left', exists_eq_left, exists_eq_right, true_and, and_true, if_true, if_false, reduceCtorEq, ite_true, ite_false, S.d.injEq, S.m.injEq, D.int.injEq, D.tup.injEq, D.lst.injEq, D.bl.injEq, D.str.injEq, List.cons.injEq, exists_and_left, exists_and_right,
  Nat.sub_zero, Nat.reduceSub, Nat.reduceAdd, Nat.zero_add, Nat.add_zero, Bool.not_true, Bool.not_false, Bool.false_eq_true, decide_eq_true_eq, Nat.reduceLT, Nat.reduceLeDiff, Nat.le_refl, List.take_length, Int.reduceLT, Int.reduceToNat, Nat.lt_irrefl, gt_iff_lt, Nat.not_lt_zero, Int.cast_ofNat_Int, decide_true, decide_false, and_assoc])


/-- what the draws are made from -/
def IsW (w : List D) : Prop := ∃ a b c : Int, w = [.int a, .int b, .int c] ∧ 0 ≤ a

def T__law_draw : TF := fun ss μ P => ∃ w ms few, ss = [.m 0, .d (.int few)] ∧ μ = w :: ms ∧ (IsW w ∧ 0 < few ∧ few < 2 ^ 100) ∧ ∀ r w', IsW w' → 0 ≤ r → r < few → P (.int r) (w' :: ms)
theorem mon__law_draw : MonF T__law_draw := fun ss μ P P' k ⟨a, b, c, e, e2, h, q⟩ => ⟨a, b, c, e, e2, h, fun r w' h1 h2 h3 => k _ _ (q r w' h1 h2 h3)⟩
theorem ok__law_draw (t : Top K mg "_law_draw" s__law_draw ["_law_well_here", "_law_few"]) (m_divmod : mg "divmod" = none) (m_int : mg "int" = none) :
    DefOk P w K mg base "_law_draw" 1 2 T__law_draw := by
  have nd := (sc__law_draw).nd
  refine ok_defD (k := 0) t sc__law_draw mon__law_draw (fun f cdv A outer s H E hr =>
    (pds_cons (pds_if (ptd_cmp op_gt mon_gF snd_B0 (nomark _) (pd_ix ix_ok mon_gF snd_ix (fun _ _ => rfl) (pd_var (pv 0)) pd_int) pd_int) (pds_cons (pds_asg (pd_B call_divmodW snd_divmod mon_gA (by rfl) m_divmod bt_divmod (pda_cons (pd_ix ix_ok mon_gF snd_ix (fun _ _ => rfl) (pd_var (pv 0)) pd_int) (pda_cons (pd_var (pv 1)) pda_nil))) (pdg_tup (n := 2) rfl (pdgs_cons (pdg_sub (pd_var (pv 0)) pd_int) (pdgs_cons (pdg_name (pg_name (i := 2) nd rfl (by first | exact Or.inl rfl | exact Or.inr rfl))) pdgs_nil))))
      (pds_one (pd_ret (pd_var (pv 2))))) pds_nil)
      (pds_cons (pds_asg (pd_op add_ok mon_gF snd_add (pd_ix ix_ok mon_gF snd_ix (fun _ _ => rfl) (pd_var (pv 0)) pd_int) pd_int) (pdg_sub (pd_var (pv 0)) pd_int))
      (pds_cons (pds_set (pd_op op_mod mon_gF snd_I (pd_Ty call_int1 snd_int1 mon_gA (by rfl) m_int bt_int (pda_cons (pd_op add_ok mon_gF snd_add (pd_op op_mul mon_gF snd_I (pd_ix ix_ok mon_gF snd_ix (fun _ _ => rfl) (pd_var (pv 0)) pd_int) pd_int) (pd_op op_mul mon_gF snd_I pd_int (pd_ix ix_ok mon_gF snd_ix (fun _ _ => rfl) (pd_var (pv 0)) pd_int))) pda_nil)) pd_int) (fun _ h => ps_set (i := 3) nd rfl (by first | exact Or.inl rfl | exact Or.inr rfl) h))
      (pds_cons (pds_asg (pd_op op_mod mon_gF snd_I (pd_Ty call_int1 snd_int1 mon_gA (by rfl) m_int bt_int (pda_cons (pd_op add_ok mon_gF snd_add (pd_op op_mul mon_gF snd_I (pd_var (pv 3)) (pd_op add_ok mon_gF snd_add (pd_op op_mod mon_gF snd_I (pd_Ty call_int1 snd_int1 mon_gA (by rfl) m_int bt_int (pda_cons (pd_var (pv 3)) pda_nil)) pd_int) pd_int)) (pd_ix ix_ok mon_gF snd_ix (fun _ _ => rfl) (pd_var (pv 0)) pd_int)) pda_nil)) pd_int) (pdg_sub (pd_var (pv 0)) pd_int))
      (pds_one (pd_ret (pd_op op_mod mon_gF snd_I (pd_Ty call_int1 snd_int1 mon_gA (by rfl) m_int bt_int (pda_cons (pd_op op_fdivW mon_gF snd_I (pd_ix ix_ok mon_gF snd_ix (fun _ _ => rfl) (pd_var (pv 0)) pd_int) pd_int) pda_nil)) (pd_var (pv 1)))))))))) ?_
  intro ss μ Q hl h
  obtain ⟨_, ms, few, rfl, rfl, ⟨⟨a, b, c, rfl, ha⟩, h1, h2⟩, q⟩ := h
  have p1 : (0 : Int) < 2147483477 := by decide
  have p2 : (0 : Int) < 4999 := by decide
  have c1 : CMul b 44497 := .inr ⟨by decide, by decide⟩
  have c2 : CMul 13007 (c + 1) := .inl ⟨by decide, by decide⟩
  have c4 : ∀ x y : Int, CMul (x % 2147483477) y := fun x y => .inl ⟨by have := Int.emod_nonneg x (show (2147483477 : Int) ≠ 0 by decide); omega, by have := Int.emod_lt_of_pos x p1; omega⟩
  have c5 : ∀ x : Int, CDivW x 1013 := fun x => ⟨by decide, by decide⟩
  walk_at "dv"
  by_cases hc : 0 < a
  · rw [if_pos hc]
    exact ⟨h1, h2, by decide, q _ _ ⟨_, _, _, rfl, Int.ediv_nonneg ha (by omega)⟩ (Int.emod_nonneg _ (by omega)) (Int.emod_lt_of_pos _ h1)⟩
  · rw [if_neg hc]
    exact ⟨by decide, c1, c2, c4 _ _, by decide, c5 _, h1, q _ _ ⟨_, _, _, rfl, ha⟩ (Int.emod_nonneg _ (by omega)) (Int.emod_lt_of_pos _ h1)⟩
def T__law_one : TF := fun ss μ P => ∃ w ms ds, (ss = [.m 0, .d (.tup ds)] ∨ ss = [.m 0, .d (.lst ds)]) ∧ μ = w :: ms ∧ (IsW w ∧ ds ≠ [] ∧ ds.length ≤ 1000) ∧ ∀ d w', IsW w' → d ∈ ds → P d (w' :: ms)
theorem mon__law_one : MonF T__law_one := fun ss μ P P' k ⟨a, b, c, e, e2, h, q⟩ => ⟨a, b, c, e, e2, h, fun r w' h1 h2 => k _ _ (q r w' h1 h2)⟩
theorem ok__law_one (t : Top K mg "_law_one" s__law_one ["_law_well_here", "_law_some"]) (C__law_draw : DefOk P w K mg base "_law_draw" 1 2 T__law_draw) (m_len : mg "len" = none) :
    DefOk P w K mg base "_law_one" 2 2 T__law_one := by
  have nd := (sc__law_one).nd
  refine ok_defD (k := 1) t sc__law_one mon__law_one (fun f cdv A outer s H E hr =>
    (pds_one (pd_ret (pd_ix ix_ok mon_gF snd_ix (fun _ _ => rfl) (pd_var (pv 1)) (pd_callD C__law_draw (hr.mono (by decide)) (by rfl) (pda_cons (pd_var (pv 0)) (pda_cons (pd_B call_len_seq snd_len mon_gA (by rfl) m_len bt_len (pda_cons (pd_var (pv 1)) pda_nil)) pda_nil))))))) ?_
  intro ss μ Q hl h
  obtain ⟨w0, ms, ds, e, rfl, ⟨hw, h1, h2⟩, q⟩ := h
  have hp : (0 : Int) < (ds.length : Int) := by
    cases ds with
    | nil => exact absurd rfl h1
    | cons a l => rw [List.length_cons]; omega
  rcases e with rfl | rfl
  · walk_at "dv"
    refine ⟨w0, ms, _, rfl, rfl, ⟨hw, hp, by omega⟩, fun r w' hw' r0 r1 => ?_⟩
    walk_at "dv"
    rw [if_neg (by omega)]
    have hr : r.toNat < ds.length := by omega
    rw [List.getElem?_eq_getElem hr]
    walk_at "dv"
    exact q _ _ hw' (List.getElem_mem hr)
  · walk_at "dv"
    refine ⟨w0, ms, _, rfl, rfl, ⟨hw, hp, by omega⟩, fun r w' hw' r0 r1 => ?_⟩
    walk_at "dv"
    rw [if_neg (by omega)]
    have hr : r.toNat < ds.length := by omega
    rw [List.getElem?_eq_getElem hr]
    walk_at "dv"
    exact q _ _ hw' (List.getElem_mem hr)

/-- a drawn number -/
def NB (r : Rat) : Prop := r.den ≤ 60 ∧ Mg (2 ^ 67) r
theorem fr_int (k : Int) : D.tup [D.int k, D.int 1] = frD (k : Rat) := rfl
theorem nb_div {a b : Int} (h0 : 0 < b) (h1 : b ≤ 60) (h2 : a.natAbs ≤ 2 ^ 67) : NB (Rat.divInt a b) := by
  refine ⟨?_, mg_div h0 ?_⟩
  · have := divInt_den_le (a := a) h0
    omega
  · have : 1 ≤ b.natAbs := by omega
    exact Nat.le_trans h2 (Nat.le_mul_of_pos_right _ (by omega))
theorem nb_int {k : Int} (h : k.natAbs ≤ 2 ^ 67) : NB (k : Rat) := by
  refine ⟨show (1 : Nat) ≤ 60 by decide, ?_⟩
  unfold Mg
  have e1 : (k : Rat).num = k := rfl
  have e2 : (k : Rat).den = 1 := rfl
  rw [e1, e2]
  omega
theorem get_last {ms : List (List D)} {x : List D} : (ms ++ [x])[ms.length]? = some x := by
  rw [List.getElem?_append_right (Nat.le_refl _), Nat.sub_self]
  rfl
theorem set_last {ms : List (List D)} {x y : List D} : (ms ++ [x]).set ms.length y = ms ++ [y] := by
  rw [List.set_append_right _ _ (Nat.le_refl _), Nat.sub_self]
  rfl
theorem take_cons {w : List D} {ms l : List (List D)} : List.take (ms.length + 1) (w :: (ms ++ l)) = w :: ms := by
  rw [List.take_succ_cons, List.take_left]
theorem lt_two_le {n a : Nat} (h : n ≤ a) : n ≤ a := h

def T__law_number : TF := fun ss μ P => ∃ w ms, ss = [.m 0] ∧ μ = w :: ms ∧ IsW w ∧ ∀ r w', IsW w' → NB r → P (frD r) (w' :: ms)
theorem mon__law_number : MonF T__law_number := fun ss μ P P' k ⟨a, b, e, e2, h, q⟩ => ⟨a, b, e, e2, h, fun r w' h1 h2 => k _ _ (q r w' h1 h2)⟩
theorem ok__law_number (t : Top K mg "_law_number" s__law_number ["_law_well_here"]) (C__law_draw : DefOk P w K mg base "_law_draw" 1 2 T__law_draw) (C__law_lean : DefOk P w K mg base "_law_lean" 1 2 T__law_lean) :
    DefOk P w K mg base "_law_number" 2 1 T__law_number := by
  have nd := (sc__law_number).nd
  refine ok_defD (k := 1) t sc__law_number mon__law_number (fun f cdv A outer s H E hr =>
    (pds_cons (pds_set (pd_callD C__law_draw (hr.mono (by decide)) (by rfl) (pda_cons (pd_var (pv 0)) (pda_cons pd_int pda_nil))) (fun _ h => ps_set (i := 1) nd rfl (by first | exact Or.inl rfl | exact Or.inr rfl) h))
      (pds_cons (pds_if (ptd_cmp op_lt mon_gF snd_B0 (nomark _) (pd_var (pv 1)) pd_int) (pds_one (pd_ret (pd_tup (pda_cons (pd_op op_sub mon_gF snd_I0 (pd_callD C__law_draw (hr.mono (by decide)) (by rfl) (pda_cons (pd_var (pv 0)) (pda_cons pd_int pda_nil))) pd_int) (pda_cons pd_int pda_nil))))) pds_nil)
      (pds_cons (pds_if (ptd_cmp op_lt mon_gF snd_B0 (nomark _) (pd_var (pv 1)) pd_int) (pds_one (pd_ret (pd_callD C__law_lean (hr.mono (by decide)) (by rfl) (pda_cons (pd_op op_sub mon_gF snd_I0 (pd_callD C__law_draw (hr.mono (by decide)) (by rfl) (pda_cons (pd_var (pv 0)) (pda_cons pd_int pda_nil))) pd_int) (pda_cons (pd_op add_ok mon_gF snd_add pd_int (pd_callD C__law_draw (hr.mono (by decide)) (by rfl) (pda_cons (pd_var (pv 0)) (pda_cons pd_int pda_nil)))) pda_nil))))) pds_nil)
      (pds_one (pd_ret (pd_callD C__law_lean (hr.mono (by decide)) (by rfl) (pda_cons (pd_op op_sub mon_gF snd_I0 (pd_callD C__law_draw (hr.mono (by decide)) (by rfl) (pda_cons (pd_var (pv 0)) (pda_cons (pd_op op_pow mon_gF snd_I pd_int pd_int) pda_nil))) (pd_op op_pow mon_gF snd_I pd_int pd_int)) (pda_cons (pd_op add_ok mon_gF snd_add pd_int (pd_callD C__law_draw (hr.mono (by decide)) (by rfl) (pda_cons (pd_var (pv 0)) (pda_cons pd_int pda_nil)))) pda_nil))))))))) ?_
  intro ss μ Q hl h
  obtain ⟨w0, ms, rfl, rfl, hw, q⟩ := h
  have p67 : (10 : Nat) ^ 20 ≤ 2 ^ 67 := by decide
  have b67 : (100 : Nat) ≤ 2 ^ 67 := by decide
  walk_at "dv"
  refine ⟨w0, ms, _, rfl, rfl, ⟨hw, by decide, by decide⟩, fun r1 w1 hw1 a0 a1 => ?_⟩
  walk_at "dv"
  by_cases c : r1 < 10
  · rw [if_pos c]
    refine ⟨w1, ms, _, rfl, rfl, ⟨hw1, by decide, by decide⟩, fun r2 w2 hw2 b0 b1 => ?_⟩
    walk_at "dv"
    rw [fr_int]
    exact q _ _ hw2 (nb_int (Nat.le_trans (show (r2 - 1).natAbs ≤ 100 by omega) b67))
  · rw [if_neg c]
    by_cases c2 : r1 < 13
    · rw [if_pos c2]
      refine ⟨w1, ms, _, rfl, rfl, ⟨hw1, by decide, by decide⟩, fun r2 w2 hw2 b0 b1 => ?_⟩
      walk_at "dv"
      refine ⟨w2, ms, _, rfl, rfl, ⟨hw2, by decide, by decide⟩, fun r3 w3 hw3 d0 d1 => ?_⟩
      walk_at "dv"
      refine ⟨_, _, rfl, ⟨by omega, lt_8000 (n := 10) (show (1 + r3).natAbs < 2 ^ 10 by omega) (by decide)⟩, ?_⟩
      walk_at "dv"
      exact q _ _ hw3 (nb_div (by omega) (by omega) (Nat.le_trans (show (r2 - 6).natAbs ≤ 100 by omega) b67))
    · rw [if_neg c2]
      refine ⟨⟨by decide, by decide, by decide⟩, ?_⟩
      have e20 : (10 : Int) ^ 20 = 100000000000000000000 := by decide
      rw [e20]
      refine ⟨w1, ms, _, rfl, rfl, ⟨hw1, by decide, by decide⟩, fun r2 w2 hw2 b0 b1 => ?_⟩
      walk_at "dv"
      refine ⟨⟨by decide, by decide, by decide⟩, ?_⟩
      refine ⟨w2, ms, _, rfl, rfl, ⟨hw2, by decide, by decide⟩, fun r3 w3 hw3 d0 d1 => ?_⟩
      walk_at "dv"
      have e6 : (10 : Int) ^ 6 = 1000000 := by decide
      rw [e6]
      refine ⟨_, _, rfl, ⟨by omega, lt_8000 (n := 10) (show (1 + r3).natAbs < 2 ^ 10 by omega) (by decide)⟩, ?_⟩
      walk_at "dv"
      refine q _ _ hw3 (nb_div (by omega) (by omega) (Nat.le_trans ?_ p67))
      have : (10 : Nat) ^ 20 = 100000000000000000000 := by decide
      omega
def T__law_row : TF := fun ss μ P => ∃ w ms, ∃ n : Nat, ss = [.m 0, .d (.int (n : Int))] ∧ μ = w :: ms ∧ (IsW w ∧ n ≤ 100) ∧ ∀ rs w', IsW w' → (rs.length = n ∧ ∀ r ∈ rs, NB r) → P (rowL rs) (w' :: ms)
theorem mon__law_row : MonF T__law_row := fun ss μ P P' k ⟨a, b, c, e, e2, h, q⟩ => ⟨a, b, c, e, e2, h, fun r w' h1 h2 => k _ _ (q r w' h1 h2)⟩
theorem ok__law_row (t : Top K mg "_law_row" s__law_row ["_law_well_here", "_law_n"]) (C__law_number : DefOk P w K mg base "_law_number" 2 1 T__law_number) (m_range : mg "range" = none) :
    DefOk P w K mg base "_law_row" 3 2 T__law_row := by
  have nd := (sc__law_row).nd
  refine ok_defD (k := 2) t sc__law_row mon__law_row (fun f cdv A outer s H E hr =>
    (pds_cons (pds_new (pdn_lst pda_nil) (fun _ h => ps_set (i := 2) nd rfl (by first | exact Or.inl rfl | exact Or.inr rfl) h))
      (pds_cons (pds_for PassesOwn.never rfl (pdi_range (by rfl) m_range (pda_cons (pd_var (pv 1)) pda_nil)) (pdg_name (pg_name (i := 3) nd rfl (by first | exact Or.inl rfl | exact Or.inr rfl))) (pds_one (pds_app (pd_var (pv 2)) (pd_callD C__law_number (hr.mono (by decide)) (by rfl) (pda_cons (pd_var (pv 0)) pda_nil)) (fun _ _ h1 h2 => ps_expr (pe_bm PySem.F.plainAttrs_list PySem.F.slot_list_append PySem.F.type_list_append mt_append h1 h2)))))
      (pds_one (pd_ret (pd_var (pv 2))))))) ?_
  intro ss μ Q hl h
  obtain ⟨w0, ms, n, rfl, rfl, ⟨hw, hn⟩, q⟩ := h
  walk_at "dv"
  refine ⟨by omega, by omega, ?_⟩
  rw [rngD_nat]
  have key : ∀ (is : List Nat) (rs : List Rat) (w : List D) (sl : Option S) (k : K4), IsW w → rs.length + is.length ≤ 100 → (∀ r ∈ rs, NB r) → (∀ (rs' : List Rat) (w' : List D) (sl' : Option S), IsW w' → (rs'.length = rs.length + is.length ∧ ∀ r ∈ rs', NB r) → k.nx [some (.m 0), some (.d (.int (n : Int))), some (.m (ms.length + 1)), sl'] (w' :: (ms ++ [rs'.map frD]))) →
      loopS (gN 3) (fApp (fVar 2) (fCall 1 T__law_number (fACons (fVar 0) fANil))) (fun _ => True) (is.map fun (i : Nat) => D.int (i : Int)) [some (.m 0), some (.d (.int (n : Int))), some (.m (ms.length + 1)), sl] (w :: (ms ++ [rs.map frD])) k := by
    intro is
    induction is with
    | nil => intro rs w sl k hw _ hr hk; exact ⟨trivial, hk rs w sl hw ⟨by simp, hr⟩⟩
    | cons i is ih =>
      intro rs w sl k hw hl hr hk
      refine ⟨trivial, ?_⟩
      walk_at "dv"
      refine ⟨w, _, rfl, rfl, hw, fun r w' hw' hb => ?_⟩
      walk_at "dv"
      rw [get_last]
      walk_at "dv"
      refine ⟨by rw [List.length_map]; rw [List.length_cons] at hl; omega, ?_⟩
      rw [set_last]
      have e : rs.map frD ++ [frD r] = (rs ++ [r]).map frD := by simp
      rw [e]
      refine ih (rs ++ [r]) w' _ k hw' (by simp at hl ⊢; omega) (fun x hx => ?_) fun rs' w2 sl' h1 h2 => hk rs' w2 sl' h1 ⟨by have := h2.1; simp at this ⊢; omega, h2.2⟩
      rcases List.mem_append.mp hx with hx | hx
      · exact hr x hx
      · rw [List.mem_singleton] at hx; rw [hx]; exact hb
  refine key (List.range n) [] w0 none _ hw (by simp; omega) (fun r hr => by cases hr) fun rs' w' sl' h1 h2 => ?_
  walk_at "dv"
  rw [get_last, List.take_left]
  exact ⟨_, rfl, q rs' w' h1 ⟨by simpa using h2.1, h2.2⟩⟩
def T__law_sizes : TF := fun ss μ P => ∃ w ms, ss = [.m 0] ∧ μ = w :: ms ∧ IsW w ∧ ∀ n m w', IsW w' → (2 ≤ n ∧ n ≤ 4 ∧ 1 ≤ m ∧ m ≤ 5) → P (.tup [.int (n : Nat), .int (m : Nat)]) (w' :: ms)
theorem mon__law_sizes : MonF T__law_sizes := fun ss μ P P' k ⟨a, b, e, e2, h, q⟩ => ⟨a, b, e, e2, h, fun n m w' h1 h2 => k _ _ (q n m w' h1 h2)⟩
theorem ok__law_sizes (t : Top K mg "_law_sizes" s__law_sizes ["_law_well_here"]) (C__law_one : DefOk P w K mg base "_law_one" 2 2 T__law_one) :
    DefOk P w K mg base "_law_sizes" 3 1 T__law_sizes := by
  have nd := (sc__law_sizes).nd
  refine ok_defD (k := 2) t sc__law_sizes mon__law_sizes (fun f cdv A outer s H E hr =>
    (pds_one (pd_ret (pd_callD C__law_one (hr.mono (by decide)) (by rfl) (pda_cons (pd_var (pv 0)) (pda_cons (pd_tup (pda_cons (pd_tup (pda_cons pd_int (pda_cons pd_int pda_nil))) (pda_cons (pd_tup (pda_cons pd_int (pda_cons pd_int pda_nil))) (pda_cons (pd_tup (pda_cons pd_int (pda_cons pd_int pda_nil))) (pda_cons (pd_tup (pda_cons pd_int (pda_cons pd_int pda_nil))) (pda_cons (pd_tup (pda_cons pd_int (pda_cons pd_int pda_nil))) (pda_cons (pd_tup (pda_cons pd_int (pda_cons pd_int pda_nil))) (pda_cons (pd_tup (pda_cons pd_int (pda_cons pd_int pda_nil))) (pda_cons (pd_tup (pda_cons pd_int (pda_cons pd_int pda_nil))) (pda_cons (pd_tup (pda_cons pd_int (pda_cons pd_int pda_nil))) (pda_cons (pd_tup (pda_cons pd_int (pda_cons pd_int pda_nil))) (pda_cons (pd_tup (pda_cons pd_int (pda_cons pd_int pda_nil))) (pda_cons (pd_tup (pda_cons pd_int (pda_cons pd_int pda_nil))) (pda_cons (pd_tup (pda_cons pd_int (pda_cons pd_int pda_nil))) (pda_cons (pd_tup (pda_cons pd_int (pda_cons pd_int pda_nil))) (pda_cons (pd_tup (pda_cons pd_int (pda_cons pd_int pda_nil))) (pda_cons (pd_tup (pda_cons pd_int (pda_cons pd_int pda_nil))) (pda_cons (pd_tup (pda_cons pd_int (pda_cons pd_int pda_nil))) (pda_cons (pd_tup (pda_cons pd_int (pda_cons pd_int pda_nil))) (pda_cons (pd_tup (pda_cons pd_int (pda_cons pd_int pda_nil))) (pda_cons (pd_tup (pda_cons pd_int (pda_cons pd_int pda_nil))) pda_nil))))))))))))))))))))) pda_nil)))))) ?_
  intro ss μ Q hl h
  obtain ⟨w0, ms, rfl, rfl, hw, q⟩ := h
  walk_at "dv"
  refine ⟨w0, ms, _, .inl rfl, rfl, ⟨hw, by simp, by simp⟩, fun d w' hw' hd => ?_⟩
  walk_at "dv"
  simp only [List.mem_cons, List.not_mem_nil, or_false] at hd
  rcases hd with rfl | rfl | rfl | rfl | rfl | rfl | rfl | rfl | rfl | rfl | rfl | rfl | rfl | rfl | rfl | rfl | rfl | rfl | rfl | rfl
  · exact q 2 2 w' hw' (by decide)
  · exact q 2 3 w' hw' (by decide)
  · exact q 3 2 w' hw' (by decide)
  · exact q 3 3 w' hw' (by decide)
  · exact q 2 4 w' hw' (by decide)
  · exact q 3 3 w' hw' (by decide)
  · exact q 2 1 w' hw' (by decide)
  · exact q 2 5 w' hw' (by decide)
  · exact q 3 2 w' hw' (by decide)
  · exact q 2 3 w' hw' (by decide)
  · exact q 3 4 w' hw' (by decide)
  · exact q 4 2 w' hw' (by decide)
  · exact q 2 2 w' hw' (by decide)
  · exact q 3 1 w' hw' (by decide)
  · exact q 2 3 w' hw' (by decide)
  · exact q 3 3 w' hw' (by decide)
  · exact q 4 1 w' hw' (by decide)
  · exact q 2 4 w' hw' (by decide)
  · exact q 3 5 w' hw' (by decide)
  · exact q 4 3 w' hw' (by decide)

theorem lc_pure2 {α : Type} {g : SG} {tt : STe} {fe : SE} {ok : Mu → Prop} {ρ : Rho} (enc : α → D) (out : α → Option D) (μ : Mu) (hok : ∀ acc, ok (μ ++ [acc])) : ∀ (items : List α) (acc : List D) (P : List D → Mu → Prop),
    (∀ a ∈ items, ∀ (acc : List D) (P : S → Mu → Prop) (P2 : Mu → Prop), (match out a with | some d => P (.d d) (μ ++ [acc]) | none => P2 (μ ++ [acc])) → g (.d (enc a)) ρ (μ ++ [acc]) fun ρ1 μ1 => tt ρ1 μ1 fun b μ2 => if b = true then fe ρ1 μ2 P else P2 μ2) →
    acc.length + items.length ≤ 40000 → P (acc ++ items.filterMap out) μ → lcLoop g tt fe ok ρ (items.map enc) acc μ P
  | [], acc, P, _, _, q => ⟨hok _, by simpa using q⟩
  | a :: r, acc, P, h, hl, q => by
    refine ⟨hok _, by simp at hl; omega, h a (by simp) acc _ _ ?_⟩
    cases e : out a with
    | none =>
      refine ⟨by simp, ?_⟩
      rw [List.dropLast_concat]
      exact lc_pure2 enc out μ hok r acc P (fun b hb => h b (List.mem_cons_of_mem _ hb)) (by simp at hl; omega) (by simpa [e] using q)
    | some d =>
      refine ⟨d, rfl, by simp, ?_⟩
      rw [List.dropLast_concat]
      exact lc_pure2 enc out μ hok r (acc ++ [d]) P (fun b hb => h b (List.mem_cons_of_mem _ hb)) (by simp at hl ⊢; omega) (by simpa [e] using q)
inductive AllR {α : Type} (R : α → D → Prop) : List α → List D → Prop
  | nil : AllR R [] []
  | cons {a : α} {l : List α} {d : D} {ds : List D} : R a d → AllR R l ds → AllR R (a :: l) (d :: ds)
/-- elements that draw -/
theorem lc_draw {α : Type} {g : SG} {tt : STe} {fe : SE} {ok : Mu → Prop} {ρ : Rho} (enc : α → D) (R : α → D → Prop) (ms : Mu) (hok : ∀ w acc, ok (w :: (ms ++ [acc]))) : ∀ (items : List α) (acc : List D) (w : List D) (P : List D → Mu → Prop),
    (∀ a ∈ items, ∀ (w acc : List D) (P : S → Mu → Prop) (P2 : Mu → Prop), IsW w → (∀ d w', IsW w' → R a d → P (.d d) (w' :: (ms ++ [acc]))) → g (.d (enc a)) ρ (w :: (ms ++ [acc])) fun ρ1 μ1 => tt ρ1 μ1 fun b μ2 => if b = true then fe ρ1 μ2 P else P2 μ2) →
    IsW w → acc.length + items.length ≤ 40000 → (∀ ds w', IsW w' → AllR R items ds → P (acc ++ ds) (w' :: ms)) → lcLoop g tt fe ok ρ (items.map enc) acc (w :: ms) P
  | [], acc, w, P, _, hw, _, q => ⟨hok _ _, by have := q [] w hw .nil; rwa [List.append_nil] at this⟩
  | a :: r, acc, w, P, h, hw, hl, q => by
    refine ⟨hok _ _, by simp at hl; omega, h a (by simp) w acc _ _ hw fun d w' hw' hr => ?_⟩
    refine ⟨d, rfl, ?_, ?_⟩
    · rw [← List.cons_append]; exact List.getLast?_concat ..
    · rw [← List.cons_append, List.dropLast_concat]
      refine lc_draw enc R ms hok r (acc ++ [d]) w' P (fun b hb => h b (List.mem_cons_of_mem _ hb)) hw' (by simp at hl ⊢; omega) fun ds w2 hw2 hr2 => ?_
      have := q (d :: ds) w2 hw2 (.cons hr hr2)
      rwa [List.append_assoc]
theorem map_set_int {v : Int} {i : Nat} {ns : List Int} : (ns.set i v).map D.int = (ns.map D.int).set i (.int v) := by rw [List.map_set]
/-! ### drawn beliefs -/
theorem ints_some : ∀ ns : List Int, intsOf (ns.map D.int) = some ns
  | [] => rfl
  | n :: r => by simp only [List.map_cons, intsOf, ints_some r, Option.map_some]
structure BB2 (ch : List Rat) (n : Nat) : Prop where
  len : ch.length = n
  n4 : n ≤ 4
  nn : ∀ r ∈ ch, 0 ≤ r.num ∧ r.num ≤ r.den ∧ r.den ≤ 68
  sum : sumR ch = 1
theorem dp_le (k : Nat) : ∀ (l : List Rat), (∀ r ∈ l, r.den ≤ k) → dp l ≤ k ^ l.length
  | [], _ => by simp [dp]
  | x :: l, h => by
    rw [dp_cons, List.length_cons, Nat.pow_succ, Nat.mul_comm]
    exact Nat.mul_le_mul (dp_le k l fun r hr => h r (List.mem_cons_of_mem _ hr)) (h x (by simp))
theorem BB2.dp28 {ch : List Rat} {n : Nat} (h : BB2 ch n) : dp ch < 2 ^ 28 := by
  have h1 := dp_le 68 ch fun r hr => (h.nn r hr).2.2
  have h2 : (68 : Nat) ^ ch.length ≤ 68 ^ 4 := Nat.pow_le_pow_right (by decide) (by rw [h.len]; exact h.n4)
  exact Nat.lt_of_le_of_lt (Nat.le_trans h1 h2) (by decide)
theorem BB2.bb {ch : List Rat} {n : Nat} (h : BB2 ch n) : BB ch n :=
  ⟨⟨by rw [h.len]; exact h.n4, Nat.lt_trans h.dp28 (by decide), fun r hr => ⟨(h.nn r hr).1, (h.nn r hr).2.1⟩⟩, h.len, h.sum⟩
theorem sum_div (s : Int) (hs : 0 < s) : ∀ ns : List Int, sumR (ns.map fun k => Rat.divInt k s) = Rat.divInt ns.sum s
  | [] => by simp [sumR, Rat.zero_divInt]
  | k :: ns => by
    simp only [List.map_cons, sumR, sum_div s hs ns, List.sum_cons]
    rw [Rat.divInt_add_divInt _ _ (by omega) (by omega), ← Int.add_mul, Rat.divInt_mul_right (by omega)]
theorem sum_nn : ∀ {ns : List Int}, (∀ k ∈ ns, 0 ≤ k) → 0 ≤ ns.sum ∧ ∀ k ∈ ns, k ≤ ns.sum
  | [], _ => ⟨by simp, fun k hk => by cases hk⟩
  | n :: ns, h => by
    obtain ⟨h1, h2⟩ := sum_nn (ns := ns) fun k hk => h k (List.mem_cons_of_mem _ hk)
    have h0 := h n (by simp)
    rw [List.sum_cons]
    refine ⟨by omega, fun k hk => ?_⟩
    rcases List.mem_cons.mp hk with e | e
    · omega
    · have := h2 k e; omega
theorem sum_le17 : ∀ {ns : List Int}, (∀ k ∈ ns, k ≤ 17) → ns.sum ≤ 17 * ns.length
  | [], _ => by simp
  | n :: ns, h => by
    have h1 := sum_le17 (ns := ns) fun k hk => h k (List.mem_cons_of_mem _ hk)
    have h0 := h n (by simp)
    rw [List.sum_cons, List.length_cons]
    omega
theorem bel_of {ns : List Int} {n : Nat} (hl : ns.length = n) (h4 : n ≤ 4) (h : ∀ k ∈ ns, 0 ≤ k ∧ k ≤ 17) (hs : 0 < ns.sum) : BB2 (ns.map fun k => Rat.divInt k ns.sum) n := by
  have a := sum_nn fun k hk => (h k hk).1
  have b := sum_le17 fun k hk => (h k hk).2
  refine ⟨by rw [List.length_map]; exact hl, h4, fun r hr => ?_, ?_⟩
  · obtain ⟨k, hk, rfl⟩ := List.mem_map.mp hr
    have e : (Rat.divInt k ns.sum).num * ns.sum = k * (Rat.divInt k ns.sum).den := by
      have e : Rat.divInt k ns.sum = Rat.divInt (Rat.divInt k ns.sum).num (Rat.divInt k ns.sum).den := (Rat.num_divInt_den _).symm
      have hd := den_pos (Rat.divInt k ns.sum)
      exact ((Rat.divInt_eq_divInt_iff (by omega) (by omega)).mp e).symm
    have hd := den_pos (Rat.divInt k ns.sum)
    have h1 := (h k hk).1
    have h2 := a.2 k hk
    refine ⟨?_, ?_, ?_⟩
    · have : 0 ≤ (Rat.divInt k ns.sum).num * ns.sum := by rw [e]; exact Int.mul_nonneg h1 (by omega)
      by_cases c : 0 ≤ (Rat.divInt k ns.sum).num
      · exact c
      · have := Int.mul_neg_of_neg_of_pos (show (Rat.divInt k ns.sum).num < 0 by omega) hs
        omega
    · by_cases c : (Rat.divInt k ns.sum).num ≤ (Rat.divInt k ns.sum).den
      · exact c
      · exfalso
        have c2 : ((Rat.divInt k ns.sum).den : Int) + 1 ≤ (Rat.divInt k ns.sum).num := by omega
        have := Int.mul_le_mul_of_nonneg_right c2 (show (0 : Int) ≤ ns.sum by omega)
        rw [e, Int.add_mul, Int.one_mul] at this
        have t2 := Int.mul_le_mul_of_nonneg_right h2 (show (0 : Int) ≤ ((Rat.divInt k ns.sum).den : Int) by omega)
        rw [Int.mul_comm ns.sum] at t2
        omega
    · have := divInt_den_le (a := k) hs
      omega
  · rw [sum_div _ hs, Rat.divInt_self' (by omega)]

def T__law_chance : TF := fun ss μ P => ∃ w ms, ∃ n : Nat, ss = [.m 0, .d (.int (n : Int))] ∧ μ = w :: ms ∧ (IsW w ∧ 1 ≤ n ∧ n ≤ 4) ∧ ∀ ch w', IsW w' → BB2 ch n → P (rowD ch) (w' :: ms)
theorem mon__law_chance : MonF T__law_chance := fun ss μ P P' k ⟨a, b, c, e, e2, h, q⟩ => ⟨a, b, c, e, e2, h, fun r w' h1 h2 => k _ _ (q r w' h1 h2)⟩
theorem ok__law_chance (t : Top K mg "_law_chance" s__law_chance ["_law_well_here", "_law_n"]) (C__law_draw : DefOk P w K mg base "_law_draw" 1 2 T__law_draw) (C__law_lean : DefOk P w K mg base "_law_lean" 1 2 T__law_lean) (C__law_one : DefOk P w K mg base "_law_one" 2 2 T__law_one) (m_range : mg "range" = none) (m_sum : mg "sum" = none) (m_tuple : mg "tuple" = none) :
    DefOk P w K mg base "_law_chance" 3 2 T__law_chance := by
  have nd := (sc__law_chance).nd
  refine ok_defD (k := 2) t sc__law_chance mon__law_chance (fun f cdv A outer s H E hr =>
    (pds_cons (pds_new (pdn_lst pda_nil) (fun _ h => ps_set (i := 2) nd rfl (by first | exact Or.inl rfl | exact Or.inr rfl) h))
      (pds_cons (pds_for PassesOwn.never rfl (pdi_range (by rfl) m_range (pda_cons (pd_var (pv 1)) pda_nil)) (pdg_name (pg_name (i := 3) nd rfl (by first | exact Or.inl rfl | exact Or.inr rfl))) (pds_one (pds_app (pd_var (pv 2)) (pd_callD C__law_one (hr.mono (by decide)) (by rfl) (pda_cons (pd_var (pv 0)) (pda_cons (pd_tup (pda_cons pd_int (pda_cons pd_int (pda_cons pd_int (pda_cons pd_int (pda_cons pd_int (pda_cons pd_int (pda_cons pd_int (pda_cons pd_int (pda_cons pd_int pda_nil)))))))))) pda_nil))) (fun _ _ h1 h2 => ps_expr (pe_bm PySem.F.plainAttrs_list PySem.F.slot_list_append PySem.F.type_list_append mt_append h1 h2)))))
      (pds_cons (pds_if (ptd_cmp (eq_ok hr.units) mon_gF snd_eq (nomark _) (pd_B (cr_sum rfl) snd_sum mon_gA (by rfl) m_sum bt_sum (pda_cons (pd_var (pv 2)) pda_nil)) pd_int) (pds_one (pds_asg pd_int (pdg_sub (pd_var (pv 2)) (pd_callD C__law_draw (hr.mono (by decide)) (by rfl) (pda_cons (pd_var (pv 0)) (pda_cons (pd_var (pv 1)) pda_nil)))))) pds_nil)
      (pds_one (pd_ret (pd_Ty call_tuple_of snd_tupleOf mon_gA (by rfl) m_tuple bt_tuple (pda_cons (pd_of_N (pdn_lc (own := [("_law_part", 4)]) rfl nd (pdi_seq (pd_var (pv 2))) (blkOk_by (N := N__law_chance) (sc := defScope s__law_chance) (by decide +kernel)) (fun _ _ _ _ _ => (pdg_name (pg_name (i := 4) nd rfl (by first | exact Or.inl rfl | exact Or.inr rfl)))) (fun _ _ _ _ _ => pdts_nil) (fun _ _ _ _ _ => (pd_callD C__law_lean (hr.mono (by decide)) (by rfl) (pda_cons (pd_var (pv 4)) (pda_cons (pd_B (cr_sum rfl) snd_sum mon_gA (by rfl) m_sum bt_sum (pda_cons (pd_var (pv 2)) pda_nil)) pda_nil)))) (by decide))) pda_nil)))))))) ?_
  intro ss μ Q hl h
  obtain ⟨w0, ms, n, rfl, rfl, ⟨hw, h1, h4⟩, q⟩ := h
  walk_at "dv"
  refine ⟨by omega, by omega, ?_⟩
  rw [rngD_nat]
  have key : ∀ (is : List Nat) (ns : List Int) (w : List D) (sl s5 : Option S) (k : K4), IsW w → ns.length + is.length ≤ 100 → (∀ r ∈ ns, 0 ≤ r ∧ r ≤ 17) → (∀ (ns' : List Int) (w' : List D) (sl' : Option S), IsW w' → (ns'.length = ns.length + is.length ∧ ∀ r ∈ ns', 0 ≤ r ∧ r ≤ 17) → k.nx [some (.m 0), some (.d (.int (n : Int))), some (.m (ms.length + 1)), sl', s5] (w' :: (ms ++ [ns'.map D.int]))) →
      loopS (gN 3) (fApp (fVar 2) (fCall 2 T__law_one (fACons (fVar 0) (fACons (fTup (fACons (fC (.int 0)) (fACons (fC (.int 1)) (fACons (fC (.int 1)) (fACons (fC (.int 2)) (fACons (fC (.int 3)) (fACons (fC (.int 0)) (fACons (fC (.int 1)) (fACons (fC (.int 5)) (fACons (fC (.int 17)) fANil)))))))))) fANil)))) (fun _ => True) (is.map fun (i : Nat) => D.int (i : Int)) [some (.m 0), some (.d (.int (n : Int))), some (.m (ms.length + 1)), sl, s5] (w :: (ms ++ [ns.map D.int])) k := by
    intro is
    induction is with
    | nil => intro ns w sl s5 k hw _ hr hk; exact ⟨trivial, hk ns w sl hw ⟨by simp, hr⟩⟩
    | cons i is ih =>
      intro ns w sl s5 k hw hl hr hk
      refine ⟨trivial, ?_⟩
      walk_at "dv"
      refine ⟨w, _, _, .inl rfl, rfl, ⟨hw, by simp, by simp⟩, fun d w' hw' hd => ?_⟩
      walk_at "dv"
      rw [get_last]
      have hd2 : ∃ r : Int, d = .int r ∧ 0 ≤ r ∧ r ≤ 17 := by
        simp only [List.mem_cons, List.not_mem_nil, or_false] at hd
        rcases hd with rfl | rfl | rfl | rfl | rfl | rfl | rfl | rfl | rfl <;> exact ⟨_, rfl, by decide, by decide⟩
      obtain ⟨r, rfl, r0, r17⟩ := hd2
      refine ⟨_, rfl, by rw [List.length_map]; rw [List.length_cons] at hl; omega, ?_⟩
      rw [set_last]
      have e : ns.map D.int ++ [D.int r] = (ns ++ [r]).map D.int := by simp
      rw [e]
      refine ih (ns ++ [r]) w' _ s5 k hw' (by simp at hl ⊢; omega) (fun x hx => ?_) fun rs' w2 sl' h1 h2 => hk rs' w2 sl' h1 ⟨by have := h2.1; simp at this ⊢; omega, h2.2⟩
      rcases List.mem_append.mp hx with hx | hx
      · exact hr x hx
      · rw [List.mem_singleton] at hx; rw [hx]; exact ⟨r0, r17⟩
  refine key (List.range n) [] w0 none none _ hw (by simp; omega) (fun r hr => by cases hr) fun ns w' sl' g1 g2 => ?_
  have hn : ns.length = n := by simpa using g2.1
  have gs := sum_nn fun k hk => (g2.2 k hk).1
  have fin : ∀ (ns : List Int) (w' : List D), IsW w' → ns.length = n → (∀ r ∈ ns, 0 ≤ r ∧ r ≤ 17) → 0 < ns.sum → ∀ sl : Option S,
      lcLoop (gN 4) fYes (fCall 2 T__law_lean (fACons (fVar 4) (fACons (fCB (gA cA0 (f1L gSum)) (fACons (fVar 2) fANil)) fANil))) (fun μ' => μ'[ms.length + 1]? = some (ns.map D.int)) [some (.m 0), some (.d (.int (n : Int))), some (.m (ms.length + 1)), sl, none] (ns.map D.int) [] (w' :: (ms ++ [ns.map D.int])) fun ds μ' => Q (.tup ds) (List.take (ms.length + 1) μ') := by
    intro ns w' hw' hn hr hs sl
    have hle := sum_le17 fun k hk => (hr k hk).2
    have hget : ∀ acc : List D, (w' :: (ms ++ [ns.map D.int]) ++ [acc])[ms.length + 1]? = some (ns.map D.int) := fun acc => by
      rw [List.cons_append, List.getElem?_cons_succ, List.append_assoc, List.getElem?_append_right (Nat.le_refl _), Nat.sub_self]
      rfl
    refine lc_pure2 D.int (fun k => some (frD (Rat.divInt k ns.sum))) (w' :: (ms ++ [ns.map D.int])) hget ns [] _ (fun k hk acc P P2 h => ?_) (by simp; omega) ?_
    · have hg := hget acc
      rw [List.cons_append] at hg h ⊢
      rw [List.getElem?_cons_succ] at hg
      walk_at "dv"
      simp only [hg, ints_some]
      walk_at "dv"
      exact ⟨k, ns.sum, rfl, ⟨hs, lt_8000 (n := 10) (show ns.sum.natAbs < 2 ^ 10 by omega) (by decide)⟩, h⟩
    · have e : ns.filterMap (fun k => some (frD (Rat.divInt k ns.sum))) = (ns.map fun k => Rat.divInt k ns.sum).map frD := by
        rw [List.map_map, List.filterMap_eq_map']
        rfl
      rw [e, List.nil_append, List.take_succ_cons, List.take_left]
      exact q _ w' hw' (bel_of hn h4 hr hs)
  walk_at "dv"
  simp only [get_last, ints_some]
  walk_at "dv"
  by_cases c : ns.sum = 0
  · rw [if_pos c]
    refine ⟨w', _, _, rfl, rfl, ⟨g1, by omega, by omega⟩, fun r w2 hw2 r0 r1 => ⟨r, rfl, ns.map D.int, ?_, r0, ?_, ?_⟩⟩
    · rw [List.getElem?_cons_succ]; exact get_last
    · rw [List.length_map, hn]; exact r1
    · rw [List.set_cons_succ, set_last, ← map_set_int]
      refine ⟨((ns.set r.toNat 1).map D.int, fun μ' => μ'[ms.length + 1]? = some ((ns.set r.toNat 1).map D.int)), ?_, ?_⟩
      · rw [List.getElem?_cons_succ, get_last]; rfl
      · have hr : ∀ x ∈ ns.set r.toNat 1, 0 ≤ x ∧ x ≤ 17 := fun x hx => by
          rcases List.mem_or_eq_of_mem_set hx with hx | hx
          · exact g2.2 x hx
          · rw [hx]; exact ⟨by decide, by decide⟩
        have hl2 : (ns.set r.toNat 1).length = n := by rw [List.length_set]; exact hn
        have hm : (1 : Int) ∈ ns.set r.toNat 1 := List.mem_set (by omega) 1
        have hs := (sum_nn fun k hk => (hr k hk).1).2 1 hm
        exact fin _ w2 hw2 hl2 hr (by omega) sl'
  · rw [if_neg c]
    exact fin ns w' g1 hn g2.2 (by omega) _
end K3

/-! part K3e -/
set_option Elab.async false
set_option linter.all false
set_option maxRecDepth 100000
set_option autoImplicit false
set_option exponentiation.threshold 4000
namespace K3
open PySem PySem.Spec L2 DV
open PyProof.Rows (envOfC)
variable {P : Program} {w : World} {K : PySem.W.Frag} {mg : Str → Option Value} {base : Heap}

local macro_rules | `(tactic| walk_at "dv") => `(tactic| simp only [startR, kD, fin, fSeq, fNext, fDrop, fNRep, fNRg, fParN0, fPar3, fPar3N, fAsg, fRet, fIfS, fNever, fPar, fNew, fApp, fVar, fC, fOp, fTest, fTAnd, fTOr, fTNot, fVAnd, fVOr, fVNot, fNeg, fIf, fChain, fANil, fACons, fTup, fLst, fCB, fNLst, fOfN, fYes, fIsi, fONone, fOSome, fSl, sliceF,
  gF, gA, cI, fI, c0, cAdd, fAdd, fIx, cRepT, fRepT, fEq, fNe, fNotIn, intsOf, blsOf, allD, seqOf, tupOf, fLen, cA0, f1L, gSum, gAll, gAny, fTupleOf, fListOf, fA1, fA2, cDm, gN, gsNil_eq, gsCons_eq, gT_eq, gSb_eq, isB, itemsOf, fISeq, fIRng, fIEnum, fIZip, fFor, fLc, wipeR, fCall, fCallK,
  List.map_cons, List.map_nil, List.length_cons, List.length_nil, List.replicate_succ, List.replicate_zero, List.cons_append, List.nil_append, List.append_nil, List.getElem?_cons_zero, List.getElem?_cons_succ, List.getElem?_nil, List.set_cons_zero, List.set_cons_succ, List.set_nil, List.take_succ_cons, List.take_zero, List.take_nil,
  Option.map_some, Option.map_none, Option.some.injEq, Option.get_some, exists_eq_left', exists_eq_left, exists_eq_right, true_and, and_true, if_true, if_false, reduceCtorEq, ite_true, ite_false, S.d.injEq, S.m.injEq, D.int.injEq, D.tup.injEq, D.lst.injEq, D.bl.injEq, D.str.injEq, List.cons.injEq, exists_and_left, exists_and_right,
  Nat.sub_zero, Nat.reduceSub, Nat.reduceAdd, Nat.zero_add, Nat.add_zero, Bool.not_true, Bool.not_false, Bool.false_eq_true, decide_eq_true_eq, Nat.reduceLT, Nat.reduceLeDiff, Nat.le_refl, List.take_length, Int.reduceLT, Int.reduceToNat, Nat.lt_irrefl, gt_iff_lt, Nat.not_lt_zero, Int.cast_ofNat_Int, decide_true, decide_false, and_assoc])


theorem bls_some : ∀ ns : List Bool, blsOf (ns.map D.bl) = some ns
  | [] => rfl
  | n :: r => by simp only [List.map_cons, blsOf, bls_some r, Option.map_some]
theorem not_any_max (ps : List Rat) (p : Rat) : (!(ps.map fun x => decide (p < x)).any id) = isMax ps p := by
  unfold isMax
  induction ps with
  | nil => rfl
  | cons x ps ih =>
    simp only [List.map_cons, List.any_cons, List.all_cons, id, Bool.not_or, ih]
    congr 1
    by_cases c : p < x
    · rw [decide_eq_true c, decide_eq_false (Rat.not_le.mpr c)]; rfl
    · rw [decide_eq_false c, decide_eq_true (Rat.not_lt.mp c)]; rfl
theorem get_frs {ps : List Rat} {a : Nat} (h : a < ps.length) : (ps.map frD)[a]? = some (frD (ps.getD a 0)) := by
  rw [List.getElem?_map, List.getElem?_eq_getElem h, List.getD_eq_getElem?_getD, List.getElem?_eq_getElem h]
  rfl
theorem loop_inv {α : Type} {g : SG} {body : SS} {ok : Mu → Prop} {k : K4} (enc : α → D) (I : Nat → Rho → Mu → Prop) : ∀ (items : List α) (n : Nat) (ρ : Rho) (μ : Mu),
    (∀ i a ρ μ, items[i]? = some a → I (n + i) ρ μ → ok μ ∧ ∀ k' : K4, k'.rt = k.rt → (∀ ρ' μ', I (n + i + 1) ρ' μ' → k'.nx ρ' μ') → g (.d (enc a)) ρ μ fun ρ1 μ1 => body ρ1 μ1 k') →
    (∀ ρ μ, I (n + items.length) ρ μ → ok μ ∧ k.nx ρ μ) → I n ρ μ → loopS g body ok (items.map enc) ρ μ k
  | [], n, ρ, μ, _, h2, h => h2 ρ μ h
  | a :: r, n, ρ, μ, h1, h2, h => by
    have q := h1 0 a ρ μ rfl h
    refine ⟨q.1, q.2 _ rfl fun ρ' μ' h' => ?_⟩
    refine loop_inv enc I r (n + 1) ρ' μ' (fun i b ρ μ hb hi => ?_) (fun ρ μ hi => h2 ρ μ ?_) h'
    · have e : n + 1 + i = n + (i + 1) := by omega
      rw [e] at hi ⊢
      exact h1 (i + 1) b ρ μ hb hi
    · have e : n + (a :: r).length = n + 1 + r.length := by rw [List.length_cons]; omega
      rw [e]
      exact hi
theorem cut_map {α : Type} (f : α → D) (l : List α) (lo hi : Option Int) : ∃ l' : List α, cutD (l.map f) lo hi = l'.map f := by
  unfold cutD
  rw [← List.map_drop, ← List.map_take]
  exact ⟨_, rfl⟩
theorem head_first {v : Rat} {f : Nat → Rat} : ∀ {as : List Nat} {i : Nat}, i < as.length → f (as.getD i 0) = v → (∀ j < i, f (as.getD j 0) ≠ v) → (as.filter fun b => decide (f b = v)).headD 0 = as.getD i 0
  | [], i, h, _, _ => by simp at h
  | a :: as, 0, _, h, _ => by
    have h' : f a = v := h
    rw [List.filter_cons, decide_eq_true h', if_pos rfl]
    rfl
  | a :: as, i + 1, hl, h, hj => by
    have h0 : f a ≠ v := hj 0 (by omega)
    rw [List.filter_cons, decide_eq_false h0, if_neg (by decide)]
    exact head_first (by simpa using hl) h fun j hj' => hj (j + 1) (by omega)
theorem value_max {wd : List (List Rat) × List (List Rat)} {ch : List Rat} (hb : bestA wd ch ≠ []) : valueR wd ch ∈ bestW wd ch ∧ ∀ p ∈ bestW wd ch, isMax (bestW wd ch) p = decide (p = valueR wd ch) := by
  have hn : bestW wd ch ≠ [] := by unfold bestW; simpa using hb
  unfold valueR
  cases e : bestW wd ch with
  | nil => exact absurd e hn
  | cons x xs => exact ⟨maxR_mem x xs, fun p hp => isMax_max hp⟩
theorem range_get {n i a : Nat} (h : (List.range n)[i]? = some a) : a = i ∧ i < n := by
  have h2 := List.getElem?_eq_some_iff.mp h
  obtain ⟨h3, h4⟩ := h2
  rw [List.getElem_range] at h4
  rw [List.length_range] at h3
  exact ⟨h4.symm, h3⟩
theorem get_ints {as : List Nat} {a : Nat} (h : a < as.length) : (as.map fun (i : Nat) => D.int (i : Int))[a]? = some (D.int (as.getD a 0 : Nat)) := by
  rw [List.getElem?_map, List.getElem?_eq_getElem h, List.getD_eq_getElem?_getD, List.getElem?_eq_getElem h]
  rfl
theorem getR_mem {ps : List Rat} {a : Nat} (h : a < ps.length) : ps.getD a 0 ∈ ps := by
  rw [List.getD_eq_getElem?_getD, List.getElem?_eq_getElem h]
  exact List.getElem_mem h

def T__law_well : TF := fun ss μ P => ∃ (ns : List Int) (lap : Nat), ss = [.d (.lst (ns.map D.int)), .d (.int (lap : Int))] ∧ (ns.length ≤ 1000) ∧ ∀ w', IsW w' → P (.lst w') μ
theorem mon__law_well : MonF T__law_well := fun ss μ P P' k ⟨a, b, e, h, q⟩ => ⟨a, b, e, h, fun r h1 => k _ _ (q r h1)⟩
theorem ok__law_well (t : Top K mg "_law_well" s__law_well ["_law_script", "_law_lap"]) (m_abs : mg "abs" = none) (m_int : mg "int" = none) (m_len : mg "len" = none) :
    DefOk P w K mg base "_law_well" 1 2 T__law_well := by
  have nd := (sc__law_well).nd
  refine ok_defD (k := 0) t sc__law_well mon__law_well (fun f cdv A outer s H E hr =>
    (pds_cons (pds_set (pd_op add_ok mon_gF snd_add pd_int (pd_op op_mul mon_gF snd_I pd_int (pd_var (pv 1)))) (fun _ h => ps_set (i := 2) nd rfl (by first | exact Or.inl rfl | exact Or.inr rfl) h))
      (pds_cons (pds_for PassesOwn.never rfl (pdi_seq (pd_slice (pd_var (pv 0)) pdo_none (pdo_some pd_int))) (pdg_name (pg_name (i := 3) nd rfl (by first | exact Or.inl rfl | exact Or.inr rfl))) (pds_one (pds_set (pd_op op_mod mon_gF snd_I (pd_Ty call_int1 snd_int1 mon_gA (by rfl) m_int bt_int (pda_cons (pd_op add_ok mon_gF snd_add (pd_op add_ok mon_gF snd_add (pd_op op_mul mon_gF snd_I (pd_var (pv 2)) pd_int) (pd_op op_mul mon_gF snd_I (pd_op op_mod mon_gF snd_I (pd_Ty call_int1 snd_int1 mon_gA (by rfl) m_int bt_int (pda_cons (pd_var (pv 3)) pda_nil)) pd_int) pd_int)) pd_int) pda_nil)) pd_int) (fun _ h => ps_set (i := 2) nd rfl (by first | exact Or.inl rfl | exact Or.inr rfl) h))))
      (pds_cons (pds_set (pd_if (ptd_cmp op_lt mon_gF snd_B0 (nomark _) (pd_var (pv 1)) (pd_B call_len_seq snd_len mon_gA (by rfl) m_len bt_len (pda_cons (pd_var (pv 0)) pda_nil))) (pd_Ty call_int1 snd_int1 mon_gA (by rfl) m_int bt_int (pda_cons (pd_ix ix_ok mon_gF snd_ix (fun _ _ => rfl) (pd_var (pv 0)) (pd_var (pv 1))) pda_nil)) pd_int) (fun _ h => ps_set (i := 4) nd rfl (by first | exact Or.inl rfl | exact Or.inr rfl) h))
      (pds_cons (pds_set (pd_op op_mod mon_gF snd_I (pd_Ty call_int1 snd_int1 mon_gA (by rfl) m_int bt_int (pda_cons (pd_op add_ok mon_gF snd_add (pd_op add_ok mon_gF snd_add (pd_op op_mul mon_gF snd_I (pd_var (pv 2)) pd_int) (pd_op op_mul mon_gF snd_I (pd_op op_mod mon_gF snd_I (pd_Ty call_int1 snd_int1 mon_gA (by rfl) m_int bt_int (pda_cons (pd_var (pv 4)) pda_nil)) pd_int) pd_int)) pd_int) pda_nil)) pd_int) (fun _ h => ps_set (i := 2) nd rfl (by first | exact Or.inl rfl | exact Or.inr rfl) h))
      (pds_one (pd_ret (pd_lst (pda_cons (pd_if (ptd_w (pdw_or (ptd_cmp op_lt mon_gF snd_B0 (nomark _) (pd_var (pv 4)) pd_int) (pdw_or1 (ptd_cmp op_ge mon_gF snd_B0 (nomark _) (pd_var (pv 4)) (pd_op op_pow mon_gF snd_I pd_int pd_int))))) (pd_B call_abs snd_abs mon_gA (by rfl) m_abs bt_abs (pda_cons (pd_var (pv 4)) pda_nil)) pd_int) (pda_cons (pd_var (pv 2)) (pda_cons pd_int pda_nil))))))))))) ?_
  intro ss μ Q hl h
  obtain ⟨ns, lap, rfl, hn, q⟩ := h
  have p1 : (0 : Int) < 2147483477 := by decide
  have cm : ∀ x c : Int, 0 ≤ c → c < 2 ^ 30 → CMul x c := fun x c h1 h2 => .inr ⟨by omega, by omega⟩
  have c1 : CMul 6841 (lap : Int) := .inl ⟨by decide, by decide⟩
  walk_at "dv"
  refine ⟨c1, ?_⟩
  obtain ⟨is, e⟩ := cut_map D.int ns none (some 12)
  rw [e]
  refine loop_inv D.int (fun _ ρ μ' => μ' = μ ∧ ∃ (a : Int) (s3 : Option S), ρ = [some (.d (.lst (ns.map D.int))), some (.d (.int (lap : Int))), some (.d (.int a)), s3, none]) is 0 _ _ ?_ ?_ ⟨rfl, _, _, rfl⟩
  · rintro i x _ _ _ ⟨rfl, a, s3, rfl⟩
    refine ⟨trivial, fun k' _ hk => ?_⟩
    walk_at "dv"
    refine ⟨cm _ _ (by decide) (by decide), cm _ _ (by decide) (by decide), ?_⟩
    exact hk _ _ ⟨rfl, _, _, rfl⟩
  · rintro _ _ ⟨rfl, a, s3, rfl⟩
    refine ⟨trivial, ?_⟩
    have cp : CPow 10 15 := ⟨by decide, by decide, by decide⟩
    have fin : ∀ (x : Int), IsW [.int (if x < 0 then -x else x), .int ((a * 61 + x % 2147483477 * 28657 + 11) % 2147483477), .int 0] := fun x => ⟨_, _, _, rfl, by split <;> omega⟩
    have fin2 : ∀ (x : Int), IsW [.int 0, .int ((a * 61 + x % 2147483477 * 28657 + 11) % 2147483477), .int 0] := fun x => ⟨_, _, _, rfl, by decide⟩
    walk_at "dv"
    have all : ∀ x : Int, CMul a 61 ∧ 0 < (2147483477 : Int) ∧ CMul (x % 2147483477) 28657 ∧ 0 < (2147483477 : Int) := fun x => ⟨cm _ _ (by decide) (by decide), p1, cm _ _ (by decide) (by decide), p1⟩
    by_cases c : (lap : Int) < ((ns.map D.int).length : Int)
    · rw [if_pos c]
      have c2 : lap < ns.length := by rw [List.length_map] at c; omega
      rw [if_neg (by omega), Int.toNat_natCast, List.getElem?_map, List.getElem?_eq_getElem c2]
      generalize ns[lap] = x at *
      walk_at "dv"
      refine ⟨cm _ _ (by decide) (by decide), cm _ _ (by decide) (by decide), ?_⟩
      by_cases d : x < 0
      · rw [if_pos d]; exact q _ (fin x)
      · rw [if_neg d]
        refine ⟨cp, ?_⟩
        by_cases d2 : 10 ^ 15 ≤ x
        · rw [if_pos d2]; exact q _ (fin x)
        · rw [if_neg d2]; exact q _ (fin2 x)
    · rw [if_neg c]
      refine ⟨cm _ _ (by decide) (by decide), cm _ _ (by decide) (by decide), cp, ?_⟩
      rw [if_neg (by decide)]
      exact q _ (fin2 0)
def T__law_best : TF := fun ss μ P => ∃ (t : List (List Rat)) (ch : List Rat), ss = [.d (tabD t), .d (rowD ch)] ∧ (t.length ≤ 100 ∧ (∀ r ∈ t, r.length = ch.length ∧ RB r) ∧ CB ch) ∧ P (.lst ((bestR (paid t ch)).map fun (a : Nat) => D.int (a : Int))) μ
theorem mon__law_best : MonF T__law_best := fun ss μ P P' k ⟨a, b, e, h, q⟩ => ⟨a, b, e, h, k _ _ q⟩
theorem ok__law_best (t : Top K mg "_law_best" s__law_best ["_law_pays_here", "_law_chance_here"]) (C__law_below : DefOk P w K mg base "_law_below" 1 2 T__law_below) (C__law_dot : DefOk P w K mg base "_law_dot" 3 2 T__law_dot) (m_any : mg "any" = none) (m_len : mg "len" = none) (m_range : mg "range" = none) :
    DefOk P w K mg base "_law_best" 4 2 T__law_best := by
  have nd := (sc__law_best).nd
  refine ok_defD (k := 3) t sc__law_best mon__law_best (fun f cdv A outer s H E hr =>
    (pds_cons (pds_set (pd_of_N (pdn_lc (own := [("_law_row_here", 3)]) rfl nd (pdi_seq (pd_var (pv 0))) (blkOk_by (N := N__law_best) (sc := defScope s__law_best) (by decide +kernel)) (fun _ _ _ _ _ => (pdg_name (pg_name (i := 3) nd rfl (by first | exact Or.inl rfl | exact Or.inr rfl)))) (fun _ _ _ _ _ => pdts_nil) (fun _ _ _ _ _ => (pd_callD C__law_dot (hr.mono (by decide)) (by rfl) (pda_cons (pd_var (pv 3)) (pda_cons (pd_var (pv 1)) pda_nil)))) (by decide))) (fun _ h => ps_set (i := 2) nd rfl (by first | exact Or.inl rfl | exact Or.inr rfl) h))
      (pds_one (pd_ret (pd_of_N (pdn_lc (own := [("_law_act", 4)]) rfl nd (pdi_range (by rfl) m_range (pda_cons (pd_B call_len_seq snd_len mon_gA (by rfl) m_len bt_len (pda_cons (pd_var (pv 0)) pda_nil)) pda_nil)) (blkOk_by (N := N__law_best) (sc := defScope s__law_best) (by decide +kernel)) (fun _ _ _ _ _ => (pdg_name (pg_name (i := 4) nd rfl (by first | exact Or.inl rfl | exact Or.inr rfl)))) (fun _ _ _ _ _ => (pdts_one (ptd_not (ptd_val (pd_B (cr_any rfl) snd_any mon_gA (by rfl) m_any bt_any (pda_cons (pd_of_N (pdn_lc (own := [("_law_x", 5)]) rfl nd (pdi_seq (pd_var (pv 2))) (blkOk_in (N := N__law_best) rfl (by decide +kernel)) (fun _ _ _ _ _ => (pdg_name (pg_name (i := 5) nd rfl (by first | exact Or.inl rfl | exact Or.inr rfl)))) (fun _ _ _ _ _ => pdts_nil) (fun _ _ _ _ _ => (pd_callD C__law_below (hr.mono (by decide)) (by rfl) (pda_cons (pd_ix ix_ok mon_gF snd_ix (fun _ _ => rfl) (pd_var (pv 2)) (pd_var (pv 4))) (pda_cons (pd_var (pv 5)) pda_nil)))) (by decide))) pda_nil)))))) (fun _ _ _ _ _ => (pd_var (pv 4))) (by decide))))))) ?_
  intro ss μ Q hl h
  obtain ⟨t, ch, rfl, ⟨h0, h1, h2⟩, q⟩ := h
  unfold tabD
  walk_at "dv"
  refine lc_pure rowD (fun r => some (frD (dotR r ch))) (fun _ => trivial) t [] μ _ (fun r hr μ' P P2 h => ?_) (by simp; omega) ?_
  · walk_at "dv"
    exact ⟨r, ch, rfl, ⟨(h1 r hr).2, h2, (h1 r hr).1⟩, h⟩
  · have e : t.filterMap (fun r => some (frD (dotR r ch))) = (paid t ch).map frD := by
      unfold paid
      rw [List.map_map, List.filterMap_eq_map']
      rfl
    rw [e, List.nil_append]
    have hs : ∀ r ∈ paid t ch, Sm r := fun r hr => by
      obtain ⟨x, hx, rfl⟩ := List.mem_map.mp hr
      exact dot_Sm (h1 x hx).2 h2
    have hlen : (paid t ch).length = t.length := by unfold paid; rw [List.length_map]
    rw [List.length_map]
    refine ⟨by omega, by omega, ?_⟩
    rw [rngD_nat, ← hlen]
    generalize paid t ch = ps at hs hlen q ⊢
    refine lc_pure (fun (i : Nat) => D.int (i : Int)) (fun a => if isMax ps (ps.getD a 0) then some (D.int (a : Int)) else none) (fun _ => trivial) (List.range ps.length) [] μ _ (fun a ha μ' P P2 h => ?_) (by simp; omega) ?_
    · have ha := List.mem_range.mp ha
      walk_at "dv"
      refine lc_pure frD (fun x => some (D.bl (decide (ps.getD a 0 < x)))) (fun _ => trivial) ps [] μ' _ (fun x hx μ' P P2 h => ?_) (by simp; omega) ?_
      · walk_at "dv"
        rw [if_neg (by omega), Int.toNat_natCast, get_frs ha]
        walk_at "dv"
        exact ⟨_, x, rfl, ⟨hs _ (getR_mem ha), hs x hx⟩, h⟩
      · have e : ps.filterMap (fun x => some (D.bl (decide (ps.getD a 0 < x)))) = (ps.map fun x => decide (ps.getD a 0 < x)).map D.bl := by
          rw [List.map_map, List.filterMap_eq_map']
          rfl
        rw [e, List.nil_append, bls_some]
        refine ⟨_, rfl, ?_⟩
        show if (!(ps.map fun x => decide (ps.getD a 0 < x)).any id) = true then _ else _
        rw [not_any_max]
        by_cases c : isMax ps (ps.getD a 0) = true
        · rw [if_pos c] at h ⊢; exact h
        · rw [if_neg c] at h ⊢; exact h
    · have e : (List.range ps.length).filterMap (fun a => if isMax ps (ps.getD a 0) then some (D.int (a : Int)) else none) = (bestR ps).map fun (a : Nat) => D.int (a : Int) := by
        unfold bestR
        generalize List.range ps.length = l
        induction l with
        | nil => rfl
        | cons b l ih =>
          rw [List.filterMap_cons, List.filter_cons]
          by_cases c : isMax ps (ps.getD b 0) = true
          · simp only [if_pos c, List.map_cons, ih]
          · simp only [if_neg c, ih]
      rw [e, List.nil_append, List.take_length]
      exact q
def T__law_choice : TF := fun ss μ P => ∃ wd n ch, ss = [.d (worldD wd), .d (rowD ch)] ∧ (WB wd n ∧ BB ch n) ∧ P (.tup [.int (choiceR wd ch : Int), frD (valueR wd ch)]) μ
theorem mon__law_choice : MonF T__law_choice := fun ss μ P P' k ⟨a, b, c, e, h, q⟩ => ⟨a, b, c, e, h, k _ _ q⟩
theorem ok__law_choice (t : Top K mg "_law_choice" s__law_choice ["_law_world_here", "_law_chance_here"]) (C__law_below : DefOk P w K mg base "_law_below" 1 2 T__law_below) (C__law_best : DefOk P w K mg base "_law_best" 4 2 T__law_best) (C__law_dot : DefOk P w K mg base "_law_dot" 3 2 T__law_dot) (m_any : mg "any" = none) (m_len : mg "len" = none) (m_range : mg "range" = none) :
    DefOk P w K mg base "_law_choice" 5 2 T__law_choice := by
  have nd := (sc__law_choice).nd
  refine ok_defD (k := 4) t sc__law_choice mon__law_choice (fun f cdv A outer s H E hr =>
    (pds_cons (pds_set (pd_callD C__law_best (hr.mono (by decide)) (by rfl) (pda_cons (pd_ix ix_ok mon_gF snd_ix (fun _ _ => rfl) (pd_var (pv 0)) pd_int) (pda_cons (pd_var (pv 1)) pda_nil))) (fun _ h => ps_set (i := 2) nd rfl (by first | exact Or.inl rfl | exact Or.inr rfl) h))
      (pds_cons (pds_set (pd_of_N (pdn_lc (own := [("_law_act", 5)]) rfl nd (pdi_seq (pd_var (pv 2))) (blkOk_by (N := N__law_choice) (sc := defScope s__law_choice) (by decide +kernel)) (fun _ _ _ _ _ => (pdg_name (pg_name (i := 5) nd rfl (by first | exact Or.inl rfl | exact Or.inr rfl)))) (fun _ _ _ _ _ => pdts_nil) (fun _ _ _ _ _ => (pd_callD C__law_dot (hr.mono (by decide)) (by rfl) (pda_cons (pd_ix ix_ok mon_gF snd_ix (fun _ _ => rfl) (pd_ix ix_ok mon_gF snd_ix (fun _ _ => rfl) (pd_var (pv 0)) pd_int) (pd_var (pv 5))) (pda_cons (pd_var (pv 1)) pda_nil)))) (by decide))) (fun _ h => ps_set (i := 3) nd rfl (by first | exact Or.inl rfl | exact Or.inr rfl) h))
      (pds_cons (pds_for PassesOwn.never rfl (pdi_range (by rfl) m_range (pda_cons (pd_B call_len_seq snd_len mon_gA (by rfl) m_len bt_len (pda_cons (pd_var (pv 2)) pda_nil)) pda_nil)) (pdg_name (pg_name (i := 4) nd rfl (by first | exact Or.inl rfl | exact Or.inr rfl))) (pds_one (pds_if (ptd_not (ptd_val (pd_B (cr_any rfl) snd_any mon_gA (by rfl) m_any bt_any (pda_cons (pd_of_N (pdn_lc (own := [("_law_x", 6)]) rfl nd (pdi_seq (pd_var (pv 3))) (blkOk_by (N := N__law_choice) (sc := defScope s__law_choice) (by decide +kernel)) (fun _ _ _ _ _ => (pdg_name (pg_name (i := 6) nd rfl (by first | exact Or.inl rfl | exact Or.inr rfl)))) (fun _ _ _ _ _ => pdts_nil) (fun _ _ _ _ _ => (pd_callD C__law_below (hr.mono (by decide)) (by rfl) (pda_cons (pd_ix ix_ok mon_gF snd_ix (fun _ _ => rfl) (pd_var (pv 3)) (pd_var (pv 4))) (pda_cons (pd_var (pv 6)) pda_nil)))) (by decide))) pda_nil)))) (pds_one (pd_ret (pd_tup (pda_cons (pd_ix ix_ok mon_gF snd_ix (fun _ _ => rfl) (pd_var (pv 2)) (pd_var (pv 4))) (pda_cons (pd_ix ix_ok mon_gF snd_ix (fun _ _ => rfl) (pd_var (pv 3)) (pd_var (pv 4))) pda_nil))))) pds_nil)))
      (pds_one (pd_ret (pd_tup (pda_cons pd_int (pda_cons (pd_tup (pda_cons pd_int (pda_cons pd_int pda_nil))) pda_nil))))))))) ?_
  intro ss μ Q hl h
  obtain ⟨wd, n, ch, rfl, ⟨h1, h2⟩, q⟩ := h
  obtain ⟨a, l, hb, hlt, hl5⟩ := best_of (ch := ch) h1
  have m5 := h1.m5
  have hw : worldD wd = .tup [tabD wd.1, tabD wd.2] := rfl
  rw [hw]
  walk_at "dv"
  refine ⟨wd.1, ch, rfl, ⟨by omega, fun r hr => ⟨by rw [(h1.r1 r hr).1, h2.len], (h1.r1 r hr).2⟩, h2.cb⟩, ?_⟩
  have eb : bestR (paid wd.1 ch) = bestA wd ch := rfl
  rw [eb]
  walk_at "dv"
  refine lc_pure (fun (b : Nat) => D.int (b : Int)) (fun b => some (frD (dotR (wd.2.getD b []) ch))) (fun _ => trivial) (bestA wd ch) [] μ _ (fun b hb μ' P P2 h => ?_) (by simp; omega) ?_
  · have h4 := hlt b hb
    have h5 := h1.r2 _ (getD_mem h4)
    unfold tabD
    walk_at "dv"
    rw [if_neg (by omega), Int.toNat_natCast, get_rows h4]
    walk_at "dv"
    exact ⟨_, ch, rfl, ⟨h5.2, h2.cb, by rw [h5.1, h2.len]⟩, h⟩
  have e : (bestA wd ch).filterMap (fun b => some (frD (dotR (wd.2.getD b []) ch))) = (bestW wd ch).map frD := by
    unfold bestW
    rw [List.map_map, List.filterMap_eq_map']
    rfl
  rw [e, List.nil_append]
  have hs : ∀ r ∈ bestW wd ch, Sm r := fun r hr => by
    obtain ⟨x, hx, rfl⟩ := List.mem_map.mp hr
    exact dot_Sm (h1.r2 _ (getD_mem (hlt x hx))).2 h2.cb
  have vm := value_max (wd := wd) (ch := ch) (by rw [hb]; simp)
  have hlw : (bestW wd ch).length = (bestA wd ch).length := by unfold bestW; rw [List.length_map]
  have hgw : ∀ i < (bestA wd ch).length, (bestW wd ch).getD i 0 = dotR (wd.2.getD ((bestA wd ch).getD i 0) []) ch := fun i hi => by
    have e2 : (bestA wd ch).getD i 0 = (bestA wd ch)[i] := by rw [List.getD_eq_getElem?_getD, List.getElem?_eq_getElem hi]; rfl
    unfold bestW
    rw [e2, List.getD_eq_getElem?_getD, List.getElem?_map, List.getElem?_eq_getElem hi]
    rfl
  rw [List.length_map]
  refine ⟨by omega, by omega, ?_⟩
  rw [rngD_nat]
  refine loop_inv (fun (i : Nat) => D.int (i : Int)) (fun i ρ μ' => μ = μ' ∧ (∃ s4 : Option S, ρ = [some (.d (.tup [tabD wd.1, tabD wd.2])), some (.d (rowD ch)), some (.d (.lst ((bestA wd ch).map fun (a : Nat) => D.int (a : Int)))), some (.d (.lst ((bestW wd ch).map frD))), s4, none, none]) ∧ ∀ j < i, dotR (wd.2.getD ((bestA wd ch).getD j 0) []) ch ≠ valueR wd ch) (List.range (bestA wd ch).length) 0 _ _ ?_ ?_ ⟨rfl, ⟨_, rfl⟩, fun j hj => by omega⟩
  · rintro i x _ _ hi ⟨rfl, ⟨s4, rfl⟩, hj⟩
    obtain ⟨e, hi⟩ := range_get hi
    subst e
    rw [Nat.zero_add] at hj
    refine ⟨trivial, fun k' hrt hk => ?_⟩
    walk_at "dv"
    refine lc_pure frD (fun z => some (D.bl (decide ((bestW wd ch).getD x 0 < z)))) (fun _ => trivial) (bestW wd ch) [] μ _ (fun z hz μ' P P2 h => ?_) (by simp; omega) ?_
    · walk_at "dv"
      rw [if_neg (by omega), Int.toNat_natCast, get_frs (by omega)]
      walk_at "dv"
      exact ⟨_, z, rfl, ⟨hs _ (getR_mem (by omega)), hs z hz⟩, h⟩
    · have e : (bestW wd ch).filterMap (fun z => some (D.bl (decide ((bestW wd ch).getD x 0 < z)))) = ((bestW wd ch).map fun z => decide ((bestW wd ch).getD x 0 < z)).map D.bl := by
        rw [List.map_map, List.filterMap_eq_map']
        rfl
      rw [e, List.nil_append, bls_some]
      refine ⟨_, rfl, ?_⟩
      show if (!((bestW wd ch).map fun z => decide ((bestW wd ch).getD x 0 < z)).any id) = true then _ else _
      rw [not_any_max, vm.2 _ (getR_mem (by omega)), hgw x hi]
      by_cases c : dotR (wd.2.getD ((bestA wd ch).getD x 0) []) ch = valueR wd ch
      · rw [if_pos (by rw [decide_eq_true c])]
        refine ⟨_, by rw [if_neg (by omega), Int.toNat_natCast, get_ints hi], _, by rw [if_neg (by omega), Int.toNat_natCast, get_frs (by omega)], ?_⟩
        rw [hrt]
        refine ⟨_, rfl, ?_⟩
        rw [hgw x hi, c, List.take_length]
        have e := head_first (f := fun b => dotR (wd.2.getD b []) ch) hi c hj
        unfold choiceR at q
        rw [e] at q
        exact q
      · rw [if_neg (by rw [decide_eq_false c]; decide)]
        refine hk _ _ ⟨rfl, ⟨_, rfl⟩, fun j hj' => ?_⟩
        rcases Nat.lt_succ_iff_lt_or_eq.mp (show j < x + 1 by omega) with h | rfl
        · exact hj j h
        · exact c
  · rintro _ _ ⟨rfl, _, hj⟩
    exfalso
    obtain ⟨i, hi, e⟩ := List.getElem_of_mem vm.1
    have hi2 : i < (bestA wd ch).length := by omega
    refine hj i (by rw [List.length_range]; omega) ?_
    rw [← hgw i hi2, List.getD_eq_getElem?_getD, List.getElem?_eq_getElem hi]
    exact e

/-- the table of a world, k turns on -/
def den3 : Nat → Nat
  | 0 => 132
  | 1 => 459
  | _ + 2 => 1440
def mag3 : Nat → Nat
  | 0 => 70
  | 1 => 81
  | _ + 2 => 92
structure RT (k : Nat) (rs : List Rat) : Prop where
  dpl : dp rs < 2 ^ den3 k
  mg : ∀ r ∈ rs, Mg (2 ^ mag3 k) r
structure TB (k n : Nat) (t : List (List Rat)) : Prop where
  n4 : n ≤ 4
  m1 : 1 ≤ t.length
  m5 : t.length ≤ 5
  row : ∀ r ∈ t, r.length = n ∧ RT k r
theorem den3_mono {k l : Nat} (h : k ≤ l) : den3 k ≤ den3 l := by
  match k, l with
  | 0, 0 => decide
  | 0, 1 => decide
  | 0, (l + 2) => exact (by decide : (132 : Nat) ≤ 1440)
  | 1, 0 => omega
  | 1, 1 => decide
  | 1, (l + 2) => exact (by decide : (459 : Nat) ≤ 1440)
  | (k + 2), 0 => omega
  | (k + 2), 1 => omega
  | (k + 2), (l + 2) => exact Nat.le_refl _
theorem mag3_mono {k l : Nat} (h : k ≤ l) : mag3 k ≤ mag3 l := by
  match k, l with
  | 0, 0 => decide
  | 0, 1 => decide
  | 0, (l + 2) => exact (by decide : (70 : Nat) ≤ 92)
  | 1, 0 => omega
  | 1, 1 => decide
  | 1, (l + 2) => exact (by decide : (81 : Nat) ≤ 92)
  | (k + 2), 0 => omega
  | (k + 2), 1 => omega
  | (k + 2), (l + 2) => exact Nat.le_refl _
theorem RT.up {k l : Nat} {rs : List Rat} (h : RT k rs) (hkl : k ≤ l) : RT l rs :=
  ⟨Nat.lt_of_lt_of_le h.dpl (Nat.pow_le_pow_right (by decide) (den3_mono hkl)), fun r hr => mg_mono (h.mg r hr) (Nat.pow_le_pow_right (by decide) (mag3_mono hkl))⟩
theorem TB.up {k l n : Nat} {t : List (List Rat)} (h : TB k n t) (hkl : k ≤ l) : TB l n t := ⟨h.n4, h.m1, h.m5, fun r hr => ⟨(h.row r hr).1, (h.row r hr).2.up hkl⟩⟩
theorem den3_le (k : Nat) : den3 k ≤ 1440 := by
  match k with
  | 0 => decide
  | 1 => decide
  | (k + 2) => exact Nat.le_refl _
theorem mag3_le (k : Nat) : mag3 k ≤ 92 := by
  match k with
  | 0 => decide
  | 1 => decide
  | (k + 2) => exact Nat.le_refl _
theorem mg_lt {A B : Nat} {r : Rat} (h : Mg A r) (hab : A < B) : r.num.natAbs < B * r.den := Nat.lt_of_le_of_lt h (Nat.mul_lt_mul_of_pos_right hab r.den_pos)
theorem RT.rb {k n : Nat} {rs : List Rat} (h : RT k rs) (hl : rs.length = n) (h4 : n ≤ 4) : RB rs :=
  ⟨by omega, Nat.lt_of_lt_of_le h.dpl (Nat.pow_le_pow_right (by decide) (Nat.le_trans (den3_le k) (by decide))), fun r hr => mg_lt (h.mg r hr) (Nat.pow_lt_pow_right (by decide) (Nat.lt_of_le_of_lt (mag3_le k) (by decide)))⟩
theorem den_dp {rs : List Rat} {r : Rat} (h : r ∈ rs) : r.den ≤ dp rs := by
  induction rs with
  | nil => cases h
  | cons x l ih =>
    rw [dp_cons]
    rcases List.mem_cons.mp h with rfl | h
    · exact Nat.le_mul_of_pos_right _ (dp_pos l)
    · exact Nat.le_trans (ih h) (Nat.le_mul_of_pos_left _ x.den_pos)
theorem over_den {x y : Rat} (h : 0 < y.num) : (overR x y).den ≤ x.den * y.num.natAbs := by
  unfold overR
  have := divInt_den_le (a := x.num * y.den) (Int.mul_pos (den_pos x) h)
  rw [Int.natAbs_mul, Int.natAbs_natCast] at this
  exact this
theorem mg_over {A B : Nat} {x y : Rat} (hx : Mg A x) (hy : y.den ≤ B) (h : 0 < y.num) : Mg (A * B) (overR x y) := by
  unfold overR
  refine mg_div (Int.mul_pos (den_pos x) h) ?_
  rw [Int.natAbs_mul, Int.natAbs_mul, Int.natAbs_natCast, Int.natAbs_natCast]
  have h1 := Nat.mul_le_mul hx hy
  refine Nat.le_trans h1 ?_
  rw [Nat.mul_assoc, Nat.mul_assoc, Nat.mul_comm x.den B, ← Nat.mul_assoc B]
  refine Nat.mul_le_mul_left _ ?_
  exact Nat.le_mul_of_pos_right _ (by omega)


theorem cut_take (xs : List D) {s : Nat} (h : s ≤ xs.length) : cutD xs none (some (s : Int)) = xs.take s := by
  unfold cutD HT.sIx
  have : ¬ (s : Int) < 0 := by omega
  simp [this]
theorem cut_drop (xs : List D) {s : Nat} (h : s ≤ xs.length) : cutD xs (some (s : Int)) none = xs.drop s := by
  unfold cutD HT.sIx
  have : ¬ (s : Int) < 0 := by omega
  simp only [this, if_false, Int.toNat_natCast, Nat.min_eq_left h]
  exact List.take_of_length_le (by rw [List.length_drop]; exact Nat.le_refl _)
theorem dp_app (xs ys : List Rat) : dp (xs ++ ys) = dp xs * dp ys := by
  induction xs with
  | nil => show dp ys = 1 * dp ys; rw [Nat.one_mul]
  | cons x xs ih => rw [List.cons_append, dp_cons, dp_cons, ih, Nat.mul_assoc]
theorem mg_dotA (A : Nat) : ∀ (xs ys : List Rat), (∀ r ∈ xs, Mg A r) → (∀ r ∈ ys, Mg 1 r) → Mg (xs.length * A) (dotR xs ys)
  | [], ys, _, _ => by simp only [dotR]; unfold Mg; simp
  | x :: xs, [], _, _ => by simp only [dotR]; unfold Mg; simp
  | x :: xs, y :: ys, h1, h2 => by
    simp only [dotR, List.length_cons]
    have a := mg_mul (h1 x (by simp)) (h2 y (by simp))
    have b := mg_dotA A xs ys (fun r hr => h1 r (List.mem_cons_of_mem _ hr)) (fun r hr => h2 r (List.mem_cons_of_mem _ hr))
    rw [Nat.mul_one] at a
    have c := mg_add a b
    rw [Nat.add_mul, Nat.one_mul, Nat.add_comm]
    exact c
/-- one number of a row put in another's place -/
def putR (s : Nat) (v : Rat) (r : List Rat) : List Rat := r.take s ++ ([v] ++ r.drop (s + 1))
theorem put_len {s : Nat} {v : Rat} {r : List Rat} (h : s < r.length) : (putR s v r).length = r.length := by
  unfold putR
  simp
  omega
theorem dp_put {s : Nat} {r : List Rat} (h : s < r.length) (z : Rat) : dp (putR s (r.getD s 0 + z) r) ≤ dp r * z.den := by
  have e : r.getD s 0 = r[s] := by rw [List.getD_eq_getElem?_getD, List.getElem?_eq_getElem h]; rfl
  have e2 : dp r = dp (r.take s) * (r[s].den * dp (r.drop (s + 1))) := by
    rw [← dp_cons, ← dp_app, ← List.drop_eq_getElem_cons h, List.take_append_drop]
  unfold putR
  rw [dp_app, List.cons_append, dp_cons, List.nil_append, e, e2, Nat.mul_assoc]
  refine Nat.mul_le_mul_left _ ?_
  rw [Nat.mul_right_comm]
  exact Nat.mul_le_mul_right _ (den_add_le _ _)
theorem pos_ch {ch : List Rat} {n : Nat} (h : BB2 ch n) : ((List.range ch.length).filter fun i => decide (0 < (ch.getD i 0).num)) ≠ [] := by
  intro e
  have z : ∀ l : List Rat, (∀ r ∈ l, r.num = 0) → sumR l = 0 := by
    intro l
    induction l with
    | nil => intro _; rfl
    | cons x l ih =>
      intro hl
      have h1 : x = 0 := Rat.num_eq_zero.mp (hl x (by simp))
      have h2 := ih fun r hr => hl r (List.mem_cons_of_mem _ hr)
      simp only [sumR, h1, h2, Rat.add_zero]
  have h0 := z ch fun r hr => by
    obtain ⟨i, hi, e2⟩ := List.getElem_of_mem hr
    have hn := (h.nn r hr).1
    by_cases c : 0 < r.num
    · exfalso
      have : i ∈ ((List.range ch.length).filter fun i => decide (0 < (ch.getD i 0).num)) := by
        rw [List.mem_filter, List.mem_range]
        refine ⟨hi, ?_⟩
        rw [List.getD_eq_getElem?_getD, List.getElem?_eq_getElem hi, Option.getD_some, e2]
        exact decide_eq_true c
      rw [e] at this
      cases this
    · omega
  rw [h.sum] at h0
  exact absurd h0 (by decide)
theorem filt_map {p : Nat → Prop} [DecidablePred p] : ∀ l : List Nat, l.filterMap (fun i => if p i then some (D.int (i : Int)) else none) = (l.filter fun i => decide (p i)).map fun (i : Nat) => D.int (i : Int)
  | [] => rfl
  | b :: l => by
    rw [List.filterMap_cons, List.filter_cons]
    by_cases c : p b
    · simp only [if_pos c, decide_eq_true c, if_true, List.map_cons, filt_map l]
    · simp only [if_neg c, decide_eq_false c, Bool.false_eq_true, if_false, filt_map l]
theorem den3_step : ∀ {k : Nat}, k ≤ 1 → den3 k + (den3 k + 28 + (den3 k + 28) + 7) ≤ den3 (k + 1)
  | 0, _ => by decide
  | 1, _ => by decide
theorem mag3_step : ∀ {k : Nat}, k ≤ 1 → mag3 (k + 1) = mag3 k + 11
  | 0, _ => by decide
  | 1, _ => by decide
theorem den3_1 : ∀ {k : Nat}, k ≤ 1 → den3 k ≤ 459
  | 0, _ => by decide
  | 1, _ => by decide
theorem mag3_1 : ∀ {k : Nat}, k ≤ 1 → mag3 k ≤ 81
  | 0, _ => by decide
  | 1, _ => by decide
theorem RT.sms {k n : Nat} {ra rb ch : List Rat} {s : Nat} (hk : k ≤ 1) (ha : RT k ra) (hb : RT k rb) (la : ra.length = n) (lb : rb.length = n) (hc : BB2 ch n) (hs : s < n) (h0 : 0 < (ch.getD s 0).num) :
    Sm (dotR ra ch - dotR rb ch) ∧ Sm (ch.getD s 0) ∧ Sm (overR (dotR ra ch - dotR rb ch) (ch.getD s 0)) := by
  have hm := hc.nn _ (getR_mem (ps := ch) (a := s) (by rw [hc.len]; exact hs))
  have hn4 := hc.n4
  have hd1 : (dotR ra ch).den < 2 ^ (den3 k + 28) := Nat.lt_of_le_of_lt (dot_den _ _) (pow_mul_lt ha.dpl hc.dp28)
  have hd2 : (dotR rb ch).den < 2 ^ (den3 k + 28) := Nat.lt_of_le_of_lt (dot_den _ _) (pow_mul_lt hb.dpl hc.dp28)
  have hd : (dotR ra ch - dotR rb ch).den < 2 ^ (den3 k + 28 + (den3 k + 28)) := Nat.lt_of_le_of_lt (den_sub_le _ _) (pow_mul_lt hd1 hd2)
  have h7 : (ch.getD s 0).num.natAbs < 2 ^ 7 := by
    have : (2 : Nat) ^ 7 = 128 := by decide
    omega
  have h7d : (ch.getD s 0).den < 2 ^ 7 := by
    have : (2 : Nat) ^ 7 = 128 := by decide
    omega
  have ho : (overR (dotR ra ch - dotR rb ch) (ch.getD s 0)).den < 2 ^ (den3 k + 28 + (den3 k + 28) + 7) := Nat.lt_of_le_of_lt (over_den h0) (pow_mul_lt hd h7)
  have cb : ∀ r ∈ ch, Mg 1 r := fun r hr => by
    have := hc.nn r hr
    unfold Mg
    omega
  have g1 := mg_dotA (2 ^ mag3 k) ra ch ha.mg cb
  have g2 := mg_dotA (2 ^ mag3 k) rb ch hb.mg cb
  rw [la] at g1
  rw [lb] at g2
  have g3 := mg_over (mg_sub g1 g2) hm.2.2 h0
  have e11 : (2 : Nat) ^ (mag3 k + 11) = 2 ^ mag3 k * 2048 := by rw [Nat.pow_add]
  have p : n * 2 ^ mag3 k ≤ 4 * 2 ^ mag3 k := Nat.mul_le_mul_right _ hn4
  have k1 := den3_1 hk
  have k2 := mag3_1 hk
  exact ⟨sm_of (b := mag3 k + 11) hd (mg_sub g1 g2) (by rw [e11]; omega) (by omega), ⟨Nat.lt_of_lt_of_le h7d (Nat.pow_le_pow_right (by decide) (by decide)), Nat.lt_of_lt_of_le h7 (Nat.pow_le_pow_right (by decide) (by decide))⟩,
    sm_of (b := mag3 k + 11) ho g3 (by rw [e11]; omega) (by omega)⟩
theorem RT.put {k n : Nat} {ra rb ch : List Rat} {s : Nat} (hk : k ≤ 1) (ha : RT k ra) (hb : RT k rb) (la : ra.length = n) (lb : rb.length = n) (hc : BB2 ch n) (hs : s < n) (h0 : 0 < (ch.getD s 0).num) :
    RT (k + 1) (putR s (rb.getD s 0 + overR (dotR ra ch - dotR rb ch) (ch.getD s 0)) rb) := by
  have hm := hc.nn _ (getR_mem (ps := ch) (a := s) (by rw [hc.len]; exact hs))
  have hn4 := hc.n4
  have hd1 : (dotR ra ch).den < 2 ^ (den3 k + 28) := Nat.lt_of_le_of_lt (dot_den _ _) (pow_mul_lt ha.dpl hc.dp28)
  have hd2 : (dotR rb ch).den < 2 ^ (den3 k + 28) := Nat.lt_of_le_of_lt (dot_den _ _) (pow_mul_lt hb.dpl hc.dp28)
  have hd : (dotR ra ch - dotR rb ch).den < 2 ^ (den3 k + 28 + (den3 k + 28)) := Nat.lt_of_le_of_lt (den_sub_le _ _) (pow_mul_lt hd1 hd2)
  have h7 : (ch.getD s 0).num.natAbs < 2 ^ 7 := by
    have : (2 : Nat) ^ 7 = 128 := by decide
    omega
  have ho : (overR (dotR ra ch - dotR rb ch) (ch.getD s 0)).den < 2 ^ (den3 k + 28 + (den3 k + 28) + 7) := Nat.lt_of_le_of_lt (over_den h0) (pow_mul_lt hd h7)
  have cb : ∀ r ∈ ch, Mg 1 r := fun r hr => by
    have := hc.nn r hr
    unfold Mg
    omega
  have g1 := mg_dotA (2 ^ mag3 k) ra ch ha.mg cb
  have g2 := mg_dotA (2 ^ mag3 k) rb ch hb.mg cb
  rw [la] at g1
  rw [lb] at g2
  have g3 := mg_over (mg_sub g1 g2) hm.2.2 h0
  have g4 := mg_add (hb.mg _ (getR_mem (ps := rb) (a := s) (by omega))) g3
  constructor
  · have := Nat.lt_of_le_of_lt (dp_put (s := s) (r := rb) (by omega) (overR (dotR ra ch - dotR rb ch) (ch.getD s 0))) (pow_mul_lt hb.dpl ho)
    exact Nat.lt_of_lt_of_le this (Nat.pow_le_pow_right (by decide) (den3_step hk))
  · intro r hr
    unfold putR at hr
    have up : 2 ^ mag3 k ≤ 2 ^ mag3 (k + 1) := Nat.pow_le_pow_right (by decide) (mag3_mono (by omega))
    rcases List.mem_append.mp hr with hr | hr
    · exact mg_mono (hb.mg r (List.mem_of_mem_take hr)) up
    · rcases List.mem_append.mp hr with hr | hr
      · rw [List.mem_singleton] at hr
        rw [hr]
        refine mg_mono g4 ?_
        have e : 2 ^ mag3 (k + 1) = 2 ^ mag3 k * 2 ^ 11 := by
          rw [← Nat.pow_add, mag3_step hk]
        rw [e]
        have p : n * 2 ^ mag3 k ≤ 4 * 2 ^ mag3 k := Nat.mul_le_mul_right _ hn4
        have e11 : (2 : Nat) ^ 11 = 2048 := by decide
        rw [e11]
        omega
      · exact mg_mono (hb.mg r (List.mem_of_mem_drop hr)) up

def T__law_tied : TF := fun ss μ P => ∃ w ms k n t ch, ss = [.m 0, .d (tabD t), .d (rowD ch)] ∧ μ = w :: ms ∧ (IsW w ∧ TB k n t ∧ k ≤ 1 ∧ BB2 ch n) ∧ ∀ t' w', IsW w' → (TB (k + 1) n t' ∧ t'.length = t.length) → P (tabD t') (w' :: ms)
theorem mon__law_tied : MonF T__law_tied := fun ss μ P P' k ⟨a, b, c, d, e, f, h, e2, h2, q⟩ => ⟨a, b, c, d, e, f, h, e2, h2, fun t w h3 h4 => k _ _ (q t w h3 h4)⟩
theorem ok__law_tied (t : Top K mg "_law_tied" s__law_tied ["_law_well_here", "_law_pays_here", "_law_chance_here"]) (C__law_dot : DefOk P w K mg base "_law_dot" 3 2 T__law_dot) (C__law_draw : DefOk P w K mg base "_law_draw" 1 2 T__law_draw) (C__law_minus : DefOk P w K mg base "_law_minus" 2 2 T__law_minus) (C__law_one : DefOk P w K mg base "_law_one" 2 2 T__law_one) (C__law_over : DefOk P w K mg base "_law_over" 2 2 T__law_over) (C__law_plus : DefOk P w K mg base "_law_plus" 2 2 T__law_plus) (m_len : mg "len" = none) (m_range : mg "range" = none) :
    DefOk P w K mg base "_law_tied" 4 3 T__law_tied := by
  have nd := (sc__law_tied).nd
  refine ok_defD (k := 3) t sc__law_tied mon__law_tied (fun f cdv A outer s H E hr =>
    (pds_cons (pds_par (pda_cons (pd_callD C__law_draw (hr.mono (by decide)) (by rfl) (pda_cons (pd_var (pv 0)) (pda_cons (pd_B call_len_seq snd_len mon_gA (by rfl) m_len bt_len (pda_cons (pd_var (pv 1)) pda_nil)) pda_nil))) (pda_cons (pd_callD C__law_draw (hr.mono (by decide)) (by rfl) (pda_cons (pd_var (pv 0)) (pda_cons (pd_B call_len_seq snd_len mon_gA (by rfl) m_len bt_len (pda_cons (pd_var (pv 1)) pda_nil)) pda_nil))) pda_nil)) (fun _ h => ps_par (i := 3) (j := 4) rfl nd rfl rfl (by decide) rfl rfl h rfl))
      (pds_cons (pds_if (ptd_cmp (eq_ok hr.units) mon_gF snd_eq (nomark _) (pd_var (pv 3)) (pd_var (pv 4))) (pds_one (pd_ret (pd_var (pv 1)))) pds_nil)
      (pds_cons (pds_set (pd_callD C__law_one (hr.mono (by decide)) (by rfl) (pda_cons (pd_var (pv 0)) (pda_cons (pd_of_N (pdn_lc (own := [("_law_k", 8)]) rfl nd (pdi_range (by rfl) m_range (pda_cons (pd_B call_len_seq snd_len mon_gA (by rfl) m_len bt_len (pda_cons (pd_var (pv 2)) pda_nil)) pda_nil)) (blkOk_by (N := N__law_tied) (sc := defScope s__law_tied) (by decide +kernel)) (fun _ _ _ _ _ => (pdg_name (pg_name (i := 8) nd rfl (by first | exact Or.inl rfl | exact Or.inr rfl)))) (fun _ _ _ _ _ => (pdts_one (ptd_cmp op_gt mon_gF snd_B0 (nomark _) (pd_ix ix_ok mon_gF snd_ix (fun _ _ => rfl) (pd_ix ix_ok mon_gF snd_ix (fun _ _ => rfl) (pd_var (pv 2)) (pd_var (pv 8))) pd_int) pd_int))) (fun _ _ _ _ _ => (pd_var (pv 8))) (by decide))) pda_nil))) (fun _ h => ps_set (i := 5) nd rfl (by first | exact Or.inl rfl | exact Or.inr rfl) h))
      (pds_cons (pds_set (pd_callD C__law_over (hr.mono (by decide)) (by rfl) (pda_cons (pd_callD C__law_minus (hr.mono (by decide)) (by rfl) (pda_cons (pd_callD C__law_dot (hr.mono (by decide)) (by rfl) (pda_cons (pd_ix ix_ok mon_gF snd_ix (fun _ _ => rfl) (pd_var (pv 1)) (pd_var (pv 3))) (pda_cons (pd_var (pv 2)) pda_nil))) (pda_cons (pd_callD C__law_dot (hr.mono (by decide)) (by rfl) (pda_cons (pd_ix ix_ok mon_gF snd_ix (fun _ _ => rfl) (pd_var (pv 1)) (pd_var (pv 4))) (pda_cons (pd_var (pv 2)) pda_nil))) pda_nil))) (pda_cons (pd_ix ix_ok mon_gF snd_ix (fun _ _ => rfl) (pd_var (pv 2)) (pd_var (pv 5))) pda_nil))) (fun _ h => ps_set (i := 6) nd rfl (by first | exact Or.inl rfl | exact Or.inr rfl) h))
      (pds_cons (pds_set (pd_op add_ok mon_gF snd_add (pd_op add_ok mon_gF snd_add (pd_slice (pd_ix ix_ok mon_gF snd_ix (fun _ _ => rfl) (pd_var (pv 1)) (pd_var (pv 4))) pdo_none (pdo_some (pd_var (pv 5)))) (pd_tup (pda_cons (pd_callD C__law_plus (hr.mono (by decide)) (by rfl) (pda_cons (pd_ix ix_ok mon_gF snd_ix (fun _ _ => rfl) (pd_ix ix_ok mon_gF snd_ix (fun _ _ => rfl) (pd_var (pv 1)) (pd_var (pv 4))) (pd_var (pv 5))) (pda_cons (pd_var (pv 6)) pda_nil))) pda_nil))) (pd_slice (pd_ix ix_ok mon_gF snd_ix (fun _ _ => rfl) (pd_var (pv 1)) (pd_var (pv 4))) (pdo_some (pd_op add_ok mon_gF snd_add (pd_var (pv 5)) pd_int)) pdo_none)) (fun _ h => ps_set (i := 7) nd rfl (by first | exact Or.inl rfl | exact Or.inr rfl) h))
      (pds_one (pd_ret (pd_op add_ok mon_gF snd_add (pd_op add_ok mon_gF snd_add (pd_slice (pd_var (pv 1)) pdo_none (pdo_some (pd_var (pv 4)))) (pd_tup (pda_cons (pd_var (pv 7)) pda_nil))) (pd_slice (pd_var (pv 1)) (pdo_some (pd_op add_ok mon_gF snd_add (pd_var (pv 4)) pd_int)) pdo_none)))))))))) ?_
  intro ss μ Q hl h
  obtain ⟨w0, ms, k, n, t, ch, rfl, rfl, ⟨hw, ht, hk, hb⟩, q⟩ := h
  have m1 := ht.m1
  have m5 := ht.m5
  have hT : tabD t = .tup (t.map rowD) := rfl
  rw [hT]
  walk_at "dv"
  rw [List.length_map]
  refine ⟨w0, ms, _, rfl, rfl, ⟨hw, by omega, by omega⟩, fun r1 w1 hw1 a0 a1 => ?_⟩
  walk_at "dv"
  refine ⟨w1, ms, _, rfl, rfl, ⟨hw1, by omega, by omega⟩, fun r2 w2 hw2 b0 b1 => ?_⟩
  walk_at "dv"
  by_cases c : r1 = r2
  · rw [if_pos c]
    exact q t w2 hw2 ⟨ht.up (by omega), rfl⟩
  · rw [if_neg c]
    obtain ⟨a, rfl⟩ := Int.eq_ofNat_of_zero_le a0
    obtain ⟨b, rfl⟩ := Int.eq_ofNat_of_zero_le b0
    have ha : a < t.length := by omega
    have hb' : b < t.length := by omega
    have ra := ht.row _ (getD_mem ha)
    have rb := ht.row _ (getD_mem hb')
    have hc : rowD ch = .tup (ch.map frD) := rfl
    have hcl := hb.len
    have hc4 := hb.n4
    rw [hc]
    walk_at "dv"
    rw [List.length_map]
    refine ⟨by omega, by omega, ?_⟩
    rw [rngD_nat]
    refine lc_pure (fun (i : Nat) => D.int (i : Int)) (fun i => if 0 < (ch.getD i 0).num then some (D.int (i : Int)) else none) (fun _ => trivial) (List.range ch.length) [] _ _ (fun i hi μ' P P2 h => ?_) (by simp; omega) ?_
    · have hi := List.mem_range.mp hi
      walk_at "dv"
      rw [if_neg (by omega), Int.toNat_natCast, get_frs hi]
      unfold frD
      walk_at "dv"
      by_cases d : 0 < (ch.getD i 0).num
      · rw [if_pos d] at h ⊢; exact h
      · rw [if_neg d] at h ⊢; exact h
    · rw [filt_map, List.nil_append]
      have hp := pos_ch hb
      have hlen : ((List.range ch.length).filter fun i => decide (0 < (ch.getD i 0).num)).length ≤ 4 := by
        have := List.length_filter_le (fun i => decide (0 < (ch.getD i 0).num)) (List.range ch.length)
        rw [List.length_range] at this
        omega
      refine ⟨w2, ms, _, .inr rfl, rfl, ⟨hw2, by simpa using hp, by rw [List.length_map]; omega⟩, fun d w3 hw3 hd => ?_⟩
      obtain ⟨s, hs, rfl⟩ := List.mem_map.mp hd
      rw [List.mem_filter, List.mem_range] at hs
      have h0 : 0 < (ch.getD s 0).num := of_decide_eq_true hs.2
      have rba := ra.2.rb ra.1 ht.n4
      have rbb := rb.2.rb rb.1 ht.n4
      walk_at "dv"
      rw [if_neg (by omega), Int.toNat_natCast, get_rows ha]
      walk_at "dv"
      refine ⟨_, ch, rfl, ⟨rba, hb.bb.cb, by rw [ra.1, hcl]⟩, ?_⟩
      rw [if_neg (by omega), Int.toNat_natCast, get_rows hb']
      walk_at "dv"
      refine ⟨_, ch, rfl, ⟨rbb, hb.bb.cb, by rw [rb.1, hcl]⟩, ?_⟩
      have d1 := dot_sm rba hb.bb.cb
      have d2 := dot_sm rbb hb.bb.cb
      refine ⟨_, _, rfl, ⟨dot_Sm rba hb.bb.cb, dot_Sm rbb hb.bb.cb⟩, ?_⟩
      have hrow : rowD (t.getD b []) = .tup ((t.getD b []).map frD) := rfl
      have es : (s : Int) + 1 = ((s + 1 : Nat) : Int) := by omega
      have eb : (b : Int) + 1 = ((b + 1 : Nat) : Int) := by omega
      have hsl : s < (t.getD b []).length := by rw [rb.1]; omega
      have hms := hb.nn _ (getR_mem (ps := ch) (a := s) hs.1)
      rw [hrow]
      rw [if_neg (by omega), Int.toNat_natCast, get_frs hs.1]
      walk_at "dv"
      have sms := RT.sms (s := s) hk ra.2 rb.2 ra.1 rb.1 hb (by omega) h0
      refine ⟨_, _, rfl, ⟨sms.1, sms.2.1, h0⟩, ?_⟩
      walk_at "dv"
      rw [if_neg (by omega), get_frs hsl, es, eb, cut_take _ (by rw [List.length_map]; omega), cut_take _ (by rw [List.length_map]; omega), cut_drop _ (by rw [List.length_map]; omega), cut_drop _ (by rw [List.length_map]; omega)]
      walk_at "dv"
      have smb : Sm ((t.getD b []).getD s 0) := sm_of (a := 1600) (b := 150) (Nat.lt_of_le_of_lt (den_dp (getR_mem hsl)) rbb.dpl) (rbb.mgle (getR_mem hsl)) (Nat.le_refl _) (by decide)
      refine ⟨_, _, rfl, ⟨smb, sms.2.2⟩, ?_⟩
      have l4 := ht.n4
      have lb := rb.1
      have e1 : ∀ v : Rat, (((t.getD b []).map frD).take s ++ [frD v] ++ ((t.getD b []).map frD).drop (s + 1)) = (putR s v (t.getD b [])).map frD := fun v => by
        unfold putR
        rw [← List.map_take, ← List.map_drop, List.append_assoc, List.map_append, List.map_append]
        rfl
      have e2 : ∀ r : List Rat, ((t.map rowD).take b ++ [D.tup (r.map frD)] ++ (t.map rowD).drop (b + 1)) = (t.take b ++ ([r] ++ t.drop (b + 1))).map rowD := fun v => by
        rw [← List.map_take, ← List.map_drop, List.append_assoc, List.map_append, List.map_append]
        rfl
      simp only [e1, e2]
      refine ⟨by simp only [List.length_append, List.length_take, List.length_drop, List.length_map, List.length_cons, List.length_nil]; omega, by simp only [List.length_append, List.length_take, List.length_drop, List.length_map, List.length_cons, List.length_nil]; omega, by simp only [List.length_append, List.length_take, List.length_drop, List.length_map, List.length_cons, List.length_nil]; omega, by simp only [List.length_append, List.length_take, List.length_drop, List.length_map, List.length_cons, List.length_nil]; omega, ?_⟩
      rw [List.take_succ_cons, List.take_length]
      refine q _ w3 hw3 ⟨?_, by simp only [List.length_append, List.length_take, List.length_drop, List.length_map, List.length_cons, List.length_nil]; omega⟩
      refine ⟨ht.n4, by simp only [List.length_append, List.length_take, List.length_drop, List.length_map, List.length_cons, List.length_nil]; omega, by simp only [List.length_append, List.length_take, List.length_drop, List.length_map, List.length_cons, List.length_nil]; omega, fun r hr => ?_⟩
      rcases List.mem_append.mp hr with hr | hr
      · have := ht.row r (List.mem_of_mem_take hr)
        exact ⟨this.1, this.2.up (by omega)⟩
      · rcases List.mem_append.mp hr with hr | hr
        · rw [List.mem_singleton] at hr
          rw [hr]
          exact ⟨by rw [put_len hsl]; exact lb, RT.put hk ra.2 rb.2 ra.1 rb.1 hb (by omega) h0⟩
        · have := ht.row r (List.mem_of_mem_drop hr)
          exact ⟨this.1, this.2.up (by omega)⟩
end K3

/-! part K3f -/
set_option Elab.async false
set_option linter.all false
set_option maxRecDepth 100000
set_option autoImplicit false
set_option exponentiation.threshold 4000
namespace K3
open PySem PySem.Spec L2 DV
open PyProof.Rows (envOfC)
variable {P : Program} {w : World} {K : PySem.W.Frag} {mg : Str → Option Value} {base : Heap}

local macro_rules | `(tactic| walk_at "dv") => `(tactic| simp only [startR, kD, fin, fSeq, fNext, fDrop, fNRep, fNRg, fParN0, fPar3, fPar3N, fAsg, fRet, fIfS, fNever, fPar, fNew, fApp, fVar, fC, fOp, fTest, fTAnd, fTOr, fTNot, fVAnd, fVOr, fVNot, fNeg, fIf, fChain, fANil, fACons, fTup, fLst, fCB, fNLst, fOfN, fYes, fIsi, fONone, fOSome, fSl, sliceF,
  gF, gA, cI, fI, c0, cAdd, fAdd, fIx, cRepT, fRepT, fEq, fNe, fNotIn, intsOf, blsOf, allD, seqOf, tupOf, fLen, cA0, f1L, gSum, gAll, gAny, fTupleOf, fListOf, fA1, fA2, cDm, gN, gsNil_eq, gsCons_eq, gT_eq, gSb_eq, isB, itemsOf, fISeq, fIRng, fIEnum, fIZip, fFor, fLc, wipeR, fCall, fCallK,
  List.map_cons, List.map_nil, List.length_cons, List.length_nil, List.replicate_succ, List.replicate_zero, List.cons_append, List.nil_append, List.append_nil, List.getElem?_cons_zero, List.getElem?_cons_succ, List.getElem?_nil, List.set_cons_zero, List.set_cons_succ, List.set_nil, List.take_succ_cons, List.take_zero, List.take_nil,
  Option.map_some, Option.map_none, Option.some.injEq, Option.get_some, exists_eq_left', exists_eq_left, exists_eq_right, true_and, and_true, if_true, if_false, reduceCtorEq, ite_true, ite_false, S.d.injEq, S.m.injEq, D.int.injEq, D.tup.injEq, D.lst.injEq, D.bl.injEq, D.str.injEq, List.cons.injEq, exists_and_left, exists_and_right,
  Nat.sub_zero, Nat.reduceSub, Nat.reduceAdd, Nat.zero_add, Nat.add_zero, Bool.not_true, Bool.not_false, Bool.false_eq_true, decide_eq_true_eq, Nat.reduceLT, Nat.reduceLeDiff, Nat.le_refl, List.take_length, Int.reduceLT, Int.reduceToNat, Nat.lt_irrefl, gt_iff_lt, Nat.not_lt_zero, Int.cast_ofNat_Int, decide_true, decide_false, and_assoc])


def ed : Nat → Nat
  | 0 => 60
  | 1 => 28800
  | _ + 2 => 6635520000
def em : Nat → Nat
  | 0 => 2 ^ 67
  | 1 => 2 ^ 68 + 1
  | _ + 2 => 2 ^ 69 + 3
def EB (k : Nat) (r : Rat) : Prop := r.den ≤ ed k ∧ Mg (em k) r
theorem ed_step : ∀ {k : Nat}, k ≤ 1 → ed k * ed k * 8 ≤ ed (k + 1)
  | 0, _ => by decide
  | 1, _ => by decide
theorem em_step : ∀ {k : Nat}, k ≤ 1 → em k + em k + 1 ≤ em (k + 1)
  | 0, _ => by decide
  | 1, _ => by decide
theorem ed_pos : ∀ k : Nat, 1 ≤ ed k
  | 0 => by decide
  | 1 => by decide
  | k + 2 => show 1 ≤ 6635520000 by decide
theorem ed_up {k : Nat} (h : k ≤ 1) : ed k ≤ ed (k + 1) := by
  have h1 := ed_step h
  have h2 := Nat.le_mul_of_pos_left (ed k) (ed_pos k)
  omega
theorem em_up {k : Nat} (h : k ≤ 1) : em k ≤ em (k + 1) := by
  have h1 := em_step h
  omega
theorem EB.up {k : Nat} {r : Rat} (hk : k ≤ 1) (h : EB k r) : EB (k + 1) r := ⟨Nat.le_trans h.1 (ed_up hk), mg_mono h.2 (em_up hk)⟩
theorem EB.up2 {k : Nat} {r : Rat} (hk : k ≤ 2) (h : EB k r) : EB 2 r := by
  match k, hk with
  | 0, _ => exact (h.up (by decide)).up (by decide)
  | 1, _ => exact h.up (by decide)
  | 2, _ => exact h
theorem EB.sm {k : Nat} {r : Rat} (hk : k ≤ 2) (h : EB k r) : Sm r := by
  have h := h.up2 hk
  exact sm_of (a := 33) (b := 70) (Nat.lt_of_le_of_lt h.1 (by decide)) h.2 (by decide) (by decide)
theorem EB.mid {k : Nat} {x y l : Rat} (hk : k ≤ 1) (hx : EB k x) (hy : EB k y) (hl : l.den ≤ 4 ∧ Mg 1 l) : EB (k + 1) ((x + y) * Rat.divInt 1 2 + l) := by
  have hd : (Rat.divInt 1 2).den = 2 := by decide
  have h2 : Mg 1 (Rat.divInt 1 2) := by unfold Mg; decide
  have a1 := den_add_le x y
  have a2 := den_mul_le (x + y) (Rat.divInt 1 2)
  have a3 := den_add_le ((x + y) * Rat.divInt 1 2) l
  rw [hd] at a2
  refine ⟨?_, ?_⟩
  · have p := Nat.mul_le_mul hx.1 hy.1
    have q := Nat.mul_le_mul (Nat.le_trans a2 (Nat.mul_le_mul_right 2 (Nat.le_trans a1 p))) hl.1
    have := ed_step hk
    omega
  · have g := mg_add (mg_mul (mg_add hx.2 hy.2) h2) hl.2
    rw [Nat.mul_one] at g
    exact mg_mono g (em_step hk)
theorem EB.near {k : Nat} {x l : Rat} (hk : k ≤ 1) (hx : EB k x) (hl : l.den ≤ 1 ∧ Mg 1 l) : EB (k + 1) (x + l) := by
  have a := den_add_le x l
  refine ⟨?_, ?_⟩
  · have := Nat.mul_le_mul hx.1 hl.1
    have := ed_up hk
    omega
  · have := em_step hk
    exact mg_mono (mg_add hx.2 hl.2) (by omega)
theorem EB.sms {k : Nat} {x y l : Rat} (hk : k ≤ 1) (hx : EB k x) (hy : EB k y) (hl : l.den ≤ 4 ∧ Mg 1 l) : Sm (x + y) ∧ Sm (Rat.divInt 1 2) ∧ Sm ((x + y) * Rat.divInt 1 2) ∧ Sm l := by
  have hx := hx.up2 (by omega)
  have hy := hy.up2 (by omega)
  have hd : (Rat.divInt 1 2).den = 2 := by decide
  have h2 : Mg 1 (Rat.divInt 1 2) := by unfold Mg; decide
  have a1 := den_add_le x y
  have a2 := den_mul_le (x + y) (Rat.divInt 1 2)
  rw [hd] at a2
  have p : x.den * y.den < 2 ^ (33 + 33) := pow_mul_lt (Nat.lt_of_le_of_lt hx.1 (by decide)) (Nat.lt_of_le_of_lt hy.1 (by decide))
  have g := mg_add hx.2 hy.2
  have p66 : (2 : Nat) ^ (33 + 33) = 73786976294838206464 := by decide
  have p67 : (2 : Nat) ^ 67 = 147573952589676412928 := by decide
  refine ⟨sm_of (a := 66) (b := 71) (Nat.lt_of_le_of_lt a1 p) g (by decide) (by decide), sm_of (a := 3) (b := 1) (by decide) h2 (by decide) (by decide), ?_, sm_of (a := 3) (b := 1) (Nat.lt_of_le_of_lt hl.1 (by decide)) hl.2 (by decide) (by decide)⟩
  have g2 := mg_mul g h2
  rw [Nat.mul_one] at g2
  exact sm_of (a := 67) (b := 71) (by omega) g2 (by decide) (by decide)
theorem EB.rt {rs : List Rat} {n : Nat} (hl : rs.length = n) (h4 : n ≤ 4) (h : ∀ r ∈ rs, EB 2 r) : RT 0 rs := by
  refine ⟨?_, fun r hr => mg_mono (h r hr).2 (by decide)⟩
  have h1 := dp_le 6635520000 rs fun r hr => (h r hr).1
  have h2 : (6635520000 : Nat) ^ rs.length ≤ 6635520000 ^ 4 := Nat.pow_le_pow_right (by decide) (by omega)
  exact Nat.lt_of_le_of_lt (Nat.le_trans h1 h2) (by decide)


theorem allR_ints {α : Type} : ∀ {l : List α} {ds : List D}, AllR (fun _ d => ∃ k : Int, d = .int k ∧ 0 ≤ k ∧ k < 5) l ds → ∃ ks : List Int, ds = ks.map D.int ∧ ks.length = l.length ∧ ∀ k ∈ ks, 0 ≤ k ∧ k < 5
  | _, _, .nil => ⟨[], rfl, rfl, fun k hk => by cases hk⟩
  | _, _, .cons ⟨k, e, h1, h2⟩ r => by
    obtain ⟨ks, rfl, hl, h⟩ := allR_ints r
    refine ⟨k :: ks, by rw [e]; rfl, by simp [hl], fun x hx => ?_⟩
    rcases List.mem_cons.mp hx with rfl | hx
    · exact ⟨h1, h2⟩
    · exact h x hx
theorem sq_sum : ∀ {ks : List Int}, (∀ k ∈ ks, 0 ≤ k ∧ k < 5) → 0 ≤ (ks.map fun y => y * y).sum ∧ (ks.map fun y => y * y).sum ≤ 16 * ks.length
  | [], _ => by simp
  | k :: ks, h => by
    have q := sq_sum (ks := ks) fun x hx => h x (List.mem_cons_of_mem _ hx)
    have p := h k (by simp)
    have p2 : k * k ≤ 4 * 4 := Int.mul_le_mul (by omega) (by omega) p.1 (by omega)
    have p3 : 0 ≤ k * k := Int.mul_nonneg p.1 p.1
    simp only [List.map_cons, List.sum_cons, List.length_cons]
    omega
theorem cmw {i j : Int} (h1 : i.natAbs < 2 ^ 20) (h2 : j.natAbs < 2 ^ 20) : CMulW i j := mul_ok (a := 20) (b := 20) h1 h2 (by decide)
/-- what holds while a table is drawn -/
def PaysI (ms : Mu) (n m len k : Nat) (near : Bool) (ρ : Rho) (μ : Mu) : Prop := ∃ (w : List D) (rows : List (List Rat)) (s5 s6 s7 s8 s9 s10 s11 s12 : Option S), IsW w ∧ (rows.length = len ∧ ∀ r ∈ rows, r.length = n ∧ ∀ x ∈ r, EB k x) ∧
  ρ = [some (.m 0), some (.d (.int (n : Int))), some (.d (.int (m : Int))), some (.m (ms.length + 1)), some (.d (.bl near)), s5, s6, s7, s8, s9, s10, s11, s12, none, none, none] ∧ μ = w :: (ms ++ [rows.map rowL])
theorem get_rowsL {t : List (List Rat)} {a : Nat} (h : a < t.length) : (t.map rowL)[a]? = some (rowL (t.getD a [])) := by
  rw [List.getElem?_map, List.getElem?_eq_getElem h, List.getD_eq_getElem?_getD, List.getElem?_eq_getElem h]
  rfl
theorem zip_fr : ∀ xs ys : List Rat, zipD (xs.map frD) (ys.map frD) = (xs.zip ys).map fun p => D.tup [frD p.1, frD p.2]
  | [], _ => rfl
  | _ :: _, [] => rfl
  | x :: xs, y :: ys => by
    have := zip_fr xs ys
    simp only [List.map_cons, List.zip_cons_cons, zipD] at this ⊢
    rw [this]
theorem allR_fr {α : Type} {p : Rat → Prop} : ∀ {l : List α} {ds : List D}, AllR (fun _ d => ∃ r : Rat, d = frD r ∧ p r) l ds → ∃ rs : List Rat, ds = rs.map frD ∧ rs.length = l.length ∧ ∀ r ∈ rs, p r
  | _, _, .nil => ⟨[], rfl, rfl, fun k hk => by cases hk⟩
  | _, _, .cons ⟨k, e, h1⟩ r => by
    obtain ⟨ks, rfl, hl, h⟩ := allR_fr r
    refine ⟨k :: ks, by rw [e]; rfl, by simp [hl], fun x hx => ?_⟩
    rcases List.mem_cons.mp hx with rfl | hx
    · exact h1
    · exact h x hx
theorem nb_eb {r : Rat} (h : NB r) : EB 0 r := h

def T__law_pays : TF := fun ss μ P => ∃ w ms, ∃ n m : Nat, ss = [.m 0, .d (.int (n : Int)), .d (.int (m : Int))] ∧ μ = w :: ms ∧ (IsW w ∧ 2 ≤ n ∧ n ≤ 4 ∧ 1 ≤ m ∧ m ≤ 5) ∧ ∀ t w', IsW w' → (TB 0 n t ∧ t.length = m) → P (tabD t) (w' :: ms)
theorem mon__law_pays : MonF T__law_pays := fun ss μ P P' k ⟨a, b, c, d, e, e2, h, q⟩ => ⟨a, b, c, d, e, e2, h, fun r w' h1 h2 => k _ _ (q r w' h1 h2)⟩
theorem ok__law_pays (t : Top K mg "_law_pays" s__law_pays ["_law_well_here", "_law_n", "_law_m"]) (C__law_draw : DefOk P w K mg base "_law_draw" 1 2 T__law_draw) (C__law_plus : DefOk P w K mg base "_law_plus" 2 2 T__law_plus) (C__law_row : DefOk P w K mg base "_law_row" 3 2 T__law_row) (C__law_times : DefOk P w K mg base "_law_times" 2 2 T__law_times) (m_list : mg "list" = none) (m_range : mg "range" = none) (m_sum : mg "sum" = none) (m_tuple : mg "tuple" = none) (m_zip : mg "zip" = none) :
    DefOk P w K mg base "_law_pays" 4 3 T__law_pays := by
  have nd := (sc__law_pays).nd
  refine ok_defD (k := 3) t sc__law_pays mon__law_pays (fun f cdv A outer s H E hr =>
    (pds_cons (pds_parN0 (pdn_lst pda_nil) (pd_cmp (eq_ok hr.units) mon_gF snd_eq (nomark _) (pd_callD C__law_draw (hr.mono (by decide)) (by rfl) (pda_cons (pd_var (pv 0)) (pda_cons pd_int pda_nil))) pd_int) (fun _ h => ps_par (i := 3) (j := 4) rfl nd rfl rfl (by decide) rfl rfl h rfl))
      (pds_cons (pds_for PassesOwn.never rfl (pdi_range (by rfl) m_range (pda_cons (pd_var (pv 2)) pda_nil)) (pdg_name (pg_name (i := 5) nd rfl (by first | exact Or.inl rfl | exact Or.inr rfl))) (pds_cons (pds_set (pd_callD C__law_row (hr.mono (by decide)) (by rfl) (pda_cons (pd_var (pv 0)) (pda_cons (pd_var (pv 1)) pda_nil))) (fun _ h => ps_set (i := 6) nd rfl (by first | exact Or.inl rfl | exact Or.inr rfl) h))
      (pds_cons (pds_if (ptd_val (pd_var (pv 4))) (pds_cons (pds_set (pd_of_N (pdn_lc (own := [("_law_s", 13)]) rfl nd (pdi_range (by rfl) m_range (pda_cons (pd_var (pv 1)) pda_nil)) (blkOk_by (N := N__law_pays) (sc := defScope s__law_pays) (by decide +kernel)) (fun _ _ _ _ _ => (pdg_name (pg_name (i := 13) nd rfl (by first | exact Or.inl rfl | exact Or.inr rfl)))) (fun _ _ _ _ _ => pdts_nil) (fun _ _ _ _ _ => (pd_callD C__law_draw (hr.mono (by decide)) (by rfl) (pda_cons (pd_var (pv 0)) (pda_cons pd_int pda_nil)))) (by decide))) (fun _ h => ps_set (i := 7) nd rfl (by first | exact Or.inl rfl | exact Or.inr rfl) h))
      (pds_one (pds_setLc (i := 6) (own := [("_law_x", 14)]) rfl nd rfl rfl (sw_true rfl rfl rfl (by decide +kernel)) (pdi_seq (pd_var (pv 7))) (blkOk_by (N := N__law_pays) (sc := defScope s__law_pays) (by decide +kernel)) (fun _ _ _ _ _ => (pdg_name (pg_name (i := 14) nd rfl (by first | exact Or.inl rfl | exact Or.inr rfl)))) (fun _ _ _ _ _ => pdts_nil) (fun _ _ _ _ _ => (pd_tup (pda_cons (pd_op op_sub mon_gF snd_I0 (pd_op op_mulW mon_gF snd_I pd_int (pd_var (pv 14))) (pd_B (cr_sum rfl) snd_sum mon_gA (by rfl) m_sum bt_sum (pda_cons (pd_of_N (pdn_lc (own := [("_law_y", 15)]) rfl nd (pdi_seq (pd_var (pv 7))) (blkOk_in (N := N__law_pays) rfl (by decide +kernel)) (fun _ _ _ _ _ => (pdg_name (pg_name (i := 15) nd rfl (by first | exact Or.inl rfl | exact Or.inr rfl)))) (fun _ _ _ _ _ => pdts_nil) (fun _ _ _ _ _ => (pd_op op_mulW mon_gF snd_I (pd_var (pv 15)) (pd_var (pv 15)))) (by decide))) pda_nil))) (pda_cons pd_int pda_nil)))) (by decide)))) pds_nil)
      (pds_one (pds_app (pd_var (pv 3)) (pd_var (pv 6)) (fun _ _ h1 h2 => ps_expr (pe_bm PySem.F.plainAttrs_list PySem.F.slot_list_append PySem.F.type_list_append mt_append h1 h2)))))))
      (pds_cons (pds_for PassesOwn.never rfl (pdi_range (by rfl) m_range (pda_cons (pd_if (ptd_cmp op_gt mon_gF snd_B0 (nomark _) (pd_var (pv 2)) pd_int) (pd_callD C__law_draw (hr.mono (by decide)) (by rfl) (pda_cons (pd_var (pv 0)) (pda_cons pd_int pda_nil))) pd_int) pda_nil)) (pdg_name (pg_name (i := 8) nd rfl (by first | exact Or.inl rfl | exact Or.inr rfl))) (pds_cons (pds_asg (pd_tup (pda_cons (pd_callD C__law_draw (hr.mono (by decide)) (by rfl) (pda_cons (pd_var (pv 0)) (pda_cons pd_int pda_nil))) (pda_cons (pd_callD C__law_draw (hr.mono (by decide)) (by rfl) (pda_cons (pd_var (pv 0)) (pda_cons (pd_var (pv 2)) pda_nil))) (pda_cons (pd_callD C__law_draw (hr.mono (by decide)) (by rfl) (pda_cons (pd_var (pv 0)) (pda_cons (pd_var (pv 2)) pda_nil))) (pda_cons (pd_callD C__law_draw (hr.mono (by decide)) (by rfl) (pda_cons (pd_var (pv 0)) (pda_cons (pd_var (pv 2)) pda_nil))) pda_nil))))) (pdg_tup (n := 4) rfl (pdgs_cons (pdg_name (pg_name (i := 9) nd rfl (by first | exact Or.inl rfl | exact Or.inr rfl))) (pdgs_cons (pdg_name (pg_name (i := 10) nd rfl (by first | exact Or.inl rfl | exact Or.inr rfl))) (pdgs_cons (pdg_name (pg_name (i := 11) nd rfl (by first | exact Or.inl rfl | exact Or.inr rfl))) (pdgs_cons (pdg_name (pg_name (i := 5) nd rfl (by first | exact Or.inl rfl | exact Or.inr rfl))) pdgs_nil))))))
      (pds_cons (pds_set (pd_if (ptd_cmp (eq_ok hr.units) mon_gF snd_eq (nomark _) (pd_var (pv 9)) pd_int) (pd_tup (pda_cons pd_int (pda_cons pd_int pda_nil))) (pd_tup (pda_cons (pd_neg pd_int) (pda_cons pd_int pda_nil)))) (fun _ h => ps_set (i := 12) nd rfl (by first | exact Or.inl rfl | exact Or.inr rfl) h))
      (pds_one (pds_if (ptd_cmp (eq_ok hr.units) mon_gF snd_eq (nomark _) (pd_var (pv 9)) pd_int) (pds_one (pds_asg (pd_Ty call_list_of snd_listOf mon_gA (by rfl) m_list bt_list (pda_cons (pd_ix ix_ok mon_gF snd_ix (fun _ _ => rfl) (pd_var (pv 3)) (pd_var (pv 10))) pda_nil)) (pdg_sub (pd_var (pv 3)) (pd_var (pv 5))))) (pds_one (pds_if (ptd_w (pdw_and (ptd_cmp op_lt mon_gF snd_B0 (nomark _) (pd_var (pv 9)) pd_int) (pdw_and1 (ptd_cmp op_notIn_seq mon_gF snd_notIn (by with_unfolding_all rfl) (pd_var (pv 5)) (pd_tup (pda_cons (pd_var (pv 10)) (pda_cons (pd_var (pv 11)) pda_nil))))))) (pds_one (pds_asg (pd_of_N (pdn_lc (own := [("_law_x", 14), ("_law_y", 15)]) rfl nd (pdi_zip (by rfl) m_zip (pda_cons (pd_ix ix_ok mon_gF snd_ix (fun _ _ => rfl) (pd_var (pv 3)) (pd_var (pv 10))) (pda_cons (pd_ix ix_ok mon_gF snd_ix (fun _ _ => rfl) (pd_var (pv 3)) (pd_var (pv 11))) pda_nil))) (blkOk_by (N := N__law_pays) (sc := defScope s__law_pays) (by decide +kernel)) (fun _ _ _ _ _ => (pdg_tup (n := 2) rfl (pdgs_cons (pdg_name (pg_name (i := 14) nd rfl (by first | exact Or.inl rfl | exact Or.inr rfl))) (pdgs_cons (pdg_name (pg_name (i := 15) nd rfl (by first | exact Or.inl rfl | exact Or.inr rfl))) pdgs_nil)))) (fun _ _ _ _ _ => pdts_nil) (fun _ _ _ _ _ => (pd_callD C__law_plus (hr.mono (by decide)) (by rfl) (pda_cons (pd_callD C__law_times (hr.mono (by decide)) (by rfl) (pda_cons (pd_callD C__law_plus (hr.mono (by decide)) (by rfl) (pda_cons (pd_var (pv 14)) (pda_cons (pd_var (pv 15)) pda_nil))) (pda_cons (pd_tup (pda_cons pd_int (pda_cons pd_int pda_nil))) pda_nil))) (pda_cons (pd_var (pv 12)) pda_nil)))) (by decide))) (pdg_sub (pd_var (pv 3)) (pd_var (pv 5))))) (pds_one (pds_if (ptd_cmp (eq_ok hr.units) mon_gF snd_eq (nomark _) (pd_var (pv 9)) pd_int) (pds_one (pds_asg (pd_of_N (pdn_lc (own := [("_law_x", 14)]) rfl nd (pdi_seq (pd_ix ix_ok mon_gF snd_ix (fun _ _ => rfl) (pd_var (pv 3)) (pd_var (pv 10)))) (blkOk_by (N := N__law_pays) (sc := defScope s__law_pays) (by decide +kernel)) (fun _ _ _ _ _ => (pdg_name (pg_name (i := 14) nd rfl (by first | exact Or.inl rfl | exact Or.inr rfl)))) (fun _ _ _ _ _ => pdts_nil) (fun _ _ _ _ _ => (pd_callD C__law_plus (hr.mono (by decide)) (by rfl) (pda_cons (pd_var (pv 14)) (pda_cons (pd_tup (pda_cons (pd_op op_sub mon_gF snd_I0 (pd_callD C__law_draw (hr.mono (by decide)) (by rfl) (pda_cons (pd_var (pv 0)) (pda_cons pd_int pda_nil))) pd_int) (pda_cons pd_int pda_nil))) pda_nil)))) (by decide))) (pdg_sub (pd_var (pv 3)) (pd_var (pv 5))))) pds_nil)))))))))
      (pds_one (pd_ret (pd_Ty call_tuple_of snd_tupleOf mon_gA (by rfl) m_tuple bt_tuple (pda_cons (pd_of_N (pdn_lc (own := [("_law_row_here", 6)]) rfl nd (pdi_seq (pd_var (pv 3))) (blkOk_by (N := N__law_pays) (sc := defScope s__law_pays) (by decide +kernel)) (fun _ _ _ _ _ => (pdg_name (pg_name (i := 6) nd rfl (by first | exact Or.inl rfl | exact Or.inr rfl)))) (fun _ _ _ _ _ => pdts_nil) (fun _ _ _ _ _ => (pd_Ty call_tuple_of snd_tupleOf mon_gA (by rfl) m_tuple bt_tuple (pda_cons (pd_var (pv 6)) pda_nil))) (by decide))) pda_nil)))))))) ?_
  intro ss μ Q hl h
  obtain ⟨w0, ms, n, m, rfl, rfl, ⟨hw, n2, n4, m1, m5⟩, q⟩ := h
  walk_at "dv"
  refine ⟨w0, _, _, rfl, rfl, ⟨hw, by decide, by decide⟩, fun r w1 hw1 r0 r1 => ?_⟩
  obtain ⟨near, en⟩ : ∃ near : Bool, near = decide (r = 0) := ⟨_, rfl⟩
  walk_at "dv"
  refine ⟨by omega, by omega, ?_⟩
  rw [rngD_nat]
  refine loop_inv (fun (i : Nat) => D.int (i : Int)) (fun i ρ μ' => PaysI ms n m i 0 near ρ μ') (List.range m) 0 _ _ ?_ ?_ ⟨w1, [], none, none, none, none, none, none, none, none, hw1, ⟨rfl, fun r hr => by cases hr⟩, by subst en; rfl, rfl⟩
  · rintro i x _ _ hi ⟨w2, rows, s5, s6, s7, s8, s9, s10, s11, s12, hw2, ⟨hr1, hr2⟩, rfl, rfl⟩
    obtain ⟨e, hi⟩ := range_get hi
    subst e
    refine ⟨trivial, fun k' _ hk => ?_⟩
    have app : ∀ (rs : List Rat) (w3 : List D) (s7 : Option S), IsW w3 → (rs.length = n ∧ ∀ x ∈ rs, EB 0 x) → k'.nx [some (.m 0), some (.d (.int (n : Int))), some (.d (.int (m : Int))), some (.m (ms.length + 1)), some (.d (.bl near)), some (.d (.int (x : Int))), some (.d (rowL rs)), s7, s8, s9, s10, s11, s12, none, none, none] (w3 :: (ms ++ [rows.map rowL ++ [rowL rs]])) := fun rs w3 s7 hw3 hrs => by
      refine hk _ _ ⟨w3, rows ++ [rs], _, _, _, _, _, _, _, _, hw3, ⟨by simp; omega, fun r hr => ?_⟩, rfl, by simp⟩
      rcases List.mem_append.mp hr with hr | hr
      · exact hr2 r hr
      · rw [List.mem_singleton] at hr; rw [hr]; exact hrs
    walk_at "dv"
    refine ⟨w2, _, n, rfl, rfl, ⟨hw2, by omega⟩, fun rs w3 hw3 hrs => ?_⟩
    walk_at "dv"
    cases near with
    | false =>
      walk_at "dv"
      refine ⟨_, get_last, by rw [List.length_map]; omega, ?_⟩
      rw [set_last]
      exact app rs w3 _ hw3 ⟨hrs.1, fun x hx => nb_eb (hrs.2 x hx)⟩
    | true =>
      walk_at "dv"
      refine ⟨by omega, by omega, ?_⟩
      rw [rngD_nat]
      refine lc_draw (fun (i : Nat) => D.int (i : Int)) (fun _ d => ∃ k : Int, d = .int k ∧ 0 ≤ k ∧ k < 5) (ms ++ [rows.map rowL]) (fun _ _ => trivial) (List.range n) [] w3 _ (fun i hi w acc P P2 hw hk => ?_) hw3 (by simp; omega) (fun ds w4 hw4 hR => ?_)
      · walk_at "dv"
        exact ⟨w, _, 5, rfl, rfl, ⟨hw, by decide, by decide⟩, fun r w' hw' r0 r1 => hk _ _ hw' ⟨r, rfl, r0, r1⟩⟩
      · obtain ⟨ks, rfl, hkl, hks⟩ := allR_ints hR
        rw [List.length_range] at hkl
        rw [List.nil_append]
        have sq := sq_sum hks
        refine lc_pure D.int (fun x => some (frD ((8 * x - (ks.map fun y => y * y).sum : Int) : Rat))) (fun _ => trivial) ks [] _ _ (fun k hk μ' P P2 h => ?_) (by simp; omega) ?_
        · have kb := hks k hk
          walk_at "dv"
          refine ⟨cmw (by decide) (show k.natAbs < 2 ^ 20 by omega), ?_⟩
          refine lc_pure D.int (fun y => some (.int (y * y))) (fun _ => trivial) ks [] _ _ (fun y hy μ' P P2 h => ?_) (by simp; omega) ?_
          · have yb := hks y hy
            walk_at "dv"
            exact ⟨cmw (show y.natAbs < 2 ^ 20 by omega) (show y.natAbs < 2 ^ 20 by omega), h⟩
          · have e : ks.filterMap (fun y => some (D.int (y * y))) = (ks.map fun y => y * y).map D.int := by
              rw [List.map_map, List.filterMap_eq_map']
              rfl
            rw [e, List.nil_append, ints_some]
            walk_at "dv"
            exact h
        · have e : ks.filterMap (fun x => some (frD ((8 * x - (ks.map fun y => y * y).sum : Int) : Rat))) = (ks.map fun x => ((8 * x - (ks.map fun y => y * y).sum : Int) : Rat)).map frD := by
            rw [List.map_map, List.filterMap_eq_map']
            rfl
          rw [e, List.nil_append]
          walk_at "dv"
          refine ⟨_, get_last, by rw [List.length_map]; omega, ?_⟩
          rw [set_last]
          refine app _ w4 _ hw4 ⟨by rw [List.length_map]; exact hkl, fun z hz => ?_⟩
          obtain ⟨y, hy, rfl⟩ := List.mem_map.mp hz
          have yb := hks y hy
          exact nb_int (Nat.le_trans (show (8 * y - (ks.map fun y => y * y).sum).natAbs ≤ 200 by omega) (by decide))
  · rintro _ _ ⟨w2, rows, s5, s6, s7, s8, s9, s10, s11, s12, hw2, ⟨hr1, hr2⟩, rfl, rfl⟩
    rw [List.length_range, Nat.zero_add] at hr1
    refine ⟨trivial, ?_⟩
    have fin2 : ∀ (w3 : List D) (rows : List (List Rat)) (s5 s7 s8 s9 s10 s11 s12 : Option S), IsW w3 → (rows.length = m ∧ ∀ r ∈ rows, r.length = n ∧ ∀ x ∈ r, EB 2 x) →
        lcLoop (gN 6) fYes (fCB (gA cA0 fTupleOf) (fACons (fVar 6) fANil)) (fun μ' => μ'[ms.length + 1]? = some (rows.map rowL)) [some (.m 0), some (.d (.int (n : Int))), some (.d (.int (m : Int))), some (.m (ms.length + 1)), some (.d (.bl near)), s5, none, s7, s8, s9, s10, s11, s12, none, none, none] (rows.map rowL) [] (w3 :: (ms ++ [rows.map rowL])) fun ds μ' => Q (.tup ds) (List.take (ms.length + 1) μ') := by
      intro w3 rows s5 s7 s8 s9 s10 s11 s12 hw3 hr
      have hget : ∀ acc : List D, (w3 :: (ms ++ [rows.map rowL]) ++ [acc])[ms.length + 1]? = some (rows.map rowL) := fun acc => by
        rw [List.cons_append, List.getElem?_cons_succ, List.append_assoc, List.getElem?_append_right (Nat.le_refl _), Nat.sub_self]
        rfl
      have hr1 := hr.1
      refine lc_pure2 rowL (fun r => some (rowD r)) (w3 :: (ms ++ [rows.map rowL])) hget rows [] _ (fun r hr acc P P2 h => ?_) (by simp; omega) ?_
      · unfold rowL
        walk_at "dv"
        exact h
      · have e : rows.filterMap (fun r => some (rowD r)) = rows.map rowD := by rw [List.filterMap_eq_map']
        rw [e, List.nil_append, List.take_succ_cons, List.take_left]
        exact q rows w3 hw3 ⟨⟨n4, by omega, by omega, fun r hr' => ⟨(hr.2 r hr').1, EB.rt (hr.2 r hr').1 n4 (hr.2 r hr').2⟩⟩, hr.1⟩
    walk_at "dv"
    by_cases hm : 1 < (m : Int)
    · rw [if_pos hm]
      refine ⟨w2, _, 3, rfl, rfl, ⟨hw2, by decide, by decide⟩, fun T w3 hw3 t0 t1 => ?_⟩
      obtain ⟨T, rfl⟩ := Int.eq_ofNat_of_zero_le t0
      refine ⟨_, rfl, by omega, by omega, ?_⟩
      rw [rngD_nat]
      refine loop_inv (fun (i : Nat) => D.int (i : Int)) (fun i ρ μ' => PaysI ms n m m i near ρ μ') (List.range T) 0 _ _ ?_ ?_ ⟨w3, rows, _, _, _, _, _, _, _, _, hw3, ⟨hr1, hr2⟩, rfl, rfl⟩
      · rintro i x _ _ hi ⟨w2, rows, s5, s6, s7, s8, s9, s10, s11, s12, hw2, ⟨hr1, hr2⟩, rfl, rfl⟩
        obtain ⟨e, hi⟩ := range_get hi
        subst e
        rw [Nat.zero_add] at hr2 ⊢
        refine ⟨trivial, fun k' _ hk => ?_⟩
        have hx1 : x ≤ 1 := by omega
        have same : ∀ (w3 : List D) (s5 s6 s7 s8 s9 s10 s11 s12 : Option S), IsW w3 → k'.nx [some (.m 0), some (.d (.int (n : Int))), some (.d (.int (m : Int))), some (.m (ms.length + 1)), some (.d (.bl near)), s5, s6, s7, s8, s9, s10, s11, s12, none, none, none] (w3 :: (ms ++ [rows.map rowL])) := fun w3 s5 s6 s7 s8 s9 s10 s11 s12 hw3 =>
          hk _ _ ⟨w3, rows, _, _, _, _, _, _, _, _, hw3, ⟨hr1, fun r hr => ⟨(hr2 r hr).1, fun x hx => ((hr2 r hr).2 x hx).up hx1⟩⟩, rfl, rfl⟩
        have put : ∀ (a : Nat) (rs : List Rat) (w3 : List D) (s5 s6 s7 s8 s9 s10 s11 s12 : Option S), IsW w3 → (rs.length = n ∧ ∀ y ∈ rs, EB (x + 1) y) → k'.nx [some (.m 0), some (.d (.int (n : Int))), some (.d (.int (m : Int))), some (.m (ms.length + 1)), some (.d (.bl near)), s5, s6, s7, s8, s9, s10, s11, s12, none, none, none] (w3 :: (ms ++ [(rows.map rowL).set a (rowL rs)])) := fun a rs w3 s5 s6 s7 s8 s9 s10 s11 s12 hw3 hrs =>
          hk _ _ ⟨w3, rows.set a rs, _, _, _, _, _, _, _, _, hw3, ⟨by rw [List.length_set]; exact hr1, fun r hr => by
            rcases List.mem_or_eq_of_mem_set hr with hr | hr
            · exact ⟨(hr2 r hr).1, fun x hx => ((hr2 r hr).2 x hx).up hx1⟩
            · rw [hr]; exact hrs⟩, rfl, by rw [List.map_set]⟩
        walk_at "dv"
        refine ⟨w2, _, 4, rfl, rfl, ⟨hw2, by decide, by decide⟩, fun way w3 hw3 y0 y1 => ?_⟩
        refine ⟨w3, _, m, rfl, rfl, ⟨hw3, by omega, by omega⟩, fun one w4 hw4 o0 o1 => ?_⟩
        refine ⟨w4, _, m, rfl, rfl, ⟨hw4, by omega, by omega⟩, fun two w5 hw5 t0 t1 => ?_⟩
        refine ⟨w5, _, m, rfl, rfl, ⟨hw5, by omega, by omega⟩, fun act w6 hw6 a0 a1 => ?_⟩
        obtain ⟨one, rfl⟩ := Int.eq_ofNat_of_zero_le o0
        obtain ⟨two, rfl⟩ := Int.eq_ofNat_of_zero_le t0
        obtain ⟨act, rfl⟩ := Int.eq_ofNat_of_zero_le a0
        have h1 : one < rows.length := by omega
        have h2 : two < rows.length := by omega
        have l1 := (hr2 _ (getD_mem h1)).1
        have l2 := (hr2 _ (getD_mem h2)).1
        walk_at "dv"
        have eL1 : D.tup [D.int 0, D.int 1] = frD 0 := rfl
        have eL2 : D.tup [D.int (-1), D.int 4] = frD (Rat.divInt (-1) 4) := by unfold frD; rfl
        by_cases y : way = 1
        · rw [if_pos y, eL1]
          obtain ⟨L, hL, eL⟩ : ∃ L : Rat, (L.den ≤ 4 ∧ Mg 1 L) ∧ L = 0 := ⟨0, ⟨by decide, by unfold Mg; decide⟩, rfl⟩
          rw [← eL]
          by_cases h0 : way = 0
          · rw [if_pos h0]
            refine ⟨rowL (rows.getD one []), by rw [if_neg (by omega), get_last]; exact get_rowsL (by omega), rowL (rows.getD one []), rfl, _, get_last, by omega, by rw [List.length_map]; omega, ?_⟩
            rw [set_last]
            exact put act _ w6 _ _ _ _ _ _ _ _ hw6 ⟨(hr2 _ (getD_mem h1)).1, fun y hy => ((hr2 _ (getD_mem h1)).2 y hy).up hx1⟩
          · rw [if_neg h0]
            by_cases h3 : way < 3
            · rw [if_pos h3]
              have h33 : ¬ way = 3 := by omega
              by_cases hc : (!([((one : Nat) : Int), ((two : Nat) : Int)].contains ((act : Nat) : Int))) = true
              · rw [if_pos hc]
                refine ⟨rowL (rows.getD one []), by rw [if_neg (by omega), get_last]; exact get_rowsL (by omega), rowL (rows.getD two []), by rw [if_neg (by omega), get_last]; exact get_rowsL (by omega), _, _, .inl ⟨rfl, rfl⟩, ?_⟩
                rw [zip_fr]
                refine lc_pure (fun p : Rat × Rat => D.tup [frD p.1, frD p.2]) (fun p => some (frD ((p.1 + p.2) * Rat.divInt 1 2 + L))) (fun _ => trivial) _ [] _ _ (fun p hp μ' P P2 h => ?_) (by simp only [List.length_nil, List.length_zip]; omega) ?_
                · have e1 := (hr2 _ (getD_mem h1)).2 _ (List.of_mem_zip hp).1
                  have e2 := (hr2 _ (getD_mem h2)).2 _ (List.of_mem_zip hp).2
                  have sb := EB.sms hx1 e1 e2 hL
                  walk_at "dv"
                  refine ⟨p.1, p.2, rfl, ⟨e1.sm (by omega), e2.sm (by omega)⟩, ?_⟩
                  refine ⟨p.1 + p.2, Rat.divInt 1 2, rfl, ⟨sb.1, sb.2.1⟩, ?_⟩
                  walk_at "dv"
                  exact ⟨_, L, rfl, ⟨sb.2.2.1, sb.2.2.2⟩, h⟩
                · have e : ((rows.getD one []).zip (rows.getD two [])).filterMap (fun p => some (frD ((p.1 + p.2) * Rat.divInt 1 2 + L))) = (((rows.getD one []).zip (rows.getD two [])).map fun p => (p.1 + p.2) * Rat.divInt 1 2 + L).map frD := by
                    rw [List.map_map, List.filterMap_eq_map']
                    rfl
                  rw [e, List.nil_append]
                  refine ⟨_, by rw [List.getElem?_cons_succ]; exact get_last, by omega, by rw [List.length_map]; omega, ?_⟩
                  rw [List.set_cons_succ, set_last]
                  refine put act _ w6 _ _ _ _ _ _ _ _ hw6 ⟨by rw [List.length_map, List.length_zip]; omega, fun z hz => ?_⟩
                  obtain ⟨p, hp, rfl⟩ := List.mem_map.mp hz
                  exact EB.mid hx1 ((hr2 _ (getD_mem h1)).2 _ (List.of_mem_zip hp).1) ((hr2 _ (getD_mem h2)).2 _ (List.of_mem_zip hp).2) hL
              · rw [if_neg hc, if_neg h33]
                exact same w6 _ _ _ _ _ _ _ _ hw6
            · have h33 : way = 3 := by omega
              rw [if_neg h3, if_pos h33]
              refine ⟨rowL (rows.getD one []), by rw [if_neg (by omega), get_last]; exact get_rowsL (by omega), ((rows.getD one []).map frD, fun _ => True), rfl, ?_⟩
              refine lc_draw frD (fun _ d => ∃ r : Rat, d = frD r ∧ EB (x + 1) r) (ms ++ [rows.map rowL]) (fun _ _ => trivial) (rows.getD one []) [] w6 _ (fun a ha w acc P P2 hw hk => ?_) hw6 (by simp only [List.length_nil]; omega) (fun ds w7 hw7 hR => ?_)
              · walk_at "dv"
                refine ⟨w, _, 3, rfl, rfl, ⟨hw, by decide, by decide⟩, fun r w' hw' r0 r1 => ?_⟩
                have ea := (hr2 _ (getD_mem h1)).2 a ha
                walk_at "dv"
                rw [fr_int]
                refine ⟨a, _, rfl, ⟨ea.sm (by omega), EB.sm (k := 0) (by decide) (nb_int (Nat.le_trans (show (r - 1).natAbs ≤ 100 by omega) (by decide)))⟩, ?_⟩
                exact hk _ _ hw' ⟨_, rfl, EB.near hx1 ea ⟨Nat.le_refl _, show (r - 1).natAbs ≤ 1 * 1 by omega⟩⟩
              · obtain ⟨rs, rfl, hrl, hrs⟩ := allR_fr hR
                rw [List.nil_append]
                refine ⟨_, by rw [List.getElem?_cons_succ]; exact get_last, by omega, by rw [List.length_map]; omega, ?_⟩
                rw [List.set_cons_succ, set_last]
                exact put act rs w7 _ _ _ _ _ _ _ _ hw7 ⟨by rw [hrl]; exact l1, hrs⟩

        · rw [if_neg y, eL2]
          obtain ⟨L, hL, eL⟩ : ∃ L : Rat, (L.den ≤ 4 ∧ Mg 1 L) ∧ L = Rat.divInt (-1) 4 := ⟨_, ⟨by decide, by unfold Mg; decide⟩, rfl⟩
          rw [← eL]
          by_cases h0 : way = 0
          · rw [if_pos h0]
            refine ⟨rowL (rows.getD one []), by rw [if_neg (by omega), get_last]; exact get_rowsL (by omega), rowL (rows.getD one []), rfl, _, get_last, by omega, by rw [List.length_map]; omega, ?_⟩
            rw [set_last]
            exact put act _ w6 _ _ _ _ _ _ _ _ hw6 ⟨(hr2 _ (getD_mem h1)).1, fun y hy => ((hr2 _ (getD_mem h1)).2 y hy).up hx1⟩
          · rw [if_neg h0]
            by_cases h3 : way < 3
            · rw [if_pos h3]
              have h33 : ¬ way = 3 := by omega
              by_cases hc : (!([((one : Nat) : Int), ((two : Nat) : Int)].contains ((act : Nat) : Int))) = true
              · rw [if_pos hc]
                refine ⟨rowL (rows.getD one []), by rw [if_neg (by omega), get_last]; exact get_rowsL (by omega), rowL (rows.getD two []), by rw [if_neg (by omega), get_last]; exact get_rowsL (by omega), _, _, .inl ⟨rfl, rfl⟩, ?_⟩
                rw [zip_fr]
                refine lc_pure (fun p : Rat × Rat => D.tup [frD p.1, frD p.2]) (fun p => some (frD ((p.1 + p.2) * Rat.divInt 1 2 + L))) (fun _ => trivial) _ [] _ _ (fun p hp μ' P P2 h => ?_) (by simp only [List.length_nil, List.length_zip]; omega) ?_
                · have e1 := (hr2 _ (getD_mem h1)).2 _ (List.of_mem_zip hp).1
                  have e2 := (hr2 _ (getD_mem h2)).2 _ (List.of_mem_zip hp).2
                  have sb := EB.sms hx1 e1 e2 hL
                  walk_at "dv"
                  refine ⟨p.1, p.2, rfl, ⟨e1.sm (by omega), e2.sm (by omega)⟩, ?_⟩
                  refine ⟨p.1 + p.2, Rat.divInt 1 2, rfl, ⟨sb.1, sb.2.1⟩, ?_⟩
                  walk_at "dv"
                  exact ⟨_, L, rfl, ⟨sb.2.2.1, sb.2.2.2⟩, h⟩
                · have e : ((rows.getD one []).zip (rows.getD two [])).filterMap (fun p => some (frD ((p.1 + p.2) * Rat.divInt 1 2 + L))) = (((rows.getD one []).zip (rows.getD two [])).map fun p => (p.1 + p.2) * Rat.divInt 1 2 + L).map frD := by
                    rw [List.map_map, List.filterMap_eq_map']
                    rfl
                  rw [e, List.nil_append]
                  refine ⟨_, by rw [List.getElem?_cons_succ]; exact get_last, by omega, by rw [List.length_map]; omega, ?_⟩
                  rw [List.set_cons_succ, set_last]
                  refine put act _ w6 _ _ _ _ _ _ _ _ hw6 ⟨by rw [List.length_map, List.length_zip]; omega, fun z hz => ?_⟩
                  obtain ⟨p, hp, rfl⟩ := List.mem_map.mp hz
                  exact EB.mid hx1 ((hr2 _ (getD_mem h1)).2 _ (List.of_mem_zip hp).1) ((hr2 _ (getD_mem h2)).2 _ (List.of_mem_zip hp).2) hL
              · rw [if_neg hc, if_neg h33]
                exact same w6 _ _ _ _ _ _ _ _ hw6
            · have h33 : way = 3 := by omega
              rw [if_neg h3, if_pos h33]
              refine ⟨rowL (rows.getD one []), by rw [if_neg (by omega), get_last]; exact get_rowsL (by omega), ((rows.getD one []).map frD, fun _ => True), rfl, ?_⟩
              refine lc_draw frD (fun _ d => ∃ r : Rat, d = frD r ∧ EB (x + 1) r) (ms ++ [rows.map rowL]) (fun _ _ => trivial) (rows.getD one []) [] w6 _ (fun a ha w acc P P2 hw hk => ?_) hw6 (by simp only [List.length_nil]; omega) (fun ds w7 hw7 hR => ?_)
              · walk_at "dv"
                refine ⟨w, _, 3, rfl, rfl, ⟨hw, by decide, by decide⟩, fun r w' hw' r0 r1 => ?_⟩
                have ea := (hr2 _ (getD_mem h1)).2 a ha
                walk_at "dv"
                rw [fr_int]
                refine ⟨a, _, rfl, ⟨ea.sm (by omega), EB.sm (k := 0) (by decide) (nb_int (Nat.le_trans (show (r - 1).natAbs ≤ 100 by omega) (by decide)))⟩, ?_⟩
                exact hk _ _ hw' ⟨_, rfl, EB.near hx1 ea ⟨Nat.le_refl _, show (r - 1).natAbs ≤ 1 * 1 by omega⟩⟩
              · obtain ⟨rs, rfl, hrl, hrs⟩ := allR_fr hR
                rw [List.nil_append]
                refine ⟨_, by rw [List.getElem?_cons_succ]; exact get_last, by omega, by rw [List.length_map]; omega, ?_⟩
                rw [List.set_cons_succ, set_last]
                exact put act rs w7 _ _ _ _ _ _ _ _ hw7 ⟨by rw [hrl]; exact l1, hrs⟩
      · rintro _ _ ⟨w2, rows, s5, s6, s7, s8, s9, s10, s11, s12, hw2, ⟨hr1, hr2⟩, rfl, rfl⟩
        rw [List.length_range, Nat.zero_add] at hr2
        refine ⟨trivial, ?_⟩
        walk_at "dv"
        refine ⟨_, by rw [get_last]; rfl, ?_⟩
        exact fin2 w2 rows s5 s7 s8 s9 s10 s11 s12 hw2 ⟨hr1, fun r hr => ⟨(hr2 r hr).1, fun x hx => ((hr2 r hr).2 x hx).up2 (by omega)⟩⟩
    · rw [if_neg hm]
      refine ⟨by decide, by decide, ?_⟩
      have e0 : rngD 0 = [] := rfl
      rw [e0]
      refine ⟨trivial, ?_⟩
      walk_at "dv"
      refine ⟨_, by rw [get_last]; rfl, ?_⟩
      exact fin2 w2 rows s5 s7 s8 s9 s10 s11 s12 hw2 ⟨hr1, fun r hr => ⟨(hr2 r hr).1, fun x hx => ((hr2 r hr).2 x hx).up2 (by omega)⟩⟩
end K3

/-! part K3g -/
set_option Elab.async false
set_option linter.all false
set_option maxRecDepth 100000
set_option autoImplicit false
set_option exponentiation.threshold 4000
namespace K3
open PySem PySem.Spec L2 DV
open PyProof.Rows (envOfC)
variable {P : Program} {w : World} {K : PySem.W.Frag} {mg : Str → Option Value} {base : Heap}

local macro_rules | `(tactic| walk_at "dv") => `(tactic| simp only [startR, kD, fin, fSeq, fNext, fDrop, fNRep, fNRg, fParN0, fPar3, fPar3N, fAsg, fRet, fIfS, fNever, fPar, fNew, fApp, fVar, fC, fOp, fTest, fTAnd, fTOr, fTNot, fVAnd, fVOr, fVNot, fNeg, fIf, fChain, fANil, fACons, fTup, fLst, fCB, fNLst, fOfN, fYes, fIsi, fONone, fOSome, fSl, sliceF,
  gF, gA, cI, fI, c0, cAdd, fAdd, fIx, cRepT, fRepT, fEq, fNe, fNotIn, intsOf, blsOf, allD, seqOf, tupOf, fLen, cA0, f1L, gSum, gAll, gAny, fTupleOf, fListOf, fA1, fA2, cDm, gN, gsNil_eq, gsCons_eq, gT_eq, gSb_eq, isB, itemsOf, fISeq, fIRng, fIEnum, fIZip, fFor, fLc, wipeR, fCall, fCallK,
  List.map_cons, List.map_nil, List.length_cons, List.length_nil, List.replicate_succ, List.replicate_zero, List.cons_append, List.nil_append, List.append_nil, List.getElem?_cons_zero, List.getElem?_cons_succ, List.getElem?_nil, List.set_cons_zero, List.set_cons_succ, List.set_nil, List.take_succ_cons, List.take_zero, List.take_nil,
  Option.map_some, Option.map_none, Option.some.injEq, Option.get_some, exists_eq_left', exists_eq_left, exists_eq_right, true_and, and_true, if_true, if_false, reduceCtorEq, ite_true, ite_false, S.d.injEq, S.m.injEq, D.int.injEq, D.tup.injEq, D.lst.injEq, D.bl.injEq, D.str.injEq, List.cons.injEq, exists_and_left, exists_and_right,
  Nat.sub_zero, Nat.reduceSub, Nat.reduceAdd, Nat.zero_add, Nat.add_zero, Bool.not_true, Bool.not_false, Bool.false_eq_true, decide_eq_true_eq, Nat.reduceLT, Nat.reduceLeDiff, Nat.le_refl, List.take_length, Int.reduceLT, Int.reduceToNat, Nat.lt_irrefl, gt_iff_lt, Nat.not_lt_zero, Int.cast_ofNat_Int, decide_true, decide_false, and_assoc])


/-- a world that is drawn -/
structure LW (wd : List (List Rat) × List (List Rat)) (n : Nat) : Prop where
  t : TB 2 n wd.1
  n2 : 2 ≤ n
  eq : wd.2.length = wd.1.length
  w : ∀ r ∈ wd.2, r.length = n ∧ RT 2 r
theorem LW.wb {wd : List (List Rat) × List (List Rat)} {n : Nat} (h : LW wd n) : WB wd n :=
  ⟨h.t.m1, h.t.m5, h.eq, h.n2, h.t.n4, fun r hr => ⟨(h.t.row r hr).1, (h.t.row r hr).2.rb (h.t.row r hr).1 h.t.n4⟩, fun r hr => ⟨(h.w r hr).1, (h.w r hr).2.rb (h.w r hr).1 h.t.n4⟩⟩
theorem nb_rt {rs : List Rat} {n : Nat} (hl : rs.length = n) (h4 : n ≤ 4) (h : ∀ r ∈ rs, NB r) : RT 2 rs :=
  (EB.rt hl h4 fun r hr => (nb_eb (h r hr)).up2 (by decide)).up (by decide)

def T__law_world : TF := fun ss μ P => ∃ w ms, ss = [.m 0] ∧ μ = w :: ms ∧ IsW w ∧ ∀ wd ch n w', IsW w' → (LW wd n ∧ BB2 ch n) → P (.tup [worldD wd, rowD ch]) (w' :: ms)
theorem mon__law_world : MonF T__law_world := fun ss μ P P' k ⟨a, b, e, e2, h, q⟩ => ⟨a, b, e, e2, h, fun wd ch n w' h1 h2 => k _ _ (q wd ch n w' h1 h2)⟩
theorem ok__law_world (t : Top K mg "_law_world" s__law_world ["_law_well_here"]) (C__law_chance : DefOk P w K mg base "_law_chance" 3 2 T__law_chance) (C__law_draw : DefOk P w K mg base "_law_draw" 1 2 T__law_draw) (C__law_number : DefOk P w K mg base "_law_number" 2 1 T__law_number) (C__law_pays : DefOk P w K mg base "_law_pays" 4 3 T__law_pays) (C__law_row : DefOk P w K mg base "_law_row" 3 2 T__law_row) (C__law_sizes : DefOk P w K mg base "_law_sizes" 3 1 T__law_sizes) (C__law_tied : DefOk P w K mg base "_law_tied" 4 3 T__law_tied) (m_range : mg "range" = none) (m_tuple : mg "tuple" = none) :
    DefOk P w K mg base "_law_world" 5 1 T__law_world := by
  have nd := (sc__law_world).nd
  refine ok_defD (k := 4) t sc__law_world mon__law_world (fun f cdv A outer s H E hr =>
    (pds_cons (pds_asg (pd_callD C__law_sizes (hr.mono (by decide)) (by rfl) (pda_cons (pd_var (pv 0)) pda_nil)) (pdg_tup (n := 2) rfl (pdgs_cons (pdg_name (pg_name (i := 1) nd rfl (by first | exact Or.inl rfl | exact Or.inr rfl))) (pdgs_cons (pdg_name (pg_name (i := 2) nd rfl (by first | exact Or.inl rfl | exact Or.inr rfl))) pdgs_nil))))
      (pds_cons (pds_par3N (pd_callD C__law_pays (hr.mono (by decide)) (by rfl) (pda_cons (pd_var (pv 0)) (pda_cons (pd_var (pv 1)) (pda_cons (pd_var (pv 2)) pda_nil)))) (pd_callD C__law_chance (hr.mono (by decide)) (by rfl) (pda_cons (pd_var (pv 0)) (pda_cons (pd_var (pv 1)) pda_nil))) (pdn_lst pda_nil) (fun _ h => ps_par3 (i := 3) (j := 4) (l := 5) rfl nd rfl rfl rfl (by decide) (by decide) (by decide) rfl rfl rfl h rfl))
      (pds_cons (pds_for PassesOwn.never rfl (pdi_range (by rfl) m_range (pda_cons (pd_callD C__law_draw (hr.mono (by decide)) (by rfl) (pda_cons (pd_var (pv 0)) (pda_cons pd_int pda_nil))) pda_nil)) (pdg_name (pg_name (i := 6) nd rfl (by first | exact Or.inl rfl | exact Or.inr rfl))) (pds_one (pds_set (pd_callD C__law_tied (hr.mono (by decide)) (by rfl) (pda_cons (pd_var (pv 0)) (pda_cons (pd_var (pv 3)) (pda_cons (pd_var (pv 4)) pda_nil)))) (fun _ h => ps_set (i := 3) nd rfl (by first | exact Or.inl rfl | exact Or.inr rfl) h))))
      (pds_cons (pds_for PassesOwn.never rfl (pdi_range (by rfl) m_range (pda_cons (pd_var (pv 2)) pda_nil)) (pdg_name (pg_name (i := 7) nd rfl (by first | exact Or.inl rfl | exact Or.inr rfl))) (pds_cons (pds_set (pd_callD C__law_draw (hr.mono (by decide)) (by rfl) (pda_cons (pd_var (pv 0)) (pda_cons pd_int pda_nil))) (fun _ h => ps_set (i := 8) nd rfl (by first | exact Or.inl rfl | exact Or.inr rfl) h))
      (pds_cons (pds_app (pd_var (pv 5)) (pd_Ty call_tuple_of snd_tupleOf mon_gA (by rfl) m_tuple bt_tuple (pda_cons (pd_if (ptd_cmp (eq_ok hr.units) mon_gF snd_eq (nomark _) (pd_var (pv 8)) pd_int) (pd_of_N (pdn_rep (pda_cons (pd_callD C__law_number (hr.mono (by decide)) (by rfl) (pda_cons (pd_var (pv 0)) pda_nil)) pda_nil) (pd_var (pv 1)))) (pd_callD C__law_row (hr.mono (by decide)) (by rfl) (pda_cons (pd_var (pv 0)) (pda_cons (pd_var (pv 1)) pda_nil)))) pda_nil)) (fun _ _ h1 h2 => ps_expr (pe_bm PySem.F.plainAttrs_list PySem.F.slot_list_append PySem.F.type_list_append mt_append h1 h2)))
      (pds_one (pds_if (ptd_w (pdw_and (ptd_cmp (eq_ok hr.units) mon_gF snd_eq (nomark _) (pd_var (pv 8)) pd_int) (pdw_and1 (ptd_cmp op_gt mon_gF snd_B0 (nomark _) (pd_var (pv 7)) pd_int)))) (pds_one (pds_asg (pd_ix ix_ok mon_gF snd_ix (fun _ _ => rfl) (pd_var (pv 5)) (pd_callD C__law_draw (hr.mono (by decide)) (by rfl) (pda_cons (pd_var (pv 0)) (pda_cons (pd_var (pv 7)) pda_nil)))) (pdg_sub (pd_var (pv 5)) (pd_var (pv 7))))) pds_nil)))))
      (pds_one (pd_ret (pd_tup (pda_cons (pd_tup (pda_cons (pd_var (pv 3)) (pda_cons (pd_Ty call_tuple_of snd_tupleOf mon_gA (by rfl) m_tuple bt_tuple (pda_cons (pd_var (pv 5)) pda_nil)) pda_nil))) (pda_cons (pd_var (pv 4)) pda_nil)))))))))) ?_
  intro ss μ Q hl h
  obtain ⟨w0, ms, rfl, rfl, hw, q⟩ := h
  walk_at "dv"
  refine ⟨w0, _, rfl, rfl, hw, fun n m w1 hw1 hs => ?_⟩
  walk_at "dv"
  refine ⟨w1, _, n, m, rfl, rfl, ⟨hw1, hs⟩, fun t w2 hw2 ht => ?_⟩
  walk_at "dv"
  refine ⟨w2, _, n, rfl, rfl, ⟨hw2, by omega, by omega⟩, fun ch w3 hw3 hb => ?_⟩
  walk_at "dv"
  refine ⟨w3, _, 3, rfl, rfl, ⟨hw3, by decide, by decide⟩, fun T w4 hw4 t0 t1 => ?_⟩
  obtain ⟨T, rfl⟩ := Int.eq_ofNat_of_zero_le t0
  obtain ⟨n2, n4, m1, m5⟩ := hs
  refine ⟨_, rfl, by omega, by omega, ?_⟩
  rw [rngD_nat]
  refine loop_inv (fun (i : Nat) => D.int (i : Int)) (fun i ρ μ' => ∃ w t s6, IsW w ∧ (TB i n t ∧ t.length = m) ∧ ρ = [some (.m 0), some (.d (.int (n : Int))), some (.d (.int (m : Int))), some (.d (tabD t)), some (.d (rowD ch)), some (.m (ms.length + 1)), s6, none, none] ∧ μ' = w :: (ms ++ [[]])) (List.range T) 0 _ _ ?_ ?_ ⟨w4, t, _, hw4, ht, rfl, rfl⟩
  · rintro i x _ _ hi ⟨w5, t, s6, hw5, ⟨ht, htl⟩, rfl, rfl⟩
    obtain ⟨e, hi⟩ := range_get hi
    subst e
    rw [Nat.zero_add] at ht ⊢
    refine ⟨trivial, fun k' _ hk => ?_⟩
    walk_at "dv"
    refine ⟨w5, _, x, n, t, ch, rfl, rfl, ⟨hw5, ht, by omega, hb⟩, fun t' w6 hw6 ht' => ?_⟩
    walk_at "dv"
    exact hk _ _ ⟨w6, t', _, hw6, ⟨ht'.1, by rw [ht'.2]; exact htl⟩, rfl, rfl⟩
  · rintro _ _ ⟨w5, t, s6, hw5, ⟨ht, htl⟩, rfl, rfl⟩
    rw [List.length_range, Nat.zero_add] at ht
    have ht := ht.up (l := 2) (by omega)
    refine ⟨trivial, ?_⟩
    walk_at "dv"
    refine ⟨by omega, by omega, ?_⟩
    rw [rngD_nat]
    refine loop_inv (fun (i : Nat) => D.int (i : Int)) (fun i ρ μ' => ∃ (w : List D) (ws : List (List Rat)) (s6 s7 s8 : Option S), IsW w ∧ (ws.length = i ∧ ∀ r ∈ ws, r.length = n ∧ RT 2 r) ∧ ρ = [some (.m 0), some (.d (.int (n : Int))), some (.d (.int (m : Int))), some (.d (tabD t)), some (.d (rowD ch)), some (.m (ms.length + 1)), s6, s7, s8] ∧ μ' = w :: (ms ++ [ws.map rowD])) (List.range m) 0 _ _ ?_ ?_ ⟨w5, [], _, _, _, hw5, ⟨rfl, fun r hr => by cases hr⟩, rfl, rfl⟩
    · rintro i x _ _ hi ⟨w5, ws, s6, s7, s8, hw5, ⟨hl, hr⟩, rfl, rfl⟩
      obtain ⟨e, hi⟩ := range_get hi
      subst e
      rw [Nat.zero_add] at hl ⊢
      refine ⟨trivial, fun k' _ hk => ?_⟩
      walk_at "dv"
      refine ⟨w5, _, 3, rfl, rfl, ⟨hw5, by decide, by decide⟩, fun way w6 hw6 y0 y1 => ?_⟩
      walk_at "dv"
      have hk2 : ∀ (l : List (List Rat)) (w7 : List D) (s6 s7 s8 : Option S), IsW w7 → l.length = x + 1 → (∀ r ∈ l, r.length = n ∧ RT 2 r) → k'.nx [some (.m 0), some (.d (.int (n : Int))), some (.d (.int (m : Int))), some (.d (tabD t)), some (.d (rowD ch)), some (.m (ms.length + 1)), s6, s7, s8] (w7 :: (ms ++ [l.map rowD])) := fun l w7 s6 s7 s8 hw7 h1 h2 => hk _ _ ⟨w7, l, _, _, _, hw7, ⟨h1, h2⟩, rfl, rfl⟩
      have h50 : (ws.map rowD).length < 50000 := by rw [List.length_map]; omega
      have hset : ∀ (w7 : List D) (rs : List Rat), List.set (w7 :: (ms ++ [ws.map rowD])) (ms.length + 1) (ws.map rowD ++ [rowD rs]) = w7 :: (ms ++ [(ws ++ [rs]).map rowD]) := fun w7 rs => by
        rw [List.set_cons_succ, set_last, List.map_append]
        rfl
      have hin : ∀ (rs : List Rat), (rs.length = n ∧ RT 2 rs) → ∀ r ∈ ws ++ [rs], r.length = n ∧ RT 2 r := fun rs h r hr' => by
        rcases List.mem_append.mp hr' with hr' | hr'
        · exact hr r hr'
        · rw [List.mem_singleton] at hr'; rw [hr']; exact h
      by_cases c0 : way = 0
      · rw [if_pos c0]
        refine ⟨w6, _, rfl, rfl, hw6, fun r w7 hw7 hr7 => ?_⟩
        have c1 : ¬ way = 1 := by omega
        refine ⟨by omega, by omega, _, by rw [List.getElem?_cons_succ]; exact get_last, h50, ?_⟩
        rw [if_neg c1, flat_rep, Int.toNat_natCast]
        have e : List.replicate n (frD r) = (List.replicate n r).map frD := by rw [List.map_replicate]
        rw [e]
        have e2 : D.tup ((List.replicate n r).map frD) = rowD (List.replicate n r) := rfl
        rw [e2, hset]
        exact hk2 _ w7 _ _ _ hw7 (by simp only [List.length_append, List.length_cons, List.length_nil]; omega) (hin _ ⟨List.length_replicate, nb_rt List.length_replicate n4 fun z hz => by rw [(List.mem_replicate.mp hz).2]; exact hr7⟩)
      · rw [if_neg c0]
        refine ⟨w6, _, n, rfl, rfl, ⟨hw6, by omega⟩, fun rs w7 hw7 hrs => ?_⟩
        have hrr : rs.length = n ∧ RT 2 rs := ⟨hrs.1, nb_rt hrs.1 n4 hrs.2⟩
        refine ⟨rowD rs, rfl, _, by rw [List.getElem?_cons_succ]; exact get_last, h50, ?_⟩
        rw [hset]
        by_cases c1 : way = 1
        · rw [if_pos c1]
          by_cases cx : (0 : Int) < (x : Int)
          · rw [if_pos cx]
            refine ⟨w7, _, x, rfl, rfl, ⟨hw7, cx, by omega⟩, fun j w8 hw8 j0 j1 => ?_⟩
            obtain ⟨j, rfl⟩ := Int.eq_ofNat_of_zero_le j0
            have hj : j < (ws ++ [rs]).length := by simp only [List.length_append, List.length_cons, List.length_nil]; omega
            refine ⟨rowD ((ws ++ [rs]).getD j []), ?_, _, by rw [List.getElem?_cons_succ]; exact get_last, by omega, by rw [List.length_map]; simp only [List.length_append, List.length_cons, List.length_nil]; omega, ?_⟩
            · show (if (j : Int) < 0 then none else match (w8 :: (ms ++ [(ws ++ [rs]).map rowD]))[ms.length + 1]? with
                | some ds => ds[((j : Nat) : Int).toNat]?
                | none => none) = _
              rw [if_neg (by omega), List.getElem?_cons_succ, get_last]
              exact get_rows hj
            · rw [List.set_cons_succ, set_last, Int.toNat_natCast, ← List.map_set]
              refine hk2 _ w8 _ _ _ hw8 (by rw [List.length_set]; simp only [List.length_append, List.length_cons, List.length_nil]; omega) fun r hr' => ?_
              rcases List.mem_or_eq_of_mem_set hr' with hr' | hr'
              · exact hin _ hrr r hr'
              · rw [hr']; exact hin _ hrr _ (getD_mem hj)
          · rw [if_neg cx]
            exact hk2 _ w7 _ _ _ hw7 (by simp only [List.length_append, List.length_cons, List.length_nil]; omega) (hin _ hrr)
        · rw [if_neg c1]
          exact hk2 _ w7 _ _ _ hw7 (by simp only [List.length_append, List.length_cons, List.length_nil]; omega) (hin _ hrr)
    · rintro _ _ ⟨w5, ws, s6, s7, s8, hw5, ⟨hl, hr⟩, rfl, rfl⟩
      rw [List.length_range, Nat.zero_add] at hl
      refine ⟨trivial, ?_⟩
      walk_at "dv"
      refine ⟨_, by rw [get_last]; rfl, ?_⟩
      rw [List.take_left]
      exact q (t, ws) ch n w5 hw5 ⟨⟨ht, n2, by show ws.length = t.length; omega, hr⟩, hb⟩
end K3

/-! part K3i -/
set_option Elab.async false
set_option linter.all false
set_option maxRecDepth 100000
set_option autoImplicit false
set_option exponentiation.threshold 4000
namespace K3
open PySem PySem.Spec L2 DV
open PyProof.Rows (envOfC)
variable {P : Program} {w : World} {K : PySem.W.Frag} {mg : Str → Option Value} {base : Heap}

local macro_rules | `(tactic| walk_at "dv") => `(tactic| simp only [startR, kD, fin, fSeq, fNext, fDrop, fNRep, fNRg, fParN0, fPar3, fPar3N, fAsg, fRet, fIfS, fNever, fPar, fNew, fApp, fVar, fC, fOp, fTest, fTAnd, fTOr, fTNot, fVAnd, fVOr, fVNot, fNeg, fIf, fChain, fANil, fACons, fTup, fLst, fCB, fNLst, fOfN, fYes, fIsi, fONone, fOSome, fSl, sliceF,
  gF, gA, cI, fI, c0, cAdd, fAdd, fIx, cRepT, fRepT, fEq, fNe, fNotIn, intsOf, blsOf, allD, seqOf, tupOf, fLen, cA0, f1L, gSum, gAll, gAny, fTupleOf, fListOf, fA1, fA2, cDm, gN, gsNil_eq, gsCons_eq, gT_eq, gSb_eq, isB, itemsOf, fISeq, fIRng, fIEnum, fIZip, fIZipTL, fFor, fLc, wipeR, fCall, fCallK,
  List.map_cons, List.map_nil, List.length_cons, List.length_nil, List.replicate_succ, List.replicate_zero, List.cons_append, List.nil_append, List.append_nil, List.getElem?_cons_zero, List.getElem?_cons_succ, List.getElem?_nil, List.set_cons_zero, List.set_cons_succ, List.set_nil, List.take_succ_cons, List.take_zero, List.take_nil,
  Option.map_some, Option.map_none, Option.some.injEq, Option.get_some, exists_eq_left', exists_eq_left, exists_eq_right, true_and, and_true, if_true, if_false, reduceCtorEq, ite_true, ite_false, S.d.injEq, S.m.injEq, D.int.injEq, D.tup.injEq, D.lst.injEq, D.bl.injEq, D.str.injEq, List.cons.injEq, exists_and_left, exists_and_right,
  Nat.sub_zero, Nat.reduceSub, Nat.reduceAdd, Nat.zero_add, Nat.add_zero, Bool.not_true, Bool.not_false, Bool.false_eq_true, decide_eq_true_eq, Nat.reduceLT, Nat.reduceLeDiff, Nat.le_refl, List.take_length, Int.reduceLT, Int.reduceToNat, Nat.lt_irrefl, gt_iff_lt, Nat.not_lt_zero, Int.cast_ofNat_Int, decide_true, decide_false, and_assoc])


/-- pays moved by a row and taken times a number -/
def moveR (ys : List Rat) (c : Rat) (r : List Rat) : List Rat := (r.zip ys).map fun p => (p.1 + p.2) * c
def IsBy (c : Rat) : Prop := 0 < c ∧ c.den ≤ 7 ∧ Mg (10 ^ 12) c
theorem move_len {ys r : List Rat} {c : Rat} {n : Nat} (h1 : r.length = n) (h2 : ys.length = n) : (moveR ys c r).length = n := by
  unfold moveR
  rw [List.length_map, List.length_zip]
  omega
theorem dp_move {c : Rat} (hc : c.den ≤ 7) : ∀ (r ys : List Rat), r.length = ys.length → (∀ y ∈ ys, NB y) → dp (moveR ys c r) ≤ dp r * 512 ^ r.length
  | [], [], _, _ => by simp [moveR, dp]
  | [], _ :: _, h, _ => by simp at h
  | _ :: _, [], h, _ => by simp at h
  | x :: r, y :: ys, h, hy => by
    have ih := dp_move hc r ys (by simpa using h) fun z hz => hy z (List.mem_cons_of_mem _ hz)
    have e : moveR (y :: ys) c (x :: r) = (x + y) * c :: moveR ys c r := rfl
    rw [e, dp_cons, dp_cons, List.length_cons, Nat.pow_succ]
    have d1 := den_mul_le (x + y) c
    have d2 := den_add_le x y
    have d3 := Nat.mul_le_mul d2 hc
    have d4 : x.den * y.den * 7 ≤ x.den * 512 := by
      rw [Nat.mul_assoc]
      refine Nat.mul_le_mul_left _ ?_
      have := (hy y (by simp)).1
      omega
    have d5 := Nat.mul_le_mul (Nat.le_trans d1 (Nat.le_trans d3 d4)) ih
    refine Nat.le_trans d5 (Nat.le_of_eq ?_)
    simp only [Nat.mul_assoc, Nat.mul_comm, Nat.mul_left_comm]
theorem move_mg {ys r : List Rat} {c : Rat} (hr : RT 2 r) (hy : ∀ y ∈ ys, NB y) (hc : IsBy c) : ∀ z ∈ moveR ys c r, Mg (2 ^ 133) z := fun z hz => by
  obtain ⟨p, hp, rfl⟩ := List.mem_map.mp hz
  exact mg_mono (mg_mul (mg_add (hr.mg _ (List.of_mem_zip hp).1) (hy _ (List.of_mem_zip hp).2).2) hc.2.2) (by decide)
theorem move_rb {ys r : List Rat} {c : Rat} {n : Nat} (h4 : n ≤ 4) (hl : r.length = n) (hly : ys.length = n) (hr : RT 2 r) (hy : ∀ y ∈ ys, NB y) (hc : IsBy c) : RB (moveR ys c r) := by
  refine ⟨by rw [move_len hl hly]; exact h4, ?_, fun z hz => mg_lt (move_mg hr hy hc z hz) (Nat.pow_lt_pow_right (by decide) (by decide))⟩
  have h1 := dp_move hc.2.1 r ys (by omega) hy
  have h2 : 512 ^ r.length ≤ 512 ^ 4 := Nat.pow_le_pow_right (by decide) (by omega)
  have h3 : 512 ^ r.length < 2 ^ 40 := Nat.lt_of_le_of_lt h2 (by decide)
  exact Nat.lt_of_lt_of_le (Nat.lt_of_le_of_lt h1 (pow_mul_lt hr.dpl h3)) (Nat.pow_le_pow_right (by decide) (by decide))
theorem dot_move (c : Rat) : ∀ (r ys ch : List Rat), r.length = ys.length → r.length = ch.length → dotR (moveR ys c r) ch = (dotR r ch + dotR ys ch) * c
  | [], [], ch, _, _ => by simp only [moveR, List.zip_nil_left, List.map_nil, dotR]; grind
  | [], _ :: _, _, h, _ => by simp at h
  | _ :: _, [], _, h, _ => by simp at h
  | x :: r, y :: ys, [], _, h => by simp at h
  | x :: r, y :: ys, z :: ch, h1, h2 => by
    have ih := dot_move c r ys ch (by simpa using h1) (by simpa using h2)
    have e : moveR (y :: ys) c (x :: r) = (x + y) * c :: moveR ys c r := rfl
    rw [e]
    simp only [dotR]
    rw [ih]
    grind

def T__law_moved : TF := fun ss μ P => ∃ w ms wd n, ss = [.m 0, .d (worldD wd)] ∧ μ = w :: ms ∧ (IsW w ∧ LW wd n) ∧ ∀ ys c w', IsW w' → (ys.length = n ∧ IsBy c ∧ ∀ y ∈ ys, NB y) → P (worldD (wd.1.map (moveR ys c), wd.2)) (w' :: ms)
theorem mon__law_moved : MonF T__law_moved := fun ss μ P P' k ⟨a, b, wd, n, e, e2, h, q⟩ => ⟨a, b, wd, n, e, e2, h, fun ys c w' h1 h2 => k _ _ (q ys c w' h1 h2)⟩
theorem ok__law_moved (t : Top K mg "_law_moved" s__law_moved ["_law_well_here", "_law_world_here"]) (C__law_one : DefOk P w K mg base "_law_one" 2 2 T__law_one) (C__law_plus : DefOk P w K mg base "_law_plus" 2 2 T__law_plus) (C__law_row : DefOk P w K mg base "_law_row" 3 2 T__law_row) (C__law_times : DefOk P w K mg base "_law_times" 2 2 T__law_times) (m_len : mg "len" = none) (m_tuple : mg "tuple" = none) (m_zip : mg "zip" = none) :
    DefOk P w K mg base "_law_moved" 4 2 T__law_moved := by
  have nd := (sc__law_moved).nd
  refine ok_defD (k := 3) t sc__law_moved mon__law_moved (fun f cdv A outer s H E hr =>
    (pds_cons (pds_asg (pd_tup (pda_cons (pd_callD C__law_row (hr.mono (by decide)) (by rfl) (pda_cons (pd_var (pv 0)) (pda_cons (pd_B call_len_seq snd_len mon_gA (by rfl) m_len bt_len (pda_cons (pd_ix ix_ok mon_gF snd_ix (fun _ _ => rfl) (pd_ix ix_ok mon_gF snd_ix (fun _ _ => rfl) (pd_var (pv 1)) pd_int) pd_int) pda_nil)) pda_nil))) (pda_cons (pd_callD C__law_one (hr.mono (by decide)) (by rfl) (pda_cons (pd_var (pv 0)) (pda_cons (pd_tup (pda_cons (pd_tup (pda_cons pd_int (pda_cons pd_int pda_nil))) (pda_cons (pd_tup (pda_cons pd_int (pda_cons pd_int pda_nil))) (pda_cons (pd_tup (pda_cons pd_int (pda_cons pd_int pda_nil))) (pda_cons (pd_tup (pda_cons pd_int (pda_cons pd_int pda_nil))) (pda_cons (pd_tup (pda_cons (pd_op op_pow mon_gF snd_I pd_int pd_int) (pda_cons pd_int pda_nil))) pda_nil)))))) pda_nil))) pda_nil))) (pdg_tup (n := 2) rfl (pdgs_cons (pdg_name (pg_name (i := 2) nd rfl (by first | exact Or.inl rfl | exact Or.inr rfl))) (pdgs_cons (pdg_name (pg_name (i := 3) nd rfl (by first | exact Or.inl rfl | exact Or.inr rfl))) pdgs_nil))))
      (pds_cons (pds_setLc (i := 4) (own := [("_law_each", 5)]) rfl nd rfl rfl (sw_true rfl rfl rfl (by decide +kernel)) (pdi_seq (pd_ix ix_ok mon_gF snd_ix (fun _ _ => rfl) (pd_var (pv 1)) pd_int)) (blkOk_by (N := N__law_moved) (sc := defScope s__law_moved) (by decide +kernel)) (fun _ _ _ _ _ => (pdg_name (pg_name (i := 5) nd rfl (by first | exact Or.inl rfl | exact Or.inr rfl)))) (fun _ _ _ _ _ => pdts_nil) (fun _ _ _ _ _ => (pd_Ty call_tuple_of snd_tupleOf mon_gA (by rfl) m_tuple bt_tuple (pda_cons (pd_of_N (pdn_lc (own := [("_law_x", 6), ("_law_y", 7)]) rfl nd (pdi_zipTL (by rfl) m_zip (pda_cons (pd_var (pv 5)) (pda_cons (pd_var (pv 2)) pda_nil))) (blkOk_in (N := N__law_moved) rfl (by decide +kernel)) (fun _ _ _ _ _ => (pdg_tup (n := 2) rfl (pdgs_cons (pdg_name (pg_name (i := 6) nd rfl (by first | exact Or.inl rfl | exact Or.inr rfl))) (pdgs_cons (pdg_name (pg_name (i := 7) nd rfl (by first | exact Or.inl rfl | exact Or.inr rfl))) pdgs_nil)))) (fun _ _ _ _ _ => pdts_nil) (fun _ _ _ _ _ => (pd_callD C__law_times (hr.mono (by decide)) (by rfl) (pda_cons (pd_callD C__law_plus (hr.mono (by decide)) (by rfl) (pda_cons (pd_var (pv 6)) (pda_cons (pd_var (pv 7)) pda_nil))) (pda_cons (pd_var (pv 3)) pda_nil)))) (by decide))) pda_nil))) (by decide))
      (pds_one (pd_ret (pd_tup (pda_cons (pd_Ty call_tuple_of snd_tupleOf mon_gA (by rfl) m_tuple bt_tuple (pda_cons (pd_var (pv 4)) pda_nil)) (pda_cons (pd_ix ix_ok mon_gF snd_ix (fun _ _ => rfl) (pd_var (pv 1)) pd_int) pda_nil)))))))) ?_
  intro ss μ Q hl h
  obtain ⟨w0, ms, wd, n, rfl, rfl, ⟨hw, hd⟩, q⟩ := h
  have hw0 : worldD wd = .tup [tabD wd.1, tabD wd.2] := rfl
  rw [hw0]
  walk_at "dv"
  have m1 := hd.t.m1
  have m5 := hd.t.m5
  have n4 := hd.t.n4
  have hT : tabD wd.1 = .tup (wd.1.map rowD) := rfl
  have hr0 := (hd.t.row _ (getD_mem (t := wd.1) (a := 0) (by omega))).1
  refine ⟨rowD (wd.1.getD 0 []), by rw [hT]; exact get_rows (by omega), .int (n : Int), by show some (D.int (((wd.1.getD 0 []).map frD).length : Nat)) = _; rw [List.length_map, hr0], ?_⟩
  refine ⟨w0, _, n, rfl, rfl, ⟨hw, by omega⟩, fun ys w1 hw1 hy => ?_⟩
  refine ⟨⟨by decide, by decide, by decide⟩, ?_⟩
  refine ⟨w1, _, _, .inl rfl, rfl, ⟨hw1, by simp, by simp⟩, fun d w2 hw2 hd2 => ?_⟩
  obtain ⟨c, rfl, hc⟩ : ∃ c : Rat, d = frD c ∧ IsBy c := by
    simp only [List.mem_cons, List.not_mem_nil, or_false] at hd2
    rcases hd2 with rfl | rfl | rfl | rfl | rfl
    · exact ⟨1, rfl, by decide, by decide, by unfold Mg; decide⟩
    · exact ⟨3, rfl, by decide, by decide, by unfold Mg; decide⟩
    · exact ⟨Rat.divInt 1 2, by unfold frD; rfl, by decide, by decide, by unfold Mg; decide⟩
    · exact ⟨Rat.divInt 5 7, by unfold frD; rfl, by decide, by decide, by unfold Mg; decide⟩
    · exact ⟨((10 ^ 12 : Int) : Rat), rfl, by decide, by decide, by unfold Mg; decide⟩
  refine ⟨(wd.1.map rowD, fun _ => True), rfl, ?_⟩
  refine lc_pure rowD (fun r => some (rowD (moveR ys c r))) (fun _ => trivial) wd.1 [] _ _ (fun r hr μ' P P2 h => ?_) (by simp only [List.length_nil]; omega) ?_
  · have hrt := hd.t.row r hr
    have hRL : rowL ys = .lst (ys.map frD) := rfl
    unfold rowD
    rw [hRL]
    walk_at "dv"
    rw [zip_fr]
    refine lc_pure (fun p : Rat × Rat => D.tup [frD p.1, frD p.2]) (fun p => some (frD ((p.1 + p.2) * c))) (fun _ => trivial) _ [] _ _ (fun p hp μ' P P2 h => ?_) (by simp only [List.length_nil, List.length_zip]; omega) ?_
    · have e1 := hrt.2.mg _ (List.of_mem_zip hp).1
      have e1d := Nat.lt_of_le_of_lt (den_dp (List.of_mem_zip hp).1) hrt.2.dpl
      have e2 := hy.2 _ (List.of_mem_zip hp).2
      walk_at "dv"
      have p60 : (60 : Nat) < 2 ^ 6 := by decide
      have sx : Sm p.1 := sm_of (a := 1440) (b := 92) e1d e1 (Nat.le_refl _) (by decide)
      have sy : Sm p.2 := (nb_eb e2).sm (by decide)
      have sd : (p.1 + p.2).den < 2 ^ (1440 + 6) := Nat.lt_of_le_of_lt (den_add_le _ _) (pow_mul_lt e1d (Nat.lt_of_le_of_lt e2.1 p60))
      have sxy : Sm (p.1 + p.2) := sm_of (a := 1446) (b := 93) sd (mg_add e1 e2.2) (by decide) (by decide)
      have sc : Sm c := sm_of (a := 3) (b := 40) (Nat.lt_of_le_of_lt hc.2.1 (by decide)) hc.2.2 (by decide) (by decide)
      refine ⟨p.1, p.2, rfl, ⟨sx, sy⟩, ?_⟩
      exact ⟨_, c, rfl, ⟨sxy, sc⟩, h⟩
    · have e : (r.zip ys).filterMap (fun p => some (frD ((p.1 + p.2) * c))) = (moveR ys c r).map frD := by
        unfold moveR
        rw [List.map_map, List.filterMap_eq_map']
        rfl
      rw [e, List.nil_append]
      exact h
  · have e : wd.1.filterMap (fun r => some (rowD (moveR ys c r))) = (wd.1.map (moveR ys c)).map rowD := by
      rw [List.map_map, List.filterMap_eq_map']
      rfl
    rw [e, List.nil_append, List.take_succ_cons, List.take_length]
    exact q ys c w2 hw2 ⟨hy.1, hc, hy.2⟩

theorem move_wb {wd : List (List Rat) × List (List Rat)} {n : Nat} {ys : List Rat} {c : Rat} (hd : LW wd n) (h : ys.length = n ∧ IsBy c ∧ ∀ y ∈ ys, NB y) : WB (wd.1.map (moveR ys c), wd.2) n := by
  have b := hd.wb
  refine ⟨by simpa using b.m1, by simpa using b.m5, by simpa using b.eq, b.n2, b.n4, fun r hr => ?_, b.r2⟩
  obtain ⟨r0, hr0, rfl⟩ := List.mem_map.mp hr
  have h1 := hd.t.row r0 hr0
  exact ⟨move_len h1.1 h.1, move_rb hd.t.n4 h1.1 h.1 h1.2 h.2.2 h.2.1⟩
theorem best_mono {ps : List Rat} {f : Rat → Rat} (hf : ∀ x y : Rat, f x ≤ f y ↔ x ≤ y) : bestR (ps.map f) = bestR ps := by
  unfold bestR
  rw [List.length_map]
  refine List.filter_congr fun a ha => ?_
  have ha := List.mem_range.mp ha
  have e : (ps.map f).getD a 0 = f (ps.getD a 0) := by
    rw [List.getD_eq_getElem?_getD, List.getElem?_map, List.getD_eq_getElem?_getD, List.getElem?_eq_getElem ha]
    rfl
  rw [e]
  unfold isMax
  rw [List.all_map]
  exact List.all_congr rfl fun x => by simp only [Function.comp, hf]
theorem move_best {wd : List (List Rat) × List (List Rat)} {n : Nat} {ys ch : List Rat} {c : Rat} (hd : LW wd n) (h : ys.length = n ∧ IsBy c ∧ ∀ y ∈ ys, NB y) (hb : ch.length = n) : bestA (wd.1.map (moveR ys c), wd.2) ch = bestA wd ch := by
  unfold bestA
  have e : paid (wd.1.map (moveR ys c)) ch = (paid wd.1 ch).map fun p => (p + dotR ys ch) * c := by
    unfold paid
    rw [List.map_map, List.map_map]
    refine List.map_congr_left fun r hr => ?_
    have h1 := (hd.t.row r hr).1
    exact dot_move c r ys ch (by omega) (by omega)
  show bestR (paid (wd.1.map (moveR ys c)) ch) = _
  rw [e]
  refine best_mono fun x y => ?_
  have hc := h.2.1.1
  constructor
  · intro q
    have := Rat.le_of_mul_le_mul_right q hc
    exact Rat.add_le_add_right.mp this
  · intro q
    exact Rat.mul_le_mul_of_nonneg_right (Rat.add_le_add_right.mpr q) (Rat.le_of_lt hc)
theorem move_choice {wd : List (List Rat) × List (List Rat)} {n : Nat} {ys ch : List Rat} {c : Rat} (hd : LW wd n) (h : ys.length = n ∧ IsBy c ∧ ∀ y ∈ ys, NB y) (hb : ch.length = n) :
    choiceR (wd.1.map (moveR ys c), wd.2) ch = choiceR wd ch ∧ valueR (wd.1.map (moveR ys c), wd.2) ch = valueR wd ch := by
  have e := move_best hd h hb
  have ew : bestW (wd.1.map (moveR ys c), wd.2) ch = bestW wd ch := by unfold bestW; rw [e]
  have ev : valueR (wd.1.map (moveR ys c), wd.2) ch = valueR wd ch := by unfold valueR; rw [ew]
  refine ⟨?_, ev⟩
  unfold choiceR
  rw [ev, e]

end K3

/-! part K3j -/
set_option Elab.async false
set_option linter.all false
set_option maxRecDepth 100000
set_option autoImplicit false
set_option exponentiation.threshold 4000
namespace K3
open PySem PySem.Spec L2 DV
open PyProof.Rows (envOfC)
variable {P : Program} {w : World} {K : PySem.W.Frag} {mg : Str → Option Value} {base : Heap}

local macro_rules | `(tactic| walk_at "dv") => `(tactic| simp only [startR, kD, fin, fSeq, fNext, fDrop, fNRep, fNRg, fParN0, fPar3, fPar3N, fAsg, fRet, fIfS, fNever, fPar, fNew, fApp, fVar, fC, fOp, fTest, fTAnd, fTOr, fTNot, fVAnd, fVOr, fVNot, fNeg, fIf, fChain, fANil, fACons, fTup, fLst, fCB, fNLst, fOfN, fYes, fIsi, fONone, fOSome, fSl, sliceF,
  gF, gA, cI, fI, c0, cAdd, fAdd, fIx, cRepT, fRepT, fEq, fNe, fNotIn, intsOf, blsOf, allD, seqOf, tupOf, fLen, cA0, f1L, gSum, gAll, gAny, fTupleOf, fListOf, fA1, fA2, cDm, gN, gsNil_eq, gsCons_eq, gT_eq, gSb_eq, isB, itemsOf, fISeq, fIRng, fIEnum, fIZip, fIZipTL, fFor, fLc, wipeR, fCall, fCallK, kwS, pick, gRepr, cRepr, List.filterMap_cons_some, List.filterMap_nil,
  List.map_cons, List.map_nil, List.length_cons, List.length_nil, List.replicate_succ, List.replicate_zero, List.cons_append, List.nil_append, List.append_nil, List.getElem?_cons_zero, List.getElem?_cons_succ, List.getElem?_nil, List.set_cons_zero, List.set_cons_succ, List.set_nil, List.take_succ_cons, List.take_zero, List.take_nil,
  Option.map_some, Option.map_none, Option.some.injEq, Option.get_some, exists_eq_left', exists_eq_left, exists_eq_right, true_and, and_true, if_true, if_false, reduceCtorEq, ite_true, ite_false, S.d.injEq, S.m.injEq, D.int.injEq, D.tup.injEq, D.lst.injEq, D.bl.injEq, D.str.injEq, List.cons.injEq, exists_and_left, exists_and_right,
  Nat.sub_zero, Nat.reduceSub, Nat.reduceAdd, Nat.zero_add, Nat.add_zero, Bool.not_true, Bool.not_false, Bool.false_eq_true, decide_eq_true_eq, Nat.reduceLT, Nat.reduceLeDiff, Nat.le_refl, List.take_length, Int.reduceLT, Int.reduceToNat, Nat.lt_irrefl, gt_iff_lt, Nat.not_lt_zero, Int.cast_ofNat_Int, decide_true, decide_false, and_assoc])


theorem log_lt2 {n k : Nat} (hk : 0 < k) (h : n < 2 ^ k) : n.log2 < k := by
  by_cases c : n = 0
  · subst c; simpa [Nat.log2_zero] using hk
  · exact (Nat.log2_lt c).mpr h
theorem sh_frL {r : Rat} (hd : r.den < 2 ^ 1700) (hm : Mg (2 ^ 152) r) : Sh 1 4000 (frD r) := by
  have h1 : r.num.natAbs < 2 ^ 1852 := by
    have := Nat.lt_of_le_of_lt hm (Nat.mul_lt_mul_of_pos_left hd (Nat.pow_pos (n := 152) (by decide)))
    rwa [← Nat.pow_add] at this
  have p1 : (2 : Nat) ^ 1852 ≤ 2 ^ 1920 := Nat.pow_le_pow_right (by decide) (by decide)
  have p2 : (2 : Nat) ^ 1700 ≤ 2 ^ 1920 := Nat.pow_le_pow_right (by decide) (by decide)
  have a : Sh 0 1921 (.int r.num) := sh_int (log_lt2 (by decide) (Nat.lt_of_lt_of_le h1 p1))
  have b : Sh 0 1921 (.int (r.den : Int)) := sh_int (log_lt2 (by decide) (Nat.lt_of_lt_of_le (show ((r.den : Int)).natAbs < 2 ^ 1700 from hd) p2))
  have := sh_tup (k := 0) (n := 1921) (ds := [.int r.num, .int (r.den : Int)]) fun d hd => by
    simp only [List.mem_cons, List.not_mem_nil, or_false] at hd
    rcases hd with rfl | rfl
    · exact a
    · exact b
  exact this.mono (Nat.le_refl _) (by simp)
theorem sh_dot {t : List (List Rat)} {n : Nat} {ch : List Rat} (h : ∀ r ∈ t, r.length = n ∧ RB r) (hb : CB ch) : ∀ p ∈ paid t ch, Sh 1 4000 (frD p) := fun p hp => by
  obtain ⟨r, hr, rfl⟩ := List.mem_map.mp hp
  have := dot_sm (h r hr).2 hb
  exact sh_frL this.1 this.2
theorem sh_frs {ps : List Rat} (hl : ps.length ≤ 5) (h : ∀ p ∈ ps, Sh 1 4000 (frD p)) : Sh 10 1000000 (.lst (ps.map frD)) := by
  have := sh_lst (k := 1) (n := 4000) (ds := ps.map frD) fun d hd => by
    obtain ⟨p, hp, rfl⟩ := List.mem_map.mp hd
    exact h p hp
  exact this.mono (by decide) (by rw [List.length_map]; omega)
theorem sh_nat {a : Nat} (h : a ≤ 100) : Sh 0 1921 (.int (a : Int)) := sh_int (log_lt2 (by decide) (Nat.lt_of_le_of_lt (show ((a : Int)).natAbs ≤ 100 by omega) (Nat.lt_of_lt_of_le (show 100 < 2 ^ 7 by decide) (Nat.pow_le_pow_right (by decide) (by decide)))))
theorem choice_le {wd : List (List Rat) × List (List Rat)} {n : Nat} {ch : List Rat} (h1 : WB wd n) : choiceR wd ch ≤ 100 := by
  obtain ⟨a, l, hb, hlt, hl5⟩ := best_of (ch := ch) h1
  unfold choiceR
  cases e : (bestA wd ch).filter fun a => decide (dotR (wd.2.getD a []) ch = valueR wd ch) with
  | nil => exact Nat.zero_le _
  | cons b l2 =>
    have : b ∈ bestA wd ch := (List.mem_filter.mp (by rw [e]; simp)).1
    have := hlt b this
    have := h1.eq
    have := h1.m5
    show b ≤ 100
    omega
theorem sh_told {wd : List (List Rat) × List (List Rat)} {n : Nat} {ch : List Rat} (h1 : WB wd n) (hb : CB ch) : Sh 10 1000000 (.tup [.tup ((bestA wd ch).map fun (a : Nat) => D.int (a : Int)), .int (choiceR wd ch : Int), frD (valueR wd ch)]) := by
  obtain ⟨a, l, hbe, hlt, hl5⟩ := best_of (ch := ch) h1
  have m5 := h1.m5
  have eqm := h1.eq
  have a1 : Sh 2 20000 (.tup ((bestA wd ch).map fun (a : Nat) => D.int (a : Int))) := by
    have := sh_tup (k := 0) (n := 1921) (ds := (bestA wd ch).map fun (a : Nat) => D.int (a : Int)) fun d hd => by
      obtain ⟨b, hb, rfl⟩ := List.mem_map.mp hd
      have := hlt b hb
      exact sh_nat (by omega)
    exact this.mono (by decide) (by rw [List.length_map]; omega)
  have a2 : Sh 2 20000 (.int (choiceR wd ch : Int)) := (sh_nat (choice_le h1)).mono (by decide) (by decide)
  have a3 : Sh 2 20000 (frD (valueR wd ch)) := by
    have vm := value_max (wd := wd) (ch := ch) (by rw [hbe]; simp)
    obtain ⟨b, hb1, hb2⟩ := List.mem_map.mp vm.1
    have := dot_sm (h1.r2 _ (getD_mem (hlt b hb1))).2 hb
    rw [hb2] at this
    exact (sh_frL this.1 this.2).mono (by decide) (by decide)
  have := sh_tup (k := 2) (n := 20000) (ds := [.tup ((bestA wd ch).map fun (a : Nat) => D.int (a : Int)), .int (choiceR wd ch : Int), frD (valueR wd ch)]) fun d hd => by
    simp only [List.mem_cons, List.not_mem_nil, or_false] at hd
    rcases hd with rfl | rfl | rfl
    · exact a1
    · exact a2
    · exact a3
  exact this.mono (by decide) (by simp)
theorem map_getD {β : Type} (f : List Rat → β) (t : List (List Rat)) : (List.range t.length).map (fun a => f (t.getD a [])) = t.map f := by
  refine List.ext_getElem (by simp) fun i h1 h2 => ?_
  rw [List.getElem_map, List.getElem_range, List.getElem_map, List.getD_eq_getElem?_getD, List.getElem?_eq_getElem (by simpa using h2)]
  rfl

def T__law_there : TF := fun ss μ P => ∃ wd n ch, ss = [.d (worldD wd), .d (rowD ch)] ∧ (WB wd n ∧ BB ch n) ∧ P (.bl true) μ
theorem mon__law_there : MonF T__law_there := fun ss μ P P' k ⟨a, b, c, e, h, q⟩ => ⟨a, b, c, e, h, k _ _ q⟩
theorem ok__law_there (t : Top K mg "_law_there" s__law_there ["_law_world_here", "_law_chance_here"]) (C__law_best : DefOk P w K mg base "_law_best" 4 2 T__law_best) (C__law_choice : DefOk P w K mg base "_law_choice" 5 2 T__law_choice) (C__law_dot : DefOk P w K mg base "_law_dot" 3 2 T__law_dot) (C_best_actions : DefOk P w K mg base "best_actions" 7 2 T_best_actions) (C_choice : DefOk P w K mg base "choice" 7 2 T_choice) (C_pay : DefOk P w K mg base "pay" 7 3 T_pay) (C_value : DefOk P w K mg base "value" 7 2 T_value) (C_worth : DefOk P w K mg base "worth" 7 3 T_worth) (m_len : mg "len" = none) (m_list : mg "list" = none) (m_range : mg "range" = none) (m_repr : mg "repr" = none) (m_tuple : mg "tuple" = none) :
    DefOkG P w K mg base "_law_there" 8 2 T__law_there := by
  have nd := (sc__law_there).nd
  refine ok_defDG (k := 7) t sc__law_there mon__law_there (fun f cdv A outer s H E hgd hr =>
    (pds_cons (pds_par (pda_cons (pd_callD C__law_best (hr.mono (by decide)) (by rfl) (pda_cons (pd_ix ix_ok mon_gF snd_ix (fun _ _ => rfl) (pd_var (pv 0)) pd_int) (pda_cons (pd_var (pv 1)) pda_nil))) (pda_cons (pd_callD C__law_choice (hr.mono (by decide)) (by rfl) (pda_cons (pd_var (pv 0)) (pda_cons (pd_var (pv 1)) pda_nil))) pda_nil)) (fun _ h => ps_par (i := 2) (j := 3) rfl nd rfl rfl (by decide) rfl rfl h rfl))
      (pds_cons (pds_set (pd_of_N (pdn_listRg rfl (by rfl) m_list (by rfl) m_range (pd_B call_len_seq snd_len mon_gA (by rfl) m_len bt_len (pda_cons (pd_ix ix_ok mon_gF snd_ix (fun _ _ => rfl) (pd_var (pv 0)) pd_int) pda_nil)))) (fun _ h => ps_set (i := 4) nd rfl (by first | exact Or.inl rfl | exact Or.inr rfl) h))
      (pds_cons (pds_if (ptd_cmp op_ne mon_gF snd_ne (nomark _) (pd_B (call_repr hgd hr) snd_repr mon_gA (by rfl) m_repr bt_repr (pda_cons (pd_of_N (pdn_lc (own := [("_law_act", 6)]) rfl nd (pdi_seq (pd_var (pv 4))) (blkOk_by (N := N__law_there) (sc := defScope s__law_there) (by decide +kernel)) (fun _ _ _ _ _ => (pdg_name (pg_name (i := 6) nd rfl (by first | exact Or.inl rfl | exact Or.inr rfl)))) (fun _ _ _ _ _ => pdts_nil) (fun _ _ _ _ _ => (pd_callD C_pay (hr.mono (by decide)) (by rfl) (pda_cons (pd_var (pv 0)) (pda_cons (pd_var (pv 6)) (pda_cons (pd_var (pv 1)) pda_nil))))) (by decide))) pda_nil)) (pd_B (call_repr hgd hr) snd_repr mon_gA (by rfl) m_repr bt_repr (pda_cons (pd_of_N (pdn_lc (own := [("_law_row_here", 7)]) rfl nd (pdi_seq (pd_ix ix_ok mon_gF snd_ix (fun _ _ => rfl) (pd_var (pv 0)) pd_int)) (blkOk_by (N := N__law_there) (sc := defScope s__law_there) (by decide +kernel)) (fun _ _ _ _ _ => (pdg_name (pg_name (i := 7) nd rfl (by first | exact Or.inl rfl | exact Or.inr rfl)))) (fun _ _ _ _ _ => pdts_nil) (fun _ _ _ _ _ => (pd_callD C__law_dot (hr.mono (by decide)) (by rfl) (pda_cons (pd_var (pv 7)) (pda_cons (pd_var (pv 1)) pda_nil)))) (by decide))) pda_nil))) (pds_one (pd_ret pd_bl)) pds_nil)
      (pds_cons (pds_if (ptd_cmp op_ne mon_gF snd_ne (nomark _) (pd_B (call_repr hgd hr) snd_repr mon_gA (by rfl) m_repr bt_repr (pda_cons (pd_of_N (pdn_lc (own := [("_law_act", 6)]) rfl nd (pdi_seq (pd_var (pv 4))) (blkOk_by (N := N__law_there) (sc := defScope s__law_there) (by decide +kernel)) (fun _ _ _ _ _ => (pdg_name (pg_name (i := 6) nd rfl (by first | exact Or.inl rfl | exact Or.inr rfl)))) (fun _ _ _ _ _ => pdts_nil) (fun _ _ _ _ _ => (pd_callD C_worth (hr.mono (by decide)) (by rfl) (pda_cons (pd_var (pv 0)) (pda_cons (pd_var (pv 6)) (pda_cons (pd_var (pv 1)) pda_nil))))) (by decide))) pda_nil)) (pd_B (call_repr hgd hr) snd_repr mon_gA (by rfl) m_repr bt_repr (pda_cons (pd_of_N (pdn_lc (own := [("_law_row_here", 7)]) rfl nd (pdi_seq (pd_ix ix_ok mon_gF snd_ix (fun _ _ => rfl) (pd_var (pv 0)) pd_int)) (blkOk_by (N := N__law_there) (sc := defScope s__law_there) (by decide +kernel)) (fun _ _ _ _ _ => (pdg_name (pg_name (i := 7) nd rfl (by first | exact Or.inl rfl | exact Or.inr rfl)))) (fun _ _ _ _ _ => pdts_nil) (fun _ _ _ _ _ => (pd_callD C__law_dot (hr.mono (by decide)) (by rfl) (pda_cons (pd_var (pv 7)) (pda_cons (pd_var (pv 1)) pda_nil)))) (by decide))) pda_nil))) (pds_one (pd_ret pd_bl)) pds_nil)
      (pds_cons (pds_set (pd_tup (pda_cons (pd_callD C_best_actions (hr.mono (by decide)) (by rfl) (pda_cons (pd_var (pv 0)) (pda_cons (pd_var (pv 1)) pda_nil))) (pda_cons (pd_callD C_choice (hr.mono (by decide)) (by rfl) (pda_cons (pd_var (pv 0)) (pda_cons (pd_var (pv 1)) pda_nil))) (pda_cons (pd_callD C_value (hr.mono (by decide)) (by rfl) (pda_cons (pd_var (pv 0)) (pda_cons (pd_var (pv 1)) pda_nil))) pda_nil)))) (fun _ h => ps_set (i := 5) nd rfl (by first | exact Or.inl rfl | exact Or.inr rfl) h))
      (pds_one (pd_ret (pd_cmp (eq_ok hr.units) mon_gF snd_eq (nomark _) (pd_B (call_repr hgd hr) snd_repr mon_gA (by rfl) m_repr bt_repr (pda_cons (pd_var (pv 5)) pda_nil)) (pd_B (call_repr hgd hr) snd_repr mon_gA (by rfl) m_repr bt_repr (pda_cons (pd_tup (pda_cons (pd_Ty call_tuple_of snd_tupleOf mon_gA (by rfl) m_tuple bt_tuple (pda_cons (pd_var (pv 2)) pda_nil)) (pda_cons (pd_ix ix_ok mon_gF snd_ix (fun _ _ => rfl) (pd_var (pv 3)) pd_int) (pda_cons (pd_ix ix_ok mon_gF snd_ix (fun _ _ => rfl) (pd_var (pv 3)) pd_int) pda_nil)))) pda_nil))))))))))) ?_
  intro ss μ Q hl h
  obtain ⟨wd, n, ch, rfl, ⟨h1, h2⟩, q⟩ := h
  have hw : worldD wd = .tup [tabD wd.1, tabD wd.2] := rfl
  rw [hw]
  walk_at "dv"
  have m5 := h1.m5
  have m1 := h1.m1
  have eqm := h1.eq
  have hT1 : tabD wd.1 = .tup (wd.1.map rowD) := rfl
  have hT2 : tabD wd.2 = .tup (wd.2.map rowD) := rfl
  have eb : bestR (paid wd.1 ch) = bestA wd ch := rfl
  have lp1 : (paid wd.1 ch).length = wd.1.length := by unfold paid; rw [List.length_map]
  have lp2 : (paid wd.2 ch).length = wd.2.length := by unfold paid; rw [List.length_map]
  have dots : ∀ (t : List (List Rat)), t.filterMap (fun r => some (frD (dotR r ch))) = (paid t ch).map frD := fun t => by
    unfold paid
    rw [List.map_map, List.filterMap_eq_map']
    rfl
  have rngs : ∀ (t : List (List Rat)), (List.range t.length).filterMap (fun a => some (frD (dotR (t.getD a []) ch))) = (paid t ch).map frD := fun t => by
    rw [List.filterMap_eq_map', map_getD fun r => frD (dotR r ch)]
    unfold paid
    rw [List.map_map]
    rfl
  refine ⟨wd.1, ch, rfl, ⟨by omega, fun r hr => ⟨by rw [(h1.r1 r hr).1, h2.len], (h1.r1 r hr).2⟩, h2.cb⟩, ?_⟩
  refine ⟨wd, n, ch, rfl, ⟨h1, h2⟩, ?_⟩
  refine ⟨.int (wd.1.length : Int), by show some (D.int ((wd.1.map rowD).length : Nat)) = _; rw [List.length_map], _, rfl, by omega, by omega, ?_⟩
  rw [rngD_nat, eb]
  refine lc_pure (fun (a : Nat) => D.int (a : Int)) (fun a => some (frD (dotR (wd.1.getD a []) ch))) (fun _ => trivial) (List.range wd.1.length) [] μ _ (fun a ha μ' P P2 h => ?_) (by simp; omega) ?_
  · walk_at "dv"
    exact ⟨wd, n, ch, a, rfl, ⟨h1, List.mem_range.mp ha, h2⟩, h⟩
  rw [rngs, List.nil_append]
  refine ⟨sh_frs (by omega) (sh_dot h1.r1 h2.cb), (wd.1.map rowD, fun _ => True), rfl, ?_⟩
  refine lc_pure rowD (fun r => some (frD (dotR r ch))) (fun _ => trivial) wd.1 [] μ _ (fun r hr μ' P P2 h => ?_) (by simp; omega) ?_
  · walk_at "dv"
    exact ⟨r, ch, rfl, ⟨(h1.r1 r hr).2, h2.cb, by rw [(h1.r1 r hr).1, h2.len]⟩, h⟩
  rw [dots, List.nil_append]
  refine ⟨sh_frs (by omega) (sh_dot h1.r1 h2.cb), ?_⟩
  rw [if_neg (by simp)]
  rw [← eqm]
  refine lc_pure (fun (a : Nat) => D.int (a : Int)) (fun a => some (frD (dotR (wd.2.getD a []) ch))) (fun _ => trivial) (List.range wd.2.length) [] μ _ (fun a ha μ' P P2 h => ?_) (by simp; omega) ?_
  · walk_at "dv"
    exact ⟨wd, n, ch, a, rfl, ⟨h1, by have := List.mem_range.mp ha; omega, h2⟩, h⟩
  rw [rngs, List.nil_append]
  refine ⟨sh_frs (by omega) (sh_dot h1.r2 h2.cb), (wd.2.map rowD, fun _ => True), rfl, ?_⟩
  refine lc_pure rowD (fun r => some (frD (dotR r ch))) (fun _ => trivial) wd.2 [] μ _ (fun r hr μ' P P2 h => ?_) (by simp; omega) ?_
  · walk_at "dv"
    exact ⟨r, ch, rfl, ⟨(h1.r2 r hr).2, h2.cb, by rw [(h1.r2 r hr).1, h2.len]⟩, h⟩
  rw [dots, List.nil_append]
  refine ⟨sh_frs (by omega) (sh_dot h1.r2 h2.cb), ?_⟩
  rw [if_neg (by simp)]
  refine ⟨wd, n, ch, rfl, ⟨h1, h2⟩, ?_⟩
  refine ⟨wd, n, ch, rfl, ⟨h1, h2⟩, ?_⟩
  refine ⟨wd, n, ch, rfl, ⟨h1, h2⟩, ?_⟩
  walk_at "dv"
  have hall := sh_told (ch := ch) h1 h2.cb
  exact ⟨hall, hall, q⟩
end K3

/-! part K3k -/
set_option Elab.async false
set_option linter.all false
set_option maxRecDepth 100000
set_option autoImplicit false
set_option exponentiation.threshold 4000
set_option maxHeartbeats 2000000
namespace K3
open PySem PySem.Spec L2 DV
open PyProof.Rows (envOfC)
variable {P : Program} {w : World} {K : PySem.W.Frag} {mg : Str → Option Value} {base : Heap}

local macro_rules | `(tactic| walk_at "dv") => `(tactic| simp only [startR, kD, fin, fSeq, fNext, fDrop, fNRep, fNRg, fParN0, fPar3, fPar3N, fAsg, fRet, fIfS, fNever, fPar, fNew, fApp, fVar, fC, fOp, fTest, fTAnd, fTOr, fTNot, fVAnd, fVOr, fVNot, fNeg, fIf, fChain, fANil, fACons, fTup, fLst, fCB, fNLst, fOfN, fYes, fIsi, fONone, fOSome, fSl, sliceF,
  gF, gA, cI, fI, c0, cAdd, fAdd, fIx, cRepT, fRepT, fEq, fNe, fNotIn, intsOf, blsOf, allD, seqOf, tupOf, fLen, cA0, f1L, gSum, gAll, gAny, fTupleOf, fListOf, fA1, fA2, cDm, gN, gsNil_eq, gsCons_eq, gT_eq, gSb_eq, isB, itemsOf, fISeq, fIRng, fIEnum, fIZip, fIZipTL, fFor, fLc, wipeR, fCall, fCallK, kwS, pick, gRepr, cRepr, List.filterMap_cons_some, List.filterMap_nil,
  List.map_cons, List.map_nil, List.length_cons, List.length_nil, List.replicate_succ, List.replicate_zero, List.cons_append, List.nil_append, List.append_nil, List.getElem?_cons_zero, List.getElem?_cons_succ, List.getElem?_nil, List.set_cons_zero, List.set_cons_succ, List.set_nil, List.take_succ_cons, List.take_zero, List.take_nil,
  Option.map_some, Option.map_none, Option.some.injEq, Option.get_some, exists_eq_left', exists_eq_left, exists_eq_right, true_and, and_true, if_true, if_false, reduceCtorEq, ite_true, ite_false, S.d.injEq, S.m.injEq, D.int.injEq, D.tup.injEq, D.lst.injEq, D.bl.injEq, D.str.injEq, List.cons.injEq, exists_and_left, exists_and_right,
  Nat.sub_zero, Nat.reduceSub, Nat.reduceAdd, Nat.zero_add, Nat.add_zero, Bool.not_true, Bool.not_false, Bool.false_eq_true, decide_eq_true_eq, Nat.reduceLT, Nat.reduceLeDiff, Nat.le_refl, List.take_length, Int.reduceLT, Int.reduceToNat, Nat.lt_irrefl, gt_iff_lt, Nat.not_lt_zero, Int.cast_ofNat_Int, decide_true, decide_false, and_assoc])


theorem unit_bb {n s : Nat} (h2 : 2 ≤ n) (h4 : n ≤ 4) (hs : s < n) : BB (unitR n s) n := by
  have key : ∀ n' ∈ [2, 3, 4], ∀ s' ∈ List.range n', (unitR n' s').length ≤ 4 ∧ dp (unitR n' s') < 2 ^ 100 ∧ (∀ r ∈ unitR n' s', 0 ≤ r.num ∧ r.num ≤ r.den) ∧ (unitR n' s').length = n' ∧ sumR (unitR n' s') = 1 := by decide +kernel
  have hn : n ∈ [2, 3, 4] := by simp; omega
  obtain ⟨a, b, c, d, e⟩ := key n hn s (List.mem_range.mpr hs)
  exact ⟨⟨a, b, c⟩, d, e⟩
theorem unit_sh {n s : Nat} (h4 : n ≤ 4) : Sh 10 1000000 (rowD (unitR n s)) := by
  have := sh_tup (k := 1) (n := 4000) (ds := (unitR n s).map frD) fun d hd => by
    obtain ⟨r, hr, rfl⟩ := List.mem_map.mp hd
    obtain ⟨k, _, rfl⟩ := List.mem_map.mp hr
    by_cases c : k = s
    · rw [if_pos c]; exact sh_frL (by decide) (by unfold Mg; decide)
    · rw [if_neg c]; exact sh_frL (by decide) (by unfold Mg; decide)
  refine this.mono (by decide) ?_
  rw [List.length_map]
  unfold unitR
  rw [List.length_map, List.length_range]
  omega
theorem sh_toldL {wd : List (List Rat) × List (List Rat)} {n : Nat} {ch : List Rat} (h1 : WB wd n) (hb : CB ch) : Sh 10 1000000 (.lst [.tup ((bestA wd ch).map fun (a : Nat) => D.int (a : Int)), .int (choiceR wd ch : Int), frD (valueR wd ch)]) := by
  obtain ⟨a, l, hbe, hlt, hl5⟩ := best_of (ch := ch) h1
  have m5 := h1.m5
  have eqm := h1.eq
  have a1 : Sh 2 20000 (.tup ((bestA wd ch).map fun (a : Nat) => D.int (a : Int))) := by
    have := sh_tup (k := 0) (n := 1921) (ds := (bestA wd ch).map fun (a : Nat) => D.int (a : Int)) fun d hd => by
      obtain ⟨b, hb, rfl⟩ := List.mem_map.mp hd
      have := hlt b hb
      exact sh_nat (by omega)
    exact this.mono (by decide) (by rw [List.length_map]; omega)
  have a2 : Sh 2 20000 (.int (choiceR wd ch : Int)) := (sh_nat (choice_le h1)).mono (by decide) (by decide)
  have a3 : Sh 2 20000 (frD (valueR wd ch)) := by
    have vm := value_max (wd := wd) (ch := ch) (by rw [hbe]; simp)
    obtain ⟨b, hb1, hb2⟩ := List.mem_map.mp vm.1
    have := dot_sm (h1.r2 _ (getD_mem (hlt b hb1))).2 hb
    rw [hb2] at this
    exact (sh_frL this.1 this.2).mono (by decide) (by decide)
  have := sh_lst (k := 2) (n := 20000) (ds := [.tup ((bestA wd ch).map fun (a : Nat) => D.int (a : Int)), .int (choiceR wd ch : Int), frD (valueR wd ch)]) fun d hd => by
    simp only [List.mem_cons, List.not_mem_nil, or_false] at hd
    rcases hd with rfl | rfl | rfl
    · exact a1
    · exact a2
    · exact a3
  exact this.mono (by decide) (by simp)
theorem sh_two {r s : Rat} (h1 : Sh 1 4000 (frD r)) (h2 : Sh 1 4000 (frD s)) : Sh 10 1000000 (.lst [frD r, frD s]) := by
  have := sh_lst (k := 1) (n := 4000) (ds := [frD r, frD s]) fun d hd => by
    simp only [List.mem_cons, List.not_mem_nil, or_false] at hd
    rcases hd with rfl | rfl
    · exact h1
    · exact h2
  exact this.mono (by decide) (by simp)
theorem allR_more {A : Nat} : ∀ {l : List Rat} {ds : List D}, AllR (fun x d => ∃ e : Rat, d = frD (x + e) ∧ e.den ≤ 3 ∧ Mg 1 e) l ds → (∀ x ∈ l, Mg A x) → ∃ rs : List Rat, ds = rs.map frD ∧ rs.length = l.length ∧ dp rs ≤ dp l * 3 ^ l.length ∧ ∀ r ∈ rs, Mg (A + 1) r
  | _, _, .nil, _ => ⟨[], rfl, rfl, by simp [dp], fun k hk => by cases hk⟩
  | x :: l, _, .cons ⟨e, h, h1, h2⟩ r, hA => by
    obtain ⟨rs, rfl, hl, hd, hm⟩ := allR_more r fun y hy => hA y (List.mem_cons_of_mem _ hy)
    refine ⟨(x + e) :: rs, by rw [h]; rfl, by simp [hl], ?_, fun y hy => ?_⟩
    · rw [dp_cons, dp_cons, List.length_cons, Nat.pow_succ]
      have d1 := Nat.le_trans (den_add_le x e) (Nat.mul_le_mul_left _ h1)
      refine Nat.le_trans (Nat.mul_le_mul d1 hd) (Nat.le_of_eq ?_)
      simp only [Nat.mul_assoc, Nat.mul_comm, Nat.mul_left_comm]
    · rcases List.mem_cons.mp hy with rfl | hy
      · exact mg_add (hA x (by simp)) h2
      · exact hm y hy

def T__law_right : TF := fun ss μ P => ∃ w ms, ss = [.m 0] ∧ μ = w :: ms ∧ IsW w ∧ ∀ w', P (.bl true) (w' :: ms)
theorem mon__law_right : MonF T__law_right := fun ss μ P P' k ⟨a, b, e, e2, h, q⟩ => ⟨a, b, e, e2, h, fun w' => k _ _ (q w')⟩
theorem ok__law_right (t : Top K mg "_law_right" s__law_right ["_law_well_here"]) (C__law_best : DefOk P w K mg base "_law_best" 4 2 T__law_best) (C__law_chance : DefOk P w K mg base "_law_chance" 3 2 T__law_chance) (C__law_choice : DefOk P w K mg base "_law_choice" 5 2 T__law_choice) (C__law_dot : DefOk P w K mg base "_law_dot" 3 2 T__law_dot) (C__law_draw : DefOk P w K mg base "_law_draw" 1 2 T__law_draw) (C__law_moved : DefOk P w K mg base "_law_moved" 4 2 T__law_moved) (C__law_one : DefOk P w K mg base "_law_one" 2 2 T__law_one) (C__law_plus : DefOk P w K mg base "_law_plus" 2 2 T__law_plus) (C__law_there : DefOkG P w K mg base "_law_there" 8 2 T__law_there) (C__law_world : DefOk P w K mg base "_law_world" 5 1 T__law_world) (C_sure : DefOk P w K mg base "sure" 7 2 T_sure) (C_value : DefOk P w K mg base "value" 7 2 T_value) (CK_best_actions__belief_setting : DefOkK P w K mg base "best_actions" 7 2 ["belief", "setting"] T_best_actions [1, 0]) (CK_choice__setting_belief : DefOkK P w K mg base "choice" 7 2 ["setting", "belief"] T_choice [0, 1]) (CK_pay__action_belief_setting : DefOkK P w K mg base "pay" 7 3 ["action", "belief", "setting"] T_pay [2, 0, 1]) (CK_sure__state_setting : DefOkK P w K mg base "sure" 7 2 ["state", "setting"] T_sure [1, 0]) (CK_worth__belief_setting_action : DefOkK P w K mg base "worth" 7 3 ["belief", "setting", "action"] T_worth [1, 2, 0]) (m_len : mg "len" = none) (m_range : mg "range" = none) (m_repr : mg "repr" = none) (m_tuple : mg "tuple" = none) :
    DefOkG P w K mg base "_law_right" 9 1 T__law_right := by
  have nd := (sc__law_right).nd
  refine ok_defDG (k := 8) t sc__law_right mon__law_right (fun f cdv A outer s H E hgd hr =>
    (pds_cons (pds_asg (pd_callD C__law_world (hr.mono (by decide)) (by rfl) (pda_cons (pd_var (pv 0)) pda_nil)) (pdg_tup (n := 2) rfl (pdgs_cons (pdg_name (pg_name (i := 1) nd rfl (by first | exact Or.inl rfl | exact Or.inr rfl))) (pdgs_cons (pdg_name (pg_name (i := 2) nd rfl (by first | exact Or.inl rfl | exact Or.inr rfl))) pdgs_nil))))
      (pds_cons (pds_par (pda_cons (pd_B call_len_seq snd_len mon_gA (by rfl) m_len bt_len (pda_cons (pd_var (pv 2)) pda_nil)) (pda_cons (pd_B call_len_seq snd_len mon_gA (by rfl) m_len bt_len (pda_cons (pd_ix ix_ok mon_gF snd_ix (fun _ _ => rfl) (pd_var (pv 1)) pd_int) pda_nil)) pda_nil)) (fun _ h => ps_par (i := 3) (j := 4) rfl nd rfl rfl (by decide) rfl rfl h rfl))
      (pds_cons (pds_if (ptd_w (pdw_or (ptd_not (ptd_val (pd_callDG C__law_there hgd (hr.mono (by decide)) (by rfl) (pda_cons (pd_var (pv 1)) (pda_cons (pd_var (pv 2)) pda_nil))))) (pdw_or1 (ptd_not (ptd_val (pd_callDG C__law_there hgd (hr.mono (by decide)) (by rfl) (pda_cons (pd_var (pv 1)) (pda_cons (pd_callD C__law_chance (hr.mono (by decide)) (by rfl) (pda_cons (pd_var (pv 0)) (pda_cons (pd_var (pv 3)) pda_nil))) pda_nil)))))))) (pds_one (pd_ret pd_bl)) pds_nil)
      (pds_cons (pds_for PassesOwn.never rfl (pdi_range (by rfl) m_range (pda_cons (pd_var (pv 3)) pda_nil)) (pdg_name (pg_name (i := 5) nd rfl (by first | exact Or.inl rfl | exact Or.inr rfl))) (pds_cons (pds_set (pd_Ty call_tuple_of snd_tupleOf mon_gA (by rfl) m_tuple bt_tuple (pda_cons (pd_of_N (pdn_lc (own := [("_law_k", 14)]) rfl nd (pdi_range (by rfl) m_range (pda_cons (pd_var (pv 3)) pda_nil)) (blkOk_by (N := N__law_right) (sc := defScope s__law_right) (by decide +kernel)) (fun _ _ _ _ _ => (pdg_name (pg_name (i := 14) nd rfl (by first | exact Or.inl rfl | exact Or.inr rfl)))) (fun _ _ _ _ _ => pdts_nil) (fun _ _ _ _ _ => (pd_if (ptd_cmp (eq_ok hr.units) mon_gF snd_eq (nomark _) (pd_var (pv 14)) (pd_var (pv 5))) (pd_tup (pda_cons pd_int (pda_cons pd_int pda_nil))) (pd_tup (pda_cons pd_int (pda_cons pd_int pda_nil))))) (by decide))) pda_nil)) (fun _ h => ps_set (i := 6) nd rfl (by first | exact Or.inl rfl | exact Or.inr rfl) h))
      (pds_one (pds_if (ptd_w (pdw_or (ptd_cmp op_ne mon_gF snd_ne (nomark _) (pd_B (call_repr hgd hr) snd_repr mon_gA (by rfl) m_repr bt_repr (pda_cons (pd_callD C_sure (hr.mono (by decide)) (by rfl) (pda_cons (pd_var (pv 1)) (pda_cons (pd_var (pv 5)) pda_nil))) pda_nil)) (pd_B (call_repr hgd hr) snd_repr mon_gA (by rfl) m_repr bt_repr (pda_cons (pd_var (pv 6)) pda_nil))) (pdw_or1 (ptd_not (ptd_val (pd_callDG C__law_there hgd (hr.mono (by decide)) (by rfl) (pda_cons (pd_var (pv 1)) (pda_cons (pd_callKD CK_sure__state_setting (hr.mono (by decide)) (by rfl) (pdk_cons (pd_var (pv 5)) (pdk_cons (pd_var (pv 1)) pdk_nil))) pda_nil)))))))) (pds_one (pd_ret pd_bl)) pds_nil))))
      (pds_cons (pds_par (pda_cons (pd_Ty call_tuple_of snd_tupleOf mon_gA (by rfl) m_tuple bt_tuple (pda_cons (pd_callD C__law_best (hr.mono (by decide)) (by rfl) (pda_cons (pd_ix ix_ok mon_gF snd_ix (fun _ _ => rfl) (pd_var (pv 1)) pd_int) (pda_cons (pd_var (pv 2)) pda_nil))) pda_nil)) (pda_cons (pd_callD C__law_choice (hr.mono (by decide)) (by rfl) (pda_cons (pd_var (pv 1)) (pda_cons (pd_var (pv 2)) pda_nil))) pda_nil)) (fun _ h => ps_par (i := 7) (j := 8) rfl nd rfl rfl (by decide) rfl rfl h rfl))
      (pds_cons (pds_par (pda_cons (pd_callD C__law_moved (hr.mono (by decide)) (by rfl) (pda_cons (pd_var (pv 0)) (pda_cons (pd_var (pv 1)) pda_nil))) (pda_cons (pd_callD C__law_draw (hr.mono (by decide)) (by rfl) (pda_cons (pd_var (pv 0)) (pda_cons (pd_var (pv 4)) pda_nil))) pda_nil)) (fun _ h => ps_par (i := 9) (j := 10) rfl nd rfl rfl (by decide) rfl rfl h rfl))
      (pds_cons (pds_set (pd_lst (pda_cons (pd_callKD CK_best_actions__belief_setting (hr.mono (by decide)) (by rfl) (pdk_cons (pd_var (pv 2)) (pdk_cons (pd_var (pv 9)) pdk_nil))) (pda_cons (pd_callKD CK_choice__setting_belief (hr.mono (by decide)) (by rfl) (pdk_cons (pd_var (pv 9)) (pdk_cons (pd_var (pv 2)) pdk_nil))) (pda_cons (pd_callD C_value (hr.mono (by decide)) (by rfl) (pda_cons (pd_var (pv 9)) (pda_cons (pd_var (pv 2)) pda_nil))) pda_nil)))) (fun _ h => ps_set (i := 11) nd rfl (by first | exact Or.inl rfl | exact Or.inr rfl) h))
      (pds_cons (pds_if (ptd_cmp op_ne mon_gF snd_ne (nomark _) (pd_B (call_repr hgd hr) snd_repr mon_gA (by rfl) m_repr bt_repr (pda_cons (pd_var (pv 11)) pda_nil)) (pd_B (call_repr hgd hr) snd_repr mon_gA (by rfl) m_repr bt_repr (pda_cons (pd_lst (pda_cons (pd_var (pv 7)) (pda_cons (pd_ix ix_ok mon_gF snd_ix (fun _ _ => rfl) (pd_var (pv 8)) pd_int) (pda_cons (pd_ix ix_ok mon_gF snd_ix (fun _ _ => rfl) (pd_var (pv 8)) pd_int) pda_nil)))) pda_nil))) (pds_one (pd_ret pd_bl)) pds_nil)
      (pds_cons (pds_set (pd_lst (pda_cons (pd_callKD CK_pay__action_belief_setting (hr.mono (by decide)) (by rfl) (pdk_cons (pd_var (pv 10)) (pdk_cons (pd_var (pv 2)) (pdk_cons (pd_var (pv 1)) pdk_nil)))) (pda_cons (pd_callKD CK_worth__belief_setting_action (hr.mono (by decide)) (by rfl) (pdk_cons (pd_var (pv 2)) (pdk_cons (pd_var (pv 1)) (pdk_cons (pd_var (pv 10)) pdk_nil)))) pda_nil))) (fun _ h => ps_set (i := 11) nd rfl (by first | exact Or.inl rfl | exact Or.inr rfl) h))
      (pds_cons (pds_if (ptd_cmp op_ne mon_gF snd_ne (nomark _) (pd_B (call_repr hgd hr) snd_repr mon_gA (by rfl) m_repr bt_repr (pda_cons (pd_var (pv 11)) pda_nil)) (pd_B (call_repr hgd hr) snd_repr mon_gA (by rfl) m_repr bt_repr (pda_cons (pd_lst (pda_cons (pd_callD C__law_dot (hr.mono (by decide)) (by rfl) (pda_cons (pd_ix ix_ok mon_gF snd_ix (fun _ _ => rfl) (pd_ix ix_ok mon_gF snd_ix (fun _ _ => rfl) (pd_var (pv 1)) pd_int) (pd_var (pv 10))) (pda_cons (pd_var (pv 2)) pda_nil))) (pda_cons (pd_callD C__law_dot (hr.mono (by decide)) (by rfl) (pda_cons (pd_ix ix_ok mon_gF snd_ix (fun _ _ => rfl) (pd_ix ix_ok mon_gF snd_ix (fun _ _ => rfl) (pd_var (pv 1)) pd_int) (pd_var (pv 10))) (pda_cons (pd_var (pv 2)) pda_nil))) pda_nil))) pda_nil))) (pds_one (pd_ret pd_bl)) pds_nil)
      (pds_cons (pds_set (pd_Ty call_tuple_of snd_tupleOf mon_gA (by rfl) m_tuple bt_tuple (pda_cons (pd_of_N (pdn_lc (own := [("_law_x", 13)]) rfl nd (pdi_seq (pd_ix ix_ok mon_gF snd_ix (fun _ _ => rfl) (pd_ix ix_ok mon_gF snd_ix (fun _ _ => rfl) (pd_var (pv 1)) pd_int) (pd_var (pv 10)))) (blkOk_by (N := N__law_right) (sc := defScope s__law_right) (by decide +kernel)) (fun _ _ _ _ _ => (pdg_name (pg_name (i := 13) nd rfl (by first | exact Or.inl rfl | exact Or.inr rfl)))) (fun _ _ _ _ _ => pdts_nil) (fun _ _ _ _ _ => (pd_callD C__law_plus (hr.mono (by decide)) (by rfl) (pda_cons (pd_var (pv 13)) (pda_cons (pd_callD C__law_one (hr.mono (by decide)) (by rfl) (pda_cons (pd_var (pv 0)) (pda_cons (pd_tup (pda_cons (pd_tup (pda_cons pd_int (pda_cons pd_int pda_nil))) (pda_cons (pd_tup (pda_cons pd_int (pda_cons pd_int pda_nil))) (pda_cons (pd_tup (pda_cons pd_int (pda_cons pd_int pda_nil))) pda_nil)))) pda_nil))) pda_nil)))) (by decide))) pda_nil)) (fun _ h => ps_set (i := 12) nd rfl (by first | exact Or.inl rfl | exact Or.inr rfl) h))
      (pds_one (pd_ret (pd_callDG C__law_there hgd (hr.mono (by decide)) (by rfl) (pda_cons (pd_tup (pda_cons (pd_ix ix_ok mon_gF snd_ix (fun _ _ => rfl) (pd_var (pv 1)) pd_int) (pda_cons (pd_op add_ok mon_gF snd_add (pd_op add_ok mon_gF snd_add (pd_slice (pd_ix ix_ok mon_gF snd_ix (fun _ _ => rfl) (pd_var (pv 1)) pd_int) pdo_none (pdo_some (pd_var (pv 10)))) (pd_tup (pda_cons (pd_var (pv 12)) pda_nil))) (pd_slice (pd_ix ix_ok mon_gF snd_ix (fun _ _ => rfl) (pd_var (pv 1)) pd_int) (pdo_some (pd_op add_ok mon_gF snd_add (pd_var (pv 10)) pd_int)) pdo_none)) pda_nil))) (pda_cons (pd_var (pv 2)) pda_nil))))))))))))))))) ?_
  intro ss μ Q hl h
  obtain ⟨w0, ms, rfl, rfl, hw, q⟩ := h
  walk_at "dv"
  refine ⟨w0, _, rfl, rfl, hw, fun wd ch n w1 hw1 hd => ?_⟩
  walk_at "dv"
  obtain ⟨hd, hb⟩ := hd
  have wb := hd.wb
  have m1 := wb.m1
  have m5 := wb.m5
  have n2 := wb.n2
  have n4 := wb.n4
  have hcl := hb.len
  have hT1 : tabD wd.1 = .tup (wd.1.map rowD) := rfl
  have hT2 : tabD wd.2 = .tup (wd.2.map rowD) := rfl
  have hW : worldD wd = .tup [tabD wd.1, tabD wd.2] := rfl
  refine ⟨.int (n : Int), by show some (D.int ((ch.map frD).length : Nat)) = _; rw [List.length_map, hcl], tabD wd.1, rfl, .int (wd.1.length : Int), by show some (D.int ((wd.1.map rowD).length : Nat)) = _; rw [List.length_map], ?_⟩
  refine ⟨wd, n, ch, rfl, ⟨wb, hb.bb⟩, ?_⟩
  walk_at "dv"
  refine ⟨w1, _, n, rfl, rfl, ⟨hw1, by omega, n4⟩, fun ch2 w2 hw2 hb2 => ?_⟩
  refine ⟨wd, n, ch2, rfl, ⟨wb, hb2.bb⟩, ?_⟩
  walk_at "dv"
  refine ⟨by omega, by omega, ?_⟩
  rw [rngD_nat]
  refine loop_inv (fun (i : Nat) => D.int (i : Int)) (fun _ ρ μ' => ∃ (s5 s6 : Option S), ρ = [some (.m 0), some (.d (worldD wd)), some (.d (rowD ch)), some (.d (.int (n : Int))), some (.d (.int (wd.1.length : Int))), s5, s6, none, none, none, none, none, none, none, none] ∧ μ' = w2 :: ms) (List.range n) 0 _ _ ?_ ?_ ⟨_, _, rfl, rfl⟩
  · rintro i s _ _ hi ⟨s5, s6, rfl, rfl⟩
    obtain ⟨e, hi⟩ := range_get hi
    subst e
    refine ⟨trivial, fun k' hrt hk => ?_⟩
    walk_at "dv"
    refine ⟨by omega, by omega, ?_⟩
    rw [rngD_nat]
    refine lc_pure (fun (k : Nat) => D.int (k : Int)) (fun k => some (frD (if k = s then 1 else 0))) (fun _ => trivial) (List.range n) [] _ _ (fun k hk μ' P P2 h => ?_) (by simp; omega) ?_
    · walk_at "dv"
      by_cases c : (k : Int) = (s : Int)
      · have c' : k = s := by omega
        rw [if_pos c]
        rw [if_pos c'] at h
        exact h
      · have c' : ¬ k = s := by omega
        rw [if_neg c]
        rw [if_neg c'] at h
        exact h
    · have e : (List.range n).filterMap (fun k => some (frD (if k = s then 1 else 0))) = (unitR n s).map frD := by
        unfold unitR
        rw [List.map_map, List.filterMap_eq_map']
        rfl
      rw [e, List.nil_append]
      have hu := unit_bb n2 n4 hi
      have hsh := unit_sh (n := n) (s := s) n4
      have hR : rowD (unitR n s) = .tup ((unitR n s).map frD) := rfl
      refine ⟨wd, n, s, rfl, ⟨wb, hi⟩, ?_⟩
      rw [hR] at hsh ⊢
      refine ⟨hsh, _, rfl, hsh, _, rfl, ?_⟩
      show if (!decide (shD (.tup ((unitR n s).map frD)) = shD (.tup ((unitR n s).map frD)))) = true then _ else _
      rw [if_neg (by simp)]
      refine ⟨wd, n, s, rfl, ⟨wb, hi⟩, ?_⟩
      refine ⟨wd, n, _, rfl, ⟨wb, hu⟩, ?_⟩
      exact hk _ _ ⟨_, _, rfl, rfl⟩
  · rintro _ _ ⟨s5, s6, rfl, rfl⟩
    refine ⟨trivial, ?_⟩
    walk_at "dv"
    have eb : bestR (paid wd.1 ch) = bestA wd ch := rfl
    have tl := sh_toldL (ch := ch) wb hb.bb.cb
    refine ⟨tabD wd.1, rfl, ?_⟩
    refine ⟨wd.1, ch, rfl, ⟨by omega, fun r hr => ⟨by rw [(wb.r1 r hr).1, hcl], (wb.r1 r hr).2⟩, hb.bb.cb⟩, ?_⟩
    rw [eb]
    refine ⟨_, rfl, ?_⟩
    refine ⟨wd, n, ch, rfl, ⟨wb, hb.bb⟩, ?_⟩
    refine ⟨w2, ms, wd, n, rfl, rfl, ⟨hw2, hd⟩, fun ys c w3 hw3 hm => ?_⟩
    refine ⟨w3, _, (wd.1.length : Int), rfl, rfl, ⟨hw3, by omega, by omega⟩, fun act w4 hw4 a0 a1 => ?_⟩
    obtain ⟨act, rfl⟩ := Int.eq_ofNat_of_zero_le a0
    have ha : act < wd.1.length := by omega
    have ha2 : act < wd.2.length := by rw [wb.eq]; exact ha
    have mwb := move_wb hd hm
    have mb := move_best hd hm hcl
    have mc := move_choice hd hm hcl
    refine ⟨(wd.1.map (moveR ys c), wd.2), n, ch, rfl, ⟨mwb, hb.bb⟩, ?_⟩
    refine ⟨(wd.1.map (moveR ys c), wd.2), n, ch, rfl, ⟨mwb, hb.bb⟩, ?_⟩
    refine ⟨(wd.1.map (moveR ys c), wd.2), n, ch, rfl, ⟨mwb, hb.bb⟩, ?_⟩
    rw [mb, mc.1, mc.2]
    refine ⟨tl, _, rfl, _, rfl, tl, ?_⟩
    rw [if_neg (by simp)]
    have p1 := dot_sm (wb.r1 _ (getD_mem ha)).2 hb.bb.cb
    have p2 := dot_sm (wb.r2 _ (getD_mem ha2)).2 hb.bb.cb
    have tw := sh_two (sh_frL p1.1 p1.2) (sh_frL p2.1 p2.2)
    refine ⟨wd, n, ch, act, rfl, ⟨wb, ha, hb.bb⟩, ?_⟩
    refine ⟨wd, n, ch, act, rfl, ⟨wb, ha, hb.bb⟩, ?_⟩
    refine ⟨tw, tabD wd.1, rfl, rowD (wd.1.getD act []), ?_, ?_⟩
    · rw [hT1]
      show (if (act : Int) < 0 then none else (wd.1.map rowD)[((act : Nat) : Int).toNat]?) = _
      rw [if_neg (by omega), Int.toNat_natCast]
      exact get_rows ha
    refine ⟨_, ch, rfl, ⟨(wb.r1 _ (getD_mem ha)).2, hb.bb.cb, by rw [(wb.r1 _ (getD_mem ha)).1, hcl]⟩, ?_⟩
    refine ⟨tabD wd.2, rfl, rowD (wd.2.getD act []), ?_, ?_⟩
    · rw [hT2]
      show (if (act : Int) < 0 then none else (wd.2.map rowD)[((act : Nat) : Int).toNat]?) = _
      rw [if_neg (by omega), Int.toNat_natCast]
      exact get_rows ha2
    refine ⟨_, ch, rfl, ⟨(wb.r2 _ (getD_mem ha2)).2, hb.bb.cb, by rw [(wb.r2 _ (getD_mem ha2)).1, hcl]⟩, ?_⟩
    refine ⟨tw, ?_⟩
    rw [if_neg (by simp)]
    have hrw := hd.w _ (getD_mem ha2)
    have hget : ∀ {μ' : Mu}, (match S.d (worldD wd) with
        | .d (.tup ds) => ds[1]?
        | .d (.lst ds) => ds[1]?
        | .m j => match μ'[j]? with
          | some ds => ds[1]?
          | none => none
        | _ => none) = some (tabD wd.2) := fun {_} => rfl
    refine ⟨tabD wd.2, rfl, rowD (wd.2.getD act []), ?_, ((wd.2.getD act []).map frD, fun _ => True), rfl, ?_⟩
    · rw [hT2]
      show (if (act : Int) < 0 then none else (wd.2.map rowD)[((act : Nat) : Int).toNat]?) = _
      rw [if_neg (by omega), Int.toNat_natCast]
      exact get_rows ha2
    refine lc_draw frD (fun x d => ∃ e : Rat, d = frD (x + e) ∧ e.den ≤ 3 ∧ Mg 1 e) ms (fun _ _ => trivial) (wd.2.getD act []) [] w4 _ (fun a ha w acc P P2 hw hk => ?_) hw4 (by rw [hrw.1]; simp only [List.length_nil]; omega) (fun ds w5 hw5 hR => ?_)
    · walk_at "dv"
      refine ⟨w, _, _, .inl rfl, rfl, ⟨hw, by simp, by simp⟩, fun d w' hw' hdm => ?_⟩
      obtain ⟨e, rfl, he⟩ : ∃ e : Rat, d = frD e ∧ e.den ≤ 3 ∧ Mg 1 e := by
        simp only [List.mem_cons, List.not_mem_nil, or_false] at hdm
        rcases hdm with rfl | rfl | rfl
        · exact ⟨0, rfl, by decide, by unfold Mg; decide⟩
        · exact ⟨1, rfl, by decide, by unfold Mg; decide⟩
        · exact ⟨Rat.divInt 1 3, by unfold frD; rfl, by decide, by unfold Mg; decide⟩
      have sa : Sm a := sm_of (a := 1440) (b := 92) (Nat.lt_of_le_of_lt (den_dp ha) hrw.2.dpl) (hrw.2.mg a ha) (Nat.le_refl _) (by decide)
      have se : Sm e := sm_of (a := 2) (b := 1) (Nat.lt_of_le_of_lt he.1 (by decide)) he.2 (by decide) (by decide)
      refine ⟨a, e, rfl, ⟨sa, se⟩, ?_⟩
      exact hk _ _ hw' ⟨e, rfl, he⟩
    · obtain ⟨rs, rfl, hrl, hrd, hrm⟩ := allR_more hR fun x hx => hrw.2.mg x hx
      rw [List.nil_append]
      refine ⟨tabD wd.1, rfl, tabD wd.2, rfl, ?_⟩
      rw [hT2]
      walk_at "dv"
      have es : (act : Int) + 1 = ((act + 1 : Nat) : Int) := by omega
      have e2 : ((wd.2.map rowD).take act ++ [D.tup (rs.map frD)] ++ (wd.2.map rowD).drop (act + 1)) = (wd.2.take act ++ ([rs] ++ wd.2.drop (act + 1))).map rowD := by
        rw [← List.map_take, ← List.map_drop, List.append_assoc, List.map_append, List.map_append]
        rfl
      have eqm := wb.eq
      have rb : RB rs := by
        refine ⟨by rw [hrl, hrw.1]; exact n4, ?_, fun r hr => mg_lt (hrm r hr) (by decide)⟩
        have h3 : 3 ^ (wd.2.getD act []).length ≤ 3 ^ 4 := Nat.pow_le_pow_right (by decide) (by rw [hrw.1]; exact n4)
        have h4 : 3 ^ (wd.2.getD act []).length < 2 ^ 7 := Nat.lt_of_le_of_lt h3 (by decide)
        exact Nat.lt_of_lt_of_le (Nat.lt_of_le_of_lt hrd (pow_mul_lt hrw.2.dpl h4)) (Nat.pow_le_pow_right (by decide) (by decide))
      have wb2 : WB (wd.1, wd.2.take act ++ ([rs] ++ wd.2.drop (act + 1))) n := by
        refine ⟨m1, m5, ?_, n2, n4, wb.r1, fun r hr => ?_⟩
        · show (wd.2.take act ++ ([rs] ++ wd.2.drop (act + 1))).length = wd.1.length
          simp only [List.length_append, List.length_take, List.length_drop, List.length_cons, List.length_nil]
          omega
        · rcases List.mem_append.mp hr with hr | hr
          · exact wb.r2 r (List.mem_of_mem_take hr)
          · rcases List.mem_append.mp hr with hr | hr
            · rw [List.mem_singleton] at hr
              rw [hr]
              exact ⟨by rw [hrl]; exact hrw.1, rb⟩
            · exact wb.r2 r (List.mem_of_mem_drop hr)
      rw [es, cut_take _ (by rw [List.length_map]; omega)]
      have l1 : ((wd.2.map rowD).take act).length ≤ 10 := by simp only [List.length_take, List.length_map]; omega
      have l2 : ((wd.2.map rowD).take act ++ [D.tup (rs.map frD)]).length + ((wd.2.map rowD).drop (act + 1)).length ≤ 100000 := by
        simp only [List.length_append, List.length_take, List.length_drop, List.length_map, List.length_cons, List.length_nil]
        omega
      refine ⟨by omega, tabD wd.2, rfl, .tup ((wd.2.map rowD).drop (act + 1)), ?_, l2, _, rfl, ?_⟩
      · show some (D.tup (cutD (wd.2.map rowD) (some ((act + 1 : Nat) : Int)) none)) = _
        rw [cut_drop _ (by rw [List.length_map]; omega)]
      · rw [e2]
        refine ⟨_, n, ch, rfl, ⟨wb2, hb.bb⟩, ?_⟩
        show Q (.bl true) (List.take (ms.length + 1) (w5 :: ms))
        rw [List.take_succ_cons, List.take_length]
        exact q w5
end K3

/-! part K3l -/
set_option Elab.async false
set_option linter.all false
set_option maxRecDepth 100000
set_option autoImplicit false
set_option exponentiation.threshold 4000
namespace K3
open PySem PySem.Spec L2 DV
open PyProof.Rows (envOfC)
variable {P : Program} {w : World} {K : PySem.W.Frag} {mg : Str → Option Value} {base : Heap}

local macro_rules | `(tactic| walk_at "dv") => `(tactic| simp only [startR, kD, fin, fSeq, fNext, fDrop, fNRep, fNRg, fParN0, fPar3, fPar3N, fAsg, fRet, fIfS, fNever, fPar, fNew, fApp, fVar, fC, fOp, fTest, fTAnd, fTOr, fTNot, fVAnd, fVOr, fVNot, fNeg, fIf, fChain, fANil, fACons, fTup, fLst, fCB, fNLst, fOfN, fYes, fIsi, fONone, fOSome, fSl, sliceF,
  gF, gA, cI, fI, c0, cAdd, fAdd, fIx, cRepT, fRepT, fEq, fNe, fNotIn, intsOf, blsOf, allD, seqOf, tupOf, fLen, cA0, f1L, gSum, gAll, gAny, fTupleOf, fListOf, fA1, fA2, cDm, gN, gsNil_eq, gsCons_eq, gT_eq, gSb_eq, isB, itemsOf, fISeq, fIRng, fIEnum, fIZip, fIZipTL, fFor, fLc, wipeR, fCall, fCallK, fRetN, kN, fCallN, fCallOn, kwS, pick, gRepr, cRepr, List.filterMap_cons_some, List.filterMap_nil,
  List.map_cons, List.map_nil, List.length_cons, List.length_nil, List.replicate_succ, List.replicate_zero, List.cons_append, List.nil_append, List.append_nil, List.getElem?_cons_zero, List.getElem?_cons_succ, List.getElem?_nil, List.set_cons_zero, List.set_cons_succ, List.set_nil, List.take_succ_cons, List.take_zero, List.take_nil,
  Option.map_some, Option.map_none, Option.some.injEq, Option.get_some, exists_eq_left', exists_eq_left, exists_eq_right, true_and, and_true, if_true, if_false, reduceCtorEq, ite_true, ite_false, S.d.injEq, S.m.injEq, D.int.injEq, D.tup.injEq, D.lst.injEq, D.bl.injEq, D.str.injEq, List.cons.injEq, exists_and_left, exists_and_right,
  Nat.sub_zero, Nat.reduceSub, Nat.reduceAdd, Nat.zero_add, Nat.add_zero, Bool.not_true, Bool.not_false, Bool.false_eq_true, decide_eq_true_eq, Nat.reduceLT, Nat.reduceLeDiff, Nat.le_refl, List.take_length, Int.reduceLT, Int.reduceToNat, Nat.lt_irrefl, gt_iff_lt, Nat.not_lt_zero, Int.cast_ofNat_Int, decide_true, decide_false, and_assoc])

def T__law_wellN : TFN := fun ss μ P => ∃ (ns : List Int) (lap : Nat), ss = [.d (.lst (ns.map D.int)), .d (.int (lap : Int))] ∧ (ns.length ≤ 1000) ∧ ∀ w', IsW w' → P w' μ
theorem mon__law_wellN : MonFN T__law_wellN := fun ss μ P P' k ⟨a, b, e, h, q⟩ => ⟨a, b, e, h, fun r h1 => k _ _ (q r h1)⟩
theorem okN__law_well (t : Top K mg "_law_well" s__law_well ["_law_script", "_law_lap"]) (m_abs : mg "abs" = none) (m_int : mg "int" = none) (m_len : mg "len" = none) :
    DefOkN P w K mg base "_law_well" 1 2 T__law_wellN := by
  have nd := (sc__law_well).nd
  refine ok_defN (k := 0) t sc__law_well mon__law_wellN (fun f cdv A outer s H E hr =>
    (pds_cons (pds_set (pd_op add_ok mon_gF snd_add pd_int (pd_op op_mul mon_gF snd_I pd_int (pd_var (pv 1)))) (fun _ h => ps_set (i := 2) nd rfl (by first | exact Or.inl rfl | exact Or.inr rfl) h))
      (pds_cons (pds_for PassesOwn.never rfl (pdi_seq (pd_slice (pd_var (pv 0)) pdo_none (pdo_some pd_int))) (pdg_name (pg_name (i := 3) nd rfl (by first | exact Or.inl rfl | exact Or.inr rfl))) (pds_one (pds_set (pd_op op_mod mon_gF snd_I (pd_Ty call_int1 snd_int1 mon_gA (by rfl) m_int bt_int (pda_cons (pd_op add_ok mon_gF snd_add (pd_op add_ok mon_gF snd_add (pd_op op_mul mon_gF snd_I (pd_var (pv 2)) pd_int) (pd_op op_mul mon_gF snd_I (pd_op op_mod mon_gF snd_I (pd_Ty call_int1 snd_int1 mon_gA (by rfl) m_int bt_int (pda_cons (pd_var (pv 3)) pda_nil)) pd_int) pd_int)) pd_int) pda_nil)) pd_int) (fun _ h => ps_set (i := 2) nd rfl (by first | exact Or.inl rfl | exact Or.inr rfl) h))))
      (pds_cons (pds_set (pd_if (ptd_cmp op_lt mon_gF snd_B0 (nomark _) (pd_var (pv 1)) (pd_B call_len_seq snd_len mon_gA (by rfl) m_len bt_len (pda_cons (pd_var (pv 0)) pda_nil))) (pd_Ty call_int1 snd_int1 mon_gA (by rfl) m_int bt_int (pda_cons (pd_ix ix_ok mon_gF snd_ix (fun _ _ => rfl) (pd_var (pv 0)) (pd_var (pv 1))) pda_nil)) pd_int) (fun _ h => ps_set (i := 4) nd rfl (by first | exact Or.inl rfl | exact Or.inr rfl) h))
      (pds_cons (pds_set (pd_op op_mod mon_gF snd_I (pd_Ty call_int1 snd_int1 mon_gA (by rfl) m_int bt_int (pda_cons (pd_op add_ok mon_gF snd_add (pd_op add_ok mon_gF snd_add (pd_op op_mul mon_gF snd_I (pd_var (pv 2)) pd_int) (pd_op op_mul mon_gF snd_I (pd_op op_mod mon_gF snd_I (pd_Ty call_int1 snd_int1 mon_gA (by rfl) m_int bt_int (pda_cons (pd_var (pv 4)) pda_nil)) pd_int) pd_int)) pd_int) pda_nil)) pd_int) (fun _ h => ps_set (i := 2) nd rfl (by first | exact Or.inl rfl | exact Or.inr rfl) h))
      (pds_one (pd_retN (pdn_lst (pda_cons (pd_if (ptd_w (pdw_or (ptd_cmp op_lt mon_gF snd_B0 (nomark _) (pd_var (pv 4)) pd_int) (pdw_or1 (ptd_cmp op_ge mon_gF snd_B0 (nomark _) (pd_var (pv 4)) (pd_op op_pow mon_gF snd_I pd_int pd_int))))) (pd_B call_abs snd_abs mon_gA (by rfl) m_abs bt_abs (pda_cons (pd_var (pv 4)) pda_nil)) pd_int) (pda_cons (pd_var (pv 2)) (pda_cons pd_int pda_nil))))))))))) ?_
  intro ss μ Q hl h
  obtain ⟨ns, lap, rfl, hn, q⟩ := h
  have p1 : (0 : Int) < 2147483477 := by decide
  have cm : ∀ x c : Int, 0 ≤ c → c < 2 ^ 30 → CMul x c := fun x c h1 h2 => .inr ⟨by omega, by omega⟩
  have c1 : CMul 6841 (lap : Int) := .inl ⟨by decide, by decide⟩
  have fin0 : ∀ w', IsW w' → ¬ False ∧ ∃ ds, (μ ++ [w'])[μ.length]? = some ds ∧ Q ds (List.take μ.length (μ ++ [w'])) := fun w' hw' => ⟨id, w', get_last, by rw [List.take_left]; exact q w' hw'⟩
  walk_at "dv"
  refine ⟨c1, ?_⟩
  obtain ⟨is, e⟩ := cut_map D.int ns none (some 12)
  rw [e]
  refine loop_inv D.int (fun _ ρ μ' => μ = μ' ∧ ∃ (a : Int) (s3 : Option S), ρ = [some (.d (.lst (ns.map D.int))), some (.d (.int (lap : Int))), some (.d (.int a)), s3, none]) is 0 _ _ ?_ ?_ ⟨rfl, _, _, rfl⟩
  · rintro i x _ _ _ ⟨rfl, a, s3, rfl⟩
    refine ⟨trivial, fun k' _ hk => ?_⟩
    walk_at "dv"
    refine ⟨cm _ _ (by decide) (by decide), cm _ _ (by decide) (by decide), ?_⟩
    exact hk _ _ ⟨rfl, _, _, rfl⟩
  · rintro _ _ ⟨rfl, a, s3, rfl⟩
    refine ⟨trivial, ?_⟩
    have cp : CPow 10 15 := ⟨by decide, by decide, by decide⟩
    have fin : ∀ (x : Int), IsW [.int (if x < 0 then -x else x), .int ((a * 61 + x % 2147483477 * 28657 + 11) % 2147483477), .int 0] := fun x => ⟨_, _, _, rfl, by split <;> omega⟩
    have fin2 : ∀ (x : Int), IsW [.int 0, .int ((a * 61 + x % 2147483477 * 28657 + 11) % 2147483477), .int 0] := fun x => ⟨_, _, _, rfl, by decide⟩
    walk_at "dv"
    by_cases c : (lap : Int) < ((ns.map D.int).length : Int)
    · rw [if_pos c]
      have c2 : lap < ns.length := by rw [List.length_map] at c; omega
      rw [if_neg (by omega), Int.toNat_natCast, List.getElem?_map, List.getElem?_eq_getElem c2]
      generalize ns[lap] = x at *
      walk_at "dv"
      refine ⟨cm _ _ (by decide) (by decide), cm _ _ (by decide) (by decide), ?_⟩
      by_cases d : x < 0
      · rw [if_pos d]; exact fin0 _ (fin x)
      · rw [if_neg d]
        refine ⟨cp, ?_⟩
        by_cases d2 : 10 ^ 15 ≤ x
        · rw [if_pos d2]; exact fin0 _ (fin x)
        · rw [if_neg d2]; exact fin0 _ (fin2 x)
    · rw [if_neg c]
      refine ⟨cm _ _ (by decide) (by decide), cm _ _ (by decide) (by decide), cp, ?_⟩
      rw [if_neg (by decide)]
      exact fin0 _ (fin2 0)
def T_law : TF := fun ss μ P => ∃ (ns : List Int), ss = [.d (.lst (ns.map D.int))] ∧ (ns.length ≤ 1000) ∧ P (.bl true) μ
theorem mon_law : MonF T_law := fun ss μ P P' k ⟨a, e, h, q⟩ => ⟨a, e, h, k _ _ q⟩
theorem okF_law {f : Addr} {fd : FuncData} (F : Fun K "law" "law" s_law f fd) (C__law_right : DefOkG P w K mg base "_law_right" 9 1 T__law_right) (C__law_well : DefOkN P w K mg base "_law_well" 1 2 T__law_wellN) (m_all : mg "all" = none) (m_len : mg "len" = none) (m_max : mg "max" = none) (m_min : mg "min" = none) (m_range : mg "range" = none) :
    DG.GOk P w K mg base 10 f fd ["_law_script"] (spT 1 K T_law) := by
  have nd := (sc_law).nd
  refine ok_defg (k := 9) F sc_law (fun cdv A outer s H E hgd hr =>
    (pds_one (pd_ret (pd_B (cr_all rfl) snd_all mon_gA (by rfl) m_all bt_all (pda_cons (pd_of_N (pdn_lc (own := [("_law_lap", 1)]) rfl nd (pdi_range (by rfl) m_range (pda_cons (pd_B (call_max2 rfl) snd_max2 mon_gA (by rfl) m_max bt_max (pda_cons pd_int (pda_cons (pd_B (call_min2 rfl) snd_min2 mon_gA (by rfl) m_min bt_min (pda_cons (pd_B call_len_seq snd_len mon_gA (by rfl) m_len bt_len (pda_cons (pd_var (pv 0)) pda_nil)) (pda_cons pd_int pda_nil))) pda_nil))) pda_nil)) (blkOk_by (N := N_law) (sc := defScope s_law) (by decide +kernel)) (fun _ _ _ _ _ => (pdg_name (pg_name (i := 1) nd rfl (by first | exact Or.inl rfl | exact Or.inr rfl)))) (fun _ _ _ _ _ => pdts_nil) (fun _ _ _ _ _ => (pd_callOn C__law_right hgd (hr.mono (by decide)) (by rfl) (pdn_callN C__law_well (hr.mono (by decide)) (by rfl) (pda_cons (pd_var (pv 0)) (pda_cons (pd_var (pv 1)) pda_nil))))) (by decide))) pda_nil))))) ?_
  intro ss μ Q hl h
  obtain ⟨ns, rfl, hn, q⟩ := h
  have tail : ∀ L : Nat, L ≤ 1000 → lcLoop (gN 1) fYes (fCallOn T__law_right (fCallN 2 T__law_wellN (fACons (fVar 0) (fACons (fVar 1) fANil)))) (fun _ => True) [some (S.d (D.lst (ns.map D.int))), none] (rngD (L : Int)) [] μ (fun ds μ' => ∃ d, Option.map (fun bs => D.bl (bs.all id)) (blsOf ds) = some d ∧ Q d (List.take μ.length μ')) := by
    intro L hL
    rw [rngD_nat]
    refine lc_pure (fun (i : Nat) => D.int (i : Int)) (fun _ => some (.bl true)) (fun _ => trivial) (List.range L) [] μ _ (fun i hi μ' P P2 h => ?_) (by simp; omega) ?_
    · walk_at "dv"
      refine ⟨ns, i, rfl, hn, fun w' hw' => ?_⟩
      refine ⟨w', [], rfl, rfl, hw', fun w2 => ⟨true, rfl, h⟩⟩
    · have e : (List.range L).filterMap (fun _ => some (D.bl true)) = ((List.range L).map fun _ => true).map D.bl := by
        rw [List.map_map, List.filterMap_eq_map']
        rfl
      rw [e, List.nil_append, bls_some]
      refine ⟨_, rfl, ?_⟩
      have e2 : ((List.range L).map fun _ => true).all id = true := by simp
      show Q (.bl (((List.range L).map fun _ => true).all id)) (List.take μ.length μ)
      rw [e2, List.take_length]
      exact q
  walk_at "dv"
  rw [List.length_map]
  by_cases c : (4 : Int) < (ns.length : Int)
  · simp only [if_pos c]
    rw [if_pos (by decide)]
    exact ⟨by decide, by decide, tail 4 (by decide)⟩
  · simp only [if_neg c]
    by_cases c2 : (2 : Int) < (ns.length : Int)
    · simp only [if_pos c2]
      exact ⟨by omega, by omega, tail ns.length hn⟩
    · simp only [if_neg c2]
      exact ⟨by decide, by decide, tail 2 (by decide)⟩
end K3

/-! part K3y -/
set_option Elab.async false
set_option linter.all false
set_option maxRecDepth 100000
set_option autoImplicit false
set_option exponentiation.threshold 4000
set_option maxHeartbeats 2000000
namespace K3
open PySem PySem.Spec L2 DV
open PyProof.Rows (envOfC)
theorem top_mk {K : PySem.W.Frag} {h : Heap} {mg : Str → Option Value} {x : Str} {st : Stmt} {ps : List Str} {f : Addr} {od an : Option Addr} {sl : Array (Option Value)} {oc kV dc pm cd ct : Value} (inK : K.In h) (G : h.Ns mainGlobals mg)
    (hb : ∀ (kV doc pm : Value) (an : Option Addr) (cdv ct : Value) (us : List Value), us.length = ps.length → bindArgs (PySem.W.fnOf x x (defArgs st) (defBody st) (defScope st) .none kV doc pm an cdv ct) ⟨us, []⟩ = pure (ps.zip us))
    (a : PySem.W.nsIn K mainGlobals x = some (some (.ref f))) (l : K.lookup f = some ⟨oc, od, .func (PySem.W.fnOf x x (defArgs st) (defBody st) (defScope st) .none kV dc pm an cd ct), sl⟩) (c : PySem.W.codeIn K cd x = true) (k : PySem.W.keepIn K (.ref f) = true) : Top K mg x st ps :=
  ⟨f, _, fun_mk l c k, (fun_mk (K := K) l c k).binds hb, PySem.W.mg_of inK G a⟩
theorem law_ok {P : Program} {w : World} {K : PySem.W.Frag} {mg : Str → Option Value} {base : Heap} {f : Addr} {fd : FuncData} (F : Fun K "law" "law" s_law f fd)
    (t__law_below : Top K mg "_law_below" s__law_below ["_law_x", "_law_y"])
    (t__law_draw : Top K mg "_law_draw" s__law_draw ["_law_well_here", "_law_few"])
    (t__law_lean : Top K mg "_law_lean" s__law_lean ["_law_top", "_law_base"])
    (t__law_well : Top K mg "_law_well" s__law_well ["_law_script", "_law_lap"])
    (t_action_count : Top K mg "action_count" s_action_count ["setting"])
    (t_is_less : Top K mg "is_less" s_is_less ["left", "right"])
    (t_is_whole : Top K mg "is_whole" s_is_whole ["value"])
    (t_lowest : Top K mg "lowest" s_lowest ["above", "below"])
    (t_state_count : Top K mg "state_count" s_state_count ["setting"])
    (t_unit_row : Top K mg "unit_row" s_unit_row ["k", "many"])
    (t__law_minus : Top K mg "_law_minus" s__law_minus ["_law_x", "_law_y"])
    (t__law_number : Top K mg "_law_number" s__law_number ["_law_well_here"])
    (t__law_one : Top K mg "_law_one" s__law_one ["_law_well_here", "_law_some"])
    (t__law_over : Top K mg "_law_over" s__law_over ["_law_x", "_law_y"])
    (t__law_plus : Top K mg "_law_plus" s__law_plus ["_law_x", "_law_y"])
    (t__law_times : Top K mg "_law_times" s__law_times ["_law_x", "_law_y"])
    (t_greatest : Top K mg "greatest" s_greatest ["row"])
    (t_is_fraction : Top K mg "is_fraction" s_is_fraction ["value"])
    (t_is_index : Top K mg "is_index" s_is_index ["value", "many"])
    (t_row_product : Top K mg "row_product" s_row_product ["row", "other"])
    (t__law_chance : Top K mg "_law_chance" s__law_chance ["_law_well_here", "_law_n"])
    (t__law_dot : Top K mg "_law_dot" s__law_dot ["_law_one_here", "_law_two"])
    (t__law_row : Top K mg "_law_row" s__law_row ["_law_well_here", "_law_n"])
    (t__law_sizes : Top K mg "_law_sizes" s__law_sizes ["_law_well_here"])
    (t_best_actions_at : Top K mg "best_actions_at" s_best_actions_at ["setting", "belief"])
    (t_check_action : Top K mg "check_action" s_check_action ["setting", "action"])
    (t_check_state : Top K mg "check_state" s_check_state ["setting", "state"])
    (t_is_row : Top K mg "is_row" s_is_row ["value", "many"])
    (t_row_sum : Top K mg "row_sum" s_row_sum ["row"])
    (t__law_best : Top K mg "_law_best" s__law_best ["_law_pays_here", "_law_chance_here"])
    (t__law_moved : Top K mg "_law_moved" s__law_moved ["_law_well_here", "_law_world_here"])
    (t__law_pays : Top K mg "_law_pays" s__law_pays ["_law_well_here", "_law_n", "_law_m"])
    (t__law_tied : Top K mg "_law_tied" s__law_tied ["_law_well_here", "_law_pays_here", "_law_chance_here"])
    (t_is_row_of_chances : Top K mg "is_row_of_chances" s_is_row_of_chances ["value", "many"])
    (t_is_table : Top K mg "is_table" s_is_table ["value", "many", "states"])
    (t_value_at : Top K mg "value_at" s_value_at ["setting", "belief"])
    (t__law_choice : Top K mg "_law_choice" s__law_choice ["_law_world_here", "_law_chance_here"])
    (t__law_world : Top K mg "_law_world" s__law_world ["_law_well_here"])
    (t_check_belief : Top K mg "check_belief" s_check_belief ["setting", "belief"])
    (t_choice_at : Top K mg "choice_at" s_choice_at ["setting", "belief"])
    (t_is_setting : Top K mg "is_setting" s_is_setting ["value"])
    (t_check_setting : Top K mg "check_setting" s_check_setting ["setting"])
    (t_best_actions : Top K mg "best_actions" s_best_actions ["setting", "belief"])
    (t_choice : Top K mg "choice" s_choice ["setting", "belief"])
    (t_pay : Top K mg "pay" s_pay ["setting", "action", "belief"])
    (t_sure : Top K mg "sure" s_sure ["setting", "state"])
    (t_value : Top K mg "value" s_value ["setting", "belief"])
    (t_worth : Top K mg "worth" s_worth ["setting", "action", "belief"])
    (t__law_there : Top K mg "_law_there" s__law_there ["_law_world_here", "_law_chance_here"])
    (t__law_right : Top K mg "_law_right" s__law_right ["_law_well_here"])
    (C_NIL : ConstOk K mg "NIL" V_NIL)
    (C_ONE : ConstOk K mg "ONE" V_ONE)
    (m_abs : mg "abs" = none)
    (m_all : mg "all" = none)
    (m_any : mg "any" = none)
    (m_bool : mg "bool" = none)
    (m_divmod : mg "divmod" = none)
    (m_enumerate : mg "enumerate" = none)
    (m_int : mg "int" = none)
    (m_isinstance : mg "isinstance" = none)
    (m_len : mg "len" = none)
    (m_list : mg "list" = none)
    (m_max : mg "max" = none)
    (m_min : mg "min" = none)
    (m_range : mg "range" = none)
    (m_repr : mg "repr" = none)
    (m_sum : mg "sum" = none)
    (m_tuple : mg "tuple" = none)
    (m_zip : mg "zip" = none)
    (g_gcd : mg "gcd" = some (.builtin "math.gcd"))
    : DG.GOk P w K mg base 10 f fd ["_law_script"] (spT 1 K T_law) := by
  have C__law_below : DefOk P w K mg base "_law_below" 1 2 T__law_below := ok__law_below t__law_below
  have C__law_draw : DefOk P w K mg base "_law_draw" 1 2 T__law_draw := ok__law_draw t__law_draw m_divmod m_int
  have C__law_lean : DefOk P w K mg base "_law_lean" 1 2 T__law_lean := ok__law_lean t__law_lean m_abs m_int
  have C__law_well : DefOkN P w K mg base "_law_well" 1 2 T__law_wellN := okN__law_well t__law_well m_abs m_int m_len
  have C_action_count : DefOk P w K mg base "action_count" 1 1 T_action_count := ok_action_count t_action_count m_len
  have C_is_less : DefOk P w K mg base "is_less" 1 2 T_is_less := ok_is_less t_is_less
  have C_is_whole : DefOk P w K mg base "is_whole" 1 1 T_is_whole := ok_is_whole t_is_whole m_bool m_int m_isinstance
  have C_lowest : DefOk P w K mg base "lowest" 1 2 T_lowest := ok_lowest t_lowest g_gcd
  have C_state_count : DefOk P w K mg base "state_count" 1 1 T_state_count := ok_state_count t_state_count m_len
  have C_unit_row : DefOk P w K mg base "unit_row" 1 2 T_unit_row := ok_unit_row t_unit_row C_NIL C_ONE m_range m_tuple
  have C__law_minus : DefOk P w K mg base "_law_minus" 2 2 T__law_minus := ok__law_minus t__law_minus C__law_lean
  have C__law_number : DefOk P w K mg base "_law_number" 2 1 T__law_number := ok__law_number t__law_number C__law_draw C__law_lean
  have C__law_one : DefOk P w K mg base "_law_one" 2 2 T__law_one := ok__law_one t__law_one C__law_draw m_len
  have C__law_over : DefOk P w K mg base "_law_over" 2 2 T__law_over := ok__law_over t__law_over C__law_lean
  have C__law_plus : DefOk P w K mg base "_law_plus" 2 2 T__law_plus := ok__law_plus t__law_plus C__law_lean
  have C__law_times : DefOk P w K mg base "_law_times" 2 2 T__law_times := ok__law_times t__law_times C__law_lean
  have C_greatest : DefOk P w K mg base "greatest" 2 1 T_greatest := ok_greatest t_greatest C_is_less
  have C_is_fraction : DefOk P w K mg base "is_fraction" 2 1 T_is_fraction := ok_is_fraction t_is_fraction C_is_whole g_gcd m_isinstance m_len m_tuple
  have C_is_index : DefOk P w K mg base "is_index" 2 2 T_is_index := ok_is_index t_is_index C_is_whole
  have C_row_product : DefOk P w K mg base "row_product" 2 2 T_row_product := ok_row_product t_row_product C_lowest m_zip
  have C__law_chance : DefOk P w K mg base "_law_chance" 3 2 T__law_chance := ok__law_chance t__law_chance C__law_draw C__law_lean C__law_one m_range m_sum m_tuple
  have C__law_dot : DefOk P w K mg base "_law_dot" 3 2 T__law_dot := ok__law_dot t__law_dot C__law_plus C__law_times m_zip
  have C__law_row : DefOk P w K mg base "_law_row" 3 2 T__law_row := ok__law_row t__law_row C__law_number m_range
  have C__law_sizes : DefOk P w K mg base "_law_sizes" 3 1 T__law_sizes := ok__law_sizes t__law_sizes C__law_one
  have C_best_actions_at : DefOk P w K mg base "best_actions_at" 3 2 T_best_actions_at := ok_best_actions_at t_best_actions_at C_greatest C_row_product m_enumerate m_tuple
  have C_check_action : DefOk P w K mg base "check_action" 3 2 T_check_action := ok_check_action t_check_action C_action_count C_is_index
  have C_check_state : DefOk P w K mg base "check_state" 3 2 T_check_state := ok_check_state t_check_state C_is_index C_state_count
  have C_is_row : DefOk P w K mg base "is_row" 3 2 T_is_row := ok_is_row t_is_row C_is_fraction m_all m_isinstance m_len m_tuple
  have C_row_sum : DefOk P w K mg base "row_sum" 3 1 T_row_sum := ok_row_sum t_row_sum C_row_product C_ONE m_len
  have C__law_best : DefOk P w K mg base "_law_best" 4 2 T__law_best := ok__law_best t__law_best C__law_below C__law_dot m_any m_len m_range
  have C__law_moved : DefOk P w K mg base "_law_moved" 4 2 T__law_moved := ok__law_moved t__law_moved C__law_one C__law_plus C__law_row C__law_times m_len m_tuple m_zip
  have C__law_pays : DefOk P w K mg base "_law_pays" 4 3 T__law_pays := ok__law_pays t__law_pays C__law_draw C__law_plus C__law_row C__law_times m_list m_range m_sum m_tuple m_zip
  have C__law_tied : DefOk P w K mg base "_law_tied" 4 3 T__law_tied := ok__law_tied t__law_tied C__law_dot C__law_draw C__law_minus C__law_one C__law_over C__law_plus m_len m_range
  have C_is_row_of_chances : DefOk P w K mg base "is_row_of_chances" 4 2 T_is_row_of_chances := ok_is_row_of_chances t_is_row_of_chances C_is_row C_row_sum C_ONE m_all
  have C_is_table : DefOk P w K mg base "is_table" 4 3 T_is_table := ok_is_table t_is_table C_is_row m_all m_isinstance m_len m_tuple
  have C_value_at : DefOk P w K mg base "value_at" 4 2 T_value_at := ok_value_at t_value_at C_best_actions_at C_greatest C_row_product
  have C__law_choice : DefOk P w K mg base "_law_choice" 5 2 T__law_choice := ok__law_choice t__law_choice C__law_below C__law_best C__law_dot m_any m_len m_range
  have C__law_world : DefOk P w K mg base "_law_world" 5 1 T__law_world := ok__law_world t__law_world C__law_chance C__law_draw C__law_number C__law_pays C__law_row C__law_sizes C__law_tied m_range m_tuple
  have C_check_belief : DefOk P w K mg base "check_belief" 5 2 T_check_belief := ok_check_belief t_check_belief C_is_row_of_chances C_state_count
  have C_choice_at : DefOk P w K mg base "choice_at" 5 2 T_choice_at := ok_choice_at t_choice_at C_best_actions_at C_row_product C_value_at
  have C_is_setting : DefOk P w K mg base "is_setting" 5 1 T_is_setting := ok_is_setting t_is_setting C_is_table m_isinstance m_len m_tuple
  have C_check_setting : DefOk P w K mg base "check_setting" 6 1 T_check_setting := ok_check_setting t_check_setting C_is_setting
  have C_best_actions : DefOk P w K mg base "best_actions" 7 2 T_best_actions := ok_best_actions t_best_actions C_best_actions_at C_check_belief C_check_setting
  have CK_best_actions__belief_setting : DefOkK P w K mg base "best_actions" 7 2 ["belief", "setting"] T_best_actions [1, 0] := (okT_best_actions t_best_actions C_best_actions_at C_check_belief C_check_setting).kw (by simp) fun _ _ _ _ _ _ ws hl => match ws, hl with | [_, _], _ => rfl
  have C_choice : DefOk P w K mg base "choice" 7 2 T_choice := ok_choice t_choice C_check_belief C_check_setting C_choice_at
  have CK_choice__setting_belief : DefOkK P w K mg base "choice" 7 2 ["setting", "belief"] T_choice [0, 1] := (okT_choice t_choice C_check_belief C_check_setting C_choice_at).kw (by simp) fun _ _ _ _ _ _ ws hl => match ws, hl with | [_, _], _ => rfl
  have C_pay : DefOk P w K mg base "pay" 7 3 T_pay := ok_pay t_pay C_check_action C_check_belief C_check_setting C_row_product
  have CK_pay__action_belief_setting : DefOkK P w K mg base "pay" 7 3 ["action", "belief", "setting"] T_pay [2, 0, 1] := (okT_pay t_pay C_check_action C_check_belief C_check_setting C_row_product).kw (by simp) fun _ _ _ _ _ _ ws hl => match ws, hl with | [_, _, _], _ => rfl
  have C_sure : DefOk P w K mg base "sure" 7 2 T_sure := ok_sure t_sure C_check_setting C_check_state C_state_count C_unit_row
  have CK_sure__state_setting : DefOkK P w K mg base "sure" 7 2 ["state", "setting"] T_sure [1, 0] := (okT_sure t_sure C_check_setting C_check_state C_state_count C_unit_row).kw (by simp) fun _ _ _ _ _ _ ws hl => match ws, hl with | [_, _], _ => rfl
  have C_value : DefOk P w K mg base "value" 7 2 T_value := ok_value t_value C_check_belief C_check_setting C_value_at
  have C_worth : DefOk P w K mg base "worth" 7 3 T_worth := ok_worth t_worth C_check_action C_check_belief C_check_setting C_row_product
  have CK_worth__belief_setting_action : DefOkK P w K mg base "worth" 7 3 ["belief", "setting", "action"] T_worth [1, 2, 0] := (okT_worth t_worth C_check_action C_check_belief C_check_setting C_row_product).kw (by simp) fun _ _ _ _ _ _ ws hl => match ws, hl with | [_, _, _], _ => rfl
  have C__law_there : DefOkG P w K mg base "_law_there" 8 2 T__law_there := ok__law_there t__law_there C__law_best C__law_choice C__law_dot C_best_actions C_choice C_pay C_value C_worth m_len m_list m_range m_repr m_tuple
  have C__law_right : DefOkG P w K mg base "_law_right" 9 1 T__law_right := ok__law_right t__law_right C__law_best C__law_chance C__law_choice C__law_dot C__law_draw C__law_moved C__law_one C__law_plus C__law_there C__law_world C_sure C_value CK_best_actions__belief_setting CK_choice__setting_belief CK_pay__action_belief_setting CK_sure__state_setting CK_worth__belief_setting_action m_len m_range m_repr m_tuple
  exact okF_law F C__law_right C__law_well m_all m_len m_max m_min m_range
theorem rpA_ints {K : PySem.W.Frag} {T : Hp} : ∀ ns : List Int, RpA K T (ns.map V.int) (ns.map D.int)
  | [] => .nil
  | n :: r => .cons (.int n) (rpA_ints r)
theorem law_starts (K : PySem.W.Frag) (T : Hp) (a : Addr) (ns : List Int) (hl : ns.length ≤ 63) (_ : Only T) (h : SqL K T a (ns.map V.int)) : spT 1 K T_law [.ref a] T (fun v _ => v = .bl true) fun _ _ _ => False := by
  have sm : Same T (hide [] T) := fun b o e => by
    rw [hide_out (List.not_mem_nil)]
    exact e
  refine ⟨[], [.d (.lst (ns.map D.int))], [], .cons (.lst (sqL_same sm h) (rpA_ints ns)) .nil, ⟨rfl, List.nodup_nil, fun j ds e => by cases e⟩, rfl, ns, rfl, by omega, fun v H' _ _ r => ?_⟩
  cases r
  rfl
theorem const_mk {K : PySem.W.Frag} {h : Heap} {mg : Str → Option Value} {x : Str} {a : Addr} {i j : Int} {t1 t2 n : Nat} {od : Option Addr} {sl : Array (Option Value)} (inK : K.In h) (G : h.Ns mainGlobals mg)
    (ha : PySem.W.nsIn K mainGlobals x = some (some (.ref a))) (hl : K.lookup a = some ⟨.type "tuple", od, .seq #[.int i t1, .int j t2] n, sl⟩) : ConstOk K mg x (.tup [.int i, .int j]) :=
  ⟨.ref a, .ref a, PySem.W.mg_of inK G ha, rfl, fun F => .tup (xs := [.int i, .int j]) (.inr ⟨_, _, n, hl, rfl, rfl, by show 2 ≤ sizeLine; decide, .cons ⟨t1, rfl⟩ (.cons ⟨t2, rfl⟩ .nil)⟩) (.cons (.int i) (.cons (.int j) .nil))⟩
theorem all_mk {P : Program} {w : World} {K : PySem.W.Frag} {h : Heap} {mg : Str → Option Value} {fa : Addr} (inK : K.In h) (G : h.Ns mainGlobals mg) (hfa : mg "law" = some (.ref fa))
    {f0 : Addr} {od0 an0 : Option Addr} {sl0 : Array (Option Value)} {oc0 kV0 dc0 pm0 cd0 ct0 : Value}
    (a0 : PySem.W.nsIn K mainGlobals "_law_below" = some (some (.ref f0))) (l0 : K.lookup f0 = some ⟨oc0, od0, .func (PySem.W.fnOf "_law_below" "_law_below" (defArgs s__law_below) (defBody s__law_below) (defScope s__law_below) .none kV0 dc0 pm0 an0 cd0 ct0), sl0⟩) (c0 : PySem.W.codeIn K cd0 "_law_below" = true) (k0 : PySem.W.keepIn K (.ref f0) = true)
    {f1 : Addr} {od1 an1 : Option Addr} {sl1 : Array (Option Value)} {oc1 kV1 dc1 pm1 cd1 ct1 : Value}
    (a1 : PySem.W.nsIn K mainGlobals "_law_draw" = some (some (.ref f1))) (l1 : K.lookup f1 = some ⟨oc1, od1, .func (PySem.W.fnOf "_law_draw" "_law_draw" (defArgs s__law_draw) (defBody s__law_draw) (defScope s__law_draw) .none kV1 dc1 pm1 an1 cd1 ct1), sl1⟩) (c1 : PySem.W.codeIn K cd1 "_law_draw" = true) (k1 : PySem.W.keepIn K (.ref f1) = true)
    {f2 : Addr} {od2 an2 : Option Addr} {sl2 : Array (Option Value)} {oc2 kV2 dc2 pm2 cd2 ct2 : Value}
    (a2 : PySem.W.nsIn K mainGlobals "_law_lean" = some (some (.ref f2))) (l2 : K.lookup f2 = some ⟨oc2, od2, .func (PySem.W.fnOf "_law_lean" "_law_lean" (defArgs s__law_lean) (defBody s__law_lean) (defScope s__law_lean) .none kV2 dc2 pm2 an2 cd2 ct2), sl2⟩) (c2 : PySem.W.codeIn K cd2 "_law_lean" = true) (k2 : PySem.W.keepIn K (.ref f2) = true)
    {f3 : Addr} {od3 an3 : Option Addr} {sl3 : Array (Option Value)} {oc3 kV3 dc3 pm3 cd3 ct3 : Value}
    (a3 : PySem.W.nsIn K mainGlobals "_law_well" = some (some (.ref f3))) (l3 : K.lookup f3 = some ⟨oc3, od3, .func (PySem.W.fnOf "_law_well" "_law_well" (defArgs s__law_well) (defBody s__law_well) (defScope s__law_well) .none kV3 dc3 pm3 an3 cd3 ct3), sl3⟩) (c3 : PySem.W.codeIn K cd3 "_law_well" = true) (k3 : PySem.W.keepIn K (.ref f3) = true)
    {f4 : Addr} {od4 an4 : Option Addr} {sl4 : Array (Option Value)} {oc4 kV4 dc4 pm4 cd4 ct4 : Value}
    (a4 : PySem.W.nsIn K mainGlobals "action_count" = some (some (.ref f4))) (l4 : K.lookup f4 = some ⟨oc4, od4, .func (PySem.W.fnOf "action_count" "action_count" (defArgs s_action_count) (defBody s_action_count) (defScope s_action_count) .none kV4 dc4 pm4 an4 cd4 ct4), sl4⟩) (c4 : PySem.W.codeIn K cd4 "action_count" = true) (k4 : PySem.W.keepIn K (.ref f4) = true)
    {f5 : Addr} {od5 an5 : Option Addr} {sl5 : Array (Option Value)} {oc5 kV5 dc5 pm5 cd5 ct5 : Value}
    (a5 : PySem.W.nsIn K mainGlobals "is_less" = some (some (.ref f5))) (l5 : K.lookup f5 = some ⟨oc5, od5, .func (PySem.W.fnOf "is_less" "is_less" (defArgs s_is_less) (defBody s_is_less) (defScope s_is_less) .none kV5 dc5 pm5 an5 cd5 ct5), sl5⟩) (c5 : PySem.W.codeIn K cd5 "is_less" = true) (k5 : PySem.W.keepIn K (.ref f5) = true)
    {f6 : Addr} {od6 an6 : Option Addr} {sl6 : Array (Option Value)} {oc6 kV6 dc6 pm6 cd6 ct6 : Value}
    (a6 : PySem.W.nsIn K mainGlobals "is_whole" = some (some (.ref f6))) (l6 : K.lookup f6 = some ⟨oc6, od6, .func (PySem.W.fnOf "is_whole" "is_whole" (defArgs s_is_whole) (defBody s_is_whole) (defScope s_is_whole) .none kV6 dc6 pm6 an6 cd6 ct6), sl6⟩) (c6 : PySem.W.codeIn K cd6 "is_whole" = true) (k6 : PySem.W.keepIn K (.ref f6) = true)
    {f7 : Addr} {od7 an7 : Option Addr} {sl7 : Array (Option Value)} {oc7 kV7 dc7 pm7 cd7 ct7 : Value}
    (a7 : PySem.W.nsIn K mainGlobals "lowest" = some (some (.ref f7))) (l7 : K.lookup f7 = some ⟨oc7, od7, .func (PySem.W.fnOf "lowest" "lowest" (defArgs s_lowest) (defBody s_lowest) (defScope s_lowest) .none kV7 dc7 pm7 an7 cd7 ct7), sl7⟩) (c7 : PySem.W.codeIn K cd7 "lowest" = true) (k7 : PySem.W.keepIn K (.ref f7) = true)
    {f8 : Addr} {od8 an8 : Option Addr} {sl8 : Array (Option Value)} {oc8 kV8 dc8 pm8 cd8 ct8 : Value}
    (a8 : PySem.W.nsIn K mainGlobals "state_count" = some (some (.ref f8))) (l8 : K.lookup f8 = some ⟨oc8, od8, .func (PySem.W.fnOf "state_count" "state_count" (defArgs s_state_count) (defBody s_state_count) (defScope s_state_count) .none kV8 dc8 pm8 an8 cd8 ct8), sl8⟩) (c8 : PySem.W.codeIn K cd8 "state_count" = true) (k8 : PySem.W.keepIn K (.ref f8) = true)
    {f9 : Addr} {od9 an9 : Option Addr} {sl9 : Array (Option Value)} {oc9 kV9 dc9 pm9 cd9 ct9 : Value}
    (a9 : PySem.W.nsIn K mainGlobals "unit_row" = some (some (.ref f9))) (l9 : K.lookup f9 = some ⟨oc9, od9, .func (PySem.W.fnOf "unit_row" "unit_row" (defArgs s_unit_row) (defBody s_unit_row) (defScope s_unit_row) .none kV9 dc9 pm9 an9 cd9 ct9), sl9⟩) (c9 : PySem.W.codeIn K cd9 "unit_row" = true) (k9 : PySem.W.keepIn K (.ref f9) = true)
    {f10 : Addr} {od10 an10 : Option Addr} {sl10 : Array (Option Value)} {oc10 kV10 dc10 pm10 cd10 ct10 : Value}
    (a10 : PySem.W.nsIn K mainGlobals "_law_minus" = some (some (.ref f10))) (l10 : K.lookup f10 = some ⟨oc10, od10, .func (PySem.W.fnOf "_law_minus" "_law_minus" (defArgs s__law_minus) (defBody s__law_minus) (defScope s__law_minus) .none kV10 dc10 pm10 an10 cd10 ct10), sl10⟩) (c10 : PySem.W.codeIn K cd10 "_law_minus" = true) (k10 : PySem.W.keepIn K (.ref f10) = true)
    {f11 : Addr} {od11 an11 : Option Addr} {sl11 : Array (Option Value)} {oc11 kV11 dc11 pm11 cd11 ct11 : Value}
    (a11 : PySem.W.nsIn K mainGlobals "_law_number" = some (some (.ref f11))) (l11 : K.lookup f11 = some ⟨oc11, od11, .func (PySem.W.fnOf "_law_number" "_law_number" (defArgs s__law_number) (defBody s__law_number) (defScope s__law_number) .none kV11 dc11 pm11 an11 cd11 ct11), sl11⟩) (c11 : PySem.W.codeIn K cd11 "_law_number" = true) (k11 : PySem.W.keepIn K (.ref f11) = true)
    {f12 : Addr} {od12 an12 : Option Addr} {sl12 : Array (Option Value)} {oc12 kV12 dc12 pm12 cd12 ct12 : Value}
    (a12 : PySem.W.nsIn K mainGlobals "_law_one" = some (some (.ref f12))) (l12 : K.lookup f12 = some ⟨oc12, od12, .func (PySem.W.fnOf "_law_one" "_law_one" (defArgs s__law_one) (defBody s__law_one) (defScope s__law_one) .none kV12 dc12 pm12 an12 cd12 ct12), sl12⟩) (c12 : PySem.W.codeIn K cd12 "_law_one" = true) (k12 : PySem.W.keepIn K (.ref f12) = true)
    {f13 : Addr} {od13 an13 : Option Addr} {sl13 : Array (Option Value)} {oc13 kV13 dc13 pm13 cd13 ct13 : Value}
    (a13 : PySem.W.nsIn K mainGlobals "_law_over" = some (some (.ref f13))) (l13 : K.lookup f13 = some ⟨oc13, od13, .func (PySem.W.fnOf "_law_over" "_law_over" (defArgs s__law_over) (defBody s__law_over) (defScope s__law_over) .none kV13 dc13 pm13 an13 cd13 ct13), sl13⟩) (c13 : PySem.W.codeIn K cd13 "_law_over" = true) (k13 : PySem.W.keepIn K (.ref f13) = true)
    {f14 : Addr} {od14 an14 : Option Addr} {sl14 : Array (Option Value)} {oc14 kV14 dc14 pm14 cd14 ct14 : Value}
    (a14 : PySem.W.nsIn K mainGlobals "_law_plus" = some (some (.ref f14))) (l14 : K.lookup f14 = some ⟨oc14, od14, .func (PySem.W.fnOf "_law_plus" "_law_plus" (defArgs s__law_plus) (defBody s__law_plus) (defScope s__law_plus) .none kV14 dc14 pm14 an14 cd14 ct14), sl14⟩) (c14 : PySem.W.codeIn K cd14 "_law_plus" = true) (k14 : PySem.W.keepIn K (.ref f14) = true)
    {f15 : Addr} {od15 an15 : Option Addr} {sl15 : Array (Option Value)} {oc15 kV15 dc15 pm15 cd15 ct15 : Value}
    (a15 : PySem.W.nsIn K mainGlobals "_law_times" = some (some (.ref f15))) (l15 : K.lookup f15 = some ⟨oc15, od15, .func (PySem.W.fnOf "_law_times" "_law_times" (defArgs s__law_times) (defBody s__law_times) (defScope s__law_times) .none kV15 dc15 pm15 an15 cd15 ct15), sl15⟩) (c15 : PySem.W.codeIn K cd15 "_law_times" = true) (k15 : PySem.W.keepIn K (.ref f15) = true)
    {f16 : Addr} {od16 an16 : Option Addr} {sl16 : Array (Option Value)} {oc16 kV16 dc16 pm16 cd16 ct16 : Value}
    (a16 : PySem.W.nsIn K mainGlobals "greatest" = some (some (.ref f16))) (l16 : K.lookup f16 = some ⟨oc16, od16, .func (PySem.W.fnOf "greatest" "greatest" (defArgs s_greatest) (defBody s_greatest) (defScope s_greatest) .none kV16 dc16 pm16 an16 cd16 ct16), sl16⟩) (c16 : PySem.W.codeIn K cd16 "greatest" = true) (k16 : PySem.W.keepIn K (.ref f16) = true)
    {f17 : Addr} {od17 an17 : Option Addr} {sl17 : Array (Option Value)} {oc17 kV17 dc17 pm17 cd17 ct17 : Value}
    (a17 : PySem.W.nsIn K mainGlobals "is_fraction" = some (some (.ref f17))) (l17 : K.lookup f17 = some ⟨oc17, od17, .func (PySem.W.fnOf "is_fraction" "is_fraction" (defArgs s_is_fraction) (defBody s_is_fraction) (defScope s_is_fraction) .none kV17 dc17 pm17 an17 cd17 ct17), sl17⟩) (c17 : PySem.W.codeIn K cd17 "is_fraction" = true) (k17 : PySem.W.keepIn K (.ref f17) = true)
    {f18 : Addr} {od18 an18 : Option Addr} {sl18 : Array (Option Value)} {oc18 kV18 dc18 pm18 cd18 ct18 : Value}
    (a18 : PySem.W.nsIn K mainGlobals "is_index" = some (some (.ref f18))) (l18 : K.lookup f18 = some ⟨oc18, od18, .func (PySem.W.fnOf "is_index" "is_index" (defArgs s_is_index) (defBody s_is_index) (defScope s_is_index) .none kV18 dc18 pm18 an18 cd18 ct18), sl18⟩) (c18 : PySem.W.codeIn K cd18 "is_index" = true) (k18 : PySem.W.keepIn K (.ref f18) = true)
    {f19 : Addr} {od19 an19 : Option Addr} {sl19 : Array (Option Value)} {oc19 kV19 dc19 pm19 cd19 ct19 : Value}
    (a19 : PySem.W.nsIn K mainGlobals "row_product" = some (some (.ref f19))) (l19 : K.lookup f19 = some ⟨oc19, od19, .func (PySem.W.fnOf "row_product" "row_product" (defArgs s_row_product) (defBody s_row_product) (defScope s_row_product) .none kV19 dc19 pm19 an19 cd19 ct19), sl19⟩) (c19 : PySem.W.codeIn K cd19 "row_product" = true) (k19 : PySem.W.keepIn K (.ref f19) = true)
    {f20 : Addr} {od20 an20 : Option Addr} {sl20 : Array (Option Value)} {oc20 kV20 dc20 pm20 cd20 ct20 : Value}
    (a20 : PySem.W.nsIn K mainGlobals "_law_chance" = some (some (.ref f20))) (l20 : K.lookup f20 = some ⟨oc20, od20, .func (PySem.W.fnOf "_law_chance" "_law_chance" (defArgs s__law_chance) (defBody s__law_chance) (defScope s__law_chance) .none kV20 dc20 pm20 an20 cd20 ct20), sl20⟩) (c20 : PySem.W.codeIn K cd20 "_law_chance" = true) (k20 : PySem.W.keepIn K (.ref f20) = true)
    {f21 : Addr} {od21 an21 : Option Addr} {sl21 : Array (Option Value)} {oc21 kV21 dc21 pm21 cd21 ct21 : Value}
    (a21 : PySem.W.nsIn K mainGlobals "_law_dot" = some (some (.ref f21))) (l21 : K.lookup f21 = some ⟨oc21, od21, .func (PySem.W.fnOf "_law_dot" "_law_dot" (defArgs s__law_dot) (defBody s__law_dot) (defScope s__law_dot) .none kV21 dc21 pm21 an21 cd21 ct21), sl21⟩) (c21 : PySem.W.codeIn K cd21 "_law_dot" = true) (k21 : PySem.W.keepIn K (.ref f21) = true)
    {f22 : Addr} {od22 an22 : Option Addr} {sl22 : Array (Option Value)} {oc22 kV22 dc22 pm22 cd22 ct22 : Value}
    (a22 : PySem.W.nsIn K mainGlobals "_law_row" = some (some (.ref f22))) (l22 : K.lookup f22 = some ⟨oc22, od22, .func (PySem.W.fnOf "_law_row" "_law_row" (defArgs s__law_row) (defBody s__law_row) (defScope s__law_row) .none kV22 dc22 pm22 an22 cd22 ct22), sl22⟩) (c22 : PySem.W.codeIn K cd22 "_law_row" = true) (k22 : PySem.W.keepIn K (.ref f22) = true)
    {f23 : Addr} {od23 an23 : Option Addr} {sl23 : Array (Option Value)} {oc23 kV23 dc23 pm23 cd23 ct23 : Value}
    (a23 : PySem.W.nsIn K mainGlobals "_law_sizes" = some (some (.ref f23))) (l23 : K.lookup f23 = some ⟨oc23, od23, .func (PySem.W.fnOf "_law_sizes" "_law_sizes" (defArgs s__law_sizes) (defBody s__law_sizes) (defScope s__law_sizes) .none kV23 dc23 pm23 an23 cd23 ct23), sl23⟩) (c23 : PySem.W.codeIn K cd23 "_law_sizes" = true) (k23 : PySem.W.keepIn K (.ref f23) = true)
    {f24 : Addr} {od24 an24 : Option Addr} {sl24 : Array (Option Value)} {oc24 kV24 dc24 pm24 cd24 ct24 : Value}
    (a24 : PySem.W.nsIn K mainGlobals "best_actions_at" = some (some (.ref f24))) (l24 : K.lookup f24 = some ⟨oc24, od24, .func (PySem.W.fnOf "best_actions_at" "best_actions_at" (defArgs s_best_actions_at) (defBody s_best_actions_at) (defScope s_best_actions_at) .none kV24 dc24 pm24 an24 cd24 ct24), sl24⟩) (c24 : PySem.W.codeIn K cd24 "best_actions_at" = true) (k24 : PySem.W.keepIn K (.ref f24) = true)
    {f25 : Addr} {od25 an25 : Option Addr} {sl25 : Array (Option Value)} {oc25 kV25 dc25 pm25 cd25 ct25 : Value}
    (a25 : PySem.W.nsIn K mainGlobals "check_action" = some (some (.ref f25))) (l25 : K.lookup f25 = some ⟨oc25, od25, .func (PySem.W.fnOf "check_action" "check_action" (defArgs s_check_action) (defBody s_check_action) (defScope s_check_action) .none kV25 dc25 pm25 an25 cd25 ct25), sl25⟩) (c25 : PySem.W.codeIn K cd25 "check_action" = true) (k25 : PySem.W.keepIn K (.ref f25) = true)
    {f26 : Addr} {od26 an26 : Option Addr} {sl26 : Array (Option Value)} {oc26 kV26 dc26 pm26 cd26 ct26 : Value}
    (a26 : PySem.W.nsIn K mainGlobals "check_state" = some (some (.ref f26))) (l26 : K.lookup f26 = some ⟨oc26, od26, .func (PySem.W.fnOf "check_state" "check_state" (defArgs s_check_state) (defBody s_check_state) (defScope s_check_state) .none kV26 dc26 pm26 an26 cd26 ct26), sl26⟩) (c26 : PySem.W.codeIn K cd26 "check_state" = true) (k26 : PySem.W.keepIn K (.ref f26) = true)
    {f27 : Addr} {od27 an27 : Option Addr} {sl27 : Array (Option Value)} {oc27 kV27 dc27 pm27 cd27 ct27 : Value}
    (a27 : PySem.W.nsIn K mainGlobals "is_row" = some (some (.ref f27))) (l27 : K.lookup f27 = some ⟨oc27, od27, .func (PySem.W.fnOf "is_row" "is_row" (defArgs s_is_row) (defBody s_is_row) (defScope s_is_row) .none kV27 dc27 pm27 an27 cd27 ct27), sl27⟩) (c27 : PySem.W.codeIn K cd27 "is_row" = true) (k27 : PySem.W.keepIn K (.ref f27) = true)
    {f28 : Addr} {od28 an28 : Option Addr} {sl28 : Array (Option Value)} {oc28 kV28 dc28 pm28 cd28 ct28 : Value}
    (a28 : PySem.W.nsIn K mainGlobals "row_sum" = some (some (.ref f28))) (l28 : K.lookup f28 = some ⟨oc28, od28, .func (PySem.W.fnOf "row_sum" "row_sum" (defArgs s_row_sum) (defBody s_row_sum) (defScope s_row_sum) .none kV28 dc28 pm28 an28 cd28 ct28), sl28⟩) (c28 : PySem.W.codeIn K cd28 "row_sum" = true) (k28 : PySem.W.keepIn K (.ref f28) = true)
    {f29 : Addr} {od29 an29 : Option Addr} {sl29 : Array (Option Value)} {oc29 kV29 dc29 pm29 cd29 ct29 : Value}
    (a29 : PySem.W.nsIn K mainGlobals "_law_best" = some (some (.ref f29))) (l29 : K.lookup f29 = some ⟨oc29, od29, .func (PySem.W.fnOf "_law_best" "_law_best" (defArgs s__law_best) (defBody s__law_best) (defScope s__law_best) .none kV29 dc29 pm29 an29 cd29 ct29), sl29⟩) (c29 : PySem.W.codeIn K cd29 "_law_best" = true) (k29 : PySem.W.keepIn K (.ref f29) = true)
    {f30 : Addr} {od30 an30 : Option Addr} {sl30 : Array (Option Value)} {oc30 kV30 dc30 pm30 cd30 ct30 : Value}
    (a30 : PySem.W.nsIn K mainGlobals "_law_moved" = some (some (.ref f30))) (l30 : K.lookup f30 = some ⟨oc30, od30, .func (PySem.W.fnOf "_law_moved" "_law_moved" (defArgs s__law_moved) (defBody s__law_moved) (defScope s__law_moved) .none kV30 dc30 pm30 an30 cd30 ct30), sl30⟩) (c30 : PySem.W.codeIn K cd30 "_law_moved" = true) (k30 : PySem.W.keepIn K (.ref f30) = true)
    {f31 : Addr} {od31 an31 : Option Addr} {sl31 : Array (Option Value)} {oc31 kV31 dc31 pm31 cd31 ct31 : Value}
    (a31 : PySem.W.nsIn K mainGlobals "_law_pays" = some (some (.ref f31))) (l31 : K.lookup f31 = some ⟨oc31, od31, .func (PySem.W.fnOf "_law_pays" "_law_pays" (defArgs s__law_pays) (defBody s__law_pays) (defScope s__law_pays) .none kV31 dc31 pm31 an31 cd31 ct31), sl31⟩) (c31 : PySem.W.codeIn K cd31 "_law_pays" = true) (k31 : PySem.W.keepIn K (.ref f31) = true)
    {f32 : Addr} {od32 an32 : Option Addr} {sl32 : Array (Option Value)} {oc32 kV32 dc32 pm32 cd32 ct32 : Value}
    (a32 : PySem.W.nsIn K mainGlobals "_law_tied" = some (some (.ref f32))) (l32 : K.lookup f32 = some ⟨oc32, od32, .func (PySem.W.fnOf "_law_tied" "_law_tied" (defArgs s__law_tied) (defBody s__law_tied) (defScope s__law_tied) .none kV32 dc32 pm32 an32 cd32 ct32), sl32⟩) (c32 : PySem.W.codeIn K cd32 "_law_tied" = true) (k32 : PySem.W.keepIn K (.ref f32) = true)
    {f33 : Addr} {od33 an33 : Option Addr} {sl33 : Array (Option Value)} {oc33 kV33 dc33 pm33 cd33 ct33 : Value}
    (a33 : PySem.W.nsIn K mainGlobals "is_row_of_chances" = some (some (.ref f33))) (l33 : K.lookup f33 = some ⟨oc33, od33, .func (PySem.W.fnOf "is_row_of_chances" "is_row_of_chances" (defArgs s_is_row_of_chances) (defBody s_is_row_of_chances) (defScope s_is_row_of_chances) .none kV33 dc33 pm33 an33 cd33 ct33), sl33⟩) (c33 : PySem.W.codeIn K cd33 "is_row_of_chances" = true) (k33 : PySem.W.keepIn K (.ref f33) = true)
    {f34 : Addr} {od34 an34 : Option Addr} {sl34 : Array (Option Value)} {oc34 kV34 dc34 pm34 cd34 ct34 : Value}
    (a34 : PySem.W.nsIn K mainGlobals "is_table" = some (some (.ref f34))) (l34 : K.lookup f34 = some ⟨oc34, od34, .func (PySem.W.fnOf "is_table" "is_table" (defArgs s_is_table) (defBody s_is_table) (defScope s_is_table) .none kV34 dc34 pm34 an34 cd34 ct34), sl34⟩) (c34 : PySem.W.codeIn K cd34 "is_table" = true) (k34 : PySem.W.keepIn K (.ref f34) = true)
    {f35 : Addr} {od35 an35 : Option Addr} {sl35 : Array (Option Value)} {oc35 kV35 dc35 pm35 cd35 ct35 : Value}
    (a35 : PySem.W.nsIn K mainGlobals "value_at" = some (some (.ref f35))) (l35 : K.lookup f35 = some ⟨oc35, od35, .func (PySem.W.fnOf "value_at" "value_at" (defArgs s_value_at) (defBody s_value_at) (defScope s_value_at) .none kV35 dc35 pm35 an35 cd35 ct35), sl35⟩) (c35 : PySem.W.codeIn K cd35 "value_at" = true) (k35 : PySem.W.keepIn K (.ref f35) = true)
    {f36 : Addr} {od36 an36 : Option Addr} {sl36 : Array (Option Value)} {oc36 kV36 dc36 pm36 cd36 ct36 : Value}
    (a36 : PySem.W.nsIn K mainGlobals "_law_choice" = some (some (.ref f36))) (l36 : K.lookup f36 = some ⟨oc36, od36, .func (PySem.W.fnOf "_law_choice" "_law_choice" (defArgs s__law_choice) (defBody s__law_choice) (defScope s__law_choice) .none kV36 dc36 pm36 an36 cd36 ct36), sl36⟩) (c36 : PySem.W.codeIn K cd36 "_law_choice" = true) (k36 : PySem.W.keepIn K (.ref f36) = true)
    {f37 : Addr} {od37 an37 : Option Addr} {sl37 : Array (Option Value)} {oc37 kV37 dc37 pm37 cd37 ct37 : Value}
    (a37 : PySem.W.nsIn K mainGlobals "_law_world" = some (some (.ref f37))) (l37 : K.lookup f37 = some ⟨oc37, od37, .func (PySem.W.fnOf "_law_world" "_law_world" (defArgs s__law_world) (defBody s__law_world) (defScope s__law_world) .none kV37 dc37 pm37 an37 cd37 ct37), sl37⟩) (c37 : PySem.W.codeIn K cd37 "_law_world" = true) (k37 : PySem.W.keepIn K (.ref f37) = true)
    {f38 : Addr} {od38 an38 : Option Addr} {sl38 : Array (Option Value)} {oc38 kV38 dc38 pm38 cd38 ct38 : Value}
    (a38 : PySem.W.nsIn K mainGlobals "check_belief" = some (some (.ref f38))) (l38 : K.lookup f38 = some ⟨oc38, od38, .func (PySem.W.fnOf "check_belief" "check_belief" (defArgs s_check_belief) (defBody s_check_belief) (defScope s_check_belief) .none kV38 dc38 pm38 an38 cd38 ct38), sl38⟩) (c38 : PySem.W.codeIn K cd38 "check_belief" = true) (k38 : PySem.W.keepIn K (.ref f38) = true)
    {f39 : Addr} {od39 an39 : Option Addr} {sl39 : Array (Option Value)} {oc39 kV39 dc39 pm39 cd39 ct39 : Value}
    (a39 : PySem.W.nsIn K mainGlobals "choice_at" = some (some (.ref f39))) (l39 : K.lookup f39 = some ⟨oc39, od39, .func (PySem.W.fnOf "choice_at" "choice_at" (defArgs s_choice_at) (defBody s_choice_at) (defScope s_choice_at) .none kV39 dc39 pm39 an39 cd39 ct39), sl39⟩) (c39 : PySem.W.codeIn K cd39 "choice_at" = true) (k39 : PySem.W.keepIn K (.ref f39) = true)
    {f40 : Addr} {od40 an40 : Option Addr} {sl40 : Array (Option Value)} {oc40 kV40 dc40 pm40 cd40 ct40 : Value}
    (a40 : PySem.W.nsIn K mainGlobals "is_setting" = some (some (.ref f40))) (l40 : K.lookup f40 = some ⟨oc40, od40, .func (PySem.W.fnOf "is_setting" "is_setting" (defArgs s_is_setting) (defBody s_is_setting) (defScope s_is_setting) .none kV40 dc40 pm40 an40 cd40 ct40), sl40⟩) (c40 : PySem.W.codeIn K cd40 "is_setting" = true) (k40 : PySem.W.keepIn K (.ref f40) = true)
    {f41 : Addr} {od41 an41 : Option Addr} {sl41 : Array (Option Value)} {oc41 kV41 dc41 pm41 cd41 ct41 : Value}
    (a41 : PySem.W.nsIn K mainGlobals "check_setting" = some (some (.ref f41))) (l41 : K.lookup f41 = some ⟨oc41, od41, .func (PySem.W.fnOf "check_setting" "check_setting" (defArgs s_check_setting) (defBody s_check_setting) (defScope s_check_setting) .none kV41 dc41 pm41 an41 cd41 ct41), sl41⟩) (c41 : PySem.W.codeIn K cd41 "check_setting" = true) (k41 : PySem.W.keepIn K (.ref f41) = true)
    {f42 : Addr} {od42 an42 : Option Addr} {sl42 : Array (Option Value)} {oc42 kV42 dc42 pm42 cd42 ct42 : Value}
    (a42 : PySem.W.nsIn K mainGlobals "best_actions" = some (some (.ref f42))) (l42 : K.lookup f42 = some ⟨oc42, od42, .func (PySem.W.fnOf "best_actions" "best_actions" (defArgs s_best_actions) (defBody s_best_actions) (defScope s_best_actions) .none kV42 dc42 pm42 an42 cd42 ct42), sl42⟩) (c42 : PySem.W.codeIn K cd42 "best_actions" = true) (k42 : PySem.W.keepIn K (.ref f42) = true)
    {f43 : Addr} {od43 an43 : Option Addr} {sl43 : Array (Option Value)} {oc43 kV43 dc43 pm43 cd43 ct43 : Value}
    (a43 : PySem.W.nsIn K mainGlobals "choice" = some (some (.ref f43))) (l43 : K.lookup f43 = some ⟨oc43, od43, .func (PySem.W.fnOf "choice" "choice" (defArgs s_choice) (defBody s_choice) (defScope s_choice) .none kV43 dc43 pm43 an43 cd43 ct43), sl43⟩) (c43 : PySem.W.codeIn K cd43 "choice" = true) (k43 : PySem.W.keepIn K (.ref f43) = true)
    {f44 : Addr} {od44 an44 : Option Addr} {sl44 : Array (Option Value)} {oc44 kV44 dc44 pm44 cd44 ct44 : Value}
    (a44 : PySem.W.nsIn K mainGlobals "pay" = some (some (.ref f44))) (l44 : K.lookup f44 = some ⟨oc44, od44, .func (PySem.W.fnOf "pay" "pay" (defArgs s_pay) (defBody s_pay) (defScope s_pay) .none kV44 dc44 pm44 an44 cd44 ct44), sl44⟩) (c44 : PySem.W.codeIn K cd44 "pay" = true) (k44 : PySem.W.keepIn K (.ref f44) = true)
    {f45 : Addr} {od45 an45 : Option Addr} {sl45 : Array (Option Value)} {oc45 kV45 dc45 pm45 cd45 ct45 : Value}
    (a45 : PySem.W.nsIn K mainGlobals "sure" = some (some (.ref f45))) (l45 : K.lookup f45 = some ⟨oc45, od45, .func (PySem.W.fnOf "sure" "sure" (defArgs s_sure) (defBody s_sure) (defScope s_sure) .none kV45 dc45 pm45 an45 cd45 ct45), sl45⟩) (c45 : PySem.W.codeIn K cd45 "sure" = true) (k45 : PySem.W.keepIn K (.ref f45) = true)
    {f46 : Addr} {od46 an46 : Option Addr} {sl46 : Array (Option Value)} {oc46 kV46 dc46 pm46 cd46 ct46 : Value}
    (a46 : PySem.W.nsIn K mainGlobals "value" = some (some (.ref f46))) (l46 : K.lookup f46 = some ⟨oc46, od46, .func (PySem.W.fnOf "value" "value" (defArgs s_value) (defBody s_value) (defScope s_value) .none kV46 dc46 pm46 an46 cd46 ct46), sl46⟩) (c46 : PySem.W.codeIn K cd46 "value" = true) (k46 : PySem.W.keepIn K (.ref f46) = true)
    {f47 : Addr} {od47 an47 : Option Addr} {sl47 : Array (Option Value)} {oc47 kV47 dc47 pm47 cd47 ct47 : Value}
    (a47 : PySem.W.nsIn K mainGlobals "worth" = some (some (.ref f47))) (l47 : K.lookup f47 = some ⟨oc47, od47, .func (PySem.W.fnOf "worth" "worth" (defArgs s_worth) (defBody s_worth) (defScope s_worth) .none kV47 dc47 pm47 an47 cd47 ct47), sl47⟩) (c47 : PySem.W.codeIn K cd47 "worth" = true) (k47 : PySem.W.keepIn K (.ref f47) = true)
    {f48 : Addr} {od48 an48 : Option Addr} {sl48 : Array (Option Value)} {oc48 kV48 dc48 pm48 cd48 ct48 : Value}
    (a48 : PySem.W.nsIn K mainGlobals "_law_there" = some (some (.ref f48))) (l48 : K.lookup f48 = some ⟨oc48, od48, .func (PySem.W.fnOf "_law_there" "_law_there" (defArgs s__law_there) (defBody s__law_there) (defScope s__law_there) .none kV48 dc48 pm48 an48 cd48 ct48), sl48⟩) (c48 : PySem.W.codeIn K cd48 "_law_there" = true) (k48 : PySem.W.keepIn K (.ref f48) = true)
    {f49 : Addr} {od49 an49 : Option Addr} {sl49 : Array (Option Value)} {oc49 kV49 dc49 pm49 cd49 ct49 : Value}
    (a49 : PySem.W.nsIn K mainGlobals "_law_right" = some (some (.ref f49))) (l49 : K.lookup f49 = some ⟨oc49, od49, .func (PySem.W.fnOf "_law_right" "_law_right" (defArgs s__law_right) (defBody s__law_right) (defScope s__law_right) .none kV49 dc49 pm49 an49 cd49 ct49), sl49⟩) (c49 : PySem.W.codeIn K cd49 "_law_right" = true) (k49 : PySem.W.keepIn K (.ref f49) = true)
    {f50 : Addr} {od50 an50 : Option Addr} {sl50 : Array (Option Value)} {oc50 kV50 dc50 pm50 cd50 ct50 : Value}
    (a50 : PySem.W.nsIn K mainGlobals "law" = some (some (.ref f50))) (l50 : K.lookup f50 = some ⟨oc50, od50, .func (PySem.W.fnOf "law" "law" (defArgs s_law) (defBody s_law) (defScope s_law) .none kV50 dc50 pm50 an50 cd50 ct50), sl50⟩) (c50 : PySem.W.codeIn K cd50 "law" = true) (k50 : PySem.W.keepIn K (.ref f50) = true)
    {v0 : Addr} {vt0 vu0 vn0 : Nat} {vd0 : Option Addr} {vs0 : Array (Option Value)} (va0 : PySem.W.nsIn K mainGlobals "NIL" = some (some (.ref v0))) (vl0 : K.lookup v0 = some ⟨.type "tuple", vd0, .seq #[.int 0 vt0, .int 1 vu0] vn0, vs0⟩)
    {v1 : Addr} {vt1 vu1 vn1 : Nat} {vd1 : Option Addr} {vs1 : Array (Option Value)} (va1 : PySem.W.nsIn K mainGlobals "ONE" = some (some (.ref v1))) (vl1 : K.lookup v1 = some ⟨.type "tuple", vd1, .seq #[.int 1 vt1, .int 1 vu1] vn1, vs1⟩)
    (z0 : PySem.W.nsIn K mainGlobals "abs" = some none)
    (z1 : PySem.W.nsIn K mainGlobals "all" = some none)
    (z2 : PySem.W.nsIn K mainGlobals "any" = some none)
    (z3 : PySem.W.nsIn K mainGlobals "bool" = some none)
    (z4 : PySem.W.nsIn K mainGlobals "divmod" = some none)
    (z5 : PySem.W.nsIn K mainGlobals "enumerate" = some none)
    (z6 : PySem.W.nsIn K mainGlobals "int" = some none)
    (z7 : PySem.W.nsIn K mainGlobals "isinstance" = some none)
    (z8 : PySem.W.nsIn K mainGlobals "len" = some none)
    (z9 : PySem.W.nsIn K mainGlobals "list" = some none)
    (z10 : PySem.W.nsIn K mainGlobals "max" = some none)
    (z11 : PySem.W.nsIn K mainGlobals "min" = some none)
    (z12 : PySem.W.nsIn K mainGlobals "range" = some none)
    (z13 : PySem.W.nsIn K mainGlobals "repr" = some none)
    (z14 : PySem.W.nsIn K mainGlobals "sum" = some none)
    (z15 : PySem.W.nsIn K mainGlobals "tuple" = some none)
    (z16 : PySem.W.nsIn K mainGlobals "zip" = some none)
    (zg : PySem.W.nsIn K mainGlobals "gcd" = some (some (.builtin "math.gcd")))
    : ∃ fd : FuncData, (∀ (s : Shared) (v : Value), BindsTo s fd ⟨[v], []⟩ [("_law_script", v)]) ∧ ∀ base : Heap, K.In base → base.Ns mainGlobals mg → DG.GOk P w K mg base 10 fa fd ["_law_script"] (spT 1 K T_law) := by
  have e := hfa.symm.trans (PySem.W.mg_of inK G a50)
  cases e
  have t__law_below : Top K mg "_law_below" s__law_below ["_law_x", "_law_y"] := top_mk inK G (fun _ _ _ _ _ _ us hl => match us, hl with | [_, _], _ => rfl) a0 l0 c0 k0
  have t__law_draw : Top K mg "_law_draw" s__law_draw ["_law_well_here", "_law_few"] := top_mk inK G (fun _ _ _ _ _ _ us hl => match us, hl with | [_, _], _ => rfl) a1 l1 c1 k1
  have t__law_lean : Top K mg "_law_lean" s__law_lean ["_law_top", "_law_base"] := top_mk inK G (fun _ _ _ _ _ _ us hl => match us, hl with | [_, _], _ => rfl) a2 l2 c2 k2
  have t__law_well : Top K mg "_law_well" s__law_well ["_law_script", "_law_lap"] := top_mk inK G (fun _ _ _ _ _ _ us hl => match us, hl with | [_, _], _ => rfl) a3 l3 c3 k3
  have t_action_count : Top K mg "action_count" s_action_count ["setting"] := top_mk inK G (fun _ _ _ _ _ _ us hl => match us, hl with | [_], _ => rfl) a4 l4 c4 k4
  have t_is_less : Top K mg "is_less" s_is_less ["left", "right"] := top_mk inK G (fun _ _ _ _ _ _ us hl => match us, hl with | [_, _], _ => rfl) a5 l5 c5 k5
  have t_is_whole : Top K mg "is_whole" s_is_whole ["value"] := top_mk inK G (fun _ _ _ _ _ _ us hl => match us, hl with | [_], _ => rfl) a6 l6 c6 k6
  have t_lowest : Top K mg "lowest" s_lowest ["above", "below"] := top_mk inK G (fun _ _ _ _ _ _ us hl => match us, hl with | [_, _], _ => rfl) a7 l7 c7 k7
  have t_state_count : Top K mg "state_count" s_state_count ["setting"] := top_mk inK G (fun _ _ _ _ _ _ us hl => match us, hl with | [_], _ => rfl) a8 l8 c8 k8
  have t_unit_row : Top K mg "unit_row" s_unit_row ["k", "many"] := top_mk inK G (fun _ _ _ _ _ _ us hl => match us, hl with | [_, _], _ => rfl) a9 l9 c9 k9
  have t__law_minus : Top K mg "_law_minus" s__law_minus ["_law_x", "_law_y"] := top_mk inK G (fun _ _ _ _ _ _ us hl => match us, hl with | [_, _], _ => rfl) a10 l10 c10 k10
  have t__law_number : Top K mg "_law_number" s__law_number ["_law_well_here"] := top_mk inK G (fun _ _ _ _ _ _ us hl => match us, hl with | [_], _ => rfl) a11 l11 c11 k11
  have t__law_one : Top K mg "_law_one" s__law_one ["_law_well_here", "_law_some"] := top_mk inK G (fun _ _ _ _ _ _ us hl => match us, hl with | [_, _], _ => rfl) a12 l12 c12 k12
  have t__law_over : Top K mg "_law_over" s__law_over ["_law_x", "_law_y"] := top_mk inK G (fun _ _ _ _ _ _ us hl => match us, hl with | [_, _], _ => rfl) a13 l13 c13 k13
  have t__law_plus : Top K mg "_law_plus" s__law_plus ["_law_x", "_law_y"] := top_mk inK G (fun _ _ _ _ _ _ us hl => match us, hl with | [_, _], _ => rfl) a14 l14 c14 k14
  have t__law_times : Top K mg "_law_times" s__law_times ["_law_x", "_law_y"] := top_mk inK G (fun _ _ _ _ _ _ us hl => match us, hl with | [_, _], _ => rfl) a15 l15 c15 k15
  have t_greatest : Top K mg "greatest" s_greatest ["row"] := top_mk inK G (fun _ _ _ _ _ _ us hl => match us, hl with | [_], _ => rfl) a16 l16 c16 k16
  have t_is_fraction : Top K mg "is_fraction" s_is_fraction ["value"] := top_mk inK G (fun _ _ _ _ _ _ us hl => match us, hl with | [_], _ => rfl) a17 l17 c17 k17
  have t_is_index : Top K mg "is_index" s_is_index ["value", "many"] := top_mk inK G (fun _ _ _ _ _ _ us hl => match us, hl with | [_, _], _ => rfl) a18 l18 c18 k18
  have t_row_product : Top K mg "row_product" s_row_product ["row", "other"] := top_mk inK G (fun _ _ _ _ _ _ us hl => match us, hl with | [_, _], _ => rfl) a19 l19 c19 k19
  have t__law_chance : Top K mg "_law_chance" s__law_chance ["_law_well_here", "_law_n"] := top_mk inK G (fun _ _ _ _ _ _ us hl => match us, hl with | [_, _], _ => rfl) a20 l20 c20 k20
  have t__law_dot : Top K mg "_law_dot" s__law_dot ["_law_one_here", "_law_two"] := top_mk inK G (fun _ _ _ _ _ _ us hl => match us, hl with | [_, _], _ => rfl) a21 l21 c21 k21
  have t__law_row : Top K mg "_law_row" s__law_row ["_law_well_here", "_law_n"] := top_mk inK G (fun _ _ _ _ _ _ us hl => match us, hl with | [_, _], _ => rfl) a22 l22 c22 k22
  have t__law_sizes : Top K mg "_law_sizes" s__law_sizes ["_law_well_here"] := top_mk inK G (fun _ _ _ _ _ _ us hl => match us, hl with | [_], _ => rfl) a23 l23 c23 k23
  have t_best_actions_at : Top K mg "best_actions_at" s_best_actions_at ["setting", "belief"] := top_mk inK G (fun _ _ _ _ _ _ us hl => match us, hl with | [_, _], _ => rfl) a24 l24 c24 k24
  have t_check_action : Top K mg "check_action" s_check_action ["setting", "action"] := top_mk inK G (fun _ _ _ _ _ _ us hl => match us, hl with | [_, _], _ => rfl) a25 l25 c25 k25
  have t_check_state : Top K mg "check_state" s_check_state ["setting", "state"] := top_mk inK G (fun _ _ _ _ _ _ us hl => match us, hl with | [_, _], _ => rfl) a26 l26 c26 k26
  have t_is_row : Top K mg "is_row" s_is_row ["value", "many"] := top_mk inK G (fun _ _ _ _ _ _ us hl => match us, hl with | [_, _], _ => rfl) a27 l27 c27 k27
  have t_row_sum : Top K mg "row_sum" s_row_sum ["row"] := top_mk inK G (fun _ _ _ _ _ _ us hl => match us, hl with | [_], _ => rfl) a28 l28 c28 k28
  have t__law_best : Top K mg "_law_best" s__law_best ["_law_pays_here", "_law_chance_here"] := top_mk inK G (fun _ _ _ _ _ _ us hl => match us, hl with | [_, _], _ => rfl) a29 l29 c29 k29
  have t__law_moved : Top K mg "_law_moved" s__law_moved ["_law_well_here", "_law_world_here"] := top_mk inK G (fun _ _ _ _ _ _ us hl => match us, hl with | [_, _], _ => rfl) a30 l30 c30 k30
  have t__law_pays : Top K mg "_law_pays" s__law_pays ["_law_well_here", "_law_n", "_law_m"] := top_mk inK G (fun _ _ _ _ _ _ us hl => match us, hl with | [_, _, _], _ => rfl) a31 l31 c31 k31
  have t__law_tied : Top K mg "_law_tied" s__law_tied ["_law_well_here", "_law_pays_here", "_law_chance_here"] := top_mk inK G (fun _ _ _ _ _ _ us hl => match us, hl with | [_, _, _], _ => rfl) a32 l32 c32 k32
  have t_is_row_of_chances : Top K mg "is_row_of_chances" s_is_row_of_chances ["value", "many"] := top_mk inK G (fun _ _ _ _ _ _ us hl => match us, hl with | [_, _], _ => rfl) a33 l33 c33 k33
  have t_is_table : Top K mg "is_table" s_is_table ["value", "many", "states"] := top_mk inK G (fun _ _ _ _ _ _ us hl => match us, hl with | [_, _, _], _ => rfl) a34 l34 c34 k34
  have t_value_at : Top K mg "value_at" s_value_at ["setting", "belief"] := top_mk inK G (fun _ _ _ _ _ _ us hl => match us, hl with | [_, _], _ => rfl) a35 l35 c35 k35
  have t__law_choice : Top K mg "_law_choice" s__law_choice ["_law_world_here", "_law_chance_here"] := top_mk inK G (fun _ _ _ _ _ _ us hl => match us, hl with | [_, _], _ => rfl) a36 l36 c36 k36
  have t__law_world : Top K mg "_law_world" s__law_world ["_law_well_here"] := top_mk inK G (fun _ _ _ _ _ _ us hl => match us, hl with | [_], _ => rfl) a37 l37 c37 k37
  have t_check_belief : Top K mg "check_belief" s_check_belief ["setting", "belief"] := top_mk inK G (fun _ _ _ _ _ _ us hl => match us, hl with | [_, _], _ => rfl) a38 l38 c38 k38
  have t_choice_at : Top K mg "choice_at" s_choice_at ["setting", "belief"] := top_mk inK G (fun _ _ _ _ _ _ us hl => match us, hl with | [_, _], _ => rfl) a39 l39 c39 k39
  have t_is_setting : Top K mg "is_setting" s_is_setting ["value"] := top_mk inK G (fun _ _ _ _ _ _ us hl => match us, hl with | [_], _ => rfl) a40 l40 c40 k40
  have t_check_setting : Top K mg "check_setting" s_check_setting ["setting"] := top_mk inK G (fun _ _ _ _ _ _ us hl => match us, hl with | [_], _ => rfl) a41 l41 c41 k41
  have t_best_actions : Top K mg "best_actions" s_best_actions ["setting", "belief"] := top_mk inK G (fun _ _ _ _ _ _ us hl => match us, hl with | [_, _], _ => rfl) a42 l42 c42 k42
  have t_choice : Top K mg "choice" s_choice ["setting", "belief"] := top_mk inK G (fun _ _ _ _ _ _ us hl => match us, hl with | [_, _], _ => rfl) a43 l43 c43 k43
  have t_pay : Top K mg "pay" s_pay ["setting", "action", "belief"] := top_mk inK G (fun _ _ _ _ _ _ us hl => match us, hl with | [_, _, _], _ => rfl) a44 l44 c44 k44
  have t_sure : Top K mg "sure" s_sure ["setting", "state"] := top_mk inK G (fun _ _ _ _ _ _ us hl => match us, hl with | [_, _], _ => rfl) a45 l45 c45 k45
  have t_value : Top K mg "value" s_value ["setting", "belief"] := top_mk inK G (fun _ _ _ _ _ _ us hl => match us, hl with | [_, _], _ => rfl) a46 l46 c46 k46
  have t_worth : Top K mg "worth" s_worth ["setting", "action", "belief"] := top_mk inK G (fun _ _ _ _ _ _ us hl => match us, hl with | [_, _, _], _ => rfl) a47 l47 c47 k47
  have t__law_there : Top K mg "_law_there" s__law_there ["_law_world_here", "_law_chance_here"] := top_mk inK G (fun _ _ _ _ _ _ us hl => match us, hl with | [_, _], _ => rfl) a48 l48 c48 k48
  have t__law_right : Top K mg "_law_right" s__law_right ["_law_well_here"] := top_mk inK G (fun _ _ _ _ _ _ us hl => match us, hl with | [_], _ => rfl) a49 l49 c49 k49
  have C_NIL : ConstOk K mg "NIL" V_NIL := const_mk inK G va0 vl0
  have C_ONE : ConstOk K mg "ONE" V_ONE := const_mk inK G va1 vl1
  have F : Fun K "law" "law" s_law fa (PySem.W.fnOf "law" "law" (defArgs s_law) (defBody s_law) (defScope s_law) .none kV50 dc50 pm50 an50 cd50 ct50) := fun_mk (st := s_law) l50 c50 k50
  have m_abs : mg "abs" = none := PySem.W.mg_none_of inK G z0
  have m_all : mg "all" = none := PySem.W.mg_none_of inK G z1
  have m_any : mg "any" = none := PySem.W.mg_none_of inK G z2
  have m_bool : mg "bool" = none := PySem.W.mg_none_of inK G z3
  have m_divmod : mg "divmod" = none := PySem.W.mg_none_of inK G z4
  have m_enumerate : mg "enumerate" = none := PySem.W.mg_none_of inK G z5
  have m_int : mg "int" = none := PySem.W.mg_none_of inK G z6
  have m_isinstance : mg "isinstance" = none := PySem.W.mg_none_of inK G z7
  have m_len : mg "len" = none := PySem.W.mg_none_of inK G z8
  have m_list : mg "list" = none := PySem.W.mg_none_of inK G z9
  have m_max : mg "max" = none := PySem.W.mg_none_of inK G z10
  have m_min : mg "min" = none := PySem.W.mg_none_of inK G z11
  have m_range : mg "range" = none := PySem.W.mg_none_of inK G z12
  have m_repr : mg "repr" = none := PySem.W.mg_none_of inK G z13
  have m_sum : mg "sum" = none := PySem.W.mg_none_of inK G z14
  have m_tuple : mg "tuple" = none := PySem.W.mg_none_of inK G z15
  have m_zip : mg "zip" = none := PySem.W.mg_none_of inK G z16
  have g_gcd : mg "gcd" = some (.builtin "math.gcd") := PySem.W.mg_of inK G zg
  refine ⟨PySem.W.fnOf "law" "law" (defArgs s_law) (defBody s_law) (defScope s_law) .none kV50 dc50 pm50 an50 cd50 ct50, fun s v => .of_eq ?_, fun base _ _ => ?_⟩
  · rfl
  · exact law_ok F t__law_below t__law_draw t__law_lean t__law_well t_action_count t_is_less t_is_whole t_lowest t_state_count t_unit_row t__law_minus t__law_number t__law_one t__law_over t__law_plus t__law_times t_greatest t_is_fraction t_is_index t_row_product t__law_chance t__law_dot t__law_row t__law_sizes t_best_actions_at t_check_action t_check_state t_is_row t_row_sum t__law_best t__law_moved t__law_pays t__law_tied t_is_row_of_chances t_is_table t_value_at t__law_choice t__law_world t_check_belief t_choice_at t_is_setting t_check_setting t_best_actions t_choice t_pay t_sure t_value t_worth t__law_there t__law_right C_NIL C_ONE m_abs m_all m_any m_bool m_divmod m_enumerate m_int m_isinstance m_len m_list m_max m_min m_range m_repr m_sum m_tuple m_zip g_gcd
end K3

/-! part K3z -/
set_option Elab.async false
set_option linter.all false
set_option maxRecDepth 100000
open PySem PySem.W PyProof.Rows
set_option maxHeartbeats 0 in
theorem PySem.Challenge.cw_persuasion_k03_whole_pays_best_actions_v_holds : PySem.Challenge.rw_persuasion_k03_whole_pays_best_actions_v.Holds := by
  w_on; o_law; k_head; (case hw => w_witness2)
  k_fill
  refine DE.go_walk (l := PySem.Challenge.rw_persuasion_k03_whole_pays_best_actions_v) (n := 63) (k := 10) (x := "_law_script") (sp := fun K => DV.spT 1 K K3.T_law) rfl (by decide) rfl ⟨rfl, by decide, by decide⟩ (fun w h Y => PySem.W.kIn_of Y) ?F (fun K T a ns hl ho hs => K3.law_starts K T a ns hl ho hs)
  case F =>
    intro w mg fa h KX G hmg
    refine' K3.all_mk KX G hmg ?a0 ?l0 ?c0 ?k0 ?a1 ?l1 ?c1 ?k1 ?a2 ?l2 ?c2 ?k2 ?a3 ?l3 ?c3 ?k3 ?a4 ?l4 ?c4 ?k4 ?a5 ?l5 ?c5 ?k5 ?a6 ?l6 ?c6 ?k6 ?a7 ?l7 ?c7 ?k7 ?a8 ?l8 ?c8 ?k8 ?a9 ?l9 ?c9 ?k9 ?a10 ?l10 ?c10 ?k10 ?a11 ?l11 ?c11 ?k11 ?a12 ?l12 ?c12 ?k12 ?a13 ?l13 ?c13 ?k13 ?a14 ?l14 ?c14 ?k14 ?a15 ?l15 ?c15 ?k15 ?a16 ?l16 ?c16 ?k16 ?a17 ?l17 ?c17 ?k17 ?a18 ?l18 ?c18 ?k18 ?a19 ?l19 ?c19 ?k19 ?a20 ?l20 ?c20 ?k20 ?a21 ?l21 ?c21 ?k21 ?a22 ?l22 ?c22 ?k22 ?a23 ?l23 ?c23 ?k23 ?a24 ?l24 ?c24 ?k24 ?a25 ?l25 ?c25 ?k25 ?a26 ?l26 ?c26 ?k26 ?a27 ?l27 ?c27 ?k27 ?a28 ?l28 ?c28 ?k28 ?a29 ?l29 ?c29 ?k29 ?a30 ?l30 ?c30 ?k30 ?a31 ?l31 ?c31 ?k31 ?a32 ?l32 ?c32 ?k32 ?a33 ?l33 ?c33 ?k33 ?a34 ?l34 ?c34 ?k34 ?a35 ?l35 ?c35 ?k35 ?a36 ?l36 ?c36 ?k36 ?a37 ?l37 ?c37 ?k37 ?a38 ?l38 ?c38 ?k38 ?a39 ?l39 ?c39 ?k39 ?a40 ?l40 ?c40 ?k40 ?a41 ?l41 ?c41 ?k41 ?a42 ?l42 ?c42 ?k42 ?a43 ?l43 ?c43 ?k43 ?a44 ?l44 ?c44 ?k44 ?a45 ?l45 ?c45 ?k45 ?a46 ?l46 ?c46 ?k46 ?a47 ?l47 ?c47 ?k47 ?a48 ?l48 ?c48 ?k48 ?a49 ?l49 ?c49 ?k49 ?a50 ?l50 ?c50 ?k50 ?va0 ?vl0 ?va1 ?vl1 ?z0 ?z1 ?z2 ?z3 ?z4 ?z5 ?z6 ?z7 ?z8 ?z9 ?z10 ?z11 ?z12 ?z13 ?z14 ?z15 ?z16 ?zg
    (case a0 => k_is); (case l0 => k_is); (case c0 => k_is); (case k0 => k_is); (case a1 => k_is); (case l1 => k_is); (case c1 => k_is); (case k1 => k_is); (case a2 => k_is); (case l2 => k_is); (case c2 => k_is); (case k2 => k_is); (case a3 => k_is); (case l3 => k_is); (case c3 => k_is); (case k3 => k_is); (case a4 => k_is); (case l4 => k_is); (case c4 => k_is); (case k4 => k_is); (case a5 => k_is); (case l5 => k_is); (case c5 => k_is); (case k5 => k_is); (case a6 => k_is); (case l6 => k_is); (case c6 => k_is); (case k6 => k_is); (case a7 => k_is); (case l7 => k_is); (case c7 => k_is); (case k7 => k_is); (case a8 => k_is); (case l8 => k_is); (case c8 => k_is); (case k8 => k_is); (case a9 => k_is); (case l9 => k_is); (case c9 => k_is); (case k9 => k_is); (case a10 => k_is); (case l10 => k_is); (case c10 => k_is); (case k10 => k_is); (case a11 => k_is); (case l11 => k_is); (case c11 => k_is); (case k11 => k_is); (case a12 => k_is); (case l12 => k_is); (case c12 => k_is); (case k12 => k_is); (case a13 => k_is); (case l13 => k_is); (case c13 => k_is); (case k13 => k_is); (case a14 => k_is); (case l14 => k_is); (case c14 => k_is); (case k14 => k_is); (case a15 => k_is); (case l15 => k_is); (case c15 => k_is); (case k15 => k_is); (case a16 => k_is); (case l16 => k_is); (case c16 => k_is); (case k16 => k_is); (case a17 => k_is); (case l17 => k_is); (case c17 => k_is); (case k17 => k_is); (case a18 => k_is); (case l18 => k_is); (case c18 => k_is); (case k18 => k_is); (case a19 => k_is); (case l19 => k_is); (case c19 => k_is); (case k19 => k_is); (case a20 => k_is); (case l20 => k_is); (case c20 => k_is); (case k20 => k_is); (case a21 => k_is); (case l21 => k_is); (case c21 => k_is); (case k21 => k_is); (case a22 => k_is); (case l22 => k_is); (case c22 => k_is); (case k22 => k_is); (case a23 => k_is); (case l23 => k_is); (case c23 => k_is); (case k23 => k_is); (case a24 => k_is); (case l24 => k_is); (case c24 => k_is); (case k24 => k_is); (case a25 => k_is); (case l25 => k_is); (case c25 => k_is); (case k25 => k_is); (case a26 => k_is); (case l26 => k_is); (case c26 => k_is); (case k26 => k_is); (case a27 => k_is); (case l27 => k_is); (case c27 => k_is); (case k27 => k_is); (case a28 => k_is); (case l28 => k_is); (case c28 => k_is); (case k28 => k_is); (case a29 => k_is); (case l29 => k_is); (case c29 => k_is); (case k29 => k_is); (case a30 => k_is); (case l30 => k_is); (case c30 => k_is); (case k30 => k_is); (case a31 => k_is); (case l31 => k_is); (case c31 => k_is); (case k31 => k_is); (case a32 => k_is); (case l32 => k_is); (case c32 => k_is); (case k32 => k_is); (case a33 => k_is); (case l33 => k_is); (case c33 => k_is); (case k33 => k_is); (case a34 => k_is); (case l34 => k_is); (case c34 => k_is); (case k34 => k_is); (case a35 => k_is); (case l35 => k_is); (case c35 => k_is); (case k35 => k_is); (case a36 => k_is); (case l36 => k_is); (case c36 => k_is); (case k36 => k_is); (case a37 => k_is); (case l37 => k_is); (case c37 => k_is); (case k37 => k_is); (case a38 => k_is); (case l38 => k_is); (case c38 => k_is); (case k38 => k_is); (case a39 => k_is); (case l39 => k_is); (case c39 => k_is); (case k39 => k_is); (case a40 => k_is); (case l40 => k_is); (case c40 => k_is); (case k40 => k_is); (case a41 => k_is); (case l41 => k_is); (case c41 => k_is); (case k41 => k_is); (case a42 => k_is); (case l42 => k_is); (case c42 => k_is); (case k42 => k_is); (case a43 => k_is); (case l43 => k_is); (case c43 => k_is); (case k43 => k_is); (case a44 => k_is); (case l44 => k_is); (case c44 => k_is); (case k44 => k_is); (case a45 => k_is); (case l45 => k_is); (case c45 => k_is); (case k45 => k_is); (case a46 => k_is); (case l46 => k_is); (case c46 => k_is); (case k46 => k_is); (case a47 => k_is); (case l47 => k_is); (case c47 => k_is); (case k47 => k_is); (case a48 => k_is); (case l48 => k_is); (case c48 => k_is); (case k48 => k_is); (case a49 => k_is); (case l49 => k_is); (case c49 => k_is); (case k49 => k_is); (case a50 => k_is); (case l50 => k_is); (case c50 => k_is); (case k50 => k_is); (case va0 => k_is); (case vl0 => k_is); (case va1 => k_is); (case vl1 => k_is); (case z0 => k_is); (case z1 => k_is); (case z2 => k_is); (case z3 => k_is); (case z4 => k_is); (case z5 => k_is); (case z6 => k_is); (case z7 => k_is); (case z8 => k_is); (case z9 => k_is); (case z10 => k_is); (case z11 => k_is); (case z12 => k_is); (case z13 => k_is); (case z14 => k_is); (case z15 => k_is); (case z16 => k_is); (case zg => k_is)


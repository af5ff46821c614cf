import PyProof.Rows.All
import Wide.All
import OpenK.AllK
import Wide.FinOn
import KE.KOpsOwn
import HandS.ForMost
import HandS.SlotsOwn
import HandS.Defaults
import HandS.Property
import HandS.ClsMeth
import HandS.Gcd
import HandS.IsInst
import HandS.FStr
import HandS.Head0
import HandS.Head1
import HandS.Head2
import HandS.Head3
import HandS.HeadEnd
import HandS.HeadHook1
import HandS.HeadHook2
import PyProof.EqAt
import PyProof.EqKinds
import PyProof.TupleCall
import KE.KExcInit
import KE.KExcStr
import HandS.Exc
import KE.KExcIs
import HandS.ExcOwn
import PyProof.ReprNest
import PyProof.ReprRoads
import HandS.ForExc
import HandS.TryOnly
import HandS.ExcIs
import HandS.Lambda
import HandS.Zip0
import HandS.Walk
import HandS.Evl
import HandS.Wide
import HandS.Star
import HandS.TupAny
import HandS.Rev
import HandS.Comp
import HandS.Iter
import HandS.Style
import HandS.WideBits
import KE.IntBitsLaws
import HandS.Flow
import HandS.Text
import HandS.HotCalls
import HandS.ExcCtx
import HandS.SetFor
import HandS.Strs
import HandS.AnyAll
import PySem.Challenge.RW_slotsums_k71_sign_runs
set_option Elab.async false
set_option linter.all false
set_option maxRecDepth 100000
set_option maxHeartbeats 1000000
/-! operators of an own class over the layer: a method of two operands, a method of one, == -/
namespace RtL
open PySem PySem.Spec PyProof.Rows L2
section
variable {X : Cx} {CX : CXT} {k : Nat} {f C : Addr} {fd : FuncData} {sp : Sp} {E : XK} {ps : List Str}
/-- x op y by the method of x's class, y of the same class or a whole number -/
def rOwnBin (C : Addr) (sp : Sp) (E : XK) : R2 := fun x y H Q => ∃ a dx fs, x = .ref a ∧ H a = some (.ins C dx fs) ∧ ((∃ i, y = .int i) ∨ ∃ b dy gs, y = .ref b ∧ H b = some (.ins C dy gs)) ∧ sp [.ref a, y] H Q E
/-- what is asked of the class -/
structure OpOf (K : PySem.W.Frag) (C f : Addr) (d r : Str) : Prop where
  me : PySem.W.selfFirst K C = true
  at_ : PySem.W.findIn K (.ref C) d = some (some (.ref f))
  fn : PySem.W.isFn K (.ref f) = true
  re : PySem.W.findIn K (.ref C) r = some none
  nt : PySem.W.subIn K (.type "int") (.ref C) = some false
theorem op_ownBin {op : Operator} {fo ro : Option Value} (O : OpOf X.K C f (PySem.dunder op.info.2) (PySem.dunderR op.info.2)) (h1 : PySem.W.findIn X.K (.type "int") (PySem.dunder op.info.2) = some fo) (h2 : PySem.W.findIn X.K (.type "int") (PySem.dunderR op.info.2) = some ro)
    (F : FnOk X.prog X.w X.K X.mg X.base CX k f fd ps sp) (hr : Room k X.A) (hb : Binds X.K fd ps []) (hx : Passes CX X E) : OpR X (binaryOp op) (rOwnBin C sp E) := by
  intro pins s σ H x y v u Q I rx ry h
  obtain ⟨a, dx, fs, rfl, ha, hy, q⟩ := h
  cases (show v = Value.ref a from rx)
  obtain ⟨mA, oa, _⟩ := ins_get I.hok ha
  obtain ⟨od, J, _⟩ := oa.look
  obtain ⟨m, hF⟩ := I.fr
  have go := wpAny_mono (run_fn F hr hb .nil hx I (us := [.ref a, u]) (vs := [.ref a, y]) (.cons rfl (.cons ry .nil)) q) (fun w s' z => (by
    obtain ⟨z', H', I', rz, qz⟩ := z
    exact SlX.cmpback rz ⟨z', H', I', rz, qz⟩ : PySem.W.CmpBack (EP X pins σ Q) w s')) fun _ _ x => x
  rcases hy with ⟨i, rfl⟩ | ⟨b, dy, gs, rfl, hb'⟩
  · obtain ⟨t, e⟩ := (show ∃ t, u = Value.int i t from ry)
    subst e
    exact PySem.W.ksp_binT hF I.ok.mod.kin J rfl O.me O.at_ O.fn O.re (.inl rfl) h1 h2 O.nt go
  · cases (show u = Value.ref b from ry)
    obtain ⟨mB, ob, _⟩ := ins_get I.hok hb'
    obtain ⟨od', J', _⟩ := ob.look
    exact PySem.W.binop_K hF I.ok.mod.kin J J'.type O.me O.at_ O.fn go
/-- - x by the method of x's class -/
def rOwnUn (C : Addr) (sp : Sp) (E : XK) : V → Hp → VK → Prop := fun x H Q => ∃ a dx fs, x = .ref a ∧ H a = some (.ins C dx fs) ∧ sp [.ref a] H Q E
theorem un_own (hs : PySem.W.findIn X.K (.ref C) "__neg__" = some (some (.ref f))) (hf : PySem.W.isFn X.K (.ref f) = true) (F : FnOk X.prog X.w X.K X.mg X.base CX k f fd ps sp) (hr : Room k X.A) (hb : Binds X.K fd ps []) (hx : Passes CX X E) :
    UnR X (unaryOp .USub) (rOwnUn C sp E) := by
  intro pins s σ H x v Q I rx h
  obtain ⟨a, dx, fs, rfl, ha, q⟩ := h
  cases (show v = Value.ref a from rx)
  obtain ⟨mA, oa, _⟩ := ins_get I.hok ha
  obtain ⟨od, J, _⟩ := oa.look
  obtain ⟨m, hF⟩ := I.fr
  exact PySem.W.ksp_neg hF I.ok.mod.kin J hs hf (run_fn F hr hb .nil hx I (us := [.ref a]) (vs := [.ref a]) (.cons rfl .nil) q)
/-- x == y by the method of x's class, y of the same class, a whole number, a text, None or a truth value -/
def rOwnEq (C : Addr) (sp : Sp) (E : XK) : R2 := fun x y H Q => ∃ a dx fs, x = .ref a ∧ H a = some (.ins C dx fs) ∧ ((∃ b dy gs, y = .ref b ∧ H b = some (.ins C dy gs)) ∨ (∃ i, y = .int i) ∨ (∃ z, y = .str z) ∨ y = .non ∨ ∃ c, y = .bl c) ∧ sp [.ref a, y] H Q E
structure EqOf (K : PySem.W.Frag) (C f : Addr) : Prop where
  at_ : PySem.W.findIn K (.ref C) "__eq__" = some (some (.ref f))
  fn : PySem.W.isFn K (.ref f) = true
  nt : ∀ t ∈ ["int", "str", "NoneType", "bool"], PySem.W.subIn K (.type t) (.ref C) = some false
theorem op_ownEq (O : EqOf X.K C f) (F : FnOk X.prog X.w X.K X.mg X.base CX k f fd ps sp) (hr : Room k X.A) (hb : Binds X.K fd ps []) (hx : Passes CX X E) : OpR X (compareOp .Eq) (rOwnEq C sp E) := by
  intro pins s σ H x y v u Q I rx ry h
  obtain ⟨a, dx, fs, rfl, ha, hy, q⟩ := h
  cases (show v = Value.ref a from rx)
  obtain ⟨mA, oa, _⟩ := ins_get I.hok ha
  obtain ⟨od, J, _⟩ := oa.look
  obtain ⟨m, hF⟩ := I.fr
  have go := wpAny_mono (run_fn F hr hb .nil hx I (us := [.ref a, u]) (vs := [.ref a, y]) (.cons rfl (.cons ry .nil)) q) (fun w s' z => (by
    obtain ⟨z', H', I', rz, qz⟩ := z
    exact SlX.cmpback rz ⟨z', H', I', rz, qz⟩ : PySem.W.CmpBack (EP X pins σ Q) w s')) fun _ _ x => x
  have nf : ∀ t ∈ ["int", "str", "NoneType", "bool"], PySem.W.notFirst X.K C (.type t) = true := fun t ht => by
    unfold PySem.W.notFirst
    rw [O.nt t ht]
    simp
  show wpAny _ _ (richCompare .Eq _ _) _ _ _
  rcases hy with ⟨b, dy, gs, rfl, hb'⟩ | ⟨i, rfl⟩ | ⟨z, rfl⟩ | rfl | ⟨c, rfl⟩
  · cases (show u = Value.ref b from ry)
    obtain ⟨mB, ob, _⟩ := ins_get I.hok hb'
    obtain ⟨od', J', _⟩ := ob.look
    exact PySem.W.cmp_K (op := .Eq) (tb := .ref C) hr.units0 hF I.ok.mod.kin J J'.type (by unfold PySem.W.notFirst; simp) O.at_ O.fn go
  · obtain ⟨t, e⟩ := (show ∃ t, u = Value.int i t from ry)
    subst e
    exact PySem.W.cmp_K (op := .Eq) (tb := .type "int") hr.units0 hF I.ok.mod.kin J (PySem.W.Looks.of_pure rfl) (nf _ (by decide)) O.at_ O.fn go
  · obtain ⟨t, e⟩ := (show ∃ t, u = Value.str z t from ry)
    subst e
    exact PySem.W.cmp_K (op := .Eq) (tb := .type "str") hr.units0 hF I.ok.mod.kin J (PySem.W.Looks.of_pure rfl) (nf _ (by decide)) O.at_ O.fn go
  · cases (show u = Value.none from ry)
    exact PySem.W.cmp_K (op := .Eq) (tb := .type "NoneType") hr.units0 hF I.ok.mod.kin J (PySem.W.Looks.of_pure rfl) (nf _ (by decide)) O.at_ O.fn go
  · cases (show u = Value.bool c from ry)
    exact PySem.W.cmp_K (op := .Eq) (tb := .type "bool") hr.units0 hF I.ok.mod.kin J (PySem.W.Looks.of_pure rfl) (nf _ (by decide)) O.at_ O.fn go
end
end RtL

set_option maxHeartbeats 1000000
/-! a def that stands anywhere (a property's getter, a classmethod's def): what the head's look says of it -/
namespace RtL
open PySem PySem.Spec PyProof.Rows L2
abbrev Fr := PySem.W.Frag
def lookA (K : Fr) (a : Addr) : He.FnW := match K.lookup a with
  | some ⟨_, _, .func d, _⟩ => some (d.name, d.qualname, d.params, d.body, d.scope, d.globals, d.closure, d.builtins)
  | _ => none
def wellA (K : Fr) (a : Addr) (q : Str) (ds : List He.Dv) : Bool := PySem.W.keepIn K (.ref a) && match K.lookup a with
  | some ⟨_, _, .func d, _⟩ => PySem.W.codeIn K d.code q && (He.dflB K d.defaults (ds.map (He.Dv.v K)) && He.kwdB K d.kwdefaults [])
  | _ => false
theorem def_at {K : Fr} {a : Addr} {x q : Str} {ps : Arguments} {bd : List Stmt} {sc : Scope} {ds : List He.Dv} (e : lookA K a = some (x, q, ps, .stmts bd, sc, mainGlobals, [], builtinsNs)) (c : wellA K a q ds = true) :
    ∃ fd, FunD K x q ps bd sc (ds.map (He.Dv.v K)) [] a fd := by
  have c1 := (Bool.and_eq_true_iff.mp c).1
  have c2 := (Bool.and_eq_true_iff.mp c).2
  unfold lookA at e
  cases hl : K.lookup a with
  | none => rw [hl] at e; cases e
  | some o =>
    obtain ⟨o1, o2, dt, o3⟩ := o
    rw [hl] at e c2
    cases dt with
    | func d =>
      obtain ⟨m1, m2, m3, m4, m5, m6, m7, m8, m9, m10, m11, m12, m13, m14, m15⟩ := d
      have e' : (some (m1, m2, m3, m4, m5, m6, m7, m15) : He.FnW) = some (x, q, ps, .stmts bd, sc, mainGlobals, [], builtinsNs) := e
      injection e' with e'
      simp only [Prod.mk.injEq] at e'
      obtain ⟨rfl, rfl, rfl, rfl, rfl, rfl, rfl, rfl⟩ := e'
      have c3 : (PySem.W.codeIn K m13 m2 && (He.dflB K m8 (ds.map (He.Dv.v K)) && He.kwdB K m9 [])) = true := c2
      have c4 := (Bool.and_eq_true_iff.mp c3).2
      exact ⟨_, ⟨o1, o2, m8, m9, m10, m11, m12, m13, m14, o3, rfl, hl, (Bool.and_eq_true_iff.mp c3).1, He.dflB_ok (Bool.and_eq_true_iff.mp c4).1, He.kwdB_ok (Bool.and_eq_true_iff.mp c4).2⟩, c1⟩
    | _ => cases c2
/-- the def of a record (a property, a classmethod) that a class has under a name -/
def recA (K : Fr) (C : Addr) (f : Str) (T : String) : Addr := match PySem.W.recIn K (He.ma K C f) T with
  | some (.ref g :: _) => g
  | _ => 0
def propB (K : Fr) (C : Addr) (f : Str) : Bool := He.eqO (PySem.W.findIn K (.ref C) f) (some (some (.ref (He.ma K C f)))) && (He.eqO (PySem.W.specialIn K (.ref (He.ma K C f)) "__get__") (some (some (.builtin "property.__get__"))) &&
  (decide (PySem.W.takesIn K (.ref (He.ma K C f)) = some true) && match PySem.W.recIn K (He.ma K C f) "property" with
    | some (.ref _ :: _) => true
    | _ => false))
theorem prop_ok {K : Fr} {C : Addr} {f : Str} (h : propB K C f = true) : PropOf K C f (He.ma K C f) (recA K C f "property") := by
  have h1 := (Bool.and_eq_true_iff.mp h).1
  have h2 := (Bool.and_eq_true_iff.mp (Bool.and_eq_true_iff.mp h).2).1
  have h3 := (Bool.and_eq_true_iff.mp (Bool.and_eq_true_iff.mp (Bool.and_eq_true_iff.mp h).2).2).1
  have h4 := (Bool.and_eq_true_iff.mp (Bool.and_eq_true_iff.mp (Bool.and_eq_true_iff.mp h).2).2).2
  refine ⟨He.eqO_ok h1, He.eqO_ok h2, of_decide_eq_true h3, ?_⟩
  unfold recA
  split at h4
  · rename_i g r e
    exact ⟨r, by rw [e]⟩
  · cases h4
end RtL

set_option maxHeartbeats 4000000
namespace PySem
namespace Er
open PySem.W PySem.Calls PyProof.Rows PySem.HandSPX
section
variable {M : Model} {A : Around} {E : Value → Shared → Prop} {h : Heap} {g : Array GenState} {d : Drawn} {t : Nat} {os : OsState}
variable {nm q : Str} {C N : Addr} {bs bm bmB : List Value} {hdct : Bool} {sn : List Str} {sub : List Value} {ab : Bool} {col : Option Bool}
variable {dd : Option Addr} {k0 k1 k2 k3 k5 : Option Value} {B newId initId : String}
variable {prog : Program} {w : World} {R : Result → Shared → Prop}

theorem check_newK (FB : ExcBaseFacts B newId initId bmB) (hT : ∀ T : String, bm.contains (.type T) = bmB.contains (.type T)) {rest : List Value}
    {kw : List (Str × Value)} {Q : Unit → Shared → Prop}
    (hC : h.get? C = some (excClassObj nm q C N bs bm hdct sn sub ab col dd k0 k1 k2 k3 k5 newId))
    (hq : Q () ⟨h, g, d, t, os⟩) : wpAny M A (checkBuiltinCall newId ⟨.ref C :: rest, kw⟩) Q E ⟨h, g, d, t, os⟩ := by
  have hcont : (Value.ref C :: bm).contains (.type B) = true := by
    rw [List.contains_cons, hT, FB.hasB, Bool.or_true]
  have hstar := FB.noStar
  simp only [checkBuiltinCall, FB.newKind, FB.newSplit, FB.newRow]
  repeat (first
    | refine wpAny_loadPart_at hC ?_
    | (refine wpAny_isSubtype_exc hC ?_; rw [hcont])
    | refine wpAny_staticBase_exc hC ?_
    | refine wpAny_madeBy_exc hC ?_
    | simp only [bne_self_eq_false, Bool.false_eq_true, if_false]
    | wp_step)
  exact hq

theorem newK (FB : ExcBaseFacts B newId initId bmB) (hT : ∀ T : String, bm.contains (.type T) = bmB.contains (.type T)) {rest : List Value} {kw : List (Str × Value)}
    (hC : h.get? C = some (excClassObj nm q C N bs bm hdct sn sub ab col dd k0 k1 k2 k3 k5 newId))
    (hq : R (.ok (.ret (.ref (h.objs.size + 1)))) ⟨(h.push (kdv_tup rest)).push (excO C h.objs.size), g, d, t, os⟩) (hrest : rest.length ≤ sizeLine) :
    codeAny (model prog w) A (.builtin newId ⟨.ref C :: rest, kw⟩) R ⟨h, g, d, t, os⟩ := by
  have hends := FB.ends
  have hcB : (Value.ref C :: bm).contains (.type B) = true := by
    rw [List.contains_cons, hT, FB.hasB, Bool.or_true]
  have hcA : (Value.ref C :: bm).contains (.type "AttributeError") = false := by
    rw [List.contains_cons, hT, FB.noAttr]
    rfl
  have hcN : (Value.ref C :: bm).contains (.type "NameError") = false := by
    rw [List.contains_cons, hT, FB.noName]
    rfl
  refine codeAny_builtinAt FB.entry ?_
  unfold Builtin.«BaseException.__new__»
  refine wpAt_bind ?_
  show wpAt _ _ _ (stack >>= _) _ _ _
  refine wpAt_bind (wpAt_stack fun p below => wpAt_of_wpAny ?_)
  wp_walk
  refine wpAt_of_wpAny ?_
  rw [FB.owner]
  repeat (first
    | with_reducible refine wpAny_madeHere_exc FB.canon hC ?_
    | with_reducible refine wpAny_loadPart_at hC ?_
    | (with_reducible refine wpAny_isSubtype_exc hC ?_; first | rw [hcB] | rw [hcA] | rw [hcN])
    | wp_step)
  show R _ _
  rw [Heap.size_push]
  exact hq

theorem type_callK (FB : ExcBaseFacts B newId initId bmB) (hT : ∀ T : String, bm.contains (.type T) = bmB.contains (.type T)) {rest : List Value} {kw : List (Str × Value)} {fI : Addr} {Q : Fin → Shared → Prop}
    (hC : h.get? C = some (excClassObj nm q C N bs bm hdct sn sub ab col dd k0 k1 k2 k3 k5 newId))
    (hi : W.Looks (model prog w) h (typeLookup (.ref C) "__init__") (some (.ref fI)))
    (hb : ∀ self, W.Looks (model prog w) h (bindSpecial (.ref fI) self) (.ref fI, [self])) (hrest : rest.length ≤ sizeLine)
    (hq : codeAny (model prog w) A (.call (.ref fI) ⟨.ref (h.objs.size + 1) :: rest, kw⟩)
      (fun r s' => match r with | .ok (.ret v) => v = .none ∧ Q (.done (.ret (.ref (h.objs.size + 1)))) s' | .ok _ => False | .error e => E e s')
      ⟨(h.push (kdv_tup rest)).push (excO C h.objs.size), g, d, t, os⟩) :
    wpAny (model prog w) A (Builtin.«type.__call__» ⟨.ref C :: rest, kw⟩) Q E ⟨h, g, d, t, os⟩ := by
  repeat (first
    | with_reducible refine wpAny_loadPart_at hC ?_
    | with_reducible refine wpAny_madeBy_exc hC ?_
    | wp_step)
  refine codeAny_call_builtin_code (Code.quiet_builtin _ FB.quiet) (check_newK FB hT hC ?_)
  refine newK FB hT hC ?_ hrest
  show wpAny _ _ _ _ _ _
  have k : ∀ b o, h.get? b = some o → ((h.push (kdv_tup rest)).push (excO C h.objs.size)).get? b = some o :=
    fun b o e => Heap.get?_push_of_some _ (Heap.get?_push_of_some _ e)
  have hC1 := k _ _ hC
  have hget : ((h.push (kdv_tup rest)).push (excO C h.objs.size)).get? (h.objs.size + 1) = some (excO C h.objs.size) := by heap_get
  have hcC : (Value.ref C :: bm).contains (.ref C) = true := by simp
  have i1 := hi.keeps k
  have b1 := (hb (.ref (h.objs.size + 1))).keeps k
  unfold isInstance
  repeat (first
    | with_reducible refine wpAny_loadPart_at hget ?_
    | (with_reducible refine wpAny_isSubtype_exc hC1 ?_; rw [hcC])
    | wp_step)
  show wpAny _ _ (typeLookup (.ref C) _) _ _ _
  refine i1.at ?_
  refine wpAny_holding (wpAny_bind (b1.at ?_))
  refine wpAny_bind (wpAny_call (codeAny_mono hq fun r s' z => ?_))
  rcases r with e | (v | _ | _ | _) <;> first | exact z | exact z.elim | skip
  obtain ⟨rfl, z⟩ := z
  first
    | exact wpAny_pure (wpAny_pure z)
    | (wp_walk; exact z)

theorem call_ownK (FB : ExcBaseFacts B newId initId bmB) (hT : ∀ T : String, bm.contains (.type T) = bmB.contains (.type T)) {rest : List Value} {kw : List (Str × Value)} {fI : Addr}
    (hC : h.get? C = some (excClassObj nm q C N bs bm hdct sn sub ab col dd k0 k1 k2 k3 k5 newId))
    (hi : W.Looks (model prog w) h (typeLookup (.ref C) "__init__") (some (.ref fI)))
    (hb : ∀ self, W.Looks (model prog w) h (bindSpecial (.ref fI) self) (.ref fI, [self])) (hrest : rest.length ≤ sizeLine)
    (hq : codeAny (model prog w) (A.under (.builtin "type.__call__" ⟨.ref C :: rest, kw⟩)) (.call (.ref fI) ⟨.ref (h.objs.size + 1) :: rest, kw⟩)
      (W.InitBack (h.objs.size + 1) R) ⟨(h.push (kdv_tup rest)).push (excO C h.objs.size), g, d, t, os⟩) :
    codeAny (model prog w) A (.call (.ref C) ⟨rest, kw⟩) R ⟨h, g, d, t, os⟩ := by
  have f1 := tc_lookup
  have f2 := tc_bind (.ref C)
  have hTy : (⟨h, g, d, t, os⟩ : Shared).TypeIs (.ref C) "type" := ⟨_, hC, rfl⟩
  refine codeAny_of_tree ?_
  show wpAny _ _ (callAny (.ref C) _) _ _ _
  repeat (any_goals (first
    | assumption
    | with_reducible refine wpAny_loadPart_at hC ?_
    | wp_step))
  refine ⟨rfl, ?_⟩
  refine codeAny_call_builtin_at (Code.quiet_builtin _ (by decide +kernel)) entry_typeCall (wpAny_check_type_call_sub hC (type_callK FB hT hC hi hb hrest ?_))
  refine codeAny_mono hq fun r s' z => ?_
  rcases r with e | (v | _ | _ | _) <;> exact z
end
end Er
end PySem

set_option maxHeartbeats 4000000
namespace PySem
namespace Er
open PySem.W PySem.Calls PyProof.Rows Builtin Builtin.ObjectAttr
open PySem.HandSPX (excO)
section
variable {prog : Program} {w : World} {A : Around} {E : Value → Shared → Prop} {R : Result → Shared → Prop} {hp : Heap} {g : Array GenState} {d : Drawn} {t : Nat} {os : OsState}
variable {K : Frag} {C : Addr} {B : String} {bmB : List Value}

/-- the first field of an error -/
theorem put_new {name : Str} {tk : Tok} {v : Value} {x t0 : Addr} (SF : StoreFacts B bmB "object.__setattr__" "object") (X : K.In hp)
    (hx : hp.get? x = some (excO C t0)) (ho : excOver K C bmB = true) (ht : takerIn K C name = some none) (hh : hasDictIn K C = true)
    (hq : ∀ h' tk' dx, (∀ b o, b ≠ x → hp.get? b = some o → h'.get? b = some o) → hp.objs.size ≤ dx → dx ≠ x →
      h'.get? x = some { cls := .ref C, dict := some dx, data := .fields #[.ref t0, .none, .none, .none, .bool false, .none] } →
      h'.Ns1 dx (fun y => if y = name then some v else none) → R (.ok (.ret .none)) ⟨h', g, d, tk', os⟩) :
    codeAny (model prog w) A (.call (.builtin "object.__setattr__") ⟨[.ref x, .str name tk, v], []⟩) R ⟨hp, g, d, t, os⟩ := by
  have hxs : x ≠ hp.objs.size := Nat.ne_of_lt (Heap.lt_size hx)
  refine osa_openX (od := none) SF X ⟨hx, rfl, rfl, trivial⟩ ho ht fun b => ?_
  obtain ⟨cd, hc, hd'⟩ := any_some hh
  have hcls : W.Looks (model prog w) hp (classData C) cd := looks_clsIn X hc
  obtain ⟨nm, bs, mro, ns, qn, hd, sn, sb, ab, col, del⟩ := cd
  dsimp only at hd'
  subst hd'
  unfold storeInOwnDict ownDictForStores
  repeat (first
    | with_reducible refine PX.store_in_new ?_ ?_
    | with_reducible refine wpAny_loadPart_at hx ?_
    | with_reducible refine hcls.at ?_
    | wp_step)
  · exact ⟨_, #[], _, (Heap.get?_update_ne _ _ _ _ hxs.symm).trans (Heap.get?_push_at rfl rfl), rfl, fun e he => absurd he (by simp), fun _ => rfl⟩
  · intro h' tk' hn' hs
    have hx1 : (hp.push { cls := .type "dict", data := .dict #[] }).get? x = some (excO C t0) := Heap.get?_push_of_some _ hx
    refine hq h' tk' hp.objs.size (fun b o hb ho => ?_) (Nat.le_refl _) hxs.symm ?_ hn'
    · exact (hs.2 b (Nat.ne_of_lt (Heap.lt_size ho))).trans ((Heap.get?_update_ne _ _ _ _ hb).trans (Heap.get?_push_of_some _ ho))
    · exact (hs.2 x hxs).trans (Heap.get?_update_self _ hx1 rfl)

/-- a further one -/
theorem put_old {name : Str} {tk : Tok} {v : Value} {x dx : Addr} {fv : Array Value} {m0 : Str → Option Value} {nl : List Str} (SF : StoreFacts B bmB "object.__setattr__" "object") (X : K.In hp)
    (hx : hp.get? x = some { cls := .ref C, dict := some dx, data := .fields fv }) (hns : hp.Ns1 dx m0) (hw : Within m0 nl) (hz : nl.length ≤ 1000)
    (ho : excOver K C bmB = true) (ht : takerIn K C name = some none) (hh : hasDictIn K C = true)
    (hq : ∀ h' tk', (∀ b o, b ≠ dx → hp.get? b = some o → h'.get? b = some o) → h'.Ns1 dx (fun y => if y = name then some v else m0 y) →
      R (.ok (.ret .none)) ⟨h', g, d, tk', os⟩) :
    codeAny (model prog w) A (.call (.builtin "object.__setattr__") ⟨[.ref x, .str name tk, v], []⟩) R ⟨hp, g, d, t, os⟩ := by
  obtain ⟨oD, esD, epD, hoD, hdD, _⟩ := hns.count hw
  refine osa_openX (od := some oD) SF X ⟨hx, rfl, rfl, hoD⟩ ho ht fun b => ?_
  obtain ⟨cd, hc, hd'⟩ := any_some hh
  have hcls : W.Looks (model prog w) hp (classData C) cd := looks_clsIn X hc
  obtain ⟨nm, bs, mro, ns, qn, hd, sn, sb, ab, col, del⟩ := cd
  dsimp only at hd'
  subst hd'
  unfold storeInOwnDict ownDictForStores
  repeat (first
    | with_reducible refine PX.store_in_old hns hw hz ?_
    | with_reducible refine wpAny_loadPart_at hx ?_
    | with_reducible refine hcls.at ?_
    | wp_step)
  intro h' tk' hn' hs
  exact hq h' tk' (fun b o hb ho => (hs.2 b hb).trans ho) hn'
end

/-! ### the texts of the two kinds of __init__ -/
def iA1 (f : Str) (p1 p2 : Pos) : Arguments :=
  { posonlyargs := [], args := [{ arg := "self", annotation := none, pos := p1 }, { arg := f, annotation := none, pos := p2 }], vararg := none, kwonlyargs := [], kw_defaults := [], kwarg := none, defaults := [] }
def iB1 (f : Str) (q1 q2 q3 q4 : Pos) : List Stmt := [.Assign [.Attribute (.Name "self" q1) f q2] (.Name f q3) q4]
def iS1 (f : Str) : Scope := { kind := .function, names := [(PySem.Str.ofString "self", .local), (f, .local)], isGenerator := false, isCoroutine := false, more := [] }
def iA2 (f f' : Str) (p1 p2 p3 : Pos) : Arguments :=
  { posonlyargs := [], args := [{ arg := "self", annotation := none, pos := p1 }, { arg := f, annotation := none, pos := p2 }, { arg := f', annotation := none, pos := p3 }], vararg := none, kwonlyargs := [], kw_defaults := [], kwarg := none, defaults := [] }
def iB2 (f f' : Str) (q1 q2 q3 q4 r1 r2 r3 r4 : Pos) : List Stmt :=
  [.Assign [.Attribute (.Name "self" q1) f q2] (.Name f q3) q4, .Assign [.Attribute (.Name "self" r1) f' r2] (.Name f' r3) r4]
def iS2 (f f' : Str) : Scope := { kind := .function, names := [(PySem.Str.ofString "self", .local), (f, .local), (f', .local)], isGenerator := false, isCoroutine := false, more := [] }

/-- a local name is read -/
theorem ld {M : Model} {s : Shared} {name : Str} {scope : Scope} {L a : Addr} {cd : Value} {m : Str → Option Value} {x : Str} {pos : Pos} {v : Value} {Q : Value → Shared → Prop} {A : Around} {E : Value → Shared → Prop}
    (hn : s.heap.Ns L m) (hv : m x = some v) (h : Q v s) (hk : scope.kind = .function) (hl : (envOfC name scope L a cd).kindOf x = some .local) (hd : (x == ("__debug__" : Str)) = false) :
    wpAny M A (eval (.Name x pos) (envOfC name scope L a cd)) Q E s := wpAny_Name (wpAny_loadName_local hk hl hn hv h) hd

/-- what the class at C says of making and storing -/
structure Cl (K : Frag) (C : Addr) (B newId initId : String) (bmB : List Value) : Prop where
  FB : ExcBaseFacts B newId initId bmB
  SF : StoreFacts B bmB "object.__setattr__" "object"
  ini : excInitIn K C bmB newId = true
  ov : excOver K C bmB = true
  hd : hasDictIn K C = true
  sa : findIn K (.ref C) "__setattr__" = some (some (.builtin "object.__setattr__"))
  kC : keepIn K (.ref C) = true
/-- of its __init__ with one field -/
structure In1 (K : Frag) (C : Addr) (f : Str) : Prop where
  tk : takerIn K C f = some none
  nd : (f == ("__debug__" : Str)) = false
  ns : (f == ("self" : Str)) = false
  fn : ∃ (fI : Addr) (qual : Str) (oc : Value) (od : Option Addr) (kV doc pm : Value) (an : Option Addr) (cdv ct : Value) (osl : Array (Option Value)) (p1 p2 q1 q2 q3 q4 : Pos),
    findIn K (.ref C) "__init__" = some (some (.ref fI)) ∧ typeIn K (.ref fI) = some (.type "function") ∧
    K.lookup fI = some ⟨oc, od, .func (fnOf "__init__" qual (iA1 f p1 p2) (iB1 f q1 q2 q3 q4) (iS1 f) .none kV doc pm an cdv ct), osl⟩ ∧ codeIn K cdv qual = true
/-- of its __init__ with two fields -/
structure In2 (K : Frag) (C : Addr) (f f' : Str) : Prop where
  tk : takerIn K C f = some none
  tk' : takerIn K C f' = some none
  nd : (f == ("__debug__" : Str)) = false
  nd' : (f' == ("__debug__" : Str)) = false
  ns : (f == ("self" : Str)) = false
  ns' : (f' == ("self" : Str)) = false
  nf : (f' == f) = false
  fn : ∃ (fI : Addr) (qual : Str) (oc : Value) (od : Option Addr) (kV doc pm : Value) (an : Option Addr) (cdv ct : Value) (osl : Array (Option Value)) (p1 p2 p3 q1 q2 q3 q4 r1 r2 r3 r4 : Pos),
    findIn K (.ref C) "__init__" = some (some (.ref fI)) ∧ typeIn K (.ref fI) = some (.type "function") ∧
    K.lookup fI = some ⟨oc, od, .func (fnOf "__init__" qual (iA2 f f' p1 p2 p3) (iB2 f f' q1 q2 q3 q4 r1 r2 r3 r4) (iS2 f f') .none kV doc pm an cdv ct), osl⟩ ∧ codeIn K cdv qual = true

/-- a made error: e of the class C, its dict d, its arguments' tuple t -/
structure Made (h h' : Heap) (e C d t : Addr) (args : List Value) (m : Str → Option Value) : Prop where
  keep : ∀ b o, h.get? b = some o → h'.get? b = some o
  be : h.objs.size ≤ e
  bt : h.objs.size ≤ t
  bd : h.objs.size ≤ d
  te : t ≠ e
  de : d ≠ e
  dt : d ≠ t
  obj : h'.get? e = some { cls := .ref C, dict := some d, data := .fields #[.ref t, .none, .none, .none, .bool false, .none] }
  tup : h'.get? t = some (kdv_tup args)
  ns : h'.Ns1 d m
end Er
end PySem

set_option maxHeartbeats 4000000
namespace PySem
namespace Er
open PySem.W PySem.Calls PyProof.Rows Builtin Builtin.ObjectAttr
open PySem.HandSPX (excO)
section
variable {prog : Program} {w : World} {A : Around} {E : Value → Shared → Prop} {R : Result → Shared → Prop} {s : Shared}
variable {K : Frag} {C : Addr} {B newId initId : String} {bmB : List Value} {f f' : Str}

theorem kind1 {f : Str} (ns : (f == ("self" : Str)) = false) : (iS1 f).names.lookup f = some .local := by
  show List.lookup f [(PySem.Str.ofString "self", NameKind.local), (f, NameKind.local)] = some NameKind.local
  have e : (f == PySem.Str.ofString "self") = false := ns
  simp [List.lookup, e]
theorem kind2 {f f' : Str} (ns : (f == ("self" : Str)) = false) : (iS2 f f').names.lookup f = some .local := by
  show List.lookup f [(PySem.Str.ofString "self", NameKind.local), (f, NameKind.local), (f', NameKind.local)] = some NameKind.local
  have e : (f == PySem.Str.ofString "self") = false := ns
  simp [List.lookup, e]
theorem kind2' {f f' : Str} (ns : (f' == ("self" : Str)) = false) (nf : (f' == f) = false) : (iS2 f f').names.lookup f' = some .local := by
  show List.lookup f' [(PySem.Str.ofString "self", NameKind.local), (f, NameKind.local), (f', NameKind.local)] = some NameKind.local
  have e : (f' == PySem.Str.ofString "self") = false := ns
  simp [List.lookup, e, nf]

theorem ne_of_beq {a b : Str} (h : (a == b) = false) : a ≠ b := fun e => by
  subst e
  simp at h

/-- the body of an __init__ with one field -/
theorem body1 (c : Cl K C B newId initId bmB) (i : In1 K C f) {x t0 L a : Addr} {cd v : Value} {qual : Str} {q1 q2 q3 q4 : Pos} {m : Str → Option Value} (X : K.In s.heap)
    (hx : s.heap.get? x = some (excO C t0)) (hn : s.heap.Ns L m) (m1 : m "self" = some (.ref x)) (m2 : m f = some v) {Q : Flow → Shared → Prop}
    (hq : ∀ h' tk' dx, (∀ b o, b ≠ x → s.heap.get? b = some o → h'.get? b = some o) → s.heap.objs.size ≤ dx → dx ≠ x →
      h'.get? x = some { cls := .ref C, dict := some dx, data := .fields #[.ref t0, .none, .none, .none, .bool false, .none] } →
      h'.Ns1 dx (fun y => if y = f then some v else none) → Q .next { s with heap := h', toks := tk' }) :
    wpAny (model prog w) A (execs (iB1 f q1 q2 q3 q4) (envOfC qual (iS1 f) L a cd)) Q E s := by
  show wpAny _ _ (execs _ _) _ _ _
  refine wpAny_execs_cons (plainObj_wpAny_Assign_Attribute ?_)
  refine ld (v := v) hn m2 (ld (v := .ref x) hn m1 ?_ rfl rfl (by decide)) rfl (kind1 i.ns) i.nd
  refine set_plain X (ox := excO C t0) (od := none) ⟨hx, rfl, rfl, trivial⟩ c.sa ?_
  refine put_new c.SF X hx c.ov i.tk c.hd (fun h' tk' dx k dn dne hx' hns => ?_)
  show wpAny _ _ (execs _ _) _ _ _
  exact wpAny_execs_nil (hq h' tk' dx k dn dne hx' hns)
/-- .. with two -/
theorem body2 (c : Cl K C B newId initId bmB) (i : In2 K C f f') {x t0 L a : Addr} {cd v v' : Value} {qual : Str} {q1 q2 q3 q4 r1 r2 r3 r4 : Pos} {m : Str → Option Value} (X : K.In s.heap)
    (hx : s.heap.get? x = some (excO C t0)) (hLx : L ≠ x) (hKx : K.lookup x = none) (hn : s.heap.Ns L m) (m1 : m "self" = some (.ref x)) (m2 : m f = some v) (m3 : m f' = some v') {Q : Flow → Shared → Prop}
    (hq : ∀ h' tk' dx, (∀ b o, b ≠ x → s.heap.get? b = some o → h'.get? b = some o) → s.heap.objs.size ≤ dx → dx ≠ x →
      h'.get? x = some { cls := .ref C, dict := some dx, data := .fields #[.ref t0, .none, .none, .none, .bool false, .none] } →
      h'.Ns1 dx (fun y => if y = f' then some v' else if y = f then some v else none) → Q .next { s with heap := h', toks := tk' }) :
    wpAny (model prog w) A (execs (iB2 f f' q1 q2 q3 q4 r1 r2 r3 r4) (envOfC qual (iS2 f f') L a cd)) Q E s := by
  show wpAny _ _ (execs _ _) _ _ _
  refine wpAny_execs_cons (plainObj_wpAny_Assign_Attribute ?_)
  refine ld (v := v) hn m2 (ld (v := .ref x) hn m1 ?_ rfl rfl (by decide)) rfl (kind2 i.ns) i.nd
  refine set_plain X (ox := excO C t0) (od := none) ⟨hx, rfl, rfl, trivial⟩ c.sa ?_
  refine put_new c.SF X hx c.ov i.tk c.hd (fun h' tk' dx k dn dne hx' hns => ?_)
  have X' : K.In h' := fun b o e => k b o (fun z => by rw [z, hKx] at e; cases e) (X b o e)
  have hn' : h'.Ns L m := by
    obtain ⟨o, es, ep, ho, r⟩ := hn
    exact ⟨o, es, ep, k _ _ hLx ho, r⟩
  show wpAny _ _ (execs _ _) _ _ _
  refine wpAny_execs_cons (plainObj_wpAny_Assign_Attribute ?_)
  refine ld (v := v') hn' m3 (ld (v := .ref x) hn' m1 ?_ rfl rfl (by decide)) rfl (kind2' i.ns' i.nf) i.nd'
  obtain ⟨oD, esD, epD, hoD, hdD, _⟩ := hns.count (Within.cons f v Within.nil)
  refine set_plain X' (ox := { cls := .ref C, dict := some dx, data := .fields #[.ref t0, .none, .none, .none, .bool false, .none] }) (od := some oD) ⟨hx', rfl, rfl, hoD⟩ c.sa ?_
  refine put_old c.SF X' hx' hns (Within.cons f v Within.nil) (by simp) c.ov i.tk' c.hd (fun h2 tk2 k2 hns2 => ?_)
  show wpAny _ _ (execs _ _) _ _ _
  exact wpAny_execs_nil (hq h2 tk2 dx (fun b o hb e => k2 b o (fun z => absurd (Heap.lt_size e) (by rw [z]; exact Nat.not_lt.mpr dn)) (k b o hb e)) dn dne (k2 x _ (Ne.symm dne) hx') hns2)

theorem map1 {kindOf : Str → Option NameKind} {x v : Value} {f : Str} (e0 : kindOf "self" = some .local) (e1 : kindOf f = some .local) (ns : (f == ("self" : Str)) = false) :
    bindL kindOf [("self", x), (f, v)] (fun _ => none) "self" = some x ∧ bindL kindOf [("self", x), (f, v)] (fun _ => none) f = some v := by
  have n1 : ¬ (("self" : Str) = f) := fun e => ne_of_beq ns e.symm
  constructor
  · show (if kindOf f = some .local then fun y => if y = f then some v else (if kindOf "self" = some .local then fun y => if y = ("self" : Str) then some x else none else fun _ => none) y else _) ("self" : Str) = some x
    rw [if_pos e1, if_pos e0]
    simp [n1]
  · show (if kindOf f = some .local then fun y => if y = f then some v else (if kindOf "self" = some .local then fun y => if y = ("self" : Str) then some x else none else fun _ => none) y else _) f = some v
    rw [if_pos e1]
    simp
theorem map2 {kindOf : Str → Option NameKind} {x v v' : Value} {f f' : Str} (e0 : kindOf "self" = some .local) (e1 : kindOf f = some .local) (e2 : kindOf f' = some .local) (ns : (f == ("self" : Str)) = false) (ns' : (f' == ("self" : Str)) = false) (nf : (f' == f) = false) :
    bindL kindOf [("self", x), (f, v), (f', v')] (fun _ => none) "self" = some x ∧ bindL kindOf [("self", x), (f, v), (f', v')] (fun _ => none) f = some v ∧ bindL kindOf [("self", x), (f, v), (f', v')] (fun _ => none) f' = some v' := by
  have n1 : ¬ (("self" : Str) = f) := fun e => ne_of_beq ns e.symm
  have n2 : ¬ (("self" : Str) = f') := fun e => ne_of_beq ns' e.symm
  have n3 : ¬ (f = f') := fun e => ne_of_beq nf e.symm
  refine ⟨?_, ?_, ?_⟩
  all_goals simp [bindL, e0, e1, e2, n1, n2, n3]

/-- a call of the class, one field -/
theorem made1 (c : Cl K C B newId initId bmB) (i : In1 K C f) {rest : List Value} {kw : List (Str × Value)} {v : Value} (X : K.In s.heap) (hlim : s.heap.NoLimit) (hroom : A.depth + 1 < recursionLimit) (hz : rest.length ≤ sizeLine)
    (hb : ∀ (s : Shared) (qual : Str) (p1 p2 q1 q2 q3 q4 : Pos) (kV doc pm : Value) (an : Option Addr) (cdv ct x : Value),
      BindsTo s (fnOf "__init__" qual (iA1 f p1 p2) (iB1 f q1 q2 q3 q4) (iS1 f) .none kV doc pm an cdv ct) ⟨x :: rest, kw⟩ [("self", x), (f, v)])
    (hq : ∀ h' tk e d t, Made s.heap h' e C d t rest (fun y => if y = f then some v else none) → R (.ok (.ret (.ref e))) { s with heap := h', toks := tk }) :
    codeAny (model prog w) A (.call (.ref C) ⟨rest, kw⟩) R s := by
  obtain ⟨fI, qual, oc, od, kV, doc, pm, an, cdv, ct, osl, p1, p2, q1, q2, q3, q4, hi, ht, ho, hcd⟩ := i.fn
  obtain ⟨nm, N, qn, bs, bm, hdct, sn, sub, ab, col, dd, k0, k1, k2, k3, k5, hC, hT⟩ := excInit_of X c.ini
  obtain ⟨hp, g, dr, tk, os⟩ := s
  have k : ∀ b o, hp.get? b = some o → ((hp.push (kdv_tup rest)).push (excO C hp.objs.size)).get? b = some o := fun b o e => Heap.get?_push_of_some _ (Heap.get?_push_of_some _ e)
  have hget : ((hp.push (kdv_tup rest)).push (excO C hp.objs.size)).get? (hp.objs.size + 1) = some (excO C hp.objs.size) := by heap_get
  have hget0 : ((hp.push (kdv_tup rest)).push (excO C hp.objs.size)).get? hp.objs.size = some (kdv_tup rest) := by heap_get
  have hsz : ((hp.push (kdv_tup rest)).push (excO C hp.objs.size)).objs.size = hp.objs.size + 1 + 1 := by rw [Heap.size_push, Heap.size_push]
  refine call_ownK c.FB hT hC (looks_findIn X hi) (fun self => bind_fn X self ht) hz ?_
  refine Att.call_fn (s := ⟨(hp.push (kdv_tup rest)).push (excO C hp.objs.size), g, dr, tk, os⟩) (binds := [("self", .ref (hp.objs.size + 1)), (f, v)]) (X.keeps k) (hlim.keeps k) ho hcd ?_ (hb _ _ _ _ _ _ _ _ _ _ _ _ _ _ _) ?_ (fun s1 IC => ?_) rfl rfl rfl
  · show A.depth + 1 < recursionLimit
    exact hroom
  · have e1 : (iS1 f).names.lookup f = some .local := kind1 i.ns
    have e0 : (iS1 f).names.lookup ("self" : Str) = some NameKind.local := rfl
    simp [List.all, e1, e0]
  obtain ⟨h1, tk1, rfl⟩ := IC.toInCall.same
  have ks : ∀ b o, ((hp.push (kdv_tup rest)).push (excO C hp.objs.size)).get? b = some o → h1.get? b = some o := IC.toInCall.keep
  have hn := IC.toInCall.ns
  obtain ⟨m1, m2⟩ := map1 (kindOf := (envOfC qual (iS1 f) ((hp.push (kdv_tup rest)).push (excO C hp.objs.size)).objs.size fI cdv).kindOf) (x := .ref (hp.objs.size + 1)) (v := v) rfl (kind1 i.ns) i.ns
  refine wpAny_mono (body1 c i ((X.keeps k).keeps ks) (ks _ _ hget) hn m1 m2 (Q := fun fl s' => fl = .next ∧ ∃ h' tk' dx, s' = ⟨h', g, dr, tk', os⟩ ∧ Made hp h' (hp.objs.size + 1) C dx hp.objs.size rest (fun y => if y = f then some v else none)) (fun h' tk' dx k' dn dne hx hns => ⟨rfl, h', tk', dx, rfl, ?_⟩)) (fun fl s' hh => ?_) (fun e s' hh => hh)
  · have lt1 : hp.objs.size + 1 < h1.objs.size := Heap.lt_size (ks _ _ hget)
    have z2 : h1.objs.size ≤ dx := dn
    have z3 : hp.objs.size < dx := by omega
    exact ⟨fun b o e => k' b o (Nat.ne_of_lt (Nat.lt_succ_of_lt (Heap.lt_size e))) (ks _ _ (k _ _ e)), Nat.le_succ _, Nat.le_refl _, Nat.le_of_lt z3, Nat.ne_of_lt (Nat.lt_succ_self _), dne, Nat.ne_of_gt z3, hx, k' _ _ (Nat.ne_of_lt (Nat.lt_succ_self _)) (ks _ _ hget0), hns⟩
  · obtain ⟨rfl, h', tk', dx, rfl, M⟩ := hh
    exact ⟨rfl, hq h' tk' (hp.objs.size + 1) dx hp.objs.size M⟩
/-- .. two -/
theorem made2 (c : Cl K C B newId initId bmB) (i : In2 K C f f') {rest : List Value} {kw : List (Str × Value)} {v v' : Value} (X : K.In s.heap) (hlim : s.heap.NoLimit) (hroom : A.depth + 1 < recursionLimit) (hz : rest.length ≤ sizeLine)
    (hb : ∀ (s : Shared) (qual : Str) (p1 p2 p3 q1 q2 q3 q4 r1 r2 r3 r4 : Pos) (kV doc pm : Value) (an : Option Addr) (cdv ct x : Value),
      BindsTo s (fnOf "__init__" qual (iA2 f f' p1 p2 p3) (iB2 f f' q1 q2 q3 q4 r1 r2 r3 r4) (iS2 f f') .none kV doc pm an cdv ct) ⟨x :: rest, kw⟩ [("self", x), (f, v), (f', v')])
    (hq : ∀ h' tk e d t, Made s.heap h' e C d t rest (fun y => if y = f' then some v' else if y = f then some v else none) → R (.ok (.ret (.ref e))) { s with heap := h', toks := tk }) :
    codeAny (model prog w) A (.call (.ref C) ⟨rest, kw⟩) R s := by
  obtain ⟨fI, qual, oc, od, kV, doc, pm, an, cdv, ct, osl, p1, p2, p3, q1, q2, q3, q4, r1, r2, r3, r4, hi, ht, ho, hcd⟩ := i.fn
  obtain ⟨nm, N, qn, bs, bm, hdct, sn, sub, ab, col, dd, k0, k1, k2, k3, k5, hC, hT⟩ := excInit_of X c.ini
  obtain ⟨hp, g, dr, tk, os⟩ := s
  have k : ∀ b o, hp.get? b = some o → ((hp.push (kdv_tup rest)).push (excO C hp.objs.size)).get? b = some o := fun b o e => Heap.get?_push_of_some _ (Heap.get?_push_of_some _ e)
  have hget : ((hp.push (kdv_tup rest)).push (excO C hp.objs.size)).get? (hp.objs.size + 1) = some (excO C hp.objs.size) := by heap_get
  have hget0 : ((hp.push (kdv_tup rest)).push (excO C hp.objs.size)).get? hp.objs.size = some (kdv_tup rest) := by heap_get
  have hsz : ((hp.push (kdv_tup rest)).push (excO C hp.objs.size)).objs.size = hp.objs.size + 1 + 1 := by rw [Heap.size_push, Heap.size_push]
  have hKx : K.lookup (hp.objs.size + 1) = none := by
    cases e : K.lookup (hp.objs.size + 1) with
    | none => rfl
    | some o =>
      have z : hp.get? (hp.objs.size + 1) = some o := X _ _ e
      exact absurd (Nat.lt_of_succ_lt (Heap.lt_size z)) (Nat.lt_irrefl _)
  refine call_ownK c.FB hT hC (looks_findIn X hi) (fun self => bind_fn X self ht) hz ?_
  refine Att.call_fn (s := ⟨(hp.push (kdv_tup rest)).push (excO C hp.objs.size), g, dr, tk, os⟩) (binds := [("self", .ref (hp.objs.size + 1)), (f, v), (f', v')]) (X.keeps k) (hlim.keeps k) ho hcd ?_ (hb _ _ _ _ _ _ _ _ _ _ _ _ _ _ _ _ _ _ _ _) ?_ (fun s1 IC => ?_) rfl rfl rfl
  · show A.depth + 1 < recursionLimit
    exact hroom
  · have e1 : (iS2 f f').names.lookup f = some .local := kind2 i.ns
    have e2 : (iS2 f f').names.lookup f' = some .local := kind2' i.ns' i.nf
    have e0 : (iS2 f f').names.lookup ("self" : Str) = some NameKind.local := rfl
    simp [List.all, e1, e2, e0]
  obtain ⟨h1, tk1, rfl⟩ := IC.toInCall.same
  have ks : ∀ b o, ((hp.push (kdv_tup rest)).push (excO C hp.objs.size)).get? b = some o → h1.get? b = some o := IC.toInCall.keep
  have hn := IC.toInCall.ns
  obtain ⟨m1, m2, m3⟩ := map2 (kindOf := (envOfC qual (iS2 f f') ((hp.push (kdv_tup rest)).push (excO C hp.objs.size)).objs.size fI cdv).kindOf) (x := .ref (hp.objs.size + 1)) (v := v) (v' := v') rfl (kind2 i.ns) (kind2' i.ns' i.nf) i.ns i.ns' i.nf
  have hLx : ((hp.push (kdv_tup rest)).push (excO C hp.objs.size)).objs.size ≠ hp.objs.size + 1 := by omega
  refine wpAny_mono (body2 c i ((X.keeps k).keeps ks) (ks _ _ hget) hLx hKx hn m1 m2 m3 (Q := fun fl s' => fl = .next ∧ ∃ h' tk' dx, s' = ⟨h', g, dr, tk', os⟩ ∧ Made hp h' (hp.objs.size + 1) C dx hp.objs.size rest (fun y => if y = f' then some v' else if y = f then some v else none)) (fun h' tk' dx k' dn dne hx hns => ⟨rfl, h', tk', dx, rfl, ?_⟩)) (fun fl s' hh => ?_) (fun e s' hh => hh)
  · have lt1 : hp.objs.size + 1 < h1.objs.size := Heap.lt_size (ks _ _ hget)
    have z2 : h1.objs.size ≤ dx := dn
    have z3 : hp.objs.size < dx := by omega
    exact ⟨fun b o e => k' b o (Nat.ne_of_lt (Nat.lt_succ_of_lt (Heap.lt_size e))) (ks _ _ (k _ _ e)), Nat.le_succ _, Nat.le_refl _, Nat.le_of_lt z3, Nat.ne_of_lt (Nat.lt_succ_self _), dne, Nat.ne_of_gt z3, hx, k' _ _ (Nat.ne_of_lt (Nat.lt_succ_self _)) (ks _ _ hget0), hns⟩
  · obtain ⟨rfl, h', tk', dx, rfl, M⟩ := hh
    exact ⟨rfl, hq h' tk' (hp.objs.size + 1) dx hp.objs.size M⟩
end
end Er
end PySem

set_option maxHeartbeats 4000000
namespace ErL
open PySem PySem.Spec PyProof.Rows L2
open PySem.Er (Made Cl In1 In2)
/-- an error object at e: its class, its dict (or none), its arguments' tuple -/
def erO (e C : Addr) (d : Option Addr) (t : Addr) : HO := .ext fun h =>
  h.get? e = some ({ cls := .ref C, dict := d, data := .fields #[.ref t, .none, .none, .none, .bool false, .none] } : Obj)
/-- an error of the class at C with these fields, made with these arguments -/
def ErAt (H : Hp) (e C : Addr) (fs : List (Str × V)) (args : List V) : Prop :=
  ∃ (d : Option Addr) (t : Addr), H e = some (erO e C d t) ∧ H t = some (.tup args) ∧ match d with
    | some dx => H dx = some (.xd fs)
    | none => fs = []
theorem ErAt.same {H H' : Hp} {e C : Addr} {fs : List (Str × V)} {args : List V} (x : ErAt H e C fs args) (s : Same H H') : ErAt H' e C fs args := by
  obtain ⟨d, t, h1, h2, h3⟩ := x
  refine ⟨d, t, s _ _ h1, s _ _ h2, ?_⟩
  cases d with
  | none => exact h3
  | some dx => exact s _ _ h3

theorem erO_ok {P : Program} {w : World} {H : Hp} {h : Heap} {e C t : Addr} {d : Option Addr} (he : h.get? e = some ({ cls := .ref C, dict := d, data := .fields #[.ref t, .none, .none, .none, .bool false, .none] } : Obj)) :
    ObjOk P w H h e (erO e C d t) := ⟨he, ⟨_, he⟩, fun _ _ z k => k _ z⟩

section
variable {X : Cx} {pins : List (Addr × Obj)} {σ : L2.St} {H : Hp} {s : Shared} {h' : Heap} {t' : Nat}
/-- several objects laid at once, all of them new -/
theorem laidMany {H' : Hp} (I : Inv X pins σ H s) (k : ∀ b o, s.heap.get? b = some o → h'.get? b = some o) (sm : Same H H') (fr : ∀ b, b < s.heap.objs.size → H b = none → H' b = none)
    (new : ∀ b o, H' b = some o → H b = none → ObjOk X.prog X.w H' h' b o) : Inv X pins σ H' { s with heap := h', toks := t' } := by
  refine I.un ⟨fun b o q _ _ _ => k b o q, fun b o q _ _ _ => ⟨o.slots, k b o q⟩, fun b o q n _ => fr b (Heap.lt_size q) n, fun b o q _ => ⟨o, k b o q⟩, fun b xs q => sm _ _ q, fun b o u q => sm _ _ q, fun b ps q => ⟨#[], by rw [sm _ _ q]; simp⟩⟩ ?_
  intro b o q
  cases e : H b with
  | none => exact new b o q e
  | some o' =>
    have q2 := sm _ _ e
    rw [q] at q2
    cases q2
    exact (I.hok b o e).stay (fun c v _ z => k c v z) (fun c z => sm _ _ z) fun c xs z => sm _ _ z

/-- a made error is tracked -/
theorem made_inv {e C d t : Addr} {args : List Value} {vs : List V} {m : Str → Option Value} {fs : List (Str × V)} {Q : VK} (I : Inv X pins σ H s) (M : Made s.heap h' e C d t args m) (r : Vals vs args) (hz : vs.length ≤ sizeLine)
    (hf : ∀ f, RelO (fs.lookup f) (m f)) (q : ∀ H', ErAt H' e C fs vs → Same H H' → H e = none → Q (.ref e) H') : EP X pins σ Q (.ref e) { s with heap := h', toks := t' } := by
  have ne : H e = none := I.hok.fresh M.be
  have nt : H t = none := I.hok.fresh M.bt
  have nd : H d = none := I.hok.fresh M.bd
  have sm : Same H (upd (upd (upd H t (.tup vs)) d (.xd fs)) e (erO e C (some d) t)) := fun b o z => by
    rw [upd_ne (ne_of_none z ne), upd_ne (ne_of_none z nd), upd_ne (ne_of_none z nt)]
    exact z
  have at_e : (upd (upd (upd H t (.tup vs)) d (.xd fs)) e (erO e C (some d) t)) e = some (erO e C (some d) t) := upd_same
  have at_d : (upd (upd (upd H t (.tup vs)) d (.xd fs)) e (erO e C (some d) t)) d = some (.xd fs) := by rw [upd_ne M.de, upd_same]
  have at_t : (upd (upd (upd H t (.tup vs)) d (.xd fs)) e (erO e C (some d) t)) t = some (.tup vs) := by rw [upd_ne M.te, upd_ne (Ne.symm M.dt), upd_same]
  refine ⟨.ref e, _, laidMany (H' := upd (upd (upd H t (.tup vs)) d (.xd fs)) e (erO e C (some d) t)) I M.keep sm (fun b lt n => ?_) (fun b o z n => ?_), rfl, q _ ⟨some d, t, at_e, at_t, at_d⟩ sm ne⟩
  · rw [upd_ne (Nat.ne_of_lt (Nat.lt_of_lt_of_le lt M.be)), upd_ne (Nat.ne_of_lt (Nat.lt_of_lt_of_le lt M.bd)), upd_ne (Nat.ne_of_lt (Nat.lt_of_lt_of_le lt M.bt))]
    exact n
  · by_cases be : b = e
    · subst be
      rw [at_e] at z
      cases z
      exact erO_ok M.obj
    · by_cases bd : b = d
      · subst bd
        rw [at_d] at z
        cases z
        exact ⟨m, M.ns, hf⟩
      · by_cases bt : b = t
        · subst bt
          rw [at_t] at z
          cases z
          exact ⟨hz, args, r, ⟨_, M.tup, rfl, _, rfl⟩⟩
        · rw [upd_ne be, upd_ne bd, upd_ne bt, n] at z
          cases z
end
theorem rel1 {f : Str} {v : V} {u : Value} (r : RelV v u) (y : Str) : RelO (List.lookup y [(f, v)]) (if y = f then some u else none) := by
  by_cases e : y = f
  · subst e
    simp [List.lookup]
    exact r
  · have e2 : (y == f) = false := by simpa using e
    simp [List.lookup, e, e2]
    trivial
theorem rel2 {f f' : Str} {v v' : V} {u u' : Value} (nf : (f' == f) = false) (r : RelV v u) (r' : RelV v' u') (y : Str) : RelO (List.lookup y [(f, v), (f', v')]) (if y = f' then some u' else if y = f then some u else none) := by
  have n1 : f' ≠ f := PySem.Er.ne_of_beq nf
  by_cases e : y = f
  · subst e
    have n2 : ¬ (y = f') := fun z => n1 z.symm
    simp [List.lookup, n2]
    exact r
  · have e2 : (y == f) = false := by simpa using e
    by_cases e' : y = f'
    · subst e'
      simp [List.lookup, e2]
      exact r'
    · have e3 : (y == f') = false := by simpa using e'
      simp [List.lookup, e, e2, e', e3]
      trivial

section
variable {X : Cx} {C : Addr} {B newId initId : String} {bmB : List Value} {f f' : Str} {x : Str} {p pos : Pos} {a b : Expr} {ta tb : TE}
/-- how the parameters of the two kinds of __init__ are bound -/
abbrev Bd1 (f : Str) (g : Value → List Value × List (Str × Value)) : Prop := ∀ (qual : Str) (p1 p2 q1 q2 q3 q4 : Pos) (kV doc pm : Value) (an : Option Addr) (cdv ct x u : Value),
  bindArgs (PySem.W.fnOf "__init__" qual (PySem.Er.iA1 f p1 p2) (PySem.Er.iB1 f q1 q2 q3 q4) (PySem.Er.iS1 f) .none kV doc pm an cdv ct) ⟨x :: (g u).1, (g u).2⟩ = pure [(("self" : Str), x), (f, u)]
abbrev Bd2 (f f' : Str) (g : Value → Value → List Value × List (Str × Value)) : Prop := ∀ (qual : Str) (p1 p2 p3 q1 q2 q3 q4 r1 r2 r3 r4 : Pos) (kV doc pm : Value) (an : Option Addr) (cdv ct x u u' : Value),
  bindArgs (PySem.W.fnOf "__init__" qual (PySem.Er.iA2 f f' p1 p2 p3) (PySem.Er.iB2 f f' q1 q2 q3 q4 r1 r2 r3 r4) (PySem.Er.iS2 f f') .none kV doc pm an cdv ct) ⟨x :: (g u u').1, (g u u').2⟩ = pure [(("self" : Str), x), (f, u), (f', u')]
abbrev gP1 : Value → List Value × List (Str × Value) := fun u => ([u], [])
abbrev gK1 (f : Str) : Value → List Value × List (Str × Value) := fun u => ([], [(f, u)])
abbrev gP2 : Value → Value → List Value × List (Str × Value) := fun u u' => ([u, u'], [])
abbrev gK2 (f f' : Str) : Value → Value → List Value × List (Str × Value) := fun u u' => ([], [(f', u'), (f, u)])
theorem bd1_value : Bd1 "value" gP1 := by first | (unfold Bd1; intros; first | rfl | with_unfolding_all rfl) | (unfold Bd2; intros; first | rfl | with_unfolding_all rfl)
theorem bd1_position : Bd1 "position" gP1 := by first | (unfold Bd1; intros; first | rfl | with_unfolding_all rfl) | (unfold Bd2; intros; first | rfl | with_unfolding_all rfl)
theorem bd1_name : Bd1 "name" gP1 := by first | (unfold Bd1; intros; first | rfl | with_unfolding_all rfl) | (unfold Bd2; intros; first | rfl | with_unfolding_all rfl)
theorem bd1_line : Bd1 "line" gP1 := by first | (unfold Bd1; intros; first | rfl | with_unfolding_all rfl) | (unfold Bd2; intros; first | rfl | with_unfolding_all rfl)
theorem bk1_value : Bd1 "value" (gK1 "value") := by first | (unfold Bd1; intros; first | rfl | with_unfolding_all rfl) | (unfold Bd2; intros; first | rfl | with_unfolding_all rfl)
theorem bk1_position : Bd1 "position" (gK1 "position") := by first | (unfold Bd1; intros; first | rfl | with_unfolding_all rfl) | (unfold Bd2; intros; first | rfl | with_unfolding_all rfl)
theorem bk1_name : Bd1 "name" (gK1 "name") := by first | (unfold Bd1; intros; first | rfl | with_unfolding_all rfl) | (unfold Bd2; intros; first | rfl | with_unfolding_all rfl)
theorem bk1_line : Bd1 "line" (gK1 "line") := by first | (unfold Bd1; intros; first | rfl | with_unfolding_all rfl) | (unfold Bd2; intros; first | rfl | with_unfolding_all rfl)
theorem bd2_places : Bd2 "position" "places" gP2 := by first | (unfold Bd1; intros; first | rfl | with_unfolding_all rfl) | (unfold Bd2; intros; first | rfl | with_unfolding_all rfl)
theorem bd2_kind : Bd2 "kind" "limit" gP2 := by first | (unfold Bd1; intros; first | rfl | with_unfolding_all rfl) | (unfold Bd2; intros; first | rfl | with_unfolding_all rfl)
theorem bk2_places : Bd2 "position" "places" (gK2 "position" "places") := by first | (unfold Bd1; intros; first | rfl | with_unfolding_all rfl) | (unfold Bd2; intros; first | rfl | with_unfolding_all rfl)
theorem bk2_kind : Bd2 "kind" "limit" (gK2 "kind" "limit") := by first | (unfold Bd1; intros; first | rfl | with_unfolding_all rfl) | (unfold Bd2; intros; first | rfl | with_unfolding_all rfl)
/-- C(a) -/
def tEr1 (C : Addr) (f : Str) (t : TA) : TE := fun σ H Q => t σ H fun vs H1 => ∃ v, vs = [v] ∧ ∀ e H', ErAt H' e C [(f, v)] [v] → Same H1 H' → H1 e = none → Q (.ref e) H'
/-- C(a, b) -/
def tEr2 (C : Addr) (f f' : Str) (t : TA) : TE := fun σ H Q => t σ H fun vs H1 => ∃ v v', vs = [v, v'] ∧ ∀ e H', ErAt H' e C [(f, v), (f', v')] [v, v'] → Same H1 H' → H1 e = none → Q (.ref e) H'
theorem pe_er1 {k : Nat} (c : Cl X.K C B newId initId bmB) (i : In1 X.K C f) (hb : Bd1 f gP1) (hr : Room k X.A) (hg : Gl X x) (hm : X.mg x = some (.ref C)) (ha : PA X [a] (tCons ta tNil))
    (hdb : (x == ("__debug__" : Str)) = false := by decide) (he : starEach [a] X.env = (false, eval a X.env) :: starEach [] X.env := by rfl) (hpl : (backTo pos (starEach [] X.env)).any (·.1) = false := by rfl) :
    PE X (.Call (.Name x p) [a] [] pos) (tEr1 C f (tCons ta tNil)) := by
  refine ⟨fun pins s σ H Q I h => ?_⟩
  refine wpAny_Call_Name_kw (ld_glob I hg hm ?_ hdb)
  refine PySem.W.callWith_K (h₀ := X.base) I.ok.mod.kin c.kC (thn (ha.run pos pins s σ H _ I h) fun us s1 ⟨vs, H1, I1, r, v, ev, q⟩ => ⟨I1.kIn, ?_⟩) he hpl
  subst ev
  obtain ⟨u, rfl, ru⟩ := vals1 r
  show wpAny _ _ (call (.ref C) [u]) _ _ _
  exact wpAny_call (PySem.Er.made1 c i (v := u) I1.kIn I1.nolimit (by have := hr.dp; omega) (by show 1 ≤ sizeLine; rw [sizeLine_eq]; omega) (fun _ ql p1 p2 q1 q2 q3 q4 kv dc pm an cv ct y => .of_eq (hb ql p1 p2 q1 q2 q3 q4 kv dc pm an cv ct y u))
    fun h' tk e d t M => made_inv I1 M r (by show 1 ≤ sizeLine; rw [sizeLine_eq]; omega) (rel1 ru) fun H' z1 z2 z3 => q e H' z1 z2 z3)
theorem pe_er2 {k : Nat} (c : Cl X.K C B newId initId bmB) (i : In2 X.K C f f') (hb : Bd2 f f' gP2) (hr : Room k X.A) (hg : Gl X x) (hm : X.mg x = some (.ref C)) (ha : PA X [a, b] (tCons ta (tCons tb tNil)))
    (hdb : (x == ("__debug__" : Str)) = false := by decide) (he : starEach [a, b] X.env = (false, eval a X.env) :: starEach [b] X.env := by rfl) (hpl : (backTo pos (starEach [b] X.env)).any (·.1) = false := by rfl) :
    PE X (.Call (.Name x p) [a, b] [] pos) (tEr2 C f f' (tCons ta (tCons tb tNil))) := by
  refine ⟨fun pins s σ H Q I h => ?_⟩
  refine wpAny_Call_Name_kw (ld_glob I hg hm ?_ hdb)
  refine PySem.W.callWith_K (h₀ := X.base) I.ok.mod.kin c.kC (thn (ha.run pos pins s σ H _ I h) fun us s1 ⟨vs, H1, I1, r, v, v', ev, q⟩ => ⟨I1.kIn, ?_⟩) he hpl
  subst ev
  obtain ⟨u, u', rfl, ru, ru'⟩ := vals2 r
  show wpAny _ _ (call (.ref C) [u, u']) _ _ _
  exact wpAny_call (PySem.Er.made2 c i (v := u) (v' := u') I1.kIn I1.nolimit (by have := hr.dp; omega) (by show 2 ≤ sizeLine; rw [sizeLine_eq]; omega) (fun _ ql p1 p2 p3 q1 q2 q3 q4 r1 r2 r3 r4 kv dc pm an cv ct y => .of_eq (hb ql p1 p2 p3 q1 q2 q3 q4 r1 r2 r3 r4 kv dc pm an cv ct y u u'))
    fun h' tk e d t M => made_inv I1 M r (by show 2 ≤ sizeLine; rw [sizeLine_eq]; omega) (rel2 i.nf ru ru') fun H' z1 z2 z3 => q e H' z1 z2 z3)
end
end ErL

set_option maxHeartbeats 4000000
namespace PySem
namespace Er
open Sem (wp)
open Builtin Builtin.Str Builtin.BaseException Builtin.Exceptions
open PySem.W (Looks Frag findIn subIn looks_findIn looks_subIn)
theorem text_eq (x : Value) : bexcText "__str__" x = pyStrObj x := by
  cases x <;> rfl
section
variable {prog : Program} {w : World} {M : Model} {A : Around} {E : Value → Shared → Prop} {s : Shared} {K : Frag} {C e t0 : Addr}
theorem bstr_two {u u' : Value} {rest : List Value} {Q : Fin → Shared → Prop} (x : ExcC K C e t0 s.heap) (ht : s.heap.TupAt t0 (u :: u' :: rest))
    (hq : wpAny (model prog w) A (pyStrObj (.ref t0)) (fun v s' => Q (.done (.ret v)) s') E s) :
    wpAny (model prog w) A (Builtin.«BaseException.__str__» ⟨[.ref e], []⟩) Q E s := by
  unfold Builtin.«BaseException.__str__»
  refine wpAny_bind (wpAny_of_eq (a := ((Value.ref e : Value), ([] : List Value))) (by first | rfl | (simp only [slotArgs]; rfl)) ?_)
  refine wpAny_bind (bexcArgs_C x ht ?_)
  show wpAny (model prog w) A (bexcText "__str__" (.ref t0) >>= fun r => ret r) _ _ _
  rw [text_eq]
  refine wpAny_bind (wpAny_mono hq (fun v s' z => ?_) fun _ _ z => z)
  exact wpAny_pure z
theorem bstr_one {u : Value} {Q : Fin → Shared → Prop} (x : ExcC K C e t0 s.heap) (ht : s.heap.TupAt t0 [u])
    (hq : wpAny (model prog w) A (pyStrObj u) (fun v s' => Q (.done (.ret v)) s') E s) :
    wpAny (model prog w) A (Builtin.«BaseException.__str__» ⟨[.ref e], []⟩) Q E s := by
  unfold Builtin.«BaseException.__str__»
  repeat (first
    | with_reducible refine bexcArgs_C x ht ?_
    | (rw [text_eq]; refine wpAny_bind (wpAny_mono hq (fun v s' z => ?_) fun _ _ z => z))
    | wp_step)
  exact z
end
end Er
end PySem
namespace PySem
namespace Er
open Sem (wp)
open Builtin Builtin.Str Builtin.BaseException Builtin.Exceptions
open PySem.W (Looks Frag findIn subIn looks_findIn looks_subIn)
section
variable {prog : Program} {w : World} {M : Model} {A : Around} {E : Value → Shared → Prop} {s : Shared} {K : Frag} {C e t0 : Addr}
/-- a value whose text is told -/
structure Shw (h : Heap) (u : Value) (d : PyData) : Prop where
  rd : ∃ as, Reads h u d as ∧ sysModules ∉ as
  sh : d.showable = true
  dp : d.depth ≤ 20
  sz : d.shown.length ≤ 5000
theorem Shw.keeps {h h' : Heap} {u : Value} {d : PyData} (x : Shw h u d) (k : ∀ b o, h.get? b = some o → h'.get? b = some o) : Shw h' u d := by
  obtain ⟨as, r, n⟩ := x.rd
  exact ⟨⟨as, PyProof.Rows.Reads.keeps k r, n⟩, x.sh, x.dp, x.sz⟩
/-- str of it is some text -/
theorem text_of {u : Value} {d : PyData} {Q : Value → Shared → Prop} (x : Shw s.heap u d) (hg : A.guards = some []) (hu : A.units + 60 < cLine)
    (hq : ∀ y t h' tk, (∀ b o, s.heap.get? b = some o → h'.get? b = some o) → Q (.str y t) { s with heap := h', toks := tk }) : wpAny (model prog w) A (pyStrObj u) Q E s := by
  obtain ⟨⟨as, r, n⟩, sh, dp, sz⟩ := x
  have lz : (5000 : Nat) ≤ sizeLine := by rw [sizeLine_eq]; omega
  cases d with
  | none =>
    cases r
    exact PySem.pyStrObj_none (hq _ _ _ _ fun _ _ z => z)
  | bool b =>
    cases r
    exact PySem.pyStrObj_bool (hq _ _ _ _ fun _ _ z => z)
  | int i =>
    cases r
    exact PySem.pyStrObj_int (of_decide_eq_true sh) (hq _ _ _ _ fun _ _ z => z)
  | str x =>
    cases r
    exact wpAny_pure (hq _ _ _ _ fun _ _ z => z)
  | list xs =>
    obtain ⟨a, rfl⟩ : ∃ a, u = .ref a := by cases r; exact ⟨_, rfl⟩
    exact pyStrObj_of_reads r sh (fun _ => n) hg (by omega) (fun _ _ z => z) (fun h' y tk k => hq _ _ _ _ k) (Nat.le_trans sz lz)
  | tuple xs =>
    obtain ⟨a, rfl⟩ : ∃ a, u = .ref a := by cases r; exact ⟨_, rfl⟩
    exact pyStrObj_of_reads r sh (fun _ => n) hg (by omega) (fun _ _ z => z) (fun h' y tk k => hq _ _ _ _ k) (Nat.le_trans sz lz)
  | dict xs =>
    obtain ⟨a, rfl⟩ : ∃ a, u = .ref a := by cases r; exact ⟨_, rfl⟩
    exact pyStrObj_of_reads r sh (fun _ => n) hg (by omega) (fun _ _ z => z) (fun h' y tk k => hq _ _ _ _ k) (Nat.le_trans sz lz)
end
end Er
end PySem

set_option maxHeartbeats 400000
namespace PySem
namespace Er
open Sem (wp)
open Builtin Builtin.Str Builtin.BaseException Builtin.Exceptions
open PySem.W (Looks Frag findIn subIn looks_findIn looks_subIn)
section
variable {prog : Program} {w : World} {M : Model} {A : Around} {E : Value → Shared → Prop} {s : Shared} {K : Frag} {C e t0 : Addr}
/-- what str(error) leans on -/
structure Str0 (K : Frag) (C e t0 : Addr) (args : List Value) (ds : List PyData) (h : Heap) : Prop where
  at_ : ExcC K C e t0 h
  tup : h.TupAt t0 args
  all : args = [] ∨ (∃ u d, args = [u] ∧ Shw h u d) ∨ ∃ d, 2 ≤ args.length ∧ Shw h (.ref t0) d
theorem strOf_er {args : List Value} {ds : List PyData} (hg : A.guards = some []) (hu : A.units + 62 < cLine) (x : Str0 K C e t0 args ds s.heap)
    (hs : findIn K (.ref C) "__str__" = some (some (.builtin "BaseException.__str__"))) (hB : subIn K (.ref C) (.type "BaseException") = some true) {Q : Value → Shared → Prop}
    (hq : ∀ y t h' tk, (∀ b o, s.heap.get? b = some o → h'.get? b = some o) → Q (.str y t) { s with heap := h', toks := tk }) : wpAny (model prog w) A (strOf (.ref e)) Q E s := by
  have hf : Looks (model prog w) s.heap (typeLookup (.ref C) "__str__") (some (.builtin "BaseException.__str__")) := looks_findIn x.at_.1 hs
  have hb : wpAny (model prog w) A.in1 (Builtin.«BaseException.__str__» ⟨[.ref e], []⟩) (fun fin s' => ∃ v, fin = .done (.ret v) ∧ ∃ y t h' tk, v = .str y t ∧ s' = { s with heap := h', toks := tk } ∧ ∀ b o, s.heap.get? b = some o → h'.get? b = some o) E s := by
    rcases x.all with rfl | ⟨u, d, rfl, z⟩ | ⟨d, l, z⟩
    · exact bexcStr_C_none x.at_ x.tup ⟨_, rfl, _, _, _, _, rfl, rfl, fun _ _ z => z⟩
    · exact bstr_one x.at_ x.tup (text_of (A := A.in1) z hg (by show A.units + 1 + 60 < cLine; omega) fun y t h' tk k => ⟨_, rfl, y, t, h', tk, rfl, rfl, k⟩)
    · obtain ⟨u, u', rest, rfl⟩ : ∃ u u' rest, args = u :: u' :: rest := by
        cases args with
        | nil => exact absurd l (Nat.not_succ_le_zero 1)
        | cons u r =>
          cases r with
          | nil => exact absurd (Nat.le_of_succ_le_succ l) (Nat.not_succ_le_zero 0)
          | cons u' rest => exact ⟨u, u', rest, rfl⟩
      exact bstr_two x.at_ x.tup (text_of (A := A.in1) z hg (by show A.units + 1 + 60 < cLine; omega) fun y t h' tk k => ⟨_, rfl, y, t, h', tk, rfl, rfl, k⟩)
  have hu0 : A.units < cLine := by omega
  have hc : wpAny (model prog w) A (call (.builtin "BaseException.__str__") [.ref e]) (fun v s' => ∃ y t h' tk, v = .str y t ∧ s' = { s with heap := h', toks := tk } ∧ ∀ b o, s.heap.get? b = some o → h'.get? b = some o) E s := by
    refine call_bexcStr_C x.at_ hB (wpAny_mono hb (fun fin s' z => ?_) fun _ _ z => z)
    exact z
  clear hb
  unfold strOf
  rw [show isExactStr (.ref e) = false from rfl]
  refine wpAny_bind (m := cRoomFor _ _) (wpAny_cRoomFor hu0 ?_)
  refine wpAny_bind (m := callSpecial? (.ref e) (Str.ofString "__str__")) (callSpecial_C x.at_.LT hf (F.excStr_Exception.str.bind _) (wpAny_mono hc (fun v s' z => ?_) fun _ _ z => z))
  obtain ⟨y, t, h', tk, rfl, rfl, k⟩ := z
  exact wpAny_pure (hq y t h' tk k)
theorem str_of_er {args : List Value} {ds : List PyData} (hg : A.guards = some []) (hu : A.units + 64 < cLine) (x : Str0 K C e t0 args ds s.heap)
    (hs : findIn K (.ref C) "__str__" = some (some (.builtin "BaseException.__str__"))) (hB : subIn K (.ref C) (.type "BaseException") = some true) {Q : Value → Shared → Prop}
    (hq : ∀ y t h' tk, (∀ b o, s.heap.get? b = some o → h'.get? b = some o) → Q (.str y t) { s with heap := h', toks := tk }) : wpAny (model prog w) A (call (.type "str") [.ref e]) Q E s :=
  callType_new F.called_str (by decide) (F.typeCall_str_1 _) (F.newCall_str_1 _) (fun obj => F.args_object_init_2 obj _) F.entry_str_new
    (meets_str_new (S := fun A' R s' => A'.guards = some [] ∧ A'.units + 63 < cLine ∧ Str0 K C e t0 args ds s'.heap ∧
        ∀ y t h' tk, (∀ b o, s'.heap.get? b = some o → h'.get? b = some o) → R (.ok (.ret (.str y t))) { s' with heap := h', toks := tk })
      fun _ _ A' _ _ h => strOf_er (A := A'.in1) h.1 (by show A'.units + 1 + 62 < cLine; have := h.2.1; omega) h.2.2.1 hs hB h.2.2.2)
    ⟨hg, (show A.units + 1 + 63 < cLine by omega), x, fun y t h' tk k => ⟨typeIs_str _ _ _, hq y t h' tk k⟩⟩
end
end Er
end PySem

set_option maxHeartbeats 1000000
namespace ErL
open PySem PySem.Spec PyProof.Rows L2
open PySem.Er (Made Cl In1 In2 Shw)
/-! ### data that stand in the abstract heap -/
mutual
inductive Dq (H : Hp) : V → PyData → Prop
  | non : Dq H .non .none
  | bl (b : Bool) : Dq H (.bl b) (.bool b)
  | int (i : Int) : Dq H (.int i) (.int i)
  | str (x : Str) : Dq H (.str x) (.str x)
  | lst {a : Addr} {xs : List V} {ds : List PyData} : H a = some (.lst xs) → DqAll H xs ds → Dq H (.ref a) (.list ds)
  | tup {a : Addr} {xs : List V} {ds : List PyData} : H a = some (.tup xs) → DqAll H xs ds → Dq H (.ref a) (.tuple ds)
  | dct {a : Addr} {kvs : List (Key × V)} {ps : List (PyData × PyData)} : H a = some (.dK kvs) → DqKv H kvs ps → Dq H (.ref a) (.dict ps)
inductive DqAll (H : Hp) : List V → List PyData → Prop
  | nil : DqAll H [] []
  | cons {v : V} {vs : List V} {d : PyData} {ds : List PyData} : Dq H v d → DqAll H vs ds → DqAll H (v :: vs) (d :: ds)
inductive DqKv (H : Hp) : List (Key × V) → List (PyData × PyData) → Prop
  | nil : DqKv H [] []
  | cons {x : Str} {v : V} {kvs : List (Key × V)} {d : PyData} {ps : List (PyData × PyData)} : Dq H v d → DqKv H kvs ps → DqKv H ((.inr x, v) :: kvs) ((.str x, d) :: ps)
end
mutual
theorem Dq.same {H H' : Hp} (s : Same H H') : ∀ {v : V} {d : PyData}, Dq H v d → Dq H' v d
  | _, _, .non => .non
  | _, _, .bl b => .bl b
  | _, _, .int i => .int i
  | _, _, .str x => .str x
  | _, _, .lst e a => .lst (s _ _ e) (DqAll.same s a)
  | _, _, .tup e a => .tup (s _ _ e) (DqAll.same s a)
  | _, _, .dct e a => .dct (s _ _ e) (DqKv.same s a)
theorem DqAll.same {H H' : Hp} (s : Same H H') : ∀ {vs : List V} {ds : List PyData}, DqAll H vs ds → DqAll H' vs ds
  | _, _, .nil => .nil
  | _, _, .cons a b => .cons (Dq.same s a) (DqAll.same s b)
theorem DqKv.same {H H' : Hp} (s : Same H H') : ∀ {kvs : List (Key × V)} {ps : List (PyData × PyData)}, DqKv H kvs ps → DqKv H' kvs ps
  | _, _, .nil => .nil
  | _, _, .cons a b => .cons (Dq.same s a) (DqKv.same s b)
end
section
variable {X : Cx} {pins : List (Addr × Obj)} {σ : L2.St} {H : Hp} {s : Shared}
/-- read at the heap; the addresses are tracked -/
def Rds (H : Hp) (h : Heap) (u : Value) (d : PyData) : Prop := ∃ as, Reads h u d as ∧ ∀ b ∈ as, ∃ o, H b = some o
def RdsAll (H : Hp) (h : Heap) (us : List Value) (ds : List PyData) : Prop := ∃ as, ReadsAll h us ds as ∧ ∀ b ∈ as, ∃ o, H b = some o
mutual
theorem Dq.reads (I : Inv X pins σ H s) : ∀ {v : V} {d : PyData} {u : Value}, Dq H v d → RelV v u → Rds H s.heap u d
  | _, _, _, .non, r => by
    cases r
    exact ⟨_, Reads.none, fun b z => nomatch z⟩
  | _, _, _, .bl b, r => by
    cases r
    exact ⟨_, Reads.bool b, fun b z => nomatch z⟩
  | _, _, _, .int i, r => by
    obtain ⟨t, rfl⟩ := r
    exact ⟨_, Reads.int i t, fun b z => nomatch z⟩
  | _, _, _, .str x, r => by
    obtain ⟨t, rfl⟩ := r
    exact ⟨_, Reads.str x t, fun b z => nomatch z⟩
  | _, _, _, .lst (a := a) (xs := xs) e q, r => by
    cases r
    obtain ⟨_, its, n, rv, ho⟩ := (show ObjOk X.prog X.w H s.heap a (.lst xs) from I.hok a _ e)
    obtain ⟨as, ra, ta⟩ := DqAll.reads I q rv
    refine ⟨_, Reads.list ho rfl rfl ra, fun b z => ?_⟩
    rcases List.mem_cons.mp z with rfl | z
    · exact ⟨_, e⟩
    · exact ta b z
  | _, _, _, .tup (a := a) (xs := xs) e q, r => by
    cases r
    obtain ⟨_, its, rv, o, ho, hc, n, hd⟩ := (show ObjOk X.prog X.w H s.heap a (.tup xs) from I.hok a _ e)
    obtain ⟨as, ra, ta⟩ := DqAll.reads I q rv
    exact ⟨_, Reads.tuple ho hc hd ra, ta⟩
  | _, _, _, .dct (a := a) (kvs := kvs) e q, r => by
    cases r
    obtain ⟨_, _, vs, rv, o, es, ep, ho, hx, hd, _, hp, _⟩ := (show ObjOk X.prog X.w H s.heap a (.dK kvs) from I.hok a _ e)
    obtain ⟨⟨as, ra, ta⟩, ⟨bs, rb, tb⟩⟩ := DqKv.reads I q rv hp
    refine ⟨_, Reads.dict ho hx.1 hd ra rb, fun b z => ?_⟩
    rcases List.mem_append.mp z with z | z
    · rcases List.mem_cons.mp z with rfl | z
      · exact ⟨_, e⟩
      · exact ta b z
    · exact tb b z
theorem DqAll.reads (I : Inv X pins σ H s) : ∀ {vs : List V} {ds : List PyData} {us : List Value}, DqAll H vs ds → Vals vs us → RdsAll H s.heap us ds
  | _, _, _, .nil, r => by
    cases r
    exact ⟨_, ReadsAll.nil, fun b z => nomatch z⟩
  | _, _, _, .cons a b, r => by
    cases r with
    | cons r1 r2 =>
      obtain ⟨as, x1, t1⟩ := Dq.reads I a r1
      obtain ⟨bs, x2, t2⟩ := DqAll.reads I b r2
      exact ⟨_, ReadsAll.cons x1 x2, fun c z => (List.mem_append.mp z).elim (t1 c) (t2 c)⟩
theorem DqKv.reads (I : Inv X pins σ H s) : ∀ {kvs : List (Key × V)} {ps : List (PyData × PyData)} {vs : List (Key × Value)} {es : List DictEntry}, DqKv H kvs ps → KV kvs vs → Pairs (mixKind X.prog X.w) es vs →
    RdsAll H s.heap (es.map (·.key)) (ps.map (·.1)) ∧ RdsAll H s.heap (es.map (·.val)) (ps.map (·.2))
  | _, _, _, _, .nil, r, p => by
    cases r
    cases p
    exact ⟨⟨_, ReadsAll.nil, fun b z => nomatch z⟩, ⟨_, ReadsAll.nil, fun b z => nomatch z⟩⟩
  | _, _, _, _, .cons (x := x) a b, r, p => by
    cases r with
    | cons r1 r2 =>
      cases p with
      | cons p1 p2 p3 =>
        rename_i kv0 vs0 en es0
        obtain ⟨k0, v0⟩ := kv0
        obtain ⟨ek, ev⟩ := r1
        dsimp only at ek ev p1 p2
        subst ek
        obtain ⟨⟨as, x1, t1⟩, ⟨bs, x2, t2⟩⟩ := DqKv.reads I b r2 p3
        obtain ⟨cs, x3, t3⟩ := Dq.reads I a ev
        rcases keyIs_shape (show keyIs (.inr x) en.key = true from p1) with ⟨i, t, z, _⟩ | ⟨y, t, z, ey⟩
        · cases z
        · cases z
          refine ⟨⟨[] ++ as, ?_, fun c z => t1 c (by simpa using z)⟩, ⟨cs ++ bs, ?_, fun c z => (List.mem_append.mp z).elim (t3 c) (t2 c)⟩⟩
          · show ReadsAll s.heap (en.key :: _) (PyData.str x :: _) _
            rw [ey]
            exact ReadsAll.cons (Reads.str x t) x1
          · show ReadsAll s.heap (en.val :: _) (_ :: _) _
            rw [p2]
            exact ReadsAll.cons x3 x2
end
/-- the module of modules stands in the written part -/
def SysIn (K : PySem.W.Frag) : Prop := ∃ o, K.lookup sysModules = some o
/-- small enough to be shown -/
structure Ok (d : PyData) : Prop where
  sh : d.showable = true
  dp : d.depth ≤ 20
  sz : d.shown.length ≤ 5000
theorem Dq.shw (I : Inv X pins σ H s) (y : SysIn X.K) {v : V} {d : PyData} {u : Value} (q : Dq H v d) (r : RelV v u) (k : Ok d) : Shw s.heap u d := by
  obtain ⟨as, ra, ta⟩ := q.reads I r
  obtain ⟨o, ho⟩ := y
  refine ⟨⟨as, ra, fun z => ?_⟩, k.sh, k.dp, k.sz⟩
  obtain ⟨o', e⟩ := ta _ z
  have n := (I.bs _ o (I.ok.mod.kin _ _ ho)).2
  rw [n] at e
  cases e
end
end ErL

set_option maxHeartbeats 1000000
namespace ErL
open PySem PySem.Spec PyProof.Rows L2
open PySem.Er (Made Cl In1 In2 Shw)
/-- what isinstance, a field's reading and str ask of an error's class -/
structure Asks (K : PySem.W.Frag) (C : Addr) : Prop where
  cl : (PySem.W.clsIn K C).isSome = true
  hd : PySem.W.hasDictIn K C = true
  ga : PySem.W.findIn K (.ref C) "__getattribute__" = some (some (.builtin "BaseException.__getattribute__"))
  gg : PySem.W.findIn K (.ref C) "__getattr__" = some none
  ex : PySem.W.subIn K (.ref C) (.type "BaseException") = some true
  cs : PySem.W.findIn K (.ref C) "__class__" = some (some (.builtin "object.__class__"))
  gs : PySem.W.specialIn K (.builtin "object.__class__") "__get__" = some (some (.builtin "getset_descriptor.__get__"))
  tk : PySem.W.takesIn K (.builtin "object.__class__") = some true
  mo : PySem.W.mroIn K C (.type "object") = some true
  st : PySem.W.findIn K (.ref C) "__str__" = some (some (.builtin "BaseException.__str__"))
section
variable {X : Cx} {pins : List (Addr × Obj)} {σ : L2.St} {H : Hp} {s : Shared} {e C : Addr} {fs : List (Str × V)} {args : List V}
theorem er_inst (I : Inv X pins σ H s) (x : ErAt H e C fs args) : ∃ (ox : Obj) (od : Option Obj), PySem.W.InstAt s.heap e ox C od ∧
    ∀ f v, fs.lookup f = some v → ∃ d u, od = some d ∧ PySem.W.lookIn f d = some (some u) ∧ RelV v u := by
  obtain ⟨d, t, h1, h2, h3⟩ := x
  have q : s.heap.get? e = some ({ cls := .ref C, dict := d, data := .fields #[.ref t, .none, .none, .none, .bool false, .none] } : Obj) := (show ObjOk X.prog X.w H s.heap e (erO e C d t) from I.hok e _ h1).1
  cases d with
  | none =>
    refine ⟨_, none, ⟨q, rfl, rfl, trivial⟩, fun f v z => ?_⟩
    have h3' : fs = [] := h3
    rw [h3'] at z
    cases z
  | some dx =>
    obtain ⟨mA, hns, rel⟩ := (show ObjOk X.prog X.w H s.heap dx (.xd fs) from I.hok dx _ h3)
    obtain ⟨od, ho, hl⟩ := lookIn_ns hns
    refine ⟨_, some od, ⟨q, rfl, rfl, ho⟩, fun f v z => ?_⟩
    obtain ⟨u, hu, ru⟩ := RelO.some_of (v := v) (o := mA f) (by rw [← z]; exact rel f)
    exact ⟨od, u, rfl, by rw [hl, hu], ru⟩
theorem er_exc (I : Inv X pins σ H s) (x : ErAt H e C fs args) : ∃ (t : Addr) (us : List Value), H t = some (.tup args) ∧ PySem.ExcC X.K C e t s.heap ∧ s.heap.TupAt t us ∧ Vals args us := by
  obtain ⟨d, t, h1, h2, h3⟩ := x
  have q : s.heap.get? e = some ({ cls := .ref C, dict := d, data := .fields #[.ref t, .none, .none, .none, .bool false, .none] } : Obj) := (show ObjOk X.prog X.w H s.heap e (erO e C d t) from I.hok e _ h1).1
  obtain ⟨_, us, rv, o, ho, hc, n, hd⟩ := (show ObjOk X.prog X.w H s.heap t (.tup args) from I.hok t _ h2)
  exact ⟨t, us, h2, ⟨I.kIn, _, _, q, rfl, rfl, rfl⟩, ⟨o, n, ho, hc, hd⟩, rv⟩
end
section
variable {X : Cx} {f : Str} {te : TE} {pos : Pos} {e : Expr}
/-- e.f of an error -/
def tErF (K : PySem.W.Frag) (f : Str) (te : TE) : TE := fun σ H Q => te σ H fun x H1 => ∃ a C fs args v, x = .ref a ∧ ErAt H1 a C fs args ∧ Asks K C ∧ PySem.W.findIn K (.ref C) f = some none ∧ fs.lookup f = some v ∧ Q v H1
theorem pe_erF (he : PE X e te) (hb : attributeBase e f X.env (eval e X.env) = eval e X.env := by rfl) : PE X (.Attribute e f pos) (tErF X.K f te) := by
  refine ⟨fun pins s σ H Q I h => ?_⟩
  refine attr_of hb (thn (he.run pins s σ H _ I h) fun u s1 hh => ?_)
  obtain ⟨x, H1, I1, rx, a, C, fs, args, v, rfl, hx, A, hn, hl, q⟩ := hh
  obtain rfl : u = Value.ref a := rx
  obtain ⟨ox, od, J, hf⟩ := er_inst I1 hx
  obtain ⟨d, w, rfl, l, rw⟩ := hf f v hl
  exact PySem.PX.exc_get I1.kIn J A.ga A.gg A.ex (PySem.W.findObj_own A.hd hn rfl l) (handed_of rw) ⟨v, H1, I1.tok _, rw, q⟩
/-- isinstance(e, c), e an error -/
def rIsEr (K : PySem.W.Frag) : List V → Hp → VK → Prop := fun xs H Q => ∃ a C fs args c cv b, xs = [.ref a, c] ∧ ErAt H a C fs args ∧ Asks K C ∧ (∀ u, RelV c u → u = cv) ∧ PySem.W.kitOne K (.ref C) cv = some b ∧ Q (.bl b) H
theorem call_isEr : CallR X (.builtin "isinstance") (rIsEr X.K) := by
  intro pins s σ H xs us Q I r h
  obtain ⟨a, C, fs, args, c, cv, b, rfl, hx, A, hc, e, q⟩ := h
  obtain ⟨u, u', rfl, ru, ru'⟩ := vals2 r
  obtain rfl : u = Value.ref a := ru
  obtain rfl := hc _ ru'
  obtain ⟨ox, od, J, _⟩ := er_inst I hx
  exact PySem.W.kia_one (PySem.W.kitx_exc A.cl A.ga A.gg A.ex A.cs A.gs A.tk A.mo) I.kIn J e (fun z => nomatch z) fun tk => ⟨.bl b, H, I.kept (t' := tk) fun _ _ z => z, rfl, q⟩
/-- str(e), e an error -/
def rStrEr (K : PySem.W.Frag) : List V → Hp → VK → Prop := fun xs H Q => ∃ a C fs args ds, xs = [.ref a] ∧ ErAt H a C fs args ∧ Asks K C ∧ DqAll H args ds ∧
    (∀ d ∈ ds, Ok d) ∧ Ok (.tuple ds) ∧ ∀ z, Q (.str z) H
theorem call_strEr (hu : X.A.units + 70 < cLine) (hg : X.A.guards = some []) (y : SysIn X.K) : CallR X (.type "str") (rStrEr X.K) := by
  intro pins s σ H xs us Q I r h
  obtain ⟨a, C, fs, args, ds, rfl, hx, A, hd, ok1, ok2, q⟩ := h
  obtain ⟨u, rfl, ru⟩ := vals1 r
  obtain rfl : u = Value.ref a := ru
  obtain ⟨t, vs, ht, hE, hT, rv⟩ := er_exc I hx
  refine PySem.Er.str_of_er (args := vs) (ds := ds) hg (by omega) ⟨hE, hT, ?_⟩ A.st A.ex fun y t h' tk k => ⟨.str y, H, I.kept k, ⟨t, rfl⟩, q y⟩
  cases hd with
  | nil =>
    cases rv
    exact .inl rfl
  | cons d1 d2 =>
    rename_i v vs' d ds'
    cases d2 with
    | nil =>
      cases rv with
      | cons r1 r2 =>
        cases r2
        exact .inr (.inl ⟨_, d, rfl, d1.shw I y r1 (ok1 d List.mem_cons_self)⟩)
    | cons d3 d4 =>
      cases rv with
      | cons r1 r2 =>
        cases r2 with
        | cons r3 r4 =>
          refine .inr (.inr ⟨_, by show 2 ≤ _; simp, Dq.shw I y (Dq.tup ht (.cons d1 (.cons d3 d4))) rfl ok2⟩)
/-- repr(x), x data -/
def rReprD : List V → Hp → VK → Prop := fun xs H Q => ∃ a d, xs = [.ref a] ∧ Dq H (.ref a) d ∧ Ok d ∧ Q (.str d.shown) H
theorem call_reprD (hu : X.A.units + 70 < cLine) (hg : X.A.guards = some []) (y : SysIn X.K) : CallR X (.builtin "repr") rReprD := by
  intro pins s σ H xs us Q I r h
  obtain ⟨a, d, rfl, hd, ok, q⟩ := h
  obtain ⟨u, rfl, ru⟩ := vals1 r
  obtain rfl : u = Value.ref a := ru
  obtain ⟨⟨as, ra, n⟩, sh, dp, sz⟩ := hd.shw I y (u := .ref a) rfl ok
  exact repr_of_reads' ra sh (fun _ => n) hg (by omega) (fun _ _ z => z) (fun h' t tk k => ⟨.str d.shown, H, I.kept k, ⟨t, rfl⟩, q⟩) (Nat.le_trans sz (by rw [sizeLine_eq]; omega))
end
end ErL

set_option maxHeartbeats 1000000
namespace ErL
open PySem PySem.Spec PyProof.Rows L2
open PySem.Er (Made Cl In1 In2 Shw)
section
variable {X : Cx} {pins : List (Addr × Obj)} {σ : L2.St} {H : Hp} {s : Shared} {h' : Heap} {t' : Nat}
theorem laidMany2 {H' : Hp} (I : Inv X pins σ H s) (k : ∀ b o, s.heap.get? b = some o → h'.get? b = some o) (sm : Same H H') (fr : ∀ b o, s.heap.get? b = some o → H b = none → H' b = none)
    (new : ∀ b o, H' b = some o → H b = none → ObjOk X.prog X.w H' h' b o) : Inv X pins σ H' { s with heap := h', toks := t' } := by
  refine I.un ⟨fun b o q _ _ _ => k b o q, fun b o q _ _ _ => ⟨o.slots, k b o q⟩, fun b o q n _ => fr b o q n, fun b o q _ => ⟨o, k b o q⟩, fun b xs q => sm _ _ q, fun b o u q => sm _ _ q, fun b ps q => ⟨#[], by rw [sm _ _ q]; simp⟩⟩ ?_
  intro b o q
  cases e : H b with
  | none => exact new b o q e
  | some o' =>
    have q2 := sm _ _ e
    rw [q] at q2
    cases q2
    exact (I.hok b o e).stay (fun c v _ z => k c v z) (fun c z => sm _ _ z) fun c xs z => sm _ _ z
end
section
variable {X : Cx} {C : Addr} {B newId initId : String} {bmB : List Value} {f f' : Str} {x : Str} {p pos : Pos} {a b : Expr} {ta tb : TE} {kp1 kp2 : Pos}
/-- C(), a class without an __init__ of its own -/
def tEr0 (C : Addr) : TE := fun _ H Q => ∀ e H', ErAt H' e C [] [] → Same H H' → H e = none → Q (.ref e) H'
theorem pe_er0 (F : ExcBaseFacts B newId initId bmB) (q : PySem.W.excIn X.K C bmB newId = true) (kC : PySem.W.keepIn X.K (.ref C) = true) (hg : Gl X x) (hm : X.mg x = some (.ref C)) (hdb : (x == ("__debug__" : Str)) = false := by decide) :
    PE X (.Call (.Name x p) [] [] pos) (tEr0 C) := by
  refine ⟨fun pins s σ H Q I h => ?_⟩
  refine wpAny_Call_Name_kw (ld_glob I hg hm ?_ hdb)
  refine PySem.W.callWith_K0 I.kIn kC ?_
  show wpAny _ _ (call (.ref C) []) _ _ _
  obtain ⟨bm, N, nm, qn, bs, hdct, sn, sub, ab, col, dd, k0, k1, k2, k3, k5, mN, hC, hN, hni, T⟩ := exc_obj I.kIn q
  obtain ⟨hp, g, dr, tk, os⟩ := s
  refine wpAny_call_exc_subT F T hC hN hni (fun h' e hm => ?_) (by show 0 ≤ sizeLine; omega)
  obtain ⟨t, ht, nt0, htup⟩ := hm.there
  have ne : H e = none := I.hok.gone hm.new
  have nt : H t = none := I.hok.gone nt0
  have te : t ≠ e := fun z => by
    subst z
    rw [ht] at htup
    cases htup
  have sm : Same H (upd (upd H t (.tup [])) e (erO e C none t)) := fun b o z => by
    rw [upd_ne (ne_of_none z ne), upd_ne (ne_of_none z nt)]
    exact z
  have at_e : (upd (upd H t (.tup [])) e (erO e C none t)) e = some (erO e C none t) := upd_same
  have at_t : (upd (upd H t (.tup [])) e (erO e C none t)) t = some (.tup []) := by rw [upd_ne te, upd_same]
  refine ⟨.ref e, _, laidMany2 (H' := upd (upd H t (.tup [])) e (erO e C none t)) I hm.keeps sm (fun b o z n => ?_) (fun b o z n => ?_), rfl, h e _ ⟨none, t, at_e, at_t, rfl⟩ sm ne⟩
  · rw [upd_ne (fun y => by rw [y, hm.new] at z; cases z), upd_ne (fun y => by rw [y, nt0] at z; cases z)]
    exact n
  · by_cases be : b = e
    · subst be
      rw [at_e] at z
      cases z
      exact erO_ok ht
    · by_cases bt : b = t
      · subst bt
        rw [at_t] at z
        cases z
        exact ⟨by show 0 ≤ sizeLine; omega, [], .nil, ⟨_, htup, rfl, _, rfl⟩⟩
      · rw [upd_ne be, upd_ne bt, n] at z
        cases z
/-- C(f = a) -/
def tErK1 (C : Addr) (f : Str) (t : TA) : TE := fun σ H Q => t σ H fun vs H1 => ∃ v, vs = [v] ∧ ∀ e H', ErAt H' e C [(f, v)] [] → Same H1 H' → H1 e = none → Q (.ref e) H'
theorem pe_erK1 {k : Nat} (c : Cl X.K C B newId initId bmB) (i : In1 X.K C f) (hb : Bd1 f (gK1 f)) (hr : Room k X.A) (hg : Gl X x) (hm : X.mg x = some (.ref C)) (ha : PK X [⟨some f, a, kp1⟩] (tCons ta tNil))
    (hdb : (x == ("__debug__" : Str)) = false := by decide) (hall : (backToKw pos (keywordEach [⟨some f, a, kp1⟩] X.env)).all (·.1.isSome) = true := by rfl) (hks : (backToKw pos (keywordEach [⟨some f, a, kp1⟩] X.env)).filterMap (·.1) = [f] := by rfl)
    (hpl : ((backTo pos (starEach [] X.env)).any (·.1) || (backToKw pos (keywordEach [⟨some f, a, kp1⟩] X.env)).any (·.1.isNone)) = false := by rfl) :
    PE X (.Call (.Name x p) [] [⟨some f, a, kp1⟩] pos) (tErK1 C f (tCons ta tNil)) := by
  refine ⟨fun pins s σ H Q I h => ?_⟩
  refine wpAny_Call_Name_kw (ld_glob I hg hm ?_ hdb)
  refine PySem.W.callWith_KW0 (h₀ := X.base) I.ok.mod.kin c.kC hall ?_ hpl
  refine thn (ha.run pos pins s σ H _ I h) fun ws s1 ⟨zs, H1, I1, rz, v, ev, q⟩ => ⟨I1.kIn, ?_⟩
  subst ev
  obtain ⟨u, rfl, ru⟩ := vals1 rz
  rw [hks]
  show wpAny _ _ (call (.ref C) [] [(f, u)]) _ _ _
  exact wpAny_call (PySem.Er.made1 c i (v := u) I1.kIn I1.nolimit (by have := hr.dp; omega) (by show 0 ≤ sizeLine; omega) (fun _ ql p1 p2 q1 q2 q3 q4 kv dc pm an cv ct y => .of_eq (hb ql p1 p2 q1 q2 q3 q4 kv dc pm an cv ct y u))
    fun h' tk e d t M => made_inv (vs := []) I1 M .nil (by show 0 ≤ sizeLine; omega) (rel1 ru) fun H' z1 z2 z3 => q e H' z1 z2 z3)
/-- C(f' = a, f = b): the second parameter first -/
def tErK2 (C : Addr) (f f' : Str) (t : TA) : TE := fun σ H Q => t σ H fun vs H1 => ∃ v v', vs = [v', v] ∧ ∀ e H', ErAt H' e C [(f, v), (f', v')] [] → Same H1 H' → H1 e = none → Q (.ref e) H'
theorem pe_erK2 {k : Nat} (c : Cl X.K C B newId initId bmB) (i : In2 X.K C f f') (hb : Bd2 f f' (gK2 f f')) (hr : Room k X.A) (hg : Gl X x) (hm : X.mg x = some (.ref C)) (ha : PK X [⟨some f', a, kp1⟩, ⟨some f, b, kp2⟩] (tCons ta (tCons tb tNil)))
    (hdb : (x == ("__debug__" : Str)) = false := by decide) (hall : (backToKw pos (keywordEach [⟨some f', a, kp1⟩, ⟨some f, b, kp2⟩] X.env)).all (·.1.isSome) = true := by rfl)
    (hks : (backToKw pos (keywordEach [⟨some f', a, kp1⟩, ⟨some f, b, kp2⟩] X.env)).filterMap (·.1) = [f', f] := by rfl)
    (hpl : ((backTo pos (starEach [] X.env)).any (·.1) || (backToKw pos (keywordEach [⟨some f', a, kp1⟩, ⟨some f, b, kp2⟩] X.env)).any (·.1.isNone)) = false := by rfl) :
    PE X (.Call (.Name x p) [] [⟨some f', a, kp1⟩, ⟨some f, b, kp2⟩] pos) (tErK2 C f f' (tCons ta (tCons tb tNil))) := by
  refine ⟨fun pins s σ H Q I h => ?_⟩
  refine wpAny_Call_Name_kw (ld_glob I hg hm ?_ hdb)
  refine PySem.W.callWith_KW0 (h₀ := X.base) I.ok.mod.kin c.kC hall ?_ hpl
  refine thn (ha.run pos pins s σ H _ I h) fun ws s1 ⟨zs, H1, I1, rz, v, v', ev, q⟩ => ⟨I1.kIn, ?_⟩
  subst ev
  obtain ⟨u', u, rfl, ru', ru⟩ := vals2 rz
  rw [hks]
  show wpAny _ _ (call (.ref C) [] [(f', u'), (f, u)]) _ _ _
  exact wpAny_call (PySem.Er.made2 c i (v := u) (v' := u') I1.kIn I1.nolimit (by have := hr.dp; omega) (by show 0 ≤ sizeLine; omega) (fun _ ql p1 p2 p3 q1 q2 q3 q4 r1 r2 r3 r4 kv dc pm an cv ct y => .of_eq (hb ql p1 p2 p3 q1 q2 q3 q4 r1 r2 r3 r4 kv dc pm an cv ct y u u'))
    fun h' tk e d t M => made_inv (vs := []) I1 M .nil (by show 0 ≤ sizeLine; omega) (rel2 i.nf ru ru') fun H' z1 z2 z3 => q e H' z1 z2 z3)
end
end ErL

set_option maxHeartbeats 1000000
namespace ErL
open PySem PySem.Spec PyProof.Rows L2
theorem guards_deeper {A : Around} {env : Env} (h : A.guards = some []) : (A.deeper env).guards = some [] := by
  first | exact h | (simpa [Around.deeper, pushGuards] using h)
/-- a promise without exceptions: the arguments, the heap, what follows -/
abbrev SpG := List V → Hp → VK → Prop
/-- a def keeps its promise wherever nothing is being shown -/
structure FnG (P : Program) (w : World) (K : PySem.W.Frag) (mg : Str → Option Value) (base : Heap) (k : Nat) (f : Addr) (fd : FuncData) (ps : List Str) (sp : SpG) : Prop where
  len : ∀ vs H Q, sp vs H Q → vs.length = ps.length
  run : ∀ (A : Around) (outer : List Env) (s : Shared) (H : Hp) (args : Args) (us : List Value) (vs : List V) (Q : VK), Room k A → A.guards = some [] →
    Env0 P w K mg base A outer s H → BindsTo s fd args (ps.zip us) → Vals vs us → sp vs H Q → codeAny (model P w) A (.call (.ref f) args) (CR CX0 outer P w H s Q E0) s

section
variable {P : Program} {w : World} {K : PySem.W.Frag} {mg : Str → Option Value} {base : Heap} {k : Nat} {f : Addr} {ps N : List Str} {sp : SpG}
theorem fnG_mk {x qual : Str} {st : Stmt} {fd : FuncData} (F : Fun K x qual st f fd) (S : FnScope N ps (defScope st)) (len : ∀ vs H Q, sp vs H Q → vs.length = ps.length)
    (hbody : ∀ (cdv : Value) (A : Around) (outer : List Env) (s : Shared) (H : Hp) (vs : List V) (Q : VK), Room k (A.deeper (envOfC qual (defScope st) s.heap.objs.size f cdv)) →
      (A.deeper (envOfC qual (defScope st) s.heap.objs.size f cdv)).guards = some [] → sp vs H Q →
      ∃ t, PSs (cxOf CX0 P w K mg base N qual (defScope st) f cdv A outer s H E0).nox (defBody st) t ∧ t { nx := fun _ H' => Q .non H', rt := Q } (start N vs) H) :
    FnG P w K mg base (k + 1) f fd ps sp := by
  obtain ⟨oc, od, kV, doc, pm, an, cdv, ct, osl, rfl, lk, hcd⟩ := F.ex
  refine ⟨len, fun A outer s H args us vs Q hr hg e0 hb r hsp => ?_⟩
  have hl := len _ _ _ hsp
  have KX : K.In s.heap := e0.mod.kin.keeps fun b o e => (e0.bs b o e).1
  have lim : s.heap.NoLimit := e0.mod.nolimit.keeps fun b o e => (e0.bs b o e).1
  have kinds : ∀ y ∈ ps.zip us, (defScope st).names.lookup y.1 = some .local ∨
      ((defScope st).names.lookup y.1 = some .cell ∧ ((cellsFrom (s.heap.objs.size + 1) (defScope st).names []).lookup y.1).isSome = true) := by
    rintro ⟨n, v⟩ hy
    rcases S.par n (List.of_mem_zip hy).1 with q | q
    · exact .inl q
    · exact .inr ⟨q, PySem.W.cellsFrom_some _ _ _ (.inl q)⟩
  refine codeAny_call_function hr.depth (KX _ _ lk) rfl S.co S.gen rfl (PySem.W.codeRec_of KX hcd) (hb _ _ _ _ ?_)
  refine wpAny_newFunctionEnv_cells S.kind kinds fun env he s1 x => ?_
  subst he
  refine ⟨lim.keeps x.toInCall.keep, codeAny_func ?_⟩
  obtain ⟨t, ht, hq⟩ := hbody cdv A outer s H vs Q (hr.deeper _) (guards_deeper hg) hsp
  have I := inv_start (CX := CX0) (E := E0) (P := P) (w := w) (K := K) (mg := mg) (base := base) S hr.hd e0 hl r x
  refine wpAny_mono (ht.nox.run [] s1 (start N vs) H _ I hq) (fun fl s' hs => ?_) fun e s' hs => hs
  cases fl with
  | ret u =>
    obtain ⟨v, σ', H', J, rv, q⟩ := hs
    exact ⟨v, H', J.os, J.bare, J.base, J.hok, rv, q⟩
  | next =>
    obtain ⟨σ', H', J, q⟩ := hs
    exact ⟨.non, H', J.os, J.bare, J.base, J.hok, rfl, q⟩
  | brk =>
    obtain ⟨_, _, _, q⟩ := hs
    exact q.elim
  | cont =>
    obtain ⟨_, _, _, q⟩ := hs
    exact q.elim
theorem FnG.mono {fd : FuncData} {j : Nat} (F : FnG P w K mg base j f fd ps sp) (h : j ≤ k) : FnG P w K mg base k f fd ps sp :=
  ⟨F.len, fun A outer s H args us vs Q hr => F.run A outer s H args us vs Q (hr.mono h)⟩
/-- what holds wherever, holds here -/
theorem FnG.of {fd : FuncData} {sp0 : Sp} (F : FnOk P w K mg base CX0 k f fd ps sp0) (h : ∀ vs H Q, sp vs H Q → sp0 vs H Q E0) : FnG P w K mg base k f fd ps sp :=
  ⟨fun vs H Q q => F.len vs H Q E0 (h _ _ _ q), fun A outer s H args us vs Q hr _ e0 hb r hsp => F.run A outer s H args us vs Q E0 hr e0 hb r (h _ _ _ hsp)⟩
end
section
variable {X : Cx} {k : Nat} {f : Addr} {fd : FuncData} {ps : List Str} {sp : SpG} {x : Str} {p pos : Pos} {e : Expr} {es : List Expr} {t : TA}
/-- f(..) -/
def tCallG (sp : SpG) (t : TA) : TE := fun σ H Q => t σ H fun vs H1 => sp vs H1 Q
theorem pe_callG (F : FnG X.prog X.w X.K X.mg X.base k f fd ps sp) (hr : Room k X.A) (hG : X.A.guards = some []) (hg : Gl X x) (hm : X.mg x = some (.ref f)) (hk : PySem.W.keepIn X.K (.ref f) = true) (hb : Binds X.K fd ps [])
    (ha : PA X (e :: es) t) (hdb : (x == ("__debug__" : Str)) = false := by decide) (he : starEach (e :: es) X.env = (false, eval e X.env) :: starEach es X.env := by rfl)
    (hpl : (backTo pos (starEach es X.env)).any (·.1) = false := by rfl) : PE X (.Call (.Name x p) (e :: es) [] pos) (tCallG sp t) := by
  refine ⟨fun pins s σ H Q I h => ?_⟩
  refine wpAny_Call_Name_kw (ld_glob I hg hm ?_ hdb)
  refine PySem.W.callWith_K (h₀ := X.base) I.ok.mod.kin hk (thn (ha.run pos pins s σ H _ I h) fun us s1 ⟨vs, H1, I1, r, q⟩ => ⟨I1.kIn, ?_⟩) he hpl
  have hl : (us ++ []).length = ps.length := by
    rw [List.append_nil, ← r.length]
    exact F.len _ _ _ q
  have hb1 := hb s1 us I1.kIn hl
  rw [List.append_nil] at hb1
  show wpAny _ _ (call (.ref f) us) _ _ _
  refine wpAny_call (codeAny_mono (F.run X.A X.stack s1 H1 ⟨us, []⟩ us vs Q hr hG I1.env0 hb1 r q) fun r' s' hq => ?_)
  cases r' with
  | error e => exact False.elim hq
  | ok fl =>
    cases fl with
    | ret u => exact I1.after hq
    | next => exact False.elim hq
    | brk => exact False.elim hq
    | cont => exact False.elim hq
end
end ErL




set_option maxHeartbeats 0
namespace K71
open PySem PySem.Spec PyProof.Rows L2 RtL ErL
def top (i : Nat) : Stmt := PySem.Challenge.pw_slotsums_k71_sign_runs.main.body.getD i (.Pass ⟨0, 0, 0, 0⟩)
abbrev inP (i : Nat) : Stmt := inClass (top 22) i
/-! ### the defs -/
def glD (i : Nat) (x : Str) : He.DefD := ⟨(x, none), x, x, defArgs (top i), defBody (top i), defScope (top i), [], []⟩
def mpD (i : Nat) (m : Str) (d : List He.Dv) : He.DefD := ⟨("Polynomial", some m), m, "Polynomial." ++ m, defArgs (inP i), defBody (inP i), defScope (inP i), d, []⟩
def ln : List Str := ["_law_rng", "_law_draw", "_law_choice", "_law_sign", "_law_factor", "_law_polynomial", "_law_sign_at", "_law_places", "_law_due", "_law_refused", "_law_product_right", "_law_right", "law"]
def gn : List Str := ["InvalidPolynomial", "is_an_integer", "worth_at", "sign_at", "moved", "sign_changes", "most_roots", "beyond_roots", "first_other_sign", "marks_between", "signs_from_one", "listed_numbers", "filled_up", "Polynomial", "sign_runs"]
def ipD : He.DefD := ⟨("InvalidPolynomial", some "__init__"), "__init__", "InvalidPolynomial.__init__", defArgs (inClass (top 3) 0), defBody (inClass (top 3) 0), defScope (inClass (top 3) 0), [], []⟩
def fn : List He.DefD := [glD 5 "is_an_integer", glD 7 "worth_at", glD 8 "sign_at", glD 9 "moved", glD 10 "sign_changes", glD 11 "most_roots", glD 12 "beyond_roots", glD 13 "first_other_sign", glD 14 "marks_between", glD 15 "signs_from_one", glD 21 "filled_up",
  mpD 0 "__init__" [], mpD 2 "coefficients" [], mpD 4 "__add__" [], mpD 6 "__mul__" [], mpD 7 "__neg__" [], glD 23 "sign_runs"] ++ ((List.range 13).map (fun i => glD (25 + i) (ln.getD i "")) ++ [ipD, glD 20 "listed_numbers", mpD 5 "__sub__" [], mpD 10 "__repr__" []])
def fr : List Str := ["abs", "len", "max", "min", "int", "divmod", "isinstance", "range", "bool", "all", "list", "reversed", "enumerate", "zip", "repr", "sorted", "set", "str"]
def fa : List He.Fa := (gn ++ ln).map He.Fa.glo ++ (fr.map He.Fa.free ++ [He.Fa.cls "Polynomial", He.Fa.mkr "Polynomial", He.Fa.noat "Polynomial" "_coefficients", He.Fa.meth "Polynomial" "coefficients"])
/-! ### what is asked of the class -/
def binB (K : Fr) (m r : Str) : Bool := He.eqO (PySem.W.findIn K (.ref (He.ga K "Polynomial")) m) (some (some (.ref (He.ma K (He.ga K "Polynomial") m)))) && (PySem.W.isFn K (.ref (He.ma K (He.ga K "Polynomial") m)) && He.eqO (PySem.W.findIn K (.ref (He.ga K "Polynomial")) r) (some none))
def spcB (K : Fr) (C : Str) (m : Str) : Bool := He.eqO (PySem.W.findIn K (.ref (He.ga K C)) m) (some (some (.ref (He.ma K (He.ga K C) m)))) && PySem.W.isFn K (.ref (He.ma K (He.ga K C) m))
def claB (K : Fr) (C : Str) : Bool := He.eqO (PySem.W.findIn K (.ref (He.ga K C)) "__class__") (some (some (.builtin "object.__class__"))) && (He.eqO (PySem.W.specialIn K (.builtin "object.__class__") "__get__") (some (some (.builtin "getset_descriptor.__get__"))) &&
  (decide (PySem.W.takesIn K (.builtin "object.__class__") = some true) && (decide (PySem.W.mroIn K (He.ga K C) (.type "object") = some true) && (decide (PySem.W.kitOne K (.ref (He.ga K C)) (.type "int") = some false) && decide (PySem.W.kitOne K (.ref (He.ga K C)) (.type "bool") = some false)))))
def eqB (a b : Option (Option Value)) : Bool := decide (a = b)
def askB (K : Fr) (C : Addr) : Bool := (PySem.W.clsIn K C).isSome && (PySem.W.hasDictIn K C && (eqB (PySem.W.findIn K (.ref C) "__getattribute__") (some (some (.builtin "BaseException.__getattribute__"))) &&
  (eqB (PySem.W.findIn K (.ref C) "__getattr__") (some none) && (decide (PySem.W.subIn K (.ref C) (.type "BaseException") = some true) && (eqB (PySem.W.findIn K (.ref C) "__class__") (some (some (.builtin "object.__class__"))) &&
  (eqB (PySem.W.specialIn K (.builtin "object.__class__") "__get__") (some (some (.builtin "getset_descriptor.__get__"))) && (decide (PySem.W.takesIn K (.builtin "object.__class__") = some true) &&
  (decide (PySem.W.mroIn K C (.type "object") = some true) && eqB (PySem.W.findIn K (.ref C) "__str__") (some (some (.builtin "BaseException.__str__")))))))))))
theorem ask_ok {K : Fr} {C : Addr} (h : askB K C = true) : Asks K C := by
  simp only [askB, eqB, Bool.and_eq_true, decide_eq_true_eq] at h
  obtain ⟨h1, h2, h3, h4, h5, h6, h7, h8, h9, h10⟩ := h
  exact ⟨h1, h2, h3, h4, h5, h6, h7, h8, h9, h10⟩
abbrev bmV : List Value := [.type "ValueError", .type "Exception", .type "BaseException", .type "object"]
def clB (K : Fr) (C : Addr) : Bool := PySem.W.excInitIn K C bmV "ValueError.__new__" && (PySem.W.excOver K C bmV && (PySem.W.hasDictIn K C && (eqB (PySem.W.findIn K (.ref C) "__setattr__") (some (some (.builtin "object.__setattr__"))) && PySem.W.keepIn K (.ref C))))
theorem cl_ok {K : Fr} {C : Addr} (h : clB K C = true) : PySem.Er.Cl K C "ValueError" "ValueError.__new__" "ValueError.__init__" bmV := by
  simp only [clB, eqB, Bool.and_eq_true, decide_eq_true_eq] at h
  obtain ⟨h1, h2, h3, h4, h5⟩ := h
  exact ⟨PySem.F.excBase_ValueError, PySem.F.store_ValueError, h1, h2, h3, h4, h5⟩
/-- of an error of one field -/
def errB (K : Fr) (C : Str) : Bool := askB K (He.ga K C) && (clB K (He.ga K C) && (decide (PySem.W.typeIn K (.ref (He.ma K (He.ga K C) "__init__")) = some (.type "function")) && (eqB (PySem.W.findIn K (.ref (He.ga K C)) "__init__") (some (some (.ref (He.ma K (He.ga K C) "__init__")))) &&
  (decide (PySem.W.takerIn K (He.ga K C) "value" = some none) && (eqB (PySem.W.findIn K (.ref (He.ga K C)) "value") (some none) && (decide (PySem.W.subIn K (.ref (He.ga K C)) (.type "BaseException") = some true) && (decide (PySem.W.typeIn K (.ref (He.ga K C)) = some (.type "type")) &&
  (decide (PySem.W.exmOne K (.ref (He.ga K C)) (.ref (He.ga K C)) = some true)))))))))
def tys : List String := ["int", "str", "NoneType", "bool", "list", "tuple", "dict"]
def chk (K : Fr) : Bool := (K.lookup sysModules).isSome && (PySem.W.selfFirst K (He.ga K "Polynomial") && (binB K "__add__" "__radd__" && (binB K "__mul__" "__rmul__" && (spcB K "Polynomial" "__neg__" && (binB K "__sub__" "__rsub__" && (spcB K "Polynomial" "__repr__" && (errB K "InvalidPolynomial" && (tys.all (fun t => decide (PySem.W.kitOne K (.type t) (.ref (He.ga K "Polynomial")) = some false)) &&
  (decide (PySem.W.subIn K (.type "int") (.ref (He.ga K "Polynomial")) = some false) && (decide (PySem.W.kitOne K (.ref (He.ga K "Polynomial")) (.ref (He.ga K "Polynomial")) = some true) && claB K "Polynomial"))))))))))
/-! ### the Hook -/
def obsX (K : Fr) : He.AlD := (((fa.all fun f => f.ok K) && fn.all fun d => d.ok K) && chk K, fn.map fun d => He.fnW K d.at_)
def Says (K : Fr) : Prop := obsX K = He.valD fn
def frX (g : Addr → Option Obj) : Fr := He.frG g (sysModules :: cStatics :: He.asD g 5)
def hk : PySem.W.Hook where
  α := He.AlD
  obs := fun s => obsX (frX s.heap.get?)
  val := fun _ => He.valD fn
  says := fun _ h => ∃ K : Fr, K.In h ∧ Says K
  of := fun _ _ e => ⟨_, He.frG_in, e⟩
  keeps := fun _ _ _ ⟨K, hK, c⟩ k => ⟨K, PySem.W.Frag.In.keeps hK k, c⟩
def ob (s : PySem.W.SharedT) : He.AlD := obsX (frX (HandSHeadRun.getT s))
theorem ob_eq (s : PySem.W.SharedT) : ob s = hk.obs s.abs := by
  have e : HandSHeadRun.getT s = s.abs.heap.get? := funext (HandSHeadRun.getT_eq s)
  show obsX (frX (HandSHeadRun.getT s)) = obsX (frX s.abs.heap.get?)
  rw [e]
def names : List Str := (["SlotsumsError", "InvalidNumber", "power_text", "signed_text", "polynomial_text"] : List Str) ++ gn ++ ln.take 12
abbrev R : PySem.W.OpenRow := PySem.W.OpenLaw.row PySem.Challenge.rw_slotsums_k71_sign_runs
end K71

set_option maxHeartbeats 1000000
namespace K71
open PySem PySem.Spec PyProof.Rows L2 RtL ErL
open PySem.Er (Cl In1 iA1 iB1 iS1)
abbrev PC (K : Fr) : Addr := He.ga K "Polynomial"
abbrev IP (K : Fr) : Addr := He.ga K "InvalidPolynomial"
abbrev pm (K : Fr) (m : Str) : Addr := He.ma K (PC K) m
/-- what is known of an error of one field -/
structure ErrT (K : Fr) (C : Addr) : Prop where
  ask : Asks K C
  cl : Cl K C "ValueError" "ValueError.__new__" "ValueError.__init__" bmV
  ty : PySem.W.typeIn K (.ref (He.ma K C "__init__")) = some (.type "function")
  fi : PySem.W.findIn K (.ref C) "__init__" = some (some (.ref (He.ma K C "__init__")))
  tk : PySem.W.takerIn K C "value" = some none
  va : PySem.W.findIn K (.ref C) "value" = some none
  be : PySem.W.subIn K (.ref C) (.type "BaseException") = some true
  tc : PySem.W.typeIn K (.ref C) = some (.type "type")
  ex : PySem.W.exmOne K (.ref C) (.ref C) = some true
structure TT (K : Fr) (mg : Str → Option Value) : Prop where
  sys : ∃ o, K.lookup sysModules = some o
  me : PySem.W.selfFirst K (PC K) = true
  clP : Cls K (PC K)
  mkp : Mk K (PC K) (pm K "__init__")
  nC : NoAttr K (PC K) "_coefficients"
  coef : Meth K (PC K) "coefficients" (pm K "coefficients")
  bin : ∀ m r : Str, (m, r) ∈ ([("__add__", "__radd__"), ("__mul__", "__rmul__"), ("__sub__", "__rsub__")] : List (Str × Str)) → OpOf K (PC K) (pm K m) m r
  neg : PySem.W.findIn K (.ref (PC K)) "__neg__" = some (some (.ref (pm K "__neg__"))) ∧ PySem.W.isFn K (.ref (pm K "__neg__")) = true
  rep : PySem.W.findIn K (.ref (PC K)) "__repr__" = some (some (.ref (pm K "__repr__"))) ∧ PySem.W.isFn K (.ref (pm K "__repr__")) = true
  ep : ErrT K (IP K)
  kitT : ∀ t ∈ tys, PySem.W.kitOne K (.type t) (.ref (PC K)) = some false
  kitP : PySem.W.kitOne K (.ref (PC K)) (.ref (PC K)) = some true
  tyP : ∀ {H : Hp} {a dx : Addr} {fs : List (Str × V)}, H a = some (.ins (PC K) dx fs) → TyX K H (.ref a) (.ref (PC K))
  free : ∀ x ∈ fr, mg x = none
  dfs : ∀ d ∈ fn, ∃ fd, FunD K d.name d.qual d.params d.body d.scope (d.dvs K) (d.kws K) (He.fAd K d.at_) fd
  gl : ∀ x ∈ gn ++ ln, mg x = some (.ref (He.ga K x))
theorem err_ok {K : Fr} {C : Str} (h : errB K C = true) : ErrT K (He.ga K C) := by
  unfold errB at h
  simp only [eqB, Bool.and_eq_true, decide_eq_true_eq] at h
  obtain ⟨q1, q2, q3, q4, q5, q6, q7, q8, q9⟩ := h
  exact ⟨ask_ok q1, cl_ok q2, q3, q4, q5, q6, q7, q8, q9⟩
theorem tt_of {K : Fr} {h : Heap} {mg : Str → Option Value} (X : K.In h) (G : h.Ns mainGlobals mg) (c : Says K) : TT K mg := by
  have c1 : ((fa.all fun f => f.ok K) && fn.all fun d => d.ok K) && chk K := congrArg Prod.fst c
  have c2 : fn.map (fun d => He.fnW K d.at_) = fn.map He.DefD.val := congrArg Prod.snd c
  obtain ⟨c1, k⟩ := He.ba c1
  obtain ⟨ca, cd⟩ := He.ba c1
  unfold chk at k
  simp only [Bool.and_eq_true] at k
  obtain ⟨k1, k2, k3, k4, k5, j1, j2, j3, j4, k6, k7, k8⟩ := k
  unfold claB at k8
  simp only [Bool.and_eq_true] at k8
  obtain ⟨a1, a2, a3, a4, a5, a6⟩ := k8
  have fac : ∀ f ∈ fa, f.ok K = true := fun f hf => List.all_eq_true.mp ca f hf
  have lst : ∀ f ∈ [He.Fa.cls "Polynomial", He.Fa.mkr "Polynomial", He.Fa.noat "Polynomial" "_coefficients", He.Fa.meth "Polynomial" "coefficients"], f.ok K = true := fun f hf => fac f (List.mem_append_right _ (List.mem_append_right _ hf))
  have CP : Cls K (PC K) := He.cls_ok (lst (.cls "Polynomial") (by simp))
  have nt : PySem.W.subIn K (.type "int") (.ref (PC K)) = some false := of_decide_eq_true k6
  have op : ∀ m r : Str, binB K m r = true → OpOf K (PC K) (pm K m) m r := fun m r h => by
    unfold binB at h
    simp only [Bool.and_eq_true] at h
    exact ⟨k2, He.eqO_ok h.1, h.2.1, He.eqO_ok h.2.2, nt⟩
  unfold spcB at k5 j2
  refine ⟨Option.isSome_iff_exists.mp k1, k2, CP, He.mkr_ok (lst (.mkr "Polynomial") (by simp)), He.noat_ok (lst (.noat "Polynomial" "_coefficients") (by simp)), He.meth_ok (lst (.meth "Polynomial" "coefficients") (by simp)), fun m r hm => ?_, ⟨He.eqO_ok (He.ba k5).1, (He.ba k5).2⟩, ⟨He.eqO_ok (He.ba j2).1, (He.ba j2).2⟩, err_ok j3, fun t ht => of_decide_eq_true (List.all_eq_true.mp j4 t ht), of_decide_eq_true k7,
    fun ha => .base (.ins ha CP (He.eqO_ok a1) (He.eqO_ok a2) (of_decide_eq_true a3) (of_decide_eq_true a4)), fun x hx => He.free_ok X G (fac (.free x) (List.mem_append_right _ (List.mem_append_left _ (List.mem_map.mpr ⟨x, hx, rfl⟩)))), fun d hd => ?_, fun x hx => He.glo_ok X G (fac (.glo x) (List.mem_append_left _ (List.mem_map.mpr ⟨x, hx, rfl⟩)))⟩
  · simp only [List.mem_cons, Prod.mk.injEq, List.not_mem_nil, or_false] at hm
    rcases hm with ⟨rfl, rfl⟩ | ⟨rfl, rfl⟩ | ⟨rfl, rfl⟩
    · exact op _ _ k3
    · exact op _ _ k4
    · exact op _ _ j1
  · obtain ⟨i, hi⟩ := List.getElem?_of_mem hd
    have e2 : (fn.map fun d => He.fnW K d.at_)[i]? = (fn.map He.DefD.val)[i]? := by rw [c2]
    rw [List.getElem?_map, List.getElem?_map, hi] at e2
    exact He.DefD.funD (Option.some.inj e2) (List.all_eq_true.mp cd d hd)
section
variable {K : Fr} {mg : Str → Option Value}
theorem TT.df (T : TT K mg) (i : Nat) (h : i < fn.length := by decide) : ∃ fd, FunD K fn[i].name fn[i].qual fn[i].params fn[i].body fn[i].scope (fn[i].dvs K) (fn[i].kws K) (He.fAd K fn[i].at_) fd := T.dfs _ (List.getElem_mem h)
theorem TT.fre (T : TT K mg) {x : Str} (h : x ∈ fr := by decide) : mg x = none := T.free x h
theorem in1_of {C : Addr} {q : Str} {st : Stmt} (E : ErrT K C) (hs : ∃ p1 p2 q1 q2 q3 q4, defArgs st = iA1 "value" p1 p2 ∧ defBody st = iB1 "value" q1 q2 q3 q4 ∧ defScope st = iS1 "value") {fd : FuncData}
    (F : FunD K "__init__" q (defArgs st) (defBody st) (defScope st) [] [] (He.ma K C "__init__") fd) : In1 K C "value" := by
  obtain ⟨oc, od, dV, kV, doc, pm, an, cdv, ct, osl, rfl, lk, hcd, hD, _⟩ := F.ex
  obtain rfl : dV = Value.none := hD.elim (fun z => z.2) fun z => absurd rfl z.1
  obtain ⟨p1, p2, q1, q2, q3, q4, e1, e2, e3⟩ := hs
  rw [e1, e2, e3] at lk
  exact ⟨E.tk, by decide, by decide, _, _, oc, od, kV, doc, pm, an, cdv, ct, osl, p1, p2, q1, q2, q3, q4, E.fi, E.ty, lk, hcd⟩
theorem TT.ip1 (T : TT K mg) : In1 K (IP K) "value" := by
  obtain ⟨fd, F⟩ := T.dfs ipD (by simp [fn])
  exact in1_of (q := "InvalidPolynomial.__init__") (st := inClass (top 3) 0) T.ep ⟨_, _, _, _, _, _, rfl, rfl, rfl⟩ F
end
end K71

set_option maxHeartbeats 1000000
/-! repr of a list that holds whole numbers and objects of an own class with __repr__ -/
namespace RtL
open PySem PySem.Spec PyProof.Rows L2
open PySem.Sem (wp)
open PySem.Builtin PySem.Builtin.List
section
variable {M : Model} {K : PySem.W.Frag} {A : Around} {E : Value → Shared → Prop} {s : Shared} {x f C : Addr} {ox : Obj} {od : Option Obj}
theorem ifBoundBy_K {last : Value → List Value → Sem Value} {name : Str} {Q : Option Value → Shared → Prop} (X : K.In s.heap) (I : PySem.W.InstAt s.heap x ox C od) (hs : PySem.W.findIn K (.ref C) name = some (some (.ref f))) (hf : PySem.W.isFn K (.ref f) = true)
    (h : wpAny M A (last (.ref f) [.ref x]) (fun v => Q (some v)) E s) : wpAny M A (callSpecialIfBoundBy? last (.ref x) name) Q E s := by
  simp only [callSpecialIfBoundBy?, bindSpecialIfBound?]
  refine wpAny_holding (wpAny_bind (wpAny_bind (wpAny_bind (I.type.here ((PySem.W.looks_findIn X hs).here ?_)))))
  refine wpAny_bind (wpAny_askSetting (wpAny_ite ?_))
  have fin : wpAny M A (last (.ref f) [.ref x] >>= fun v => pure (some v)) Q E s := wpAny_bind (wpAny_mono h (fun v s' h' => wpAny_pure h') fun _ _ h' => h')
  split
  · exact wpAny_bind ((PySem.W.bind_fn X _ (beq_iff_eq.mp hf)).here (wpAny_pure (by exact fin)))
  · exact wpAny_tryCatch (wpAny_bind ((PySem.W.bind_fn X _ (beq_iff_eq.mp hf)).here (wpAny_pure (by exact fin))))
end
theorem loop_depth (A : Around) (args : Args) : (A.under (.builtin "list.__repr__.loop" args)).depth ≤ A.depth + 1 := by
  first
  | exact Nat.le_of_eq rfl
  | (simp [Around.under, Code.weight, Code.isCreation, Code.isGuard, Code.isCaller, Code.frames, Code.isFrame, guardIds]; done)
  | (simp [Around.under, Code.weight, Code.isCreation, Code.isGuard, Code.isCaller, Code.frames, Code.isFrame, guardIds] <;> omega)
theorem Room.loop {k : Nat} {A : Around} (r : Room (k + 1) A) (args : Args) : Room k (A.under (.builtin "list.__repr__.loop" args)) :=
  ⟨r.hd, by have := r.dp; have := loop_depth A args; omega, by have := r.un; rw [units_under_list_loop]; omega⟩
theorem Env0.loop {P : Program} {w : World} {K : PySem.W.Frag} {mg : Str → Option Value} {base : Heap} {A : Around} {outer : List Env} {s : Shared} {H : Hp} (e : Env0 P w K mg base A outer s H) (args : Args) :
    Env0 P w K mg base (A.under (.builtin "list.__repr__.loop" args)) outer s H := ⟨by first | exact e.frames | (simpa [Around.under, Code.envs, Code.isFrame, pushEnvs] using e.frames), e.mod, e.bs, e.bsz, e.funs, e.frf, e.hok, e.bare⟩
/-- an item and its text -/
def ItT (C : Addr) (sp : Sp) (H : Hp) (v : V) (t : Str) : Prop := (∃ i : Int, v = .int i ∧ t = toString i ∧ i.natAbs.log2 < 1920) ∨ ∃ a dx fs, v = .ref a ∧ H a = some (.ins C dx fs) ∧ ∀ Q : VK, Q (.str t) H → sp [.ref a] H Q E0
section
variable {X : Cx} {k : Nat} {f C : Addr} {fd : FuncData} {sp : Sp} {ps : List Str} {pins : List (Addr × Obj)} {σ : L2.St} {H : Hp}
theorem under_own (hs : PySem.W.findIn X.K (.ref C) "__repr__" = some (some (.ref f))) (hf : PySem.W.isFn X.K (.ref f) = true) (F : FnOk X.prog X.w X.K X.mg X.base CX0 k f fd ps sp) (hb : Binds X.K fd ps []) {A : Around} {s : Shared} {E : Value → Shared → Prop} (hr : Room k A)
    (e0 : Env0 X.prog X.w X.K X.mg X.base A X.stack s H) (I : Inv X pins σ H s) {a dx : Addr} {fs : List (Str × V)} {t : Str} {base : Nat} {Q : Str → Shared → Prop} (ha : H a = some (.ins C dx fs)) (hq : ∀ Q : VK, Q (.str t) H → sp [.ref a] H Q E0) (hz : base ≤ sizeLine)
    (h : ∀ s', Inv X pins σ H s' → Q t s') : wpAny (model X.prog X.w) A (pyReprUnder base (.ref a)) Q E s := by
  obtain ⟨mA, oa, _⟩ := ins_get I.hok ha
  obtain ⟨od, J, _⟩ := oa.look
  have q := hq (fun v H' => v = .str t ∧ H' = H) ⟨rfl, rfl⟩
  have hl : ([Value.ref a] ++ []).length = ps.length := by
    rw [← F.len _ _ _ _ q]
    rfl
  refine wpAny_pyReprUnder_ref hz ?_
  unfold pyReprObjUnder pyReprObjBy
  refine wpAny_bind (wpAny_cRoomFor (by have := hr.un; omega) ?_)
  refine wpAny_bind (wpAny_bind (J.type.here ((PySem.W.looks_findIn I.kIn hs).here ?_)))
  show wpAny _ _ (if (some (Value.ref f)).isNone = true then _ else _) _ _ _
  rw [if_neg (by simp)]
  refine wpAny_bind (ifBoundBy_K I.kIn J hs hf ?_)
  show wpAny _ _ (call (.ref f) [.ref a]) _ _ _
  refine wpAny_call (codeAny_mono (F.run A X.stack s H ⟨[.ref a], []⟩ [.ref a] [.ref a] _ E0 hr e0 (hb s [.ref a] I.kIn hl) (.cons rfl .nil) q) fun r s' hq => ?_)
  match r, hq with
  | .ok (.ret u), hq =>
    obtain ⟨v, H', I3, rv, ev, eH⟩ := I.after hq
    subst ev eH
    obtain ⟨tk, e⟩ := rv
    subst e
    exact wpAny_bind (wpAny_isInstance (T := "str") (b := true) rfl isSubtype_str_str (wpAny_pure ⟨_, _, rfl, h s' I3⟩))
  | .ok .next, hq => exact False.elim hq
  | .ok .brk, hq => exact False.elim hq
  | .ok .cont, hq => exact False.elim hq
  | .error e, hq => exact False.elim hq
abbrev pL (P : Addr) (acc : Array Value) (c : Nat) : Addr × Obj := (P, { cls := .type "list", dict := none, data := .seq acc c, slots := #[] })
/-- the list of the parts grows -/
theorem pin_push {P : Addr} {acc acc' : Array Value} {c c' : Nat} {s : Shared} {h' : Heap} {t' : Nat} (I : Inv X (pL P acc c :: pins) σ H s) (h1 : P ∈ X.ex ∨ X.s_0.heap.objs.size ≤ P) (h2 : ∀ x c, X.env.cells.lookup x = some c → c ≠ P) (h3 : ∀ p ∈ X.pn ++ pins, p.1 ≠ P)
    (k : ∀ b o, b ≠ P → s.heap.get? b = some o → h'.get? b = some o) (hP : h'.get? P = some (pL P acc' c').2) : Inv X (pL P acc' c' :: pins) σ H { s with heap := h', toks := t' } := by
  obtain ⟨p1, p2, p3, p4, p5⟩ := I.pin (pL P acc c) (List.mem_append_right _ List.mem_cons_self)
  have J := (ClX.unpin I).turned (t' := t') k p2 p3 h1 h2 h3
  refine J.pins_of fun p hp => ?_
  rcases List.mem_cons.mp hp with e | e
  · subst e
    exact ⟨hP, p2, p3, p4, fun v z => nomatch z⟩
  · exact J.pin p (List.mem_append_right _ e)
theorem loopI (hs : PySem.W.findIn X.K (.ref C) "__repr__" = some (some (.ref f))) (hf : PySem.W.isFn X.K (.ref f) = true) (F : FnOk X.prog X.w X.K X.mg X.base CX0 k f fd ps sp) (hb : Binds X.K fd ps []) {A : Around} (hr : Room (k + 1) A)
    (e0 : ∀ s, Inv X pins σ H s → Env0 X.prog X.w X.K X.mg X.base A X.stack s H) {a P : Addr} {vs : List V} {ts : List Str} {base : Nat} {R : Result → Shared → Prop} (ea : H a = some (.lst vs)) (hlen : ts.length = vs.length)
    (hT : ∀ (i : Nat) (v : V), vs[i]? = some v → ∃ t, ts[i]? = some t ∧ ItT C sp H v t) (hsz : base + (listText ts).length ≤ sizeLine)
    (h1 : P ∈ X.ex ∨ X.s_0.heap.objs.size ≤ P) (h2 : ∀ x c, X.env.cells.lookup x = some c → c ≠ P) (h3 : ∀ p ∈ X.pn ++ pins, p.1 ≠ P) (hR : ∀ s' u, Inv X pins σ H s' → R (.ok (.ret (.str (listText ts) u))) s') :
    ∀ (n i : Nat) (s : Shared) (acc : Array Value) (c : Nat) (done : List (Str × Tok)), vs.length - i = n → i ≤ vs.length → Inv X (pL P acc c :: pins) σ H s → acc.toList = strValues done → done.map (·.1) = ts.take i →
      codeAny (model X.prog X.w) A (.builtin "list.__repr__.loop" ⟨[.ref a, rawInt i, .ref P, rawInt ((base + piled (ts.take i) : Nat) : Int)], []⟩) R s := by
  have hX : (listText ts).length = (textFrom 0 "[" ts).length + 1 := by
    show (textFrom 0 "[" ts ++ "]").length = _
    rw [strLen_append]; rfl
  have hL := textFrom_len ts 0 "["
  have hsz1 : vs.length ≤ sizeLine := by
    have h1 := hL.1
    rw [if_neg (Nat.lt_irrefl 0)] at h1
    omega
  have hsz2 : ∀ t ∈ ts, t.length ≤ sizeLine := fun t ht => by
    have h2 := hL.2.1 t ht
    omega
  have hsz3 : (listText ts).length ≤ sizeLine := by omega
  have hp3 := piled_le_listText ts
  intro n
  induction n with
  | zero =>
    intro i s acc c done hk hi I hacc hdone
    obtain ⟨_, its, nn, rv, ho⟩ := (show ObjOk X.prog X.w H s.heap a (.lst vs) from I.hok a _ ea)
    have hin : i = its.length := by rw [← rv.length]; omega
    refine codeAny_builtin PySem.F.entry_list_repr_loop ?_
    show wpAny _ _ («list.__repr__.loop» ⟨[.ref a, .int i 0, .ref P, .int ((base + piled (ts.take i) : Nat) : Int) 0], []⟩) _ _ s
    rw [repr_loop_tree]
    refine wpAny_bind (wpAny_listItems ho rfl ?_)
    have hnone : its.toArray[(i : Int).toNat]? = none := by simp [hin]
    simp only [hnone]
    unfold reprEnd
    refine wpAny_bind (wpAny_listItems (ClX.pin_at I) rfl ?_)
    rw [hacc, repr_fold]
    refine wpAny_bind (wpAny_pure ?_)
    have hall : done.map (·.1) = ts := by rw [hdone, hin, ← rv.length, ← hlen, List.take_length]
    rw [hall]
    refine wpAny_bind (wpAny_mkStr (wpAny_pure ?_) hsz3)
    exact hR _ _ ((ClX.unpin I).tok _)
  | succ n ih =>
    intro i s acc c done hk hi I hacc hdone
    have hlt : i < vs.length := by omega
    obtain ⟨_, its, nn, rv, ho⟩ := (show ObjOk X.prog X.w H s.heap a (.lst vs) from I.hok a _ ea)
    have hlt' : i < its.length := by rw [← rv.length]; exact hlt
    obtain ⟨t, ht, hit⟩ := hT i vs[i] (by simp [hlt])
    obtain ⟨u, hu, ru⟩ := rv.get (i := i) (x := vs[i]) (by simp [hlt])
    have hp1 := piled_take_succ ht
    have hp2 := piled_take_le ts (i + 1)
    refine codeAny_builtin PySem.F.entry_list_repr_loop ?_
    show wpAny _ _ («list.__repr__.loop» ⟨[.ref a, .int i 0, .ref P, .int ((base + piled (ts.take i) : Nat) : Int) 0], []⟩) _ _ s
    rw [repr_loop_tree]
    refine wpAny_bind (wpAny_listItems ho rfl ?_)
    have hsome : its.toArray[(i : Int).toNat]? = some u := by
      rw [Int.toNat_natCast, List.getElem?_toArray]
      exact hu
    simp only [hsome]
    rw [Int.toNat_natCast]
    have go : ∀ s', Inv X (pL P acc c :: pins) σ H s' → wpAny (model X.prog X.w) (A.under (.builtin "list.__repr__.loop" ⟨[.ref a, .int i 0, .ref P, .int ((base + piled (ts.take i) : Nat) : Int) 0], []⟩)) (do
        let signs := base + piled (ts.take i) + (t.length + 2)
        let r ← mkStr t
        listUpdate (.ref P) (·.push r)
        again (.builtin "list.__repr__.loop" ⟨[.ref a, rawInt ((i : Int) + 1), .ref P, rawInt signs], []⟩))
        (fun fin s' => match fin with | .done fl => R (.ok fl) s' | .again c' => c'.quiet = true ∧ codeAny (model X.prog X.w) A c' R s') (fun e s' => R (.error e) s') s' := fun s' I' => by
      refine wpAny_bind (wpAny_mkStr ?_ (hsz2 t (List.mem_of_getElem? ht)))
      refine wpAny_bind ?_
      show wpAny _ _ (updateSeq P _) _ _ _
      have hasz : acc.size ≤ sizeLine := by
        have e1 : acc.toList.length = acc.size := by simp
        have e2 : (strValues done).length = done.length := by simp [strValues]
        have e3 : done.length = (ts.take i).length := by rw [← hdone, List.length_map]
        have e4 : (ts.take i).length ≤ i := by rw [List.length_take]; omega
        rw [hacc] at e1; omega
      refine wpAny_updateSeq (ClX.pin_at I') rfl (wpAny_pure ⟨PySem.F.quiet_list_repr_loop _, ?_⟩) hasz
      have e1 : ((i : Int) + 1) = ((i + 1 : Nat) : Int) := by omega
      have e2 : base + piled (ts.take i) + (t.length + 2) = base + piled (ts.take (i + 1)) := by omega
      rw [e1, e2]
      refine ih (i + 1) _ (acc.push (.str t s'.toks)) _ (done ++ [(t, s'.toks)]) (by omega) hlt (pin_push (I'.tok (s'.toks + 1)) h1 h2 h3 (fun b o hne e => (Heap.get?_update_other _ _ (fun h : P = b => hne h.symm)).trans e) (Heap.get?_update_self _ (ClX.pin_at I') rfl)) (by simp [hacc, strValues]) (by simp [List.take_add_one, ht, hdone])
    rcases hit with ⟨j, ev, et, hlog⟩ | ⟨b, dx, fs, ev, eb, hq⟩
    · rw [ev] at ru
      obtain ⟨tk, eu⟩ := (show ∃ tk, u = Value.int j tk from ru)
      subst et
      rw [eu]
      refine wpAny_bind (wpAny_holding (ReprIs.int tk hlog (base + piled (ts.take i) + 1) (by omega) _ _ _ _ fun tk' => ?_))
      exact go _ (I.tok tk')
    · rw [ev] at ru
      rw [show u = Value.ref b from ru]
      refine wpAny_bind (wpAny_holding (under_own hs hf F hb (Room.loop hr _) (Env0.loop (e0 s (ClX.unpin I)) _) I eb hq (by omega) fun s' I' => ?_))
      exact go s' I'
/-- repr(xs), xs a list of these -/
def rReprL (C : Addr) (sp : Sp) : List V → Hp → VK → Prop := fun xs H Q => ∃ a vs ts, xs = [.ref a] ∧ H a = some (.lst vs) ∧ vs ≠ [] ∧ ts.length = vs.length ∧ (∀ (i : Nat) (v : V), vs[i]? = some v → ∃ t, ts[i]? = some t ∧ ItT C sp H v t) ∧
  (listText ts).length ≤ sizeLine ∧ Q (.str (listText ts)) H
theorem call_reprL (hs : PySem.W.findIn X.K (.ref C) "__repr__" = some (some (.ref f))) (hf : PySem.W.isFn X.K (.ref f) = true) (F : FnOk X.prog X.w X.K X.mg X.base CX0 k f fd ps sp) (hb : Binds X.K fd ps []) (hr : Room (k + 3) X.A) (hg : X.A.guards = some []) :
    CallR X (.builtin "repr") (rReprL C sp) := by
  intro pins s σ H xs us Q I r h
  obtain ⟨a, vs, ts, rfl, ea, hne, hlen, hT, hsz, q⟩ := h
  obtain ⟨u, rfl, rx⟩ := vals1 r
  cases (show u = Value.ref a from rx)
  obtain ⟨_, its, nn, rv, ho⟩ := (show ObjOk X.prog X.w H s.heap a (.lst vs) from I.hok a _ ea)
  cases rv with
  | nil => exact absurd rfl hne
  | cons r1 r2 =>
    rename_i v vs x l
    refine call_repr_slot (by have := hr.un; show X.A.units + 1 < cLine; omega) ⟨_, ho, rfl⟩ PySem.F.slot_list_repr.toG ?_
    refine wpAny_call (codeAny_call_builtin PySem.F.slot_list_repr.plain PySem.F.entry_list_repr (PySem.F.slot_list_repr.check _ _ _ _ _ _ _ _ ⟨_, ho, rfl⟩ (PySem.F.args_list_repr_1 _) ?_))
    refine wpAny_list_repr_head (g := []) hg (fun v rest kw hm => nomatch hm) ho rfl ?_
    refine wpAny_bind (m := newList []) (wpAny_newObj_type ?_)
    refine wpAny_pure ⟨PySem.F.quiet_list_repr_loop _, ?_⟩
    have I1 := I.lt
    refine loopI (A := X.A.in1) (P := s.heap.objs.size) hs hf F hb (Room.in1 (hr.mono (by omega) : Room (k + 2) X.A)) (fun s' I' => I'.env0.in1) (base := 0) ea hlen hT (by omega) (.inr I.sz) (fun x c e z => ?_) (fun p hp z => ?_) (fun s' u I' => ?_) _ 0 _ #[] _ [] rfl (Nat.zero_le _) (ClX.pin_new I (fun b o e => Heap.get?_push_of_some _ e) (Nat.le_refl _) (Heap.get?_push_size _ rfl) (fun v z => nomatch z)) rfl (by simp)
    · obtain ⟨v, o, hc, _⟩ := I.cell x c e
      rw [z] at hc
      exact absurd (Heap.lt_size hc) (Nat.lt_irrefl _)
    · have e := (I.pin p hp).1
      rw [z] at e
      exact absurd (Heap.lt_size e) (Nat.lt_irrefl _)
    · exact ⟨_, _, rfl, .str _, H, I', ⟨u, rfl⟩, q⟩
end
end RtL

set_option maxHeartbeats 1000000
/-! an own error with one field: raised, caught, its field read -/
namespace RtL
open PySem PySem.Spec PyProof.Rows L2 ErL
open PySem.Er (Made Cl In1 In2 Shw)
section
variable {X : Cx} {B newId initId : String} {bmB : List Value} {C : Addr} {f x : Str} {p pos : Pos} {a : Expr} {ta : TA} {k : Nat}
/-- C(a), raised -/
def tMk1 (C : Addr) (f : Str) (ta : TA) : L2.St → Hp → XK → Prop := fun σ H Q => ta σ H fun vs H1 => ∃ v, vs = [v] ∧ ∀ d, H1 d = none → Q (.ref C) (some d) (upd H1 d (.xd [(f, v)]))
theorem pmk_er1 (c : Cl X.K C B newId initId bmB) (i : In1 X.K C f) (hb : Bd1 f gP1) (hr : Room k X.A) (hg : Gl X x) (hm : X.mg x = some (.ref C)) (rs : Raises X (.ref C)) (ha : PA X [a] ta)
    (hdb : (x == ("__debug__" : Str)) = false := by decide) (he : starEach [a] X.env = (false, eval a X.env) :: starEach [] X.env := by rfl) (hpl : (backTo pos (starEach [] X.env)).any (·.1) = false := by rfl) :
    PMk X (.Call (.Name x p) [a] [] pos) (tMk1 C f ta) := by
  intro pins s σ H Q I h
  refine wpAny_Call_Name_kw (ld_glob I hg hm ?_ hdb)
  refine PySem.W.callWith_K (h₀ := X.base) I.ok.mod.kin c.kC (thn (ha.run pos pins s σ H _ I h) fun us s1 hh => ?_) he hpl
  obtain ⟨vs, H1, I1, r, v, rfl, q⟩ := hh
  refine ⟨I1.kIn, ?_⟩
  obtain ⟨u, rfl, ru⟩ := vals1 r
  show wpAny _ _ (call (.ref C) [u]) _ _ _
  refine wpAny_call (PySem.Er.made1 c i (v := u) I1.kIn I1.nolimit (by have := hr.dp; omega) (by show 1 ≤ sizeLine; rw [sizeLine_eq]; omega) (fun _ ql p1 p2 q1 q2 q3 q4 kv dc pm an cv ct y => .of_eq (hb ql p1 p2 q1 q2 q3 q4 kv dc pm an cv ct y u)) fun h' tk e d t M => ?_)
  obtain ⟨hp, g, dr, tk0, os⟩ := s1
  obtain ⟨G', g1, g2⟩ := restrict h' fun b => decide (b ≠ e)
  have keepG : ∀ b, b ≠ e → G'.get? b = h'.get? b := fun b hb => g1 b (decide_eq_true hb)
  have goneG : G'.get? e = none := g2 e (by simp)
  have old : ∀ b o, hp.get? b = some o → G'.get? b = some o := fun b o z => (keepG b (Nat.ne_of_lt (Nat.lt_of_lt_of_le (Heap.lt_size z) M.be))).trans (M.keep b o z)
  have ob : ObjOk X.prog X.w (upd H1 d (.xd [(f, v)])) G' d (.xd [(f, v)]) := ⟨_, M.ns.at (fun o z => (keepG d M.de).trans z), rel1 ru⟩
  refine ⟨e, _, _, ⟨G', g, dr, tk, os⟩, _, .ref C, some d, rfl, I1.laid (t' := tk) old M.bd ob, fun b o z => ?_, goneG, M.obj, ⟨rfl, rfl⟩, rfl, rfl, ?_, rfl, I1.bare, rs, q d (I1.hok.fresh M.bd)⟩
  · by_cases hb : b = e
    · have z' : G'.get? b = some o := z
      rw [hb, goneG] at z'
      cases z'
    · exact (keepG b hb).symm.trans z
  · rw [upd_ne (Ne.symm M.de)]
    exact I1.hok.fresh M.be
/-- e.f of the error that the suite holds -/
def tBy1 (C : Addr) (f : Str) (a : Addr) (cls : Value) (d : Option Addr) (te : TE) : TE := fun σ H Q => te σ H fun x H1 => x = .ref a ∧ cls = .ref C ∧ ∃ (dd : Addr) (v : V), d = some dd ∧ H1 dd = some (.xd [(f, v)]) ∧ Q v H1
theorem pe_by1 {b : Addr} {oe : Obj} {cls : Value} {d : Option Addr} {pn : List (Addr × Obj)} {te : TE} {e : Expr} (A : Asks X.K C) (hn : PySem.W.findIn X.K (.ref C) f = some none) (hz : Zc cls d oe) (hf : ∃ vs, oe.data = .fields vs) (he : PE (X.suite b ((b, oe) :: pn)) e te)
    (hb : attributeBase e f X.env (eval e X.env) = eval e X.env := by rfl) : PE (X.suite b ((b, oe) :: pn)) (.Attribute e f pos) (tBy1 C f b cls d te) := by
  refine ⟨fun pins s σ H Q I h => ?_⟩
  refine attr_of hb (thn (he.run pins s σ H _ I h) fun u s1 hh => ?_)
  obtain ⟨y, H1, I1, ry, rfl, rfl, dd, v, rfl, ea, q⟩ := hh
  obtain rfl : u = Value.ref b := ry
  obtain ⟨hb1, _⟩ := I1.pin (b, oe) (List.mem_append_left _ List.mem_cons_self)
  obtain ⟨vs, hd⟩ := hf
  obtain ⟨mA, hns, rel⟩ := (show ObjOk X.prog X.w H1 s1.heap dd (.xd [(f, v)]) from I1.hok dd _ ea)
  obtain ⟨od, ho, hl⟩ := lookIn_ns hns
  have l : List.lookup f [(f, v)] = some v := by simp [List.lookup]
  obtain ⟨w, hw, rw'⟩ := RelO.some_of (v := v) (o := mA f) (by rw [← l]; exact rel f)
  have J : PySem.W.InstAt s1.heap b oe C (some od) := ⟨hb1, hz.1, by unfold PySem.W.notCls; rw [hd], by rw [hz.2]; exact ho⟩
  exact PySem.PX.exc_get I1.kIn J A.ga A.gg A.ex (PySem.W.findObj_own A.hd hn rfl (by rw [hl, hw])) (handed_of rw') ⟨v, H1, I1.tok _, rw', q⟩
/-- isinstance(e, c), e the error that the suite holds -/
def rIsS (K : PySem.W.Frag) (C b : Addr) (cls : Value) (d : Option Addr) : List V → Hp → VK → Prop := fun xs H Q => ∃ c cv r, xs = [.ref b, c] ∧ cls = .ref C ∧ (∀ dd, d = some dd → ∃ fs, H dd = some (.xd fs)) ∧ (∀ u, RelV c u → u = cv) ∧ PySem.W.kitOne K (.ref C) cv = some r ∧ Q (.bl r) H
theorem call_isS {b : Addr} {oe : Obj} {cls : Value} {d : Option Addr} {pn : List (Addr × Obj)} (A : Asks X.K C) (hz : Zc cls d oe) (hf : ∃ vs, oe.data = .fields vs) : CallR (X.suite b ((b, oe) :: pn)) (.builtin "isinstance") (rIsS X.K C b cls d) := by
  intro pins s σ H xs us Q I r h
  obtain ⟨c, cv, t, rfl, rfl, hd, hc, e, q⟩ := h
  obtain ⟨u, u', rfl, ru, ru'⟩ := vals2 r
  obtain rfl : u = Value.ref b := ru
  obtain rfl := hc _ ru'
  obtain ⟨hb1, _⟩ := I.pin (b, oe) (List.mem_append_left _ List.mem_cons_self)
  obtain ⟨vs, hdat⟩ := hf
  obtain ⟨od, J⟩ : ∃ od, PySem.W.InstAt s.heap b oe C od := by
    cases d with
    | none => exact ⟨none, hb1, hz.1, by unfold PySem.W.notCls; rw [hdat], by rw [hz.2]; trivial⟩
    | some dd =>
      obtain ⟨fs, ea⟩ := hd dd rfl
      obtain ⟨mA, hns, rel⟩ := (show ObjOk X.prog X.w H s.heap dd (.xd fs) from I.hok dd _ ea)
      obtain ⟨od, ho, hl⟩ := lookIn_ns hns
      exact ⟨some od, hb1, hz.1, by unfold PySem.W.notCls; rw [hdat], by rw [hz.2]; exact ho⟩
  exact PySem.W.kia_one (PySem.W.kitx_exc A.cl A.ga A.gg A.ex A.cs A.gs A.tk A.mo) I.kIn J e (fun z => nomatch z) fun tk => ⟨.bl t, H, I.kept (t' := tk) fun _ _ z => z, rfl, q⟩
end
end RtL

set_option maxHeartbeats 1000000
/-! a lambda without parameters handed to a def of two parameters; what it raises is told by the def's slots -/
namespace RtL
open PySem PySem.Spec PyProof.Rows L2 ErL LamX
section
variable {X : Cx} {pins : List (Addr × Obj)} {σ : L2.St} {H : Hp} {s : Shared}
abbrev lamO (X : Cx) (params : Arguments) (body : Expr) (scope : Scope) (pm : Value) (c' : Addr) (ctv : Value) : Obj := PySem.W.kla_obj "<lambda>" (X.env.qual ++ "<lambda>") params body scope (cloFrom X.env.cells scope.names []) pm c' ctv
theorem pe_act2 {Ng : List Str} {qg : Str} {sg : Scope} {g f c' : Addr} {cdg pm ctv : Value} {params : Arguments} {body : Expr} {scope : Scope} {k i : Nat} {a : Str} {pn : List (Addr × Obj)} {xe : Value → Shared → Prop} {W : WX} {t : XK → TE} {p1 p2 : Pos}
    (I : Inv X pins σ H s) (L : LamS X.env.scope scope) (hf : s.heap.get? f = some (lamO X params body scope pm c' ctv)) (hfn : H f = none) (hfr : f ∉ frs X.stack)
    (hbind : bindArgs (PySem.W.kla_fn "<lambda>" (X.env.qual ++ "<lambda>") params body scope (cloFrom X.env.cells scope.names []) pm (.ref c') ctv) ⟨[], []⟩ = pure [])
    (tk : Takes ((cxOf CX0 X.prog X.w X.K X.mg X.base Ng qg sg g cdg X.A X.stack s H E0).tr pn xe) W) (hr : Room (k + 1) (X.A.deeper (envOfC qg sg s.heap.objs.size g cdg)))
    (hbody : ∀ (A : Around) (outer : List Env) (s : Shared) (H : Hp) (E : XK), Room k (A.deeper (lamEnv X scope s.heap.objs.size f c')) → PE (lamCx X A outer s H E scope f c') body (t E))
    (hN : Ng[i]? = some a) (hv : Vis sg a) (hd : (a == ("__debug__" : Str)) = false) (hcd : (a == ("__classdict__" : Str)) = false) :
    PE ((cxOf CX0 X.prog X.w X.K X.mg X.base Ng qg sg g cdg X.A X.stack s H E0).tr pn xe) (.Call (.Name a p1) [] [] p2)
      (fun σZ HZ Q => σZ[i]? = some (some (.ref f)) ∧ HZ c' = some (CodeO c' (X.env.qual ++ "<lambda>")) ∧ t (WE W σZ) σ HZ Q) := by
  refine ⟨fun pinsZ sZ σZ HZ Q IZ h => ?_⟩
  obtain ⟨hs, hc, ht⟩ := h
  refine wpAny_Call_Name_kw (thn ((pe_var (pos := p1) (i := i) hN hv hd hcd).run pinsZ sZ σZ HZ (fun v H1 => v = .ref f ∧ H1 = HZ) IZ ⟨.ref f, hs, rfl, rfl⟩) fun u s1 hh => ?_)
  obtain ⟨v, H1, I1, r1, rfl, rfl⟩ := hh
  obtain rfl : u = Value.ref f := r1
  have of1 : s1.heap.get? f = some (lamO X params body scope pm c' ctv) := I1.base.keep f _ hf hfn hfr (fun z => nomatch (show f ∈ ([] : List Addr) from z))
  refine PySem.W.callWith_F0 ⟨_, _, _, _, of1⟩ ?_
  have un : Un (frs X.stack) [] H H1 s.heap s1.heap := I1.base
  obtain ⟨⟨oc, vs, tc, hoc, hdc, hvc⟩, _, _⟩ := I1.hok c' _ hc
  have rc : codeAny (model X.prog X.w) (X.A.deeper (envOfC qg sg s.heap.objs.size g cdg)) (.call (.ref f) ⟨[], []⟩) (CR (L2.CX X.prog X.w) (envOfC qg sg s.heap.objs.size g cdg :: X.stack) X.prog X.w H1 s1 Q (WE W σZ)) s1 := by
    refine PySem.W.kla_callFunE hr.depth of1 rfl L.co L.gen rfl ⟨c', oc, vs, tc, rfl, hoc, hdc, hvc⟩ ?_
    rw [hbind]
    refine wpAny_pure (wpAny_newFunctionEnv (fun y hy => (L.own y hy).2) (fun y hy => absurd hy (by simp)) (fun h₁ hns hsb => ⟨I1.nolimit.fresh _ hsb, ?_⟩) L.kind)
    show codeAny _ _ (.expr body (lamEnv X scope s1.heap.objs.size f c')) _ _
    have kp : ∀ b o, s1.heap.get? b = some o → h₁.get? b = some o := fun b o e => hsb.extBut b o (Nat.ne_of_lt (Heap.lt_size e)) (Heap.get?_push_of_some _ e)
    have J := lam_start2 (A := X.A.deeper (envOfC qg sg s.heap.objs.size g cdg)) (outer := envOfC qg sg s.heap.objs.size g cdg :: X.stack) (E := WE W σZ) (f := f) (c' := c') (tk := s1.toks + ([] : List (Str × Value)).length) I L I1.env0 hr.hd un hns kp
    refine PySem.W.kla_codeExpr (wpAny_mono ((hbody _ _ s1 H1 _ (hr.deeper _)).run [] _ _ H1 Q J ht) (fun v s' hq => ?_) fun e s' hq => hq)
    obtain ⟨w', H', J', rv, q⟩ := hq
    exact ⟨w', H', J'.os, J'.bare, J'.base, J'.hok, rv, q⟩
  have hx := passAt tk σZ
  refine wpAny_call (codeAny_mono rc fun r s' hq => ?_)
  cases r with
  | error e => exact hx pinsZ H1 s1 e s' I1 hq
  | ok fl =>
    cases fl with
    | ret u => exact I1.after hq
    | next => exact False.elim hq
    | brk => exact False.elim hq
    | cont => exact False.elim hq
end
/-- the def that calls what it got, a its name; v what it got beside -/
def Gives2 (X : Cx) (k : Nat) (Ng : List Str) (x : Str) (sg : Scope) (g : Addr) (cdg : Value) (bg : List Stmt) (a q : Str) (TT : V → (XK → Hp → VK → Prop) → Hp → VK → Prop) : Prop :=
  ∀ (f c' : Addr) (s : Shared) (H : Hp) (Q : VK) (v : V) (tl : XK → Hp → VK → Prop),
    Room (k + 1) (X.A.deeper (envOfC x sg s.heap.objs.size g cdg)) → (X.A.deeper (envOfC x sg s.heap.objs.size g cdg)).guards = some [] →
    (∀ (W : WX) (pn : List (Addr × Obj)) (xe : Value → Shared → Prop) (p1 p2 : Pos), Takes ((cxOf CX0 X.prog X.w X.K X.mg X.base Ng x sg g cdg X.A X.stack s H E0).tr pn xe) W →
      PE ((cxOf CX0 X.prog X.w X.K X.mg X.base Ng x sg g cdg X.A X.stack s H E0).tr pn xe) (.Call (.Name a p1) [] [] p2) (fun σZ HZ Q => σZ[0]? = some (some (.ref f)) ∧ HZ c' = some (CodeO c' q) ∧ tl (WE W σZ) HZ Q)) →
    H c' = some (CodeO c' q) → TT v tl H Q →
    ∃ t, PSs (cxOf CX0 X.prog X.w X.K X.mg X.base Ng x sg g cdg X.A X.stack s H E0).nox bg t ∧ t { nx := fun _ H' => Q .non H', rt := Q } (L2.start Ng [.ref f, v]) H
def tLam2 (T : List (Addr × Str)) (TT : V → (XK → Hp → VK → Prop) → Hp → VK → Prop) (t : XK → TE) (te : TE) : TE := fun σ H Q => Tabs T H ∧ ∀ H1, ExtN H H1 → Tabs T H1 → te σ H1 fun v H2 => H2 = H1 ∧ TT v (fun E H' Q' => t E σ H' Q') H1 Q
section
variable {X : Cx}
/-- x(lambda: body, e) -/
theorem pe_lamcall2 {T : List (Addr × Str)} {TT : V → (XK → Hp → VK → Prop) → Hp → VK → Prop} {x a a2 : Str} {g c P : Addr} {k : Nat} {pg : Arguments} {bg : List Stmt} {sg : Scope} {dV kV doc pm cdv ct oc : Value} {an od : Option Addr} {osl : Array (Option Value)} {Ng : List Str}
    {params : Arguments} {body e : Expr} {scope : Scope} {t : XK → TE} {te : TE} {p lpos pos : Pos} (hg : Gl X x) (hm : X.mg x = some (.ref g)) (hk : PySem.W.keepIn X.K (.ref g) = true)
    (lk : X.K.lookup g = some ⟨oc, od, .func (PySem.W.fnOf x x pg bg sg dV kV doc pm an cdv ct), osl⟩) (hcg : PySem.W.codeIn X.K cdv x = true) (hb : L2.Binds X.K (PySem.W.fnOf x x pg bg sg dV kV doc pm an cdv ct) [a, a2] []) (Sg : FnScope Ng [a, a2] sg) (hNg : Ng[0]? = some a) (hva : Vis sg a)
    (hG : Gives2 X k Ng x sg g cdv bg a (X.env.qual ++ "<lambda>") TT)
    (TB : TabB X.base X.mg c P) (hcode : X.env.code = .ref c) (hmT : (P, X.env.qual ++ "<lambda>") ∈ T) (hu : ∀ p ∈ T, p.1 = P → p.2 = X.env.qual ++ "<lambda>") (hr : Room (k + 2) X.A) (hgd : X.A.guards = some []) (hst : frs X.stack = X.env.locals :: X.fs) (L : LamS X.env.scope scope) (hdef : defaultsOf params X.env = ([], []))
    (hbind : ∀ (q : Str) (cl : List (Str × Addr)) (pm cv ctv : Value), bindArgs (PySem.W.kla_fn "<lambda>" q params body scope cl pm cv ctv) ⟨[], []⟩ = pure [])
    (hbody : ∀ (A : Around) (outer : List Env) (s : Shared) (H : Hp) (E : XK) (f c' : Addr), Room k (A.deeper (lamEnv X scope s.heap.objs.size f c')) → PE (lamCx X A outer s H E scope f c') body (t E)) (he : PE X e te)
    (hse : starEach [e] X.env = (false, eval e X.env) :: starEach [] X.env := by rfl)
    (hdb : (x == ("__debug__" : Str)) = false := by decide) (hd : (a == ("__debug__" : Str)) = false := by decide) (hcd : (a == ("__classdict__" : Str)) = false := by decide) :
    PE X (.Call (.Name x p) [.Lambda params body scope lpos, e] [] pos) (tLam2 T TT t te) := by
  refine ⟨fun pins s σ H Q I h => ?_⟩
  obtain ⟨hT, h⟩ := h
  refine wpAny_Call_Name_kw (ld_glob I hg hm ?_ hdb)
  refine PySem.W.callWith_K (h₀ := X.base) I.ok.mod.kin hk ?_ (by rfl) (by rw [hse]; rfl)
  show wpAny _ _ (spliced ((false, eval (.Lambda params body scope lpos) X.env) :: backTo pos (starEach [e] X.env))) _ _ s
  refine Calls.spliced_cons (lam_make2 I TB hcode hmT hu hT hdef (L.has I.ok) fun f c' pm' ctv H1 s' I1 eN T1 hf hfn hfr hco => ?_)
  have I2 : Inv X ((f, lamO X params body scope pm' c' ctv) :: pins) σ H1 s' := I1.pins_of fun q hq => by
    rcases List.mem_cons.mp hq with z | z
    · rw [z]
      rw [hst] at hfr
      exact ⟨hf, hfn, fun w => hfr (by rw [show f = _ from w]; exact List.mem_cons_self), fun w => hfr (List.mem_cons_of_mem _ w), fun v w => nomatch w⟩
    · exact I1.pin q (List.mem_append_right _ z)
  rw [hse]
  show wpAny _ _ (spliced ((false, eval e X.env) :: backTo pos (starEach [] X.env))) _ _ s'
  refine Calls.spliced_cons (thn (he.run _ s' σ H1 _ I2 (h H1 eN T1)) fun u s2 hh => ?_)
  obtain ⟨v, H2, I3, rv, rfl, hq⟩ := hh
  refine Calls.spliced_nil ⟨I3.kIn, ?_⟩
  have hf3 := ClX.pin_at I3
  have rc : codeAny (model X.prog X.w) X.A (.call (.ref g) ⟨[.ref f, u], []⟩) (CR CX0 X.stack X.prog X.w H2 s2 Q E0) s2 := by
    refine run_ofS (N := Ng) (ps := [a, a2]) (us := [.ref f, u]) (vs := [.ref f, v]) lk hcg Sg hr I3.env0 (hb s2 [.ref f, u] I3.kIn rfl) (.cons rfl (.cons rv .nil)) rfl fun hr' => ?_
    obtain ⟨t', ht', hq'⟩ := hG f c' s2 H2 Q v (fun E H' Q' => t E σ H' Q') hr' (guards_deeper hgd)
      (fun W pn xe p1 p2 tk => pe_act2 (i := 0) (ClX.unpin I3) L hf3 hfn hfr (hbind _ _ _ _ _) tk hr' (fun A outer s H E hr2 => hbody A outer s H E f c' hr2) hNg hva hd hcd) hco hq
    exact ⟨t', ht'.nox, hq'⟩
  refine wpAny_call (codeAny_mono rc fun r s3 hq => ?_)
  cases r with
  | error e => exact (show False from hq).elim
  | ok fl =>
    cases fl with
    | ret u => exact ClX.unpinE (I3.after hq)
    | next => exact False.elim hq
    | brk => exact False.elim hq
    | cont => exact False.elim hq
end
end RtL

set_option maxHeartbeats 1000000
/-! repr of a list whose items are shown each in its own way: data, objects of an own class, lists of these -/
namespace RtL
open PySem PySem.Spec PyProof.Rows L2 ErL
open PySem.Sem (wp)
open PySem.Builtin PySem.Builtin.List
/-- an item of the list at a, shown within the showing of that list at A -/
def ItA (X : Cx) (σ : L2.St) (H : Hp) (A : Around) (a : Addr) (v : V) (t : Str) : Prop := ∀ (rest : List Value) (pins : List (Addr × Obj)) (base : Nat) (E : Value → Shared → Prop) (s : Shared) (Q : Str → Shared → Prop) (u : Value),
  base + t.length ≤ sizeLine → RelV v u → Inv X pins σ H s → (∀ s', Inv X pins σ H s' → Q t s') → wpAny (model X.prog X.w) (A.under (.builtin "list.__repr__.loop" ⟨.ref a :: rest, []⟩)) (pyReprUnder base u) Q E s
section
variable {X : Cx} {k : Nat} {f C : Addr} {fd : FuncData} {sp : Sp} {ps : List Str} {pins : List (Addr × Obj)} {σ : L2.St} {H : Hp}
theorem loopA {A : Around} {a P : Addr} {vs : List V} {ts : List Str} {base : Nat} {R : Result → Shared → Prop} (ea : H a = some (.lst vs)) (hlen : ts.length = vs.length)
    (hT : ∀ (i : Nat) (v : V), vs[i]? = some v → ∃ t, ts[i]? = some t ∧ ItA X σ H A a v t) (hsz : base + (listText ts).length ≤ sizeLine)
    (h1 : P ∈ X.ex ∨ X.s_0.heap.objs.size ≤ P) (h2 : ∀ x c, X.env.cells.lookup x = some c → c ≠ P) (h3 : ∀ p ∈ X.pn ++ pins, p.1 ≠ P) (hR : ∀ s' u, Inv X pins σ H s' → R (.ok (.ret (.str (listText ts) u))) s') :
    ∀ (n i : Nat) (s : Shared) (acc : Array Value) (c : Nat) (done : List (Str × Tok)), vs.length - i = n → i ≤ vs.length → Inv X (pL P acc c :: pins) σ H s → acc.toList = strValues done → done.map (·.1) = ts.take i →
      codeAny (model X.prog X.w) A (.builtin "list.__repr__.loop" ⟨[.ref a, rawInt i, .ref P, rawInt ((base + piled (ts.take i) : Nat) : Int)], []⟩) R s := by
  have hX : (listText ts).length = (textFrom 0 "[" ts).length + 1 := by
    show (textFrom 0 "[" ts ++ "]").length = _
    rw [strLen_append]; rfl
  have hL := textFrom_len ts 0 "["
  have hsz1 : vs.length ≤ sizeLine := by
    have h1 := hL.1
    rw [if_neg (Nat.lt_irrefl 0)] at h1
    omega
  have hsz2 : ∀ t ∈ ts, t.length ≤ sizeLine := fun t ht => by
    have h2 := hL.2.1 t ht
    omega
  have hsz3 : (listText ts).length ≤ sizeLine := by omega
  have hp3 := piled_le_listText ts
  intro n
  induction n with
  | zero =>
    intro i s acc c done hk hi I hacc hdone
    obtain ⟨_, its, nn, rv, ho⟩ := (show ObjOk X.prog X.w H s.heap a (.lst vs) from I.hok a _ ea)
    have hin : i = its.length := by rw [← rv.length]; omega
    refine codeAny_builtin PySem.F.entry_list_repr_loop ?_
    show wpAny _ _ («list.__repr__.loop» ⟨[.ref a, .int i 0, .ref P, .int ((base + piled (ts.take i) : Nat) : Int) 0], []⟩) _ _ s
    rw [repr_loop_tree]
    refine wpAny_bind (wpAny_listItems ho rfl ?_)
    have hnone : its.toArray[(i : Int).toNat]? = none := by simp [hin]
    simp only [hnone]
    unfold reprEnd
    refine wpAny_bind (wpAny_listItems (ClX.pin_at I) rfl ?_)
    rw [hacc, repr_fold]
    refine wpAny_bind (wpAny_pure ?_)
    have hall : done.map (·.1) = ts := by rw [hdone, hin, ← rv.length, ← hlen, List.take_length]
    rw [hall]
    refine wpAny_bind (wpAny_mkStr (wpAny_pure ?_) hsz3)
    exact hR _ _ ((ClX.unpin I).tok _)
  | succ n ih =>
    intro i s acc c done hk hi I hacc hdone
    have hlt : i < vs.length := by omega
    obtain ⟨_, its, nn, rv, ho⟩ := (show ObjOk X.prog X.w H s.heap a (.lst vs) from I.hok a _ ea)
    have hlt' : i < its.length := by rw [← rv.length]; exact hlt
    obtain ⟨t, ht, hit⟩ := hT i vs[i] (by simp [hlt])
    obtain ⟨u, hu, ru⟩ := rv.get (i := i) (x := vs[i]) (by simp [hlt])
    have hp1 := piled_take_succ ht
    have hp2 := piled_take_le ts (i + 1)
    refine codeAny_builtin PySem.F.entry_list_repr_loop ?_
    show wpAny _ _ («list.__repr__.loop» ⟨[.ref a, .int i 0, .ref P, .int ((base + piled (ts.take i) : Nat) : Int) 0], []⟩) _ _ s
    rw [repr_loop_tree]
    refine wpAny_bind (wpAny_listItems ho rfl ?_)
    have hsome : its.toArray[(i : Int).toNat]? = some u := by
      rw [Int.toNat_natCast, List.getElem?_toArray]
      exact hu
    simp only [hsome]
    rw [Int.toNat_natCast]
    have go : ∀ s', Inv X (pL P acc c :: pins) σ H s' → wpAny (model X.prog X.w) (A.under (.builtin "list.__repr__.loop" ⟨[.ref a, .int i 0, .ref P, .int ((base + piled (ts.take i) : Nat) : Int) 0], []⟩)) (do
        let signs := base + piled (ts.take i) + (t.length + 2)
        let r ← mkStr t
        listUpdate (.ref P) (·.push r)
        again (.builtin "list.__repr__.loop" ⟨[.ref a, rawInt ((i : Int) + 1), .ref P, rawInt signs], []⟩))
        (fun fin s' => match fin with | .done fl => R (.ok fl) s' | .again c' => c'.quiet = true ∧ codeAny (model X.prog X.w) A c' R s') (fun e s' => R (.error e) s') s' := fun s' I' => by
      refine wpAny_bind (wpAny_mkStr ?_ (hsz2 t (List.mem_of_getElem? ht)))
      refine wpAny_bind ?_
      show wpAny _ _ (updateSeq P _) _ _ _
      have hasz : acc.size ≤ sizeLine := by
        have e1 : acc.toList.length = acc.size := by simp
        have e2 : (strValues done).length = done.length := by simp [strValues]
        have e3 : done.length = (ts.take i).length := by rw [← hdone, List.length_map]
        have e4 : (ts.take i).length ≤ i := by rw [List.length_take]; omega
        rw [hacc] at e1; omega
      refine wpAny_updateSeq (ClX.pin_at I') rfl (wpAny_pure ⟨PySem.F.quiet_list_repr_loop _, ?_⟩) hasz
      have e1 : ((i : Int) + 1) = ((i + 1 : Nat) : Int) := by omega
      have e2 : base + piled (ts.take i) + (t.length + 2) = base + piled (ts.take (i + 1)) := by omega
      rw [e1, e2]
      refine ih (i + 1) _ (acc.push (.str t s'.toks)) _ (done ++ [(t, s'.toks)]) (by omega) hlt (pin_push (I'.tok (s'.toks + 1)) h1 h2 h3 (fun b o hne e => (Heap.get?_update_other _ _ (fun h : P = b => hne h.symm)).trans e) (Heap.get?_update_self _ (ClX.pin_at I') rfl)) (by simp [hacc, strValues]) (by simp [List.take_add_one, ht, hdone])
    refine wpAny_bind (wpAny_holding (hit _ _ _ _ _ _ u (by omega) ru I fun s' I' => ?_))
    exact go s' I'
/-- what stands in such a list: a whole number, an own object, a truth value -/
def ShA (C : Addr) (sp : Sp) (H : Hp) (v : V) (t : Str) : Prop := ItT C sp H v t ∨ ∃ b : Bool, v = .bl b ∧ t = (if b = true then Str.ofString "True" else Str.ofString "False")
/-- .. or a list of these -/
def ShB (C : Addr) (sp : Sp) (H : Hp) (a : Addr) (v : V) (t : Str) : Prop := ShA C sp H v t ∨ ∃ l vs ts, v = .ref l ∧ l ≠ a ∧ H l = some (.lst vs) ∧ vs ≠ [] ∧ ts.length = vs.length ∧ (∀ (i : Nat) (w : V), vs[i]? = some w → ∃ t', ts[i]? = some t' ∧ ShA C sp H w t') ∧ t = listText ts
theorem itA_one (hs : PySem.W.findIn X.K (.ref C) "__repr__" = some (some (.ref f))) (hf : PySem.W.isFn X.K (.ref f) = true) (F : FnOk X.prog X.w X.K X.mg X.base CX0 k f fd ps sp) (hb : Binds X.K fd ps []) {A : Around} (hr : Room (k + 1) A)
    (e0 : ∀ (pins : List (Addr × Obj)) s, Inv X pins σ H s → Env0 X.prog X.w X.K X.mg X.base A X.stack s H) {a : Addr} {v : V} {t : Str} (h : ShA C sp H v t) : ItA X σ H A a v t := by
  intro rest pins base E s Q u hz ru I q
  rcases h with (⟨j, rfl, rfl, hlog⟩ | ⟨b, dx, fs, rfl, eb, hq⟩) | ⟨b, rfl, rfl⟩
  · obtain ⟨tk, rfl⟩ := (show ∃ tk, u = Value.int j tk from ru)
    exact ReprIs.int tk hlog base hz _ _ _ _ fun tk' => q _ (I.tok tk')
  · obtain rfl : u = Value.ref b := ru
    exact under_own hs hf F hb (Room.loop hr _) (Env0.loop (e0 _ s I) _) I eb hq (by omega) q
  · obtain rfl : u = Value.bool b := ru
    exact ReprIs.bool b base hz _ _ _ _ fun tk' => q _ (I.tok tk')
theorem itA_two (hs : PySem.W.findIn X.K (.ref C) "__repr__" = some (some (.ref f))) (hf : PySem.W.isFn X.K (.ref f) = true) (F : FnOk X.prog X.w X.K X.mg X.base CX0 k f fd ps sp) (hb : Binds X.K fd ps []) {A : Around} (hr : Room (k + 3) A) (hg : A.guards = some [])
    (e0 : ∀ (pins : List (Addr × Obj)) s, Inv X pins σ H s → Env0 X.prog X.w X.K X.mg X.base A X.stack s H) {a : Addr} {v : V} {t : Str} (h : ShB C sp H a v t) : ItA X σ H A a v t := by
  rcases h with h | ⟨l, vs, ts, rfl, hla, el, hne, hlen, hT, rfl⟩
  · exact itA_one hs hf F hb (hr.mono (by omega)) e0 h
  intro rest pins base E s Q u hz ru I q
  obtain rfl : u = Value.ref l := ru
  obtain ⟨_, its, nn, rv, ho⟩ := (show ObjOk X.prog X.w H s.heap l (.lst vs) from I.hok l _ el)
  have hr1 : Room (k + 2) (A.under (.builtin "list.__repr__.loop" ⟨.ref a :: rest, []⟩)) := Room.loop hr _
  have hg1 : (A.under (.builtin "list.__repr__.loop" ⟨.ref a :: rest, []⟩)).guards = some [.builtin "list.__repr__.loop" ⟨.ref a :: rest, []⟩] := guards_under_guard (isGuard_list_loop _) hg
  cases rv with
  | nil => exact absurd rfl hne
  | cons r1 r2 =>
    rename_i v vs x its
    refine wpAny_pyReprUnder_ref (by omega) ?_
    refine wpAny_pyReprObjUnder_twin (twin := "list.__repr__.under") ⟨_, ho, rfl⟩ PySem.F.slot_list_repr.toG rfl (by have := hr1.un; omega) ?_
    refine call_twin_plain PySem.F.plain_list_repr_under PySem.F.entry_list_repr_under PySem.F.check_list_repr_under ⟨_, ho, rfl⟩ PySem.F.slot_list_repr.toG (PySem.F.args_list_repr_1 _) ?_
    refine wpAny_list_repr_head hg1 (fun v' rest' kw hm => ?_) ho rfl ?_
    · cases List.mem_singleton.mp hm
      exact listSameRef_of_ne fun z => hla (Value.ref.inj z).symm
    refine wpAny_bind (m := newList []) (wpAny_newObj_type ?_)
    refine wpAny_pure ⟨PySem.F.quiet_list_repr_loop _, ?_⟩
    refine loopA (A := (A.under (.builtin "list.__repr__.loop" ⟨.ref a :: rest, []⟩))) (P := s.heap.objs.size) (base := base) el hlen (fun i w hw => ?_) (by omega) (.inr I.sz) (fun x c e z => ?_) (fun p hp z => ?_) (fun s' u I' => ?_) _ 0 _ #[] _ [] rfl (Nat.zero_le _) (ClX.pin_new I (fun b o e => Heap.get?_push_of_some _ e) (Nat.le_refl _) (Heap.get?_push_size _ rfl) (fun v z => nomatch z)) rfl (by simp)
    · obtain ⟨t', ht', hs'⟩ := hT i w hw
      exact ⟨t', ht', itA_one hs hf F hb (hr1.mono (by omega)) (fun pins s I => Env0.loop (e0 pins s I) _) hs'⟩
    · obtain ⟨v, o, hc, _⟩ := I.cell x c e
      rw [z] at hc
      exact absurd (Heap.lt_size hc) (Nat.lt_irrefl _)
    · have e := (I.pin p hp).1
      rw [z] at e
      exact absurd (Heap.lt_size e) (Nat.lt_irrefl _)
    · exact ⟨⟨_, _, rfl⟩, _, _, rfl, q s' I'⟩
/-- repr(xs), xs such a list -/
def rReprA (C : Addr) (sp : Sp) : List V → Hp → VK → Prop := fun xs H Q => ∃ a vs ts, xs = [.ref a] ∧ H a = some (.lst vs) ∧ vs ≠ [] ∧ ts.length = vs.length ∧ (∀ (i : Nat) (v : V), vs[i]? = some v → ∃ t, ts[i]? = some t ∧ ShB C sp H a v t) ∧
  (listText ts).length ≤ sizeLine ∧ Q (.str (listText ts)) H
theorem call_reprA (hs : PySem.W.findIn X.K (.ref C) "__repr__" = some (some (.ref f))) (hf : PySem.W.isFn X.K (.ref f) = true) (F : FnOk X.prog X.w X.K X.mg X.base CX0 k f fd ps sp) (hb : Binds X.K fd ps []) (hr : Room (k + 4) X.A) (hg : X.A.guards = some []) :
    CallR X (.builtin "repr") (rReprA C sp) := by
  intro pins s σ H xs us Q I r h
  obtain ⟨a, vs, ts, rfl, ea, hne, hlen, hT, hsz, q⟩ := h
  obtain ⟨u, rfl, rx⟩ := vals1 r
  cases (show u = Value.ref a from rx)
  obtain ⟨_, its, nn, rv, ho⟩ := (show ObjOk X.prog X.w H s.heap a (.lst vs) from I.hok a _ ea)
  cases rv with
  | nil => exact absurd rfl hne
  | cons r1 r2 =>
    rename_i v vs x l
    refine call_repr_slot (by have := hr.un; show X.A.units + 1 < cLine; omega) ⟨_, ho, rfl⟩ PySem.F.slot_list_repr.toG ?_
    refine wpAny_call (codeAny_call_builtin PySem.F.slot_list_repr.plain PySem.F.entry_list_repr (PySem.F.slot_list_repr.check _ _ _ _ _ _ _ _ ⟨_, ho, rfl⟩ (PySem.F.args_list_repr_1 _) ?_))
    refine wpAny_list_repr_head (g := []) hg (fun v rest kw hm => nomatch hm) ho rfl ?_
    refine wpAny_bind (m := newList []) (wpAny_newObj_type ?_)
    refine wpAny_pure ⟨PySem.F.quiet_list_repr_loop _, ?_⟩
    refine loopA (A := X.A.in1) (P := s.heap.objs.size) (base := 0) ea hlen (fun i w hw => ?_) (by omega) (.inr I.sz) (fun x c e z => ?_) (fun p hp z => ?_) (fun s' u I' => ?_) _ 0 _ #[] _ [] rfl (Nat.zero_le _) (ClX.pin_new I (fun b o e => Heap.get?_push_of_some _ e) (Nat.le_refl _) (Heap.get?_push_size _ rfl) (fun v z => nomatch z)) rfl (by simp)
    · obtain ⟨t', ht', hs'⟩ := hT i w hw
      exact ⟨t', ht', itA_two hs hf F hb hr.in1 hg (fun pins s I => I.env0.in1) hs'⟩
    · obtain ⟨v, o, hc, _⟩ := I.cell x c e
      rw [z] at hc
      exact absurd (Heap.lt_size hc) (Nat.lt_irrefl _)
    · have e := (I.pin p hp).1
      rw [z] at e
      exact absurd (Heap.lt_size e) (Nat.lt_irrefl _)
    · exact ⟨_, _, rfl, .str _, H, I', ⟨u, rfl⟩, q⟩
end
end RtL

set_option maxHeartbeats 1000000
/-! operators and == of an own class where the right operand is of another kind -/
namespace RtL
open PySem PySem.Spec PyProof.Rows L2
/-- None, a truth value, a text, a list, a tuple, a dict, and the name of its type -/
inductive OddV (H : Hp) : V → String → Prop
  | non : OddV H .non "NoneType"
  | bl (b : Bool) : OddV H (.bl b) "bool"
  | str (z : Str) : OddV H (.str z) "str"
  | lst {a : Addr} {xs : List V} (e : H a = some (.lst xs)) : OddV H (.ref a) "list"
  | tup {a : Addr} {xs : List V} (e : H a = some (.tup xs)) : OddV H (.ref a) "tuple"
  | dct {a : Addr} {kvs : List (Key × V)} (e : H a = some (.dK kvs)) : OddV H (.ref a) "dict"
def oddT : List String := ["NoneType", "bool", "str", "list", "tuple", "dict"]
theorem OddV.mem {H : Hp} {v : V} {t : String} (h : OddV H v t) : t ∈ oddT := by cases h <;> decide
theorem OddV.same {H H' : Hp} {v : V} {t : String} (h : OddV H v t) (s : Same H H') : OddV H' v t := by
  cases h with
  | non => exact .non
  | bl b => exact .bl b
  | str z => exact .str z
  | lst e => exact .lst (s _ _ e)
  | tup e => exact .tup (s _ _ e)
  | dct e => exact .dct (s _ _ e)
theorem OddV.ty {K : PySem.W.Frag} {H : Hp} {v : V} {t : String} (h : OddV H v t) : TyX K H v (.type t) := by
  cases h with
  | non => exact .base .non
  | bl b => exact .base (.bl b)
  | str z => exact .base (.str z)
  | lst e => exact .base (.lst e)
  | tup e => exact .base (.tup e)
  | dct e => exact .base (.dK e)
theorem looks_at {M : Model} {h : Heap} {a : Addr} {o : Obj} {c : Value} (e : h.get? a = some o) (hc : o.cls = c) : PySem.W.Looks M h (typeOf (.ref a)) c := fun A Q E s k q => wpAny_typeOf_ref (k _ _ e) (by rw [hc]; exact q)
theorem OddV.looks {X : Cx} {pins : List (Addr × Obj)} {σ : L2.St} {H : Hp} {s : Shared} {M : Model} {v : V} {u : Value} {t : String} (I : Inv X pins σ H s) (h : OddV H v t) (r : RelV v u) : PySem.W.Looks M s.heap (typeOf u) (.type t) := by
  cases h with
  | non => cases (show u = Value.none from r); exact PySem.W.Looks.of_pure rfl
  | bl b => cases (show u = Value.bool b from r); exact PySem.W.Looks.of_pure rfl
  | str z => obtain ⟨tk, rfl⟩ := (show ∃ tk, u = Value.str z tk from r); exact PySem.W.Looks.of_pure rfl
  | @lst a xs e =>
    cases (show u = Value.ref a from r)
    obtain ⟨_, its, n, rv, ho⟩ := (show ObjOk X.prog X.w H s.heap a (.lst xs) from I.hok a _ e)
    exact looks_at ho rfl
  | @tup a xs e =>
    cases (show u = Value.ref a from r)
    obtain ⟨_, its, rv, o, ho, hc, n, hd⟩ := (show ObjOk X.prog X.w H s.heap a (.tup xs) from I.hok a _ e)
    exact looks_at ho hc
  | @dct a kvs e =>
    cases (show u = Value.ref a from r)
    obtain ⟨_, _, vs, rv, o, es, ep, ho, hx, _⟩ := (show ObjOk X.prog X.w H s.heap a (.dK kvs) from I.hok a _ e)
    exact looks_at ho hx.1
section
variable {prog : Program} {w : World} {K : PySem.W.Frag} {A : Around} {E : Value → Shared → Prop} {s : Shared} {x f C L : Addr} {h₀ : Heap} {m : Str → Option Value} {ox : Obj} {od : Option Obj} {T : String}
open PySem.W in
/-- a binary operator by the method of the left one's class, the right one of a built-in type -/
theorem bin_L {op : Operator} {b : Value} {fo ro rc : Option Value} {Q : Value → Shared → Prop} (X : K.In s.heap) (I : InstAt s.heap x ox C od) (tb : Looks (model prog w) s.heap (typeOf b) (.type T)) (hc : selfFirst K C = true)
    (hs : findIn K (.ref C) (PySem.dunder op.info.2) = some (some (.ref f))) (hf : isFn K (.ref f) = true) (hr : findIn K (.ref C) (dunderR op.info.2) = some rc) (hp : rc = none ∨ ∃ g : Addr, rc = some (.ref g))
    (h1 : findIn K (.type T) (PySem.dunder op.info.2) = some fo) (h2 : findIn K (.type T) (dunderR op.info.2) = some ro) (hsub : subIn K (.type T) (.ref C) = some false)
    (h : wpAny (model prog w) A (call (.ref f) [.ref x, b]) (PySem.W.CmpBack Q) E s) : wpAny (model prog w) A (binaryOp op (.ref x) b) Q E s := by
  obtain ⟨cd, rest, hcd, hm⟩ := ksp_first hc
  rcases hi : op.info with ⟨sym, nn⟩
  rw [hi] at hs hr h1 h2
  dsimp only at hs hr h1 h2
  have got := ksp_try X I hs hf h
  obtain ⟨hh, g, d, tt, os⟩ := s
  have t1 : Looks (model prog w) hh (typeOf (.ref x)) (.ref C) := I.type
  have t2 : Looks (model prog w) hh (typeOf b) (.type T) := tb
  have t3 : Looks (model prog w) hh (fillsNumberSlot (.ref C) nn) true := fills_K X hcd hm hs
  have t4 : Looks (model prog w) hh (fillsNumberSlot (.type T) nn) ((fo.isSome && !isSeqSlot fo) || (ro.isSome && !isSeqSlot ro)) := ksp_fillsT X h1 h2
  have t5 : Looks (model prog w) hh (isSubtype (.type T) (.ref C)) false := looks_subIn X hsub
  have t6 : Looks (model prog w) hh (numberSlotInPython (.ref C) nn) true := ksp_inPy X hs hr hp
  have t7 : Looks (model prog w) hh (numberSlotInPython (.type T) nn) false := Looks.of_pure rfl
  have t8 : Looks (model prog w) hh (typeLookup (.type T) (dunderR nn)) ro := looks_findIn X h2
  generalize ((fo.isSome && !isSeqSlot fo) || (ro.isSome && !isSeqSlot ro)) = rt at t4
  have ne : (Value.ref C == Value.type T) = false := Bool.eq_false_iff.mpr fun q => by cases beq_iff_eq.mp q
  simp only [binaryOp, hi]
  refine wpAny_holding (wpAny_bind ?_)
  unfold binaryOp1
  refine wpAny_bind (t1.at (wpAny_bind (t2.at (wpAny_bind (t3.at ?_)))))
  simp only [ne, Bool.false_eq_true, if_false]
  cases rt <;> (
    ksp_lk
    refine wpAny_mono got (fun r s' z => ?_) fun _ _ e => e
    obtain ⟨v, rfl, hq⟩ := z
    ksp_lk
    exact hq)
end
section
variable {X : Cx} {CX : CXT} {k : Nat} {f C : Addr} {fd : FuncData} {sp : Sp} {E : XK} {ps : List Str}
/-- x op y, y one of these -/
def rOddBin (C : Addr) (sp : Sp) (E : XK) : R2 := fun x y H Q => ∃ a dx fs t, x = .ref a ∧ H a = some (.ins C dx fs) ∧ OddV H y t ∧ sp [.ref a, y] H Q E
def opB (K : PySem.W.Frag) (op : Operator) : Bool := oddT.all fun t => (PySem.W.findIn K (.type t) (PySem.dunder op.info.2)).isSome && (PySem.W.findIn K (.type t) (PySem.dunderR op.info.2)).isSome
theorem op_oddBin {op : Operator} (O : OpOf X.K C f (PySem.dunder op.info.2) (PySem.dunderR op.info.2)) (nt : ∀ t ∈ oddT, PySem.W.subIn X.K (.type t) (.ref C) = some false) (hB : opB X.K op = true)
    (F : FnOk X.prog X.w X.K X.mg X.base CX k f fd ps sp) (hr : Room k X.A) (hb : Binds X.K fd ps []) (hx : Passes CX X E) : OpR X (binaryOp op) (rOddBin C sp E) := by
  intro pins s σ H x y v u Q I rx ry h
  obtain ⟨a, dx, fs, t, rfl, ha, hy, q⟩ := h
  cases (show v = Value.ref a from rx)
  obtain ⟨mA, oa, _⟩ := ins_get I.hok ha
  obtain ⟨od, J, _⟩ := oa.look
  obtain ⟨z1, z2⟩ := He.ba (List.all_eq_true.mp hB t hy.mem)
  obtain ⟨fo, e1⟩ := Option.isSome_iff_exists.mp z1
  obtain ⟨ro, e2⟩ := Option.isSome_iff_exists.mp z2
  refine bin_L I.kIn J (hy.looks I ry) O.me O.at_ O.fn O.re (.inl rfl) e1 e2 (nt t hy.mem) ?_
  exact wpAny_mono (run_fn F hr hb .nil hx I (us := [.ref a, u]) (vs := [.ref a, y]) (.cons rfl (.cons ry .nil)) q) (fun w s' z => (by
    obtain ⟨z', H', I', rz, qz⟩ := z
    exact SlX.cmpback rz ⟨z', H', I', rz, qz⟩ : PySem.W.CmpBack (EP X pins σ Q) w s')) fun _ _ x => x
def rAllBin (C : Addr) (sp : Sp) (E : XK) : R2 := fun x y H Q => rOwnBin C sp E x y H Q ∨ rOddBin C sp E x y H Q
theorem op_allBin {op : Operator} {fo ro : Option Value} (O : OpOf X.K C f (PySem.dunder op.info.2) (PySem.dunderR op.info.2)) (h1 : PySem.W.findIn X.K (.type "int") (PySem.dunder op.info.2) = some fo) (h2 : PySem.W.findIn X.K (.type "int") (PySem.dunderR op.info.2) = some ro)
    (nt : ∀ t ∈ oddT, PySem.W.subIn X.K (.type t) (.ref C) = some false) (hB : opB X.K op = true) (F : FnOk X.prog X.w X.K X.mg X.base CX k f fd ps sp) (hr : Room k X.A) (hb : Binds X.K fd ps []) (hx : Passes CX X E) : OpR X (binaryOp op) (rAllBin C sp E) := by
  intro pins s σ H x y v u Q I rx ry h
  rcases h with h | h
  · exact op_ownBin O h1 h2 F hr hb hx pins s σ H x y v u Q I rx ry h
  · exact op_oddBin O nt hB F hr hb hx pins s σ H x y v u Q I rx ry h
/-- x == y, y one of these, a whole number, or of the same class -/
def rEqAll (C : Addr) (sp : Sp) (E : XK) : R2 := fun x y H Q => rOwnEq C sp E x y H Q ∨ ∃ a dx fs t, x = .ref a ∧ H a = some (.ins C dx fs) ∧ OddV H y t ∧ sp [.ref a, y] H Q E
theorem op_eqAll (O : EqOf X.K C f) (nt : ∀ t ∈ oddT, PySem.W.subIn X.K (.type t) (.ref C) = some false) (F : FnOk X.prog X.w X.K X.mg X.base CX k f fd ps sp) (hr : Room k X.A) (hb : Binds X.K fd ps []) (hx : Passes CX X E) : OpR X (compareOp .Eq) (rEqAll C sp E) := by
  intro pins s σ H x y v u Q I rx ry h
  rcases h with h | ⟨a, dx, fs, t, rfl, ha, hy, q⟩
  · exact op_ownEq O F hr hb hx pins s σ H x y v u Q I rx ry h
  cases (show v = Value.ref a from rx)
  obtain ⟨mA, oa, _⟩ := ins_get I.hok ha
  obtain ⟨od, J, _⟩ := oa.look
  obtain ⟨m, hF⟩ := I.fr
  show wpAny _ _ (richCompare .Eq _ _) _ _ _
  refine PySem.W.cmp_K (op := .Eq) (tb := .type t) hr.units0 hF I.ok.mod.kin J (hy.looks I ry) (by unfold PySem.W.notFirst; rw [nt t hy.mem]; simp) O.at_ O.fn ?_
  exact wpAny_mono (run_fn F hr hb .nil hx I (us := [.ref a, u]) (vs := [.ref a, y]) (.cons rfl (.cons ry .nil)) q) (fun w s' z => (by
    obtain ⟨z', H', I', rz, qz⟩ := z
    exact SlX.cmpback rz ⟨z', H', I', rz, qz⟩ : PySem.W.CmpBack (EP X pins σ Q) w s')) fun _ _ x => x
end
end RtL

set_option maxHeartbeats 4000000
namespace RtL
open PySem PySem.Spec PyProof.Rows L2
section
variable {X : Cx} {CX : CXT} {k : Nat} {f C : Addr} {fd : FuncData} {ps : List Str} {sp : Sp} {E : L2.St → XK} {m : Str} {pos apos : Pos} {e o : Expr} {es : List Expr} {ta : TE} {t : TA} {pl : Sem Bool}
/-- o.m(..) of an instance, where what it raises is told by the slots -/
def tMex (C : Addr) (m : Str) (sp : Sp) (E : L2.St → XK) (ta : TE) (t : TA) : TE := fun σ H Q => ta σ H fun y H1 => ∃ b dy gs, y = .ref b ∧ H1 b = some (.ins C dy gs) ∧ gs.lookup m = none ∧ t σ H1 fun ws H2 => sp (.ref b :: ws) H2 Q (E σ)
theorem pe_mex (he : PE X o ta) (c : Cls X.K C) (hm : Meth X.K C m f) (F : FnOk X.prog X.w X.K X.mg X.base CX k f fd ps sp) (hr : Room k X.A) (hb : Binds X.K fd ps []) (hx : ∀ σ, PassesAt CX X σ (E σ)) (ha : PA X (e :: es) t)
    (hst : starEach (e :: es) X.env = (false, eval e X.env) :: starEach es X.env := by rfl) (hpl : (backTo pos (starEach es X.env)).any (·.1) = false := by rfl)
    (ht : eval (.Call (.Attribute o m apos) (e :: es) [] pos) X.env = (do
      let ov ← eval o X.env
      standAt apos.atName
      let (g, first) ← holding [ov] (getMethod ov m pl)
      callWith pos g first (backTo pos (starEach (e :: es) X.env)) (backToKw pos (keywordEach [] X.env))) := by rfl) :
    PE X (.Call (.Attribute o m apos) (e :: es) [] pos) (tMex C m sp E ta t) := by
  refine ⟨fun pins s σ H Q I h => ?_⟩
  refine PySem.W.methodCall_KW (pl := pl) (thn (he.run pins s σ H _ I h) fun u s1 hh => ?_) ht
  obtain ⟨y, H1, I1, ry, b, dy, gs, rfl, eb, l, q⟩ := hh
  obtain rfl : u = Value.ref b := ry
  refine getmeth_ok I1 eb c hm l ?_
  refine PySem.W.callWith_K (first := [.ref b]) (h₀ := X.base) I.ok.mod.kin hm.kp (thn (ha.run pos pins s1 σ H1 _ I1 q) fun us s2 hh2 => ?_) hst hpl
  obtain ⟨ws, H2, I2, r, q2⟩ := hh2
  exact ⟨I2.kIn, run_fnS (us := .ref b :: us) (vs := .ref b :: ws) F hr hb (hx σ) I2 (.cons rfl r) q2⟩
end
end RtL

set_option maxHeartbeats 4000000
/-! for k, x in enumerate(t), t a tuple -/
namespace RtL
open PySem PySem.Spec PyProof.Rows L2
open PySem.Sem (wp)
section
variable {prog : Program} {w : World} {A : Around} {E : Value → Shared → Prop} {s : Shared} {e j l : Addr} {n : Nat} {ys : Array Value} {y u : Value}
theorem enumT_next {Q : Value → Shared → Prop} (hE : IsEnum s.heap e j n u) (hJ : s.heap.IsTupleIter j l n) (hL : s.heap.IsTuple l ys) (hy : ys[n]? = some y) (ej : e ≠ j)
    (go : ∀ h', IsEnumOut h' e j ((n : Int) + 1) y s.heap.objs.size → h'.IsTupleIter j l (n + 1) → h'.get? s.heap.objs.size = some { cls := .type "tuple", data := .seq #[.int n s.toks, y] } →
      h'.objs.size = s.heap.objs.size + 1 → (∀ b o, b ≠ e → b ≠ j → s.heap.get? b = some o → h'.get? b = some o) → Q (.ref s.heap.objs.size) { s with heap := h', toks := s.toks + 1 }) :
    wpAny (model prog w) A (Builtin.«enumerate.__next__» ⟨[.ref e], []⟩) (fun fin s' => ∃ v, fin = .done (.ret v) ∧ Q v s') E s := by
  obtain ⟨hp, g, d, tk, os⟩ := s
  show wpAny _ _ (field (.ref e) 2 >>= _) _ _ _
  refine wpAny_bind (wpAny_field hE rfl (x := .ref j) rfl (wpAny_bind (RZ.nextOf_tuple_item hJ hL hy fun g1 J1 S1 => ?_)))
  have S1 : Heap.SameBut j hp g1 := S1
  have E1 : IsEnum g1 e j n u := (S1.2 e ej).trans hE
  show wpAny _ _ (field (.ref e) 3 >>= _) _ _ ⟨g1, g, d, tk, os⟩
  refine wpAny_bind (wpAny_field E1 rfl (x := rawInt n) rfl (?_ : wpAny _ _ (field (.ref e) 4 >>= _) _ _ ⟨g1, g, d, tk, os⟩))
  refine wpAny_bind (wpAny_field E1 rfl (x := .none) rfl (?_ : wpAny _ _ (mkInt n >>= _) _ _ ⟨g1, g, d, tk, os⟩))
  refine wpAny_bind (wpAny_mkInt (?_ : wpAny _ _ (setField (.ref e) 3 (rawInt ((n : Int) + 1)) >>= _) _ _ ⟨g1, g, d, tk + 1, os⟩))
  refine wpAny_bind (wpAny_setField_rec E1 (by simp) fun g2 E2 S2 => (?_ : wpAny _ _ (setField (.ref e) 4 .none >>= _) _ _ ⟨g2, g, d, tk + 1, os⟩))
  have S2 : Heap.SameBut e g1 g2 := S2
  have E2 : IsEnum g2 e j ((n : Int) + 1) u := E2
  refine wpAny_bind (wpAny_setField_rec E2 (by simp) fun g3 E3 S3 => (?_ : wpAny _ _ (newTuple [.int n tk, y] >>= _) _ _ ⟨g3, g, d, tk + 1, os⟩))
  have S3 : Heap.SameBut e g2 g3 := S3
  have E3 : IsEnum g3 e j ((n : Int) + 1) u := E3
  refine wpAny_bind (wpAny_newTuple ?_)
  have z3 : g3.objs.size = hp.objs.size := (S3.1.trans S2.1).trans S1.1
  have le : e < hp.objs.size := Heap.lt_size hE
  have keep : ∀ b o, b ≠ e → b ≠ j → hp.get? b = some o → g3.get? b = some o := fun b o b1 b2 q => S3.extBut b o b1 (S2.extBut b o b1 (S1.extBut b o b2 q))
  have J3 : g3.IsTupleIter j l (n + 1) := (J1.extBut S2.extBut (Ne.symm ej)).extBut S3.extBut (Ne.symm ej)
  obtain ⟨g4, e4⟩ : ∃ g4, g4 = g3.push { cls := .type "tuple", data := .seq #[.int n tk, y] } := ⟨_, rfl⟩
  have E4 : IsEnum g4 e j ((n : Int) + 1) u := by rw [e4]; exact Heap.get?_push_of_some _ E3
  have T4 : g4.get? hp.objs.size = some { cls := .type "tuple", data := .seq #[.int n tk, y] } := by rw [e4, ← z3]; exact Heap.get?_push_size _ rfl
  have z4 : g4.objs.size = hp.objs.size + 1 := by rw [e4, Heap.size_push, z3]
  have k4 : ∀ b o, b ≠ e → b ≠ j → hp.get? b = some o → g4.get? b = some o := fun b o b1 b2 q => by rw [e4]; exact Heap.get?_push_of_some _ (keep b o b1 b2 q)
  have J4 : g4.IsTupleIter j l (n + 1) := by
    obtain ⟨o, q, r⟩ := J3
    exact ⟨o, by rw [e4]; exact Heap.get?_push_of_some _ q, r⟩
  rw [← e4]
  refine wpAny_bind (?_ : wpAny _ _ (Builtin.SmallTypes.ownedTupleIsFree (.ref e)) _ _ ⟨g4, g, d, tk + 1, os⟩)
  rw [z3]
  unfold Builtin.SmallTypes.ownedTupleIsFree
  refine wpAny_bind (wpAny_field E4 rfl (x := .none) rfl (wpAny_pure ?_))
  simp only [if_true]
  refine wpAny_bind (wpAny_rule (wpAny_bind (wpAny_field E4 rfl (x := u) rfl (wpAny_bind (wpAny_setField_rec E4 (by simp) fun g5 E5 S5 => ?_)))))
  have S5 : Heap.SameBut e g4 g5 := S5
  have E5 : IsEnum g5 e j ((n : Int) + 1) y := E5
  refine wpAny_bind (?_ : wpAny _ _ (Builtin.SmallTypes.ownedTupleHandOut (.ref e) (.ref hp.objs.size)) _ _ ⟨g5, g, d, tk + 1, os⟩)
  unfold Builtin.SmallTypes.ownedTupleHandOut
  refine wpAny_bind (wpAny_setField_rec E5 (by simp) fun g6 E6 S6 => ?_)
  have S6 : Heap.SameBut e g5 g6 := S6
  have E6 : IsEnumOut g6 e j ((n : Int) + 1) y hp.objs.size := E6
  refine wpAny_setField_rec E6 (by simp) fun g7 E7 S7 => ?_
  have S7 : Heap.SameBut e g6 g7 := S7
  have E7 : IsEnumOut g7 e j ((n : Int) + 1) y hp.objs.size := E7
  have up : ∀ b o, b ≠ e → g4.get? b = some o → g7.get? b = some o := fun b o b1 q => S7.extBut b o b1 (S6.extBut b o b1 (S5.extBut b o b1 q))
  refine wpAny_bind (wpAny_letGo (wpAny_pure ⟨_, rfl, go g7 E7 ?_ (up _ _ (Nat.ne_of_gt le) T4) ?_ fun b o b1 b2 q => up b o b1 (k4 b o b1 b2 q)⟩))
  · exact ((J4.extBut S5.extBut (Ne.symm ej)).extBut S6.extBut (Ne.symm ej)).extBut S7.extBut (Ne.symm ej)
  · exact ((S7.1.trans S6.1).trans S5.1).trans z4
theorem enumT_item {Q : Option Value → Shared → Prop} (hE : IsEnum s.heap e j n u) (hJ : s.heap.IsTupleIter j l n) (hL : s.heap.IsTuple l ys) (hy : ys[n]? = some y) (ej : e ≠ j)
    (go : ∀ h', IsEnumOut h' e j ((n : Int) + 1) y s.heap.objs.size → h'.IsTupleIter j l (n + 1) → h'.get? s.heap.objs.size = some { cls := .type "tuple", data := .seq #[.int n s.toks, y] } →
      h'.objs.size = s.heap.objs.size + 1 → (∀ b o, b ≠ e → b ≠ j → s.heap.get? b = some o → h'.get? b = some o) → Q (some (.ref s.heap.objs.size)) { s with heap := h', toks := s.toks + 1 }) :
    wpAny (model prog w) A (pyNext (.ref e)) Q E s := by
  have ty : s.TypeIs (.ref e) "enumerate" := ⟨_, hE, rfl⟩
  unfold pyNext
  refine wpAny_bind (wpAny_attempt (wpAny_callSpecial?_slot (name := Str.ofString "__next__") ty F.slot_enumerate_next ?_))
  exact wpAny_call_entry F.slot_enumerate_next ty F.entry_enumerate_next (enumT_next hE hJ hL hy ej fun h' a1 a2 a3 a4 a5 => wpAny_pure (go h' a1 a2 a3 a4 a5)) (F.args_enumerate_next_1 _)
theorem enumT_end {Q : Option Value → Shared → Prop} (calm : A.handled = none) (hE : IsEnum s.heap e j n u) (hJ : s.heap.IsTupleIter j l n) (hL : s.heap.IsTuple l ys) (hy : ys[n]? = none)
    (go : ∀ h', Heap.ExtBut j s.heap h' → Q none { s with heap := h' }) : wpAny (model prog w) A (pyNext (.ref e)) Q E s := by
  have ty : s.TypeIs (.ref e) "enumerate" := ⟨_, hE, rfl⟩
  unfold pyNext
  refine wpAny_bind (wpAny_attempt (wpAny_callSpecial?_slot (name := Str.ofString "__next__") ty F.slot_enumerate_next ?_))
  refine wpAny_call_entry F.slot_enumerate_next ty F.entry_enumerate_next (?_ : wpAny _ _ (field (.ref e) 2 >>= _) _ _ _) (F.args_enumerate_next_1 _)
  refine wpAny_bind (wpAny_field hE rfl (x := .ref j) rfl (wpAny_bind (RZ.nextOf_tuple_end calm hJ hL hy fun h' x a1 a2 => ?_)))
  obtain ⟨o, q, c⟩ := a2
  exact wpAny_bind (wpAny_isInstance (T := "StopIteration") (b := true) ⟨o, q, c⟩ isSubtype_stop (wpAny_pure (go _ a1)))
theorem enumT_new (t : Addr) (ob : Obj) (n : Nat) (hc : ob.cls = .type "tuple") (hd : ob.data = .seq ys n) :
    Meets (Builtin.«enumerate.__new__» ⟨[.type "enumerate", .ref t], []⟩) (fun _ R s => s.heap.get? t = some ob ∧
      R (.ok (.ret (.ref (s.heap.push { cls := .type "tuple_iterator", data := .fields #[.ref t, .int 0 0] }).objs.size)))
        { s with heap := (s.heap.push { cls := .type "tuple_iterator", data := .fields #[.ref t, .int 0 0] }).push { cls := .type "enumerate", data := .fields #[.none, .bool false, .ref s.heap.objs.size, rawInt 0, .none, .none] } }) :=
  .of_wp fun prog w A R s h => by
    obtain ⟨hp, g, d, tk, os⟩ := s
    obtain ⟨ht, h⟩ := h
    have sb := sub_enumerate
    have tp : Heap.IsTuple (Shared.heap ⟨hp, g, d, tk, os⟩) t ys := ⟨_, ht, hc, n, hd⟩
    wp_walk using AutoSeq1.wpAny_loadPart' ht
    refine wpAny_stack_any fun st => wpAny_pure ?_
    split
    · rename_i c _ _ _ _ _
      cases (c == Value.type "enumerate") <;> (wp_walk using AutoSeq1.wpAny_loadPart' ht, wpAny_pyIter_tuple tp; exact ⟨_, rfl, h⟩)
    · wp_walk using AutoSeq1.wpAny_loadPart' ht, wpAny_pyIter_tuple tp
      exact ⟨_, rfl, h⟩
theorem enumT_call {t : Addr} {Q : Value → Shared → Prop} (tp : s.heap.IsTuple t ys)
    (h : ∀ h', IsEnum h' (s.heap.objs.size + 1) s.heap.objs.size 0 .none → h'.IsTupleIter s.heap.objs.size t 0 → h'.objs.size = s.heap.objs.size + 2 → (∀ b o, s.heap.get? b = some o → h'.get? b = some o) → Q (.ref (s.heap.objs.size + 1)) { s with heap := h' }) :
    wpAny (model prog w) A (call (.type "enumerate") [.ref t]) Q E s := by
  obtain ⟨ob, ht, hc, n, hd⟩ := tp
  refine callType_new F.called_enumerate (by decide) (F.typeCall_enumerate_1 _) (F.newCall_enumerate_1 _) (fun obj => F.args_object_init_2 obj _) F.entry_enumerate_new (enumT_new t ob n hc hd) ⟨ht, ?_⟩
  have sz : (s.heap.push { cls := .type "tuple_iterator", data := .fields #[.ref t, .int 0 0] }).objs.size = s.heap.objs.size + 1 := Heap.size_push ..
  rw [sz]
  have he : IsEnum ((s.heap.push { cls := .type "tuple_iterator", data := .fields #[.ref t, .int 0 0] }).push { cls := .type "enumerate", data := .fields #[.none, .bool false, .ref s.heap.objs.size, rawInt 0, .none, .none] }) (s.heap.objs.size + 1) s.heap.objs.size 0 .none := by
    rw [← sz]
    exact Heap.get?_push_size _ rfl
  exact ⟨⟨_, he, rfl⟩, h _ he ⟨_, Heap.get?_push_of_some _ (Heap.get?_push_size _ rfl), rfl, rfl⟩ (by rw [Heap.size_push, sz]) fun b o q => Heap.get?_push_of_some _ (Heap.get?_push_of_some _ q)⟩
end
/-- the tuple at a, its items in new pairs with their places -/
def IteT (K : PySem.W.Frag) (a : Addr) : It :=
  ⟨fun i H => ∃ (xs : List V) (x : V), SqT K H a xs ∧ xs[i]? = some x, fun i H v H' => ∃ T x, v = .ref T ∧ H T = none ∧ H' = upd H T (.tup [.int (i : Nat), x]) ∧ ∀ xs, SqT K H a xs → xs[i]? = some x, fun i H => ∃ xs : List V, SqT K H a xs ∧ xs.length ≤ i⟩
theorem turn_enumT {P : Program} {w : World} {K : PySem.W.Frag} {el : List Expr} {kk : Nat} {tp : Pos} (a e j : Addr) : Turn P w K (.Tuple el kk tp) (IteT K a) [e, j] e fun i h => (∃ u, IsEnum h e j ((i : Nat) : Int) u) ∧ h.IsTupleIter j a i ∧ e ≠ j where
  mem := List.mem_cons_self
  obj := fun i h st b hb => by
    obtain ⟨⟨u, hE⟩, ⟨o, ho, hc, hd⟩, _⟩ := st
    simp only [List.mem_cons, List.not_mem_nil, or_false] at hb
    rcases hb with rfl | rfl
    · exact ⟨_, hE, fun v q => by cases q⟩
    · refine ⟨o, ho, fun v q => ?_⟩
      rw [hd] at q
      cases q
  keep := fun i h h' ⟨⟨u, hE⟩, hJ, ne⟩ k => ⟨⟨u, k e List.mem_cons_self _ hE⟩, hJ.at fun o q => k j (List.mem_cons_of_mem _ List.mem_cons_self) o q, ne⟩
  self := fun A i s Q E ⟨⟨_, hE⟩, _⟩ h => wpAny_pyIter_enum hE h
  done := by
    rintro X rfl rfl rfl cal i pins s σ H E I fp ⟨⟨u, hE⟩, hJ, ne⟩ ⟨xs, hq, hx⟩
    obtain ⟨its, rv, p, hz⟩ := I.tuple hq
    obtain ⟨f0, f1, f2, f3, f4, f5⟩ := fp j (List.mem_cons_of_mem _ List.mem_cons_self)
    have len := rv.length
    exact enumT_end (I.ok.hd cal) hE hJ p (by rw [List.getElem?_toArray]; exact List.getElem?_eq_none (by omega)) fun h' eb => ⟨rfl, I.turned (t' := s.toks) (fun b o b1 q => eb b o b1 q) f0 f1 f3 f4 f5⟩
  item := by
    rintro X rfl rfl rfl cal i pins s σ H E I fp ⟨⟨u, hE⟩, hJ, ne⟩ ⟨xs, x, hq, hx⟩
    obtain ⟨its, rv, p, hz⟩ := I.tuple hq
    obtain ⟨y, hy, ry⟩ := rv.get hx
    have le : e < s.heap.objs.size := Heap.lt_size hE
    have lj : j < s.heap.objs.size := by
      obtain ⟨_, q, _⟩ := hJ
      exact Heap.lt_size q
    refine enumT_item hE hJ p (y := y) (by rw [List.getElem?_toArray]; exact hy) ne fun h1 o1 J1 T1 z1 k1 => ⟨_, rfl, ?_⟩
    refine wpAny_letOwnedTupleGo_enum (s := { s with heap := h1, toks := s.toks + 1 }) o1 fun h2 E2 sb => ?_
    have T2 : h2.get? s.heap.objs.size = some { cls := .type "tuple", data := .seq #[.int i s.toks, y] } := (sb.2 _ (Nat.ne_of_gt le)).trans T1
    have ob : ObjOk X.prog X.w (upd H s.heap.objs.size (.tup [.int (i : Nat), x])) h2 s.heap.objs.size (.tup [.int (i : Nat), x]) := ⟨by show 2 ≤ sizeLine; decide, [.int i s.toks, y], .cons ⟨_, rfl⟩ (.cons ry .nil), ⟨_, T2, rfl, _, rfl⟩⟩
    have old : ∀ b o, b ∉ [e, j] → s.heap.get? b = some o → h2.get? b = some o := fun b o hb q => (sb.2 b fun z => hb (by rw [z]; exact List.mem_cons_self)).trans (k1 b o (fun z => hb (by rw [z]; exact List.mem_cons_self)) (fun z => hb (by rw [z]; exact List.mem_cons_of_mem _ List.mem_cons_self)) q)
    have I1 : Inv X pins σ (upd H s.heap.objs.size (.tup [.int (i : Nat), x])) { s with heap := h2, toks := s.toks + 1 } := I.turnedNew (ch := [e, j]) old fp (Nat.le_refl _) ob
    have nx : ((i + 1 : Nat) : Int) = (i : Int) + 1 := by omega
    refine ⟨.ref s.heap.objs.size, _, I1, rfl, ⟨_, x, rfl, I.hok.fresh (Nat.le_refl _), rfl, fun zs hz => by rw [I.tuple_inj hz hq]; exact hx⟩, ⟨⟨y, by rw [nx]; exact E2⟩, J1.at fun o q => (sb.2 j (Ne.symm ne)).trans q, ne⟩, fun b hb => ?_⟩
    have lb : b < s.heap.objs.size := by
      simp only [List.mem_cons, List.not_mem_nil, or_false] at hb
      rcases hb with rfl | rfl <;> assumption
    rw [upd_ne (Nat.ne_of_lt lb)]
    exact (fp b hb).1
def iEnumT (K : PySem.W.Frag) (ta : TA) : TI := fun σ H R => ta σ H fun vs H1 => ∃ a xs, vs = [.ref a] ∧ SqT K H1 a xs ∧ R (IteT K a) H1
theorem pi_enumT {X : Cx} {e : Expr} {ta : TA} {p pos tp : Pos} {el : List Expr} {kk : Nat} (hg : Gl X "enumerate") (hm : X.mg "enumerate" = none) (ha : PA X [e] ta) (st : starEach [e] X.env = [(false, eval e X.env)] := by rfl) :
    PI X (.Tuple el kk tp) (.Call (.Name "enumerate" p) [e] [] pos) (iEnumT X.K ta) := by
  refine ⟨fun pins s σ H R I h => Call_ (ld_blt I hg hm boot_enumerate (PyProof.Rows.callWith_type1 (thn (ha.run pos pins s σ H _ I h) fun us s1 ⟨vs, H1, I1, r1, a, xs, ex, hq, q⟩ => ?_) st rfl))⟩
  subst ex
  obtain ⟨u, rfl, ru⟩ := vals1 r1
  obtain rfl : u = Value.ref a := ru
  obtain ⟨its, rv, tpl, hz⟩ := I1.tuple hq
  refine enumT_call tpl fun h' hE hJ z k => wpAny_pyIter_enum hE ?_
  refine ⟨s1.heap.objs.size + 1, [s1.heap.objs.size + 1, s1.heap.objs.size], _, _, H1, rfl, I1.kept (t' := s1.toks) k, turn_enumT a (s1.heap.objs.size + 1) s1.heap.objs.size, ⟨⟨.none, hE⟩, hJ, Nat.succ_ne_self _⟩, fun b hb => ?_, q⟩
  have lb : s1.heap.objs.size ≤ b := by
    simp only [List.mem_cons, List.not_mem_nil, or_false] at hb
    rcases hb with rfl | rfl
    · exact Nat.le_succ _
    · exact Nat.le_refl _
  exact I1.fpOk lb (I1.hok.fresh lb)
theorem walk_enumT {K : PySem.W.Frag} {a : Addr} {xs : List V} : Walk (IteT K a) xs.length (fun H => SqT K H a xs) (YPair (fun i => some (.int (i : Nat))) (fun i => xs[i]?)) := by
  refine ⟨fun i _ hi q => ⟨xs, xs[i], q, List.getElem?_eq_getElem hi⟩, fun _ q => ⟨xs, q, Nat.le_refl _⟩, ?_⟩
  rintro i H v H' hi q ⟨T, x, h1, h2, h3, h4⟩
  exact ⟨T, _, x, h1, h2, h3, rfl, h4 xs q⟩
end RtL

set_option maxHeartbeats 4000000
set_option exponentiation.threshold 3000
namespace K71
open PySem PySem.Spec PyProof.Rows L2 RtL ErL StX
/-! ### the mathematics -/
/-- without the noughts at the end -/
def pl : List Int → List Int
  | [] => []
  | c :: cs => match pl cs with
    | [] => if c = 0 then [] else [c]
    | d :: ds => c :: d :: ds
theorem pl_zero : ∀ xs : List Int, pl (xs ++ [0]) = pl xs
  | [] => by simp [pl]
  | c :: cs => by
    show pl (c :: (cs ++ [0])) = pl (c :: cs)
    unfold pl
    rw [pl_zero cs]
theorem pl_last : ∀ (xs : List Int) {c : Int}, c ≠ 0 → pl (xs ++ [c]) = xs ++ [c]
  | [], c, h => by simp [pl, h]
  | x :: xs, c, h => by
    show pl (x :: (xs ++ [c])) = x :: (xs ++ [c])
    unfold pl
    rw [pl_last xs h]
    cases xs <;> rfl
theorem pl_nil : pl [] = [] := rfl
abbrev Bd (n : Nat) (i : Int) : Prop := i.natAbs < 2 ^ n
theorem take_succ' {cs : List Int} {m : Nat} {x : Int} (h : cs[m]? = some x) : cs.take (m + 1) = cs.take m ++ [x] := by
  rw [List.take_add_one, h]
  rfl
theorem pl_length : ∀ xs : List Int, (pl xs).length ≤ xs.length
  | [] => Nat.le_refl _
  | c :: cs => by
    have h := pl_length cs
    unfold pl
    split
    · split <;> simp
    · rename_i d ds e
      rw [e] at h
      simp only [List.length_cons] at h ⊢
      omega
def PolAt (K : Fr) (H : Hp) (a : Addr) (cs : List Int) : Prop := ∃ dx t, H a = some (.ins (PC K) dx [("_coefficients", .ref t)]) ∧ H t = some (.tup (cs.map V.int))
theorem PolAt.same {K : Fr} {H H' : Hp} {a : Addr} {cs : List Int} (h : PolAt K H a cs) (s : Same H H') : PolAt K H' a cs := by
  obtain ⟨dx, t, e, e2⟩ := h
  exact ⟨dx, t, s _ _ e, s _ _ e2⟩
theorem same_new {H : Hp} {p : Addr} {o : HO} (hp : H p = none) : Same H (upd H p o) := fun b u e => by
  rw [upd_ne (ne_of_none e hp)]
  exact e
theorem gone {H H1 : Hp} {p : Addr} (s : Same H H1) (h : H1 p = none) : H p = none := by
  cases z : H p with
  | none => rfl
  | some o =>
    rw [s _ _ z] at h
    cases h
section
variable {P : Program} {w : World} {K : Fr} {mg : Str → Option Value} {base : Heap} {f : Addr} {fd : FuncData}
/-- a def that can be called by its name -/
structure Gd (P : Program) (w : World) (K : Fr) (mg : Str → Option Value) (base : Heap) (k : Nat) (x : Str) (f : Addr) (fd : FuncData) (ps : List Str) (sp : Sp) : Prop where
  ok : FnOk P w K mg base CX0 k f fd ps sp
  gl : mg x = some (.ref f)
  kp : PySem.W.keepIn K (.ref f) = true
  bd : Binds K fd ps []
/-- a method or a getter of the class -/
structure Md (P : Program) (w : World) (K : Fr) (mg : Str → Option Value) (base : Heap) (k : Nat) (f : Addr) (fd : FuncData) (ps : List Str) (sp : Sp) : Prop where
  ok : FnOk P w K mg base CX0 k f fd ps sp
  bd : Binds K fd ps []
section
variable {X : Cx} {k : Nat} {x : Str} {p pos : Pos} {e : Expr} {es : List Expr} {t : TA} {ps : List Str} {sp : Sp}
theorem pe_gd (C : Gd X.prog X.w X.K X.mg X.base k x f fd ps sp) (hr : Room k X.A) (hg : Gl X x) (ha : PA X (e :: es) t) (hdb : (x == ("__debug__" : Str)) = false := by decide) (he : starEach (e :: es) X.env = (false, eval e X.env) :: starEach es X.env := by rfl)
    (hpl : (backTo pos (starEach es X.env)).any (·.1) = false := by rfl) : PE X (.Call (.Name x p) (e :: es) [] pos) (tCall sp [] E0 t) := pe_call C.ok hr hg C.gl C.kp C.bd .nil pass0 ha hdb he hpl
end
/-! ### is_an_integer -/
abbrev s_isint : Stmt := top 5
theorem sc_isint : FnScope ["value"] ["value"] (defScope s_isint) := ⟨rfl, rfl, rfl, by decide +kernel, rfl, by decide +kernel, by decide +kernel⟩
def spIsint (K : Fr) : Sp := fun vs H Q _ => ∃ v, vs = [v] ∧ ((∃ i, v = .int i ∧ Q (.bl true) H) ∨ False)
theorem ok_isint (F : FunD K "is_an_integer" "is_an_integer" (defArgs s_isint) (defBody s_isint) (defScope s_isint) [] [] f fd) (T : TT K mg) : FnOk P w K mg base CX0 1 f fd ["value"] (spIsint K) := by
  refine F.ok sc_isint (fun vs H Q E h => ?_) (fun cdv A outer s H vs Q E hr h => ?_)
  · obtain ⟨v, rfl, _⟩ := h
    rfl
  · obtain ⟨v, rfl, h⟩ := h
    refine ⟨_, PSs.nox (pss_one (ps_ret (pe_and (pe_callB call_isi (by rfl) T.fre (by decide +kernel) (pa_cons (pv 0) (pa_cons (pe_bltn (v := .ty "int") (u := .type "int") (by rfl) T.fre (by decide +kernel) rfl) pa_nil)))
      (pe_one (pe_not (pe_callB call_isi (by rfl) T.fre (by decide +kernel) (pa_cons (pv 0) (pa_cons (pe_bltn (v := .ty "bool") (u := .type "bool") (by rfl) T.fre (by decide +kernel) rfl) pa_nil)))))))), ?_⟩
    rcases h with ⟨i, rfl, q⟩ | h
    · exact ⟨_, rfl, _, _, _, _, true, rfl, .ty "int", .base (.int i), kit_ty rfl, true, rfl, iteT ⟨_, rfl, _, _, _, _, false, rfl, .ty "bool", .base (.int i), kit_ty rfl, false, rfl, q⟩⟩
    · exact h.elim
abbrev IsintG (P : Program) (w : World) (K : Fr) (mg : Str → Option Value) (base : Heap) : Prop := ∃ f d, Gd P w K mg base 1 "is_an_integer" f d ["value"] (spIsint K)
/-! ### Polynomial.__init__ -/
abbrev s_init : Stmt := inP 0
theorem sc_init : FnScope ["self", "coefficients", "coefficient", "many"] ["self", "coefficients"] (defScope s_init) := ⟨rfl, rfl, rfl, by decide +kernel, rfl, by decide +kernel, by decide +kernel⟩
/-- behind the binding: self and the tuple -/
def spInit1 (K : Fr) : Sp := fun vs H Q _ => ∃ (a dx p : Addr) (cs : List Int), vs = [.ref a, .ref p] ∧ cs.length ≤ 1000 ∧ H a = some (.ins (PC K) dx []) ∧ H p = some (.tup (cs.map V.int)) ∧
  ∀ t H', Same H H' → H' t = some (.tup ((pl cs).map V.int)) → Q .non (upd H' a (.ins (PC K) dx [("_coefficients", .ref t)]))
def spInit (K : Fr) : Sp := fun vs H Q _ => ∃ (a dx : Addr) (cs : List Int), vs = .ref a :: cs.map V.int ∧ cs.length ≤ 1000 ∧ H a = some (.ins (PC K) dx []) ∧
  ∀ t H', Same H H' → H' t = some (.tup ((pl cs).map V.int)) → Q .non (upd H' a (.ins (PC K) dx [("_coefficients", .ref t)]))
theorem getm {cs : List Int} {i : Nat} {v : V} (h : (cs.map V.int)[i]? = some v) : ∃ c, cs[i]? = some c ∧ v = .int c := by
  rw [List.getElem?_map] at h
  cases e : cs[i]? with
  | none => rw [e] at h; cases h
  | some c =>
    rw [e] at h
    cases h
    exact ⟨c, rfl, rfl⟩
theorem getM {cs : List Int} {i : Nat} {c : Int} (h : cs[i]? = some c) : (cs.map V.int)[i]? = some (V.int c) := by rw [List.getElem?_map, h]; rfl
theorem hbI {kV doc pm cdv ct : Value} {an : Option Addr} {q : Str} : ∀ us rest : List Value, us.length = (["self"] : List Str).length → bindArgs (PySem.W.fnOf "__init__" q (defArgs s_init) (defBody s_init) (defScope s_init) Value.none kV doc pm an cdv ct) ⟨us ++ rest, []⟩ = (newTuple rest >>= fun t => pure ((["self"] : List Str).zip us ++ [(("coefficients" : Str), t)])) :=
  StX.bind_star1 (B := fun vs => bindArgs (PySem.W.fnOf "__init__" q (defArgs s_init) (defBody s_init) (defScope s_init) Value.none kV doc pm an cdv ct) ⟨vs, []⟩) (fun a => by rfl) (fun a r rs => by rfl)
theorem ok_init {q : Str} (F : FunD K "__init__" q (defArgs s_init) (defBody s_init) (defScope s_init) [] [] f fd) (T : TT K mg) (G : IsintG P w K mg base) : FnR P w K mg base CX0 2 f (spInit K) := by
  obtain ⟨fI, dI, GI⟩ := G
  obtain ⟨oc, od, dV, kV, doc, pm', an, cdv, ct, osl, rfl, lk, hcd, hdv, _⟩ := F.ex
  obtain rfl : dV = Value.none := hdv.elim (fun z => z.2) fun z => absurd rfl z.1
  refine FnR.imp (StX.fn_star (P := P) (w := w) (mg := mg) (base := base) (CX := CX0) (k := 1) (sp := spInit1 K) (pv := "coefficients") (ps := ["self"]) lk hcd sc_init StX.cxUp_none hbI (fun A outer s H vs Q E hr h => ?_)) (fun vs H Q E h => ?_)
  rotate_left
  · obtain ⟨a, dx, cs, rfl, hl, ea, q⟩ := h
    refine ⟨[.ref a], cs.map V.int, rfl, rfl, by rw [List.length_map, sizeLine_eq]; omega, fun p hp => ⟨a, dx, p, cs, rfl, hl, ?_, upd_same, fun t H' s' e' => q t H' ((same_new hp).trans s') e'⟩⟩
    rw [upd_ne (ne_of_none ea hp)]
    exact ea
  · obtain ⟨a, dx, p, cs, rfl, hl, ea, ep, q⟩ := h
    refine ⟨_, PSs.nox (pss_cons (ps_for PassesOwn.never rfl (pi_tup (pv 1)) (pg_name (i := 2) sc_init.nd rfl (Or.inl rfl)) (pss_one (ps_if (pt_not (pt_val (pe_gd GI hr (by rfl) (pa_cons (pv 2) pa_nil)))) (pss_one ps_never) pss_nil)))
      (pss_cons (ps_set (i := 3) sc_init.nd rfl (Or.inl rfl) (pe_callB call_len_seq (by rfl) T.fre (by decide +kernel) (pa_cons (pv 1) pa_nil)))
      (pss_cons (ps_while PassesOwn.never (PW.pt (pw_and (pt_cmpR op_gt (pv 3) pe_int (nomark _)) (pw_and1 (pt_cmpR op_eq (pe_ix ix_tup (pv 1) (pe_op op_sub (pv 3) pe_int) (fun _ _ => rfl)) pe_int (nomark _))))) (pss_one (ps_aug (i := 3) sc_init.nd rfl (Or.inl rfl) pe_int ip_sub)))
      (pss_one (ps_fld (pv 0) (pe_slice sl_tupA (pv 1) po_none (po_some (pv 3))) (by rfl)))))), ?_⟩
    refine ⟨_, rfl, p, rfl, ⟨_, SqT.of ep⟩, for_tup (xs := cs.map V.int) (fun i σ H2 => H2 = H ∧ ∃ v, σ = [some (.ref a), some (.ref p), v, none]) ⟨rfl, none, rfl⟩ (fun i σ H2 _ ⟨e, _⟩ => by rw [e]; exact SqT.of ep) ?_ ?_⟩
    · rintro i x σ H2 hi ⟨rfl, v, rfl⟩
      obtain ⟨c, hc, rfl⟩ := getm hi
      exact ⟨_, rfl, _, rfl, .inl ⟨c, rfl, true, rfl, iteF ⟨rfl, _, rfl⟩⟩⟩
    · rintro σ H2 ⟨rfl, v, rfl⟩
      refine ⟨_, rfl, p, _, rfl, .inr (SqT.of ep), ?_⟩
      refine ⟨fun m σ H3 => H3 = H2 ∧ (∃ v, σ = [some (.ref a), some (.ref p), v, some (.int (m : Nat))]) ∧ m ≤ cs.length ∧ pl (cs.take m) = pl cs, ⟨cs.length, rfl, ⟨v, by rw [List.length_map]; rfl⟩, Nat.le_refl _, by rw [List.take_length]⟩, ?_⟩
      rintro m σ H3 ⟨rfl, ⟨v, rfl⟩, hm, hpl⟩
      have fin : pl cs = cs.take m → sFld K (tVar 0) (tSl (rSlA K) (tVar 1) tNoPart (tPart (tVar 3))) "_coefficients" { nx := fun x H' => Q V.non H', rt := Q } [some (.ref a), some (.ref p), v, some (.int (m : Nat))] H3 := fun e => by
        have lo : HT.sIx (cs.map V.int).length 0 none = 0 := rfl
        have hi : HT.sIx (cs.map V.int).length (cs.map V.int).length (some (m : Int)) = m := by
          rw [HT.sIx_nat, List.length_map]
          exact Nat.min_eq_left hm
        refine ⟨_, rfl, _, rfl, (m : Int), rfl, p, _, rfl, SqT.of ep, fun z => ?_, fun z p2 np => ?_⟩
        · have hz : m = cs.length := by
            have := z.2
            rw [hi, List.length_map] at this
            exact this
          refine ⟨_, rfl, a, _, dx, _, rfl, ea, T.clP, T.nC, by show 0 < 1000; decide, ?_⟩
          refine q p _ (Same.refl _) ?_
          rw [e, hz, List.take_length]
          exact ep
        · refine ⟨_, rfl, a, _, dx, _, rfl, same_new np _ _ ea, T.clP, T.nC, by show 0 < 1000; decide, ?_⟩
          refine q p2 _ (same_new np) ?_
          rw [upd_same]
          unfold cutV
          rw [lo, hi, e, List.drop_zero, Nat.sub_zero, List.map_take]
      refine ⟨_, rfl, (m : Int), 0, rfl, rfl, _, rfl, ite2 (fun h => ?_) (fun h => ?_)⟩
      · have h0 : (0 : Int) < m := of_decide_eq_true h
        obtain ⟨k, rfl⟩ : ∃ k, m = k + 1 := ⟨m - 1, by omega⟩
        have hk : k < cs.length := by omega
        have hc : cs[k]? = some cs[k] := by simp [hk]
        have e1 : ((k + 1 : Nat) : Int) - 1 = (k : Int) := by omega
        refine ⟨_, rfl, _, rfl, ((k + 1 : Nat) : Int), 1, rfl, rfl, p, _, _, _, rfl, rfl, SqT.of ep, by rw [e1]; exact atI_nat (getM hc), rfl, _, rfl, ite2 (fun h2 => ?_) (fun h2 => ?_)⟩
        · have z : cs[k] = 0 := by
            have y := of_decide_eq_true h2
            injection y
          refine ⟨_, fun σ' H' z => ⟨k, Nat.lt_succ_self k, z⟩, ?_⟩
          refine ⟨_, rfl, ((k + 1 : Nat) : Int), 1, rfl, rfl, rfl, ⟨v, by show [_, _, _, some (V.int (((k + 1 : Nat) : Int) - 1))] = _; rw [e1]⟩, by omega, ?_⟩
          rw [← hpl, take_succ' hc, z, pl_zero]
        · have z : cs[k] ≠ 0 := fun y => h2 (decide_eq_true (by rw [y]))
          exact fin (by rw [← hpl, take_succ' hc, pl_last _ z])
      · have z : m = 0 := by
          have : ¬ (0 : Int) < m := fun y => h (decide_eq_true y)
          omega
        subst z
        exact fin (by rw [← hpl]; rfl)
end
end K71

set_option maxHeartbeats 4000000
set_option exponentiation.threshold 3000
namespace K71
open PySem PySem.Spec PyProof.Rows L2 RtL ErL StX
/-! ### C(*y) -/
section
variable {X : Cx} {CX : CXT} {k : Nat} {f C : Addr} {sp : Sp} {E : XK} {x : Str} {e : Expr} {te : TE} {p sp_ pos : Pos}
/-- C(*y), y a tuple or a list -/
def tMakeS1 (K : PySem.W.Frag) (C : Addr) (sp : Sp) (E : XK) (te : TE) : TE := fun σ H Q => te σ H fun y H1 => ∃ a xs, y = V.ref a ∧ (SqT K H1 a xs ∨ SqL K H1 a xs) ∧ ∀ x dx, H1 x = Option.none → H1 dx = Option.none → dx ≠ x →
  sp (V.ref x :: xs) (upd (upd H1 dx (.own x)) x (.ins C dx [])) (fun v H2 => v = .non ∧ Q (.ref x) H2) E
theorem pe_makeS1 (M : Mk X.K C f) (F : FnR X.prog X.w X.K X.mg X.base CX k f sp) (hr : Room (k + 1) X.A) (hg : Gl X x) (hm : X.mg x = some (.ref C)) (hx : Passes CX X E) (he : PE X e te) (hdb : (x == ("__debug__" : Str)) = false := by decide)
    (hst : starEach [.Starred e sp_] X.env = [(true, eval e X.env)] := by rfl) : PE X (.Call (.Name x p) [.Starred e sp_] [] pos) (tMakeS1 X.K C sp E te) := by
  refine ⟨fun pins s σ H Q I h => ?_⟩
  refine wpAny_Call_Name_kw (ld_glob I hg hm ?_ hdb)
  refine PySem.W.callWith_S (h₀ := X.base) I.ok.mod.kin M.kp (thn (he.run pins s σ H _ I h) fun v s1 ⟨y, H1, I1, ry, a, xs, ey, hxs, q⟩ => ?_) hst
  subst ey
  obtain rfl : v = Value.ref a := ry
  exact star_any I1 hxs fun us s2 I2 rv => ⟨I2.kIn, run_makeR M F hr hx I2 rv q⟩
end
section
variable {K : Fr} {H H1 : Hp} {Q : VK}
/-- what a Polynomial that is made asks of its __init__ -/
theorem madeP {cs : List Int} (hl : cs.length ≤ 1000) (c : ∀ x H', Same H1 H' → PolAt K H' x (pl cs) → H1 x = none → Q (.ref x) H') :
    ∀ x dx, H1 x = none → H1 dx = none → dx ≠ x → spInit K (.ref x :: cs.map V.int) (upd (upd H1 dx (.own x)) x (.ins (PC K) dx [])) (fun v H2 => v = .non ∧ Q (.ref x) H2) E0 := fun x dx nx nd ne => by
  refine ⟨x, dx, cs, rfl, hl, upd_same, fun t H' s' e' => ⟨rfl, ?_⟩⟩
  have hx : H' x = some (.ins (PC K) dx []) := s' _ _ upd_same
  have tx : t ≠ x := fun z => by
    rw [z, hx] at e'
    cases e'
  refine c x _ (fun b o e => ?_) ⟨dx, t, upd_same, ?_⟩ nx
  · have bx := ne_of_none e nx
    rw [upd_ne bx]
    refine s' _ _ ?_
    rw [upd_ne bx, upd_ne (ne_of_none e nd)]
    exact e
  · rw [upd_ne tx]
    exact e'
end
section
variable {P : Program} {w : World} {K : Fr} {mg : Str → Option Value} {base : Heap} {f : Addr} {fd : FuncData}
theorem sc_coef : FnScope ["self"] ["self"] (defScope (inP 2)) := ⟨rfl, rfl, rfl, by decide +kernel, rfl, by decide +kernel, by decide +kernel⟩
def spCoef (K : Fr) : Sp := fun vs H Q _ => ∃ a cs, vs = [.ref a] ∧ PolAt K H a cs ∧ ∀ t, H t = some (.tup (cs.map V.int)) → Q (.ref t) H
theorem ok_coef {q : Str} (F : FunD K "coefficients" q (defArgs (inP 2)) (defBody (inP 2)) (defScope (inP 2)) [] [] f fd) (T : TT K mg) : FnOk P w K mg base CX0 1 f fd ["self"] (spCoef K) := by
  refine F.ok sc_coef (fun vs H Q E h => ?_) (fun cdv A outer s H vs Q E hr h => ?_)
  · obtain ⟨a, cs, rfl, _⟩ := h
    rfl
  · obtain ⟨a, cs, rfl, ⟨dx, t, ea, et⟩, q⟩ := h
    exact ⟨_, PSs.nox (pss_one (ps_ret (pe_fld (pv 0) rfl))), _, rfl, a, _, dx, _, _, rfl, ea, T.clP, T.nC, rfl, q t et⟩
end
end K71

set_option maxHeartbeats 4000000
set_option exponentiation.threshold 3000
namespace K71
open PySem PySem.Spec PyProof.Rows L2 RtL ErL StX
section
variable {P : Program} {w : World} {K : Fr} {mg : Str → Option Value} {base : Heap} {f : Addr} {fd : FuncData}
theorem bd_up {n m : Nat} {i : Int} (h : Bd n i) (l : n ≤ m) : Bd m i := Nat.lt_of_lt_of_le h (Nat.pow_le_pow_right (by decide) l)
theorem bd_mul {n m : Nat} {i j : Int} (h : Bd n i) (h' : Bd m j) : Bd (n + m) (i * j) := wide_lt h h'
theorem bd_add {n : Nat} {i j : Int} (h : Bd n i) (h' : Bd n j) : Bd (n + 1) (i + j) := by
  show (i + j).natAbs < 2 ^ (n + 1)
  have a : i.natAbs < 2 ^ n := h
  have b : j.natAbs < 2 ^ n := h'
  rw [Nat.pow_succ]
  omega
theorem bd_neg {n : Nat} {i : Int} (h : Bd n i) : Bd n (-i) := by
  show (-i).natAbs < 2 ^ n
  rw [Int.natAbs_neg]
  exact h
theorem bd_sub {n : Nat} {i j : Int} (h : Bd n i) (h' : Bd n j) : Bd (n + 1) (i - j) := by
  rw [Int.sub_eq_add_neg]
  exact bd_add h (bd_neg h')
theorem cmW {n m : Nat} {i j : Int} (h : Bd n i) (h' : Bd m j) (hn : 0 < n := by decide) (hm : 0 < m := by decide) (s : n + m ≤ 1000000 := by decide) : CMulW i j := wide_mul h h' hn hm s
/-! ### filled_up -/
abbrev s_fill : Stmt := top 21
theorem sc_fill : FnScope ["coefficients", "many"] ["coefficients", "many"] (defScope s_fill) := ⟨rfl, rfl, rfl, by decide +kernel, rfl, by decide +kernel, by decide +kernel⟩
def fill (cs : List Int) (m : Nat) : List Int := cs ++ List.replicate (m - cs.length) 0
theorem rep0 (k : Nat) : (List.replicate k [V.int 0]).flatten = (List.replicate k (0 : Int)).map V.int := by
  induction k with
  | zero => rfl
  | succ n ih => rw [List.replicate_succ, List.flatten_cons, ih]; rfl
def spFill (K : Fr) : Sp := fun vs H Q _ => ∃ (t : Addr) (cs : List Int) (m : Nat), vs = [.ref t, .int m] ∧ H t = some (.tup (cs.map V.int)) ∧ cs.length ≤ 1000 ∧ m ≤ 1000 ∧ ∀ l H', Same H H' → H l = none → H' l = some (.lst ((fill cs m).map V.int)) → Q (.ref l) H'
theorem ok_fill (F : FunD K "filled_up" "filled_up" (defArgs s_fill) (defBody s_fill) (defScope s_fill) [] [] f fd) (T : TT K mg) : FnOk P w K mg base CX0 1 f fd ["coefficients", "many"] (spFill K) := by
  refine F.ok sc_fill (fun vs H Q E h => ?_) (fun cdv A outer s H vs Q E hr h => ?_)
  · obtain ⟨t, cs, m, rfl, _⟩ := h
    rfl
  · obtain ⟨t, cs, m, rfl, et, hl, hm, q⟩ := h
    refine ⟨_, PSs.nox (pss_one (ps_ret (pe_op op_cat (pe_callTy call_list_of (by rfl) T.fre (by decide +kernel) (pa_cons (pv 0) pa_nil)) (pe_op op_rep (pe_lst (pa_cons pe_int pa_nil)) (pe_op op_sub (pv 1) (pe_callB call_len_seq (by rfl) T.fre (by decide +kernel) (pa_cons (pv 0) pa_nil))))))), ?_⟩
    refine ⟨_, rfl, t, _, rfl, .inr (SqT.of et), fun l hl' => ⟨by rw [sizeLine_eq]; decide, fun l2 hl2 => ?_⟩⟩
    have et2 : upd (upd H l (.lst (cs.map V.int))) l2 (.lst [.int 0]) t = some (.tup (cs.map V.int)) := same_new hl2 _ _ (same_new hl' _ _ et)
    have el : upd (upd H l (.lst (cs.map V.int))) l2 (.lst [.int 0]) l = some (.lst (cs.map V.int)) := same_new hl2 _ _ upd_same
    have hlen : (cs.map V.int).length = cs.length := List.length_map _
    refine ⟨_, rfl, _, rfl, t, _, rfl, .inr (SqT.of et2), _, _, rfl, rfl, l2, _, _, rfl, rfl, upd_same, ?_, ?_, ?_, fun l3 hl3 => ⟨l, l3, _, _, rfl, rfl, same_new hl3 _ _ el, upd_same, ?_, fun l4 hl4 => ?_⟩⟩
    · have := hl
      rw [hlen]
      omega
    · rw [hlen]
      omega
    · rw [hlen, show [V.int 0].length = 1 from rfl, Nat.one_mul, sizeLine_eq]
      omega
    · rw [hlen, rep0, List.length_map, List.length_replicate, sizeLine_eq]
      omega
    · have e : ((m : Int) - ((cs.map V.int).length : Nat)).toNat = m - cs.length := by rw [hlen]; omega
      rw [e, rep0] at hl4 ⊢
      rw [← List.map_append]
      have s3 : Same H _ := ((same_new hl').trans (same_new hl2)).trans (same_new (o := .lst ((List.replicate (m - cs.length) (0 : Int)).map V.int)) hl3)
      exact q l4 _ (s3.trans (same_new hl4)) (gone s3 hl4) upd_same
abbrev FillG (P : Program) (w : World) (K : Fr) (mg : Str → Option Value) (base : Heap) : Prop := ∃ f d, Gd P w K mg base 1 "filled_up" f d ["coefficients", "many"] (spFill K)
/-- Polynomial's __init__ -/
abbrev PId (P : Program) (w : World) (K : Fr) (mg : Str → Option Value) (base : Heap) : Prop := FnR P w K mg base CX0 2 (pm K "__init__") (spInit K)
theorem zw_succ {f : Int → Int → Int} {xs ys : List Int} {i : Nat} {x y : Int} (hx : xs[i]? = some x) (hy : ys[i]? = some y) : (List.zipWith f xs ys).take (i + 1) = (List.zipWith f xs ys).take i ++ [f x y] := by
  refine take_succ' ?_
  rw [List.getElem?_zipWith, hx, hy]
theorem fill_len (cs : List Int) {m : Nat} (h : cs.length ≤ m) : (fill cs m).length = m := by
  unfold fill
  rw [List.length_append, List.length_replicate]
  omega
def addl (f : Int → Int → Int) (a b : List Int) : List Int := pl (List.zipWith f (fill a (max a.length b.length)) (fill b (max a.length b.length)))
def NA : List Str := ["self", "other", "many", "ones", "others", "sums", "own", "more"]
theorem sc_add : FnScope NA ["self", "other"] (defScope (inP 4)) := ⟨rfl, rfl, rfl, by decide +kernel, rfl, by decide +kernel, by decide +kernel⟩
def spBin (K : Fr) (g : List Int → List Int → List Int) : Sp := fun vs H Q _ => ∃ a b as bs, vs = [.ref a, .ref b] ∧ PolAt K H a as ∧ PolAt K H b bs ∧ as.length ≤ 40 ∧ bs.length ≤ 40 ∧ (∀ c ∈ as, Bd 400 c) ∧ (∀ c ∈ bs, Bd 400 c) ∧ ∀ x H', Same H H' → H x = none → PolAt K H' x (g as bs) → Q (.ref x) H'
theorem ok_add {q : Str} (F : FunD K "__add__" q (defArgs (inP 4)) (defBody (inP 4)) (defScope (inP 4)) [] [] f fd) (T : TT K mg) (I : PId P w K mg base) (GF : FillG P w K mg base) : FnOk P w K mg base CX0 4 f fd ["self", "other"] (spBin K (addl (· + ·))) := by
  obtain ⟨fF, dF, GF⟩ := GF
  refine F.ok sc_add (fun vs H Q E h => ?_) (fun cdv A outer s H vs Q E hr h => ?_)
  · obtain ⟨a, b, as, bs, rfl, _⟩ := h
    rfl
  · obtain ⟨a, b, as, bs, rfl, ⟨dx, ta, ea, eta⟩, ⟨dy, tb, eb, etb⟩, la, lb, ba, bb, q⟩ := h
    refine ⟨_, PSs.nox (pss_cons (ps_if (pt_not (pt_val (pe_callB call_isi (by rfl) T.fre (by decide +kernel) (pa_cons (pv 1) (pa_cons (pe_glob (v := .ref (PC K)) (by rfl) (T.gl "Polynomial" (by decide)) rfl) pa_nil))))) (pss_one ps_never) pss_nil)
      (pss_cons (ps_set (i := 2) sc_add.nd rfl (Or.inl rfl) (pe_callB (call_max2 rfl) (by rfl) T.fre (by decide +kernel) (pa_cons (pe_callB call_len_seq (by rfl) T.fre (by decide +kernel) (pa_cons (pe_fld (pv 0) rfl) pa_nil)) (pa_cons (pe_callB call_len_seq (by rfl) T.fre (by decide +kernel) (pa_cons (pe_fld (pv 1) rfl) pa_nil)) pa_nil))))
      (pss_cons (ps_par (i := 3) (j := 4) rfl sc_add.nd rfl rfl (by decide) rfl rfl (pa_cons (pe_gd GF (hr.mono (by decide)) (by rfl) (pa_cons (pe_fld (pv 0) rfl) (pa_cons (pv 2) pa_nil))) (pa_cons (pe_gd GF (hr.mono (by decide)) (by rfl) (pa_cons (pe_fld (pv 1) rfl) (pa_cons (pv 2) pa_nil))) pa_nil)) (by rfl))
      (pss_cons (ps_setLc (i := 5) (own := [("own", 6), ("more", 7)]) (g := gTup K 2 (gCons (gName 6) (gCons (gName 7) gNil))) (tt := tYes) (by rfl) sc_add.nd rfl rfl (sw_true rfl rfl rfl (by decide +kernel)) (pi_zip (by rfl) T.fre (pa_cons (pv 3) (pa_cons (pv 4) pa_nil))) (blkOk_by (N := NA) (sc := defScope (inP 4)) (by decide +kernel)) (fun _ _ _ _ _ => pg_tup (by rfl) (pgs_cons (pg_name (i := 6) sc_add.nd rfl (Or.inl rfl)) (pgs_cons (pg_name (i := 7) sc_add.nd rfl (Or.inl rfl)) pgs_nil))) (fun _ _ _ _ _ => pts_nil) (fun _ _ _ _ _ => pe_op op_add (pv 6) (pv 7)))
      (pss_one (ps_ret (pe_makeS1 T.mkp I (hr.mono (by decide)) (by rfl) (T.gl "Polynomial" (by decide)) pass0 (pv 5)))))))), ?_⟩
    have hm : (if (((bs.map V.int).length : Nat) : Int) > ((as.map V.int).length : Nat) then (((bs.map V.int).length : Nat) : Int) else ((as.map V.int).length : Nat)) = ((max as.length bs.length : Nat) : Int) := by
      rw [List.length_map, List.length_map]
      split <;> omega
    refine ⟨_, rfl, _, _, _, _, true, rfl, .own _, T.tyP eb, T.kitP, true, rfl, iteF ?_⟩
    refine ⟨_, rfl, a, _, dx, _, _, rfl, ea, T.clP, T.nC, rfl, ta, _, rfl, .inr (SqT.of eta), _, rfl, b, _, dy, _, _, rfl, eb, T.clP, T.nC, rfl, tb, _, rfl, .inr (SqT.of etb), _, _, rfl, ?_⟩
    refine ⟨_, rfl, a, _, dx, _, _, rfl, ea, T.clP, T.nC, rfl, _, rfl, ta, as, max as.length bs.length, by rw [hm]; rfl, eta, by omega, by omega, fun l1 H1 s1 n1 e1 => ?_⟩
    refine ⟨_, rfl, b, _, dy, _, _, rfl, s1 _ _ eb, T.clP, T.nC, rfl, _, rfl, tb, bs, max as.length bs.length, by rw [hm]; rfl, s1 _ _ etb, by omega, by omega, fun l2 H2 s2 n2 e2 => ⟨_, _, rfl, ?_⟩⟩
    refine ⟨_, rfl, _, rfl, l1, l2, _, _, rfl, SqL.of (s2 _ _ e1), SqL.of e2, fun D nD => ?_⟩
    have l1' := fill_len as (Nat.le_max_left as.length bs.length)
    have l2' := fill_len bs (Nat.le_max_right as.length bs.length)
    generalize he1 : fill as (max as.length bs.length) = xs at e1 l1'
    generalize he2 : fill bs (max as.length bs.length) = ys at e2 l2'
    have hmx : max as.length bs.length ≤ 40 := by omega
    refine lc_it (walk_zip (xs := xs.map V.int) (ys := ys.map V.int) (n := max as.length bs.length) (by rw [List.length_map, List.length_map]; omega)) (fun i H' => Same H2 H' ∧ H' D = some (.lst (((List.zipWith (· + ·) xs ys).take i).map V.int))) ⟨same_new nD, upd_same⟩ (fun i H' _ pv => ⟨SqL.of (pv.1 _ _ (s2 _ _ e1)), SqL.of (pv.1 _ _ e2)⟩) ?_ ?_
    · rintro i v H7 H8 hi ⟨s7, e7⟩ ⟨t, y1, y2, rfl, nt, rfl, hx, hy⟩
      dsimp only at hx hy
      obtain ⟨x, hx', rfl⟩ := getm hx
      obtain ⟨y, hy', rfl⟩ := getm hy
      refine ⟨t, _, rfl, SqT.of upd_same, rfl, _, _, rfl, _, _, rfl, rfl, rfl, _, rfl, _, rfl, _, _, rfl, rfl, _, same_new nt _ _ e7, ?_, ?_, ?_⟩
      · rw [List.length_map, List.length_take, sizeLine_eq]
        omega
      · intro b' o' e'
        rw [upd_ne (ne_of_none e' nD)]
        exact same_new nt _ _ (s7 _ _ e')
      · rw [upd_same, zw_succ hx' hy', List.map_append]
        rfl
    · rintro H7 ⟨s7, e7⟩
      have e8 : (List.zipWith (· + ·) xs ys).take (max as.length bs.length) = List.zipWith (· + ·) xs ys := List.take_of_length_le (by rw [List.length_zipWith]; omega)
      rw [e8] at e7
      refine ⟨_, rfl, D, _, rfl, .inr (SqL.of e7), madeP (by rw [List.length_zipWith]; omega) fun x H9 s9 r9 n9 => ?_⟩
      rw [← he1, ← he2] at r9
      exact q x H9 (((s1.trans s2).trans s7).trans s9) (gone ((s1.trans s2).trans s7) n9) r9
/-! ### - p -/
def NN : List Str := ["self", "negatives", "coefficient"]
theorem sc_neg : FnScope NN ["self"] (defScope (inP 7)) := ⟨rfl, rfl, rfl, by decide +kernel, rfl, by decide +kernel, by decide +kernel⟩
def spNeg (K : Fr) : Sp := fun vs H Q _ => ∃ a cs, vs = [.ref a] ∧ PolAt K H a cs ∧ cs.length ≤ 1000 ∧ ∀ x H', Same H H' → H x = none → PolAt K H' x (pl (cs.map (- ·))) → Q (.ref x) H'
theorem ok_neg {q : Str} (F : FunD K "__neg__" q (defArgs (inP 7)) (defBody (inP 7)) (defScope (inP 7)) [] [] f fd) (T : TT K mg) (I : PId P w K mg base) : FnOk P w K mg base CX0 4 f fd ["self"] (spNeg K) := by
  refine F.ok sc_neg (fun vs H Q E h => ?_) (fun cdv A outer s H vs Q E hr h => ?_)
  · obtain ⟨a, cs, rfl, _⟩ := h
    rfl
  · obtain ⟨a, cs, rfl, ⟨dx, ta, ea, eta⟩, la, q⟩ := h
    refine ⟨_, PSs.nox (pss_cons (ps_setLc (i := 1) (own := [("coefficient", 2)]) (g := gName 2) (tt := tYes) (by rfl) sc_neg.nd rfl rfl (sw_true rfl rfl rfl (by decide +kernel)) (pi_tup (pe_fld (pv 0) rfl)) (blkOk_by (N := NN) (sc := defScope (inP 7)) (by decide +kernel)) (fun _ _ _ _ _ => pg_name (i := 2) sc_neg.nd rfl (Or.inl rfl)) (fun _ _ _ _ _ => pts_nil) (fun _ _ _ _ _ => pe_un un_neg (pv 2)))
      (pss_one (ps_ret (pe_makeS1 T.mkp I (hr.mono (by decide)) (by rfl) (T.gl "Polynomial" (by decide)) pass0 (pv 1))))), ?_⟩
    refine ⟨_, rfl, a, _, dx, _, _, rfl, ea, T.clP, T.nC, rfl, ta, rfl, ⟨_, SqT.of eta⟩, fun D nD => ?_⟩
    refine lc_it (walk_tup (xs := cs.map V.int)) (fun i H' => Same H H' ∧ H' D = some (.lst (((cs.map (- ·)).take i).map V.int))) ⟨same_new nD, upd_same⟩ (fun i H' _ pv => SqT.of (pv.1 _ _ eta)) ?_ ?_
    · rintro i v H7 H8 hi ⟨s7, e7⟩ ⟨rfl, hx⟩
      obtain ⟨x, hx', rfl⟩ := getm hx
      refine ⟨rfl, _, rfl, _, rfl, _, e7, ?_, ?_, ?_⟩
      · rw [List.length_map, List.length_take, List.length_map, sizeLine_eq]
        omega
      · intro b' o' e'
        rw [upd_ne (ne_of_none e' nD)]
        exact s7 _ _ e'
      · have hm : (cs.map (- ·))[i]? = some (-x) := by rw [List.getElem?_map, hx']; rfl
        rw [upd_same, take_succ' hm, List.map_append]
        rfl
    · rintro H7 ⟨s7, e7⟩
      have e8 : (cs.map (- ·)).take (cs.map V.int).length = cs.map (- ·) := List.take_of_length_le (by rw [List.length_map, List.length_map]; exact Nat.le_refl _)
      rw [e8] at e7
      exact ⟨_, rfl, D, _, rfl, .inr (SqL.of e7), madeP (by rw [List.length_map]; omega) fun x H9 s9 r9 n9 => q x H9 (s7.trans s9) (gone s7 n9) r9⟩
end
/-! ### products -/
/-- v more at the place i -/
def addAt (xs : List Int) (i : Nat) (v : Int) : List Int := xs.set i (xs.getD i 0 + v)
/-- behind the first j of bs, a times each, from the place i on -/
def mulIn (a : Int) (i : Nat) (bs : List Int) : Nat → List Int → List Int
  | 0, xs => xs
  | j + 1, xs => addAt (mulIn a i bs j xs) (i + j) (a * bs.getD j 0)
/-- behind the first i of as -/
def mulOut (as bs : List Int) : Nat → List Int
  | 0 => List.replicate (as.length + bs.length) 0
  | i + 1 => mulIn (as.getD i 0) i bs bs.length (mulOut as bs i)
def mull (as bs : List Int) : List Int := pl (mulOut as bs as.length)
theorem addAt_len (xs : List Int) (i : Nat) (v : Int) : (addAt xs i v).length = xs.length := List.length_set
theorem mulIn_len (a : Int) (i : Nat) (bs : List Int) : ∀ j xs, (mulIn a i bs j xs).length = xs.length
  | 0, _ => rfl
  | j + 1, xs => (addAt_len _ _ _).trans (mulIn_len a i bs j xs)
theorem mulOut_len (as bs : List Int) : ∀ i, (mulOut as bs i).length = as.length + bs.length
  | 0 => List.length_replicate
  | i + 1 => (mulIn_len _ _ _ _ _).trans (mulOut_len as bs i)
/-- a bound: n turns, each of at most B -/
def Lim (B n : Nat) (xs : List Int) : Prop := ∀ x ∈ xs, x.natAbs ≤ n * B
theorem Lim.getD {B n : Nat} {xs : List Int} (h : Lim B n xs) (i : Nat) : (xs.getD i 0).natAbs ≤ n * B := by
  rw [List.getD_eq_getElem?_getD]
  cases z : xs[i]? with
  | none => exact Nat.zero_le _
  | some c => exact h c (List.mem_of_getElem? z)
theorem Lim.add {B n : Nat} {xs : List Int} (h : Lim B n xs) {i : Nat} {v : Int} (hv : v.natAbs ≤ B) : Lim B (n + 1) (addAt xs i v) := fun x hx => by
  rw [Nat.succ_mul]
  rcases List.mem_or_eq_of_mem_set hx with z | z
  · have := h x z
    omega
  · have := h.getD i
    rw [z]
    omega
theorem lim_in {B n : Nat} {a : Int} {i : Nat} {bs : List Int} (hB : ∀ b ∈ bs, (a * b).natAbs ≤ B) : ∀ {j xs}, Lim B n xs → j ≤ bs.length → Lim B (n + j) (mulIn a i bs j xs)
  | 0, _, h, _ => h
  | j + 1, xs, h, hj => by
    refine (lim_in hB h (by omega)).add (hB _ ?_)
    rw [List.getD_eq_getElem?_getD, List.getElem?_eq_getElem (show j < bs.length by omega)]
    exact List.getElem_mem _
theorem lim_out {B : Nat} {as bs : List Int} (hB : ∀ a ∈ as, ∀ b ∈ bs, (a * b).natAbs ≤ B) : ∀ {i}, i ≤ as.length → Lim B (i * bs.length) (mulOut as bs i)
  | 0, _ => fun x hx => by
    rw [List.eq_of_mem_replicate hx]
    exact Nat.zero_le _
  | i + 1, hi => by
    rw [Nat.succ_mul]
    refine lim_in (hB _ ?_) (lim_out hB (by omega)) (Nat.le_refl _)
    rw [List.getD_eq_getElem?_getD, List.getElem?_eq_getElem (show i < as.length by omega)]
    exact List.getElem_mem _
theorem pl_mem : ∀ {xs : List Int} {c : Int}, c ∈ pl xs → c ∈ xs
  | x :: xs, c, h => by
    unfold pl at h
    split at h
    · split at h
      · cases h
      · rw [List.mem_singleton.mp h]
        exact List.mem_cons_self
    · rename_i d ds e
      rcases List.mem_cons.mp h with z | z
      · rw [z]
        exact List.mem_cons_self
      · exact List.mem_cons_of_mem _ (pl_mem (by rw [e]; exact z))
section
variable {P : Program} {w : World} {K : Fr} {mg : Str → Option Value} {base : Heap} {f : Addr} {fd : FuncData}
/-! ### * -/
def NM : List Str := ["self", "other", "found", "at", "own", "to", "times"]
theorem sc_mul : FnScope NM ["self", "other"] (defScope (inP 6)) := ⟨rfl, rfl, rfl, by decide +kernel, rfl, by decide +kernel, by decide +kernel⟩
theorem ok_mul {q : Str} (F : FunD K "__mul__" q (defArgs (inP 6)) (defBody (inP 6)) (defScope (inP 6)) [] [] f fd) (T : TT K mg) (I : PId P w K mg base) : FnOk P w K mg base CX0 4 f fd ["self", "other"] (spBin K mull) := by
  refine F.ok sc_mul (fun vs H Q E h => ?_) (fun cdv A outer s H vs Q E hr h => ?_)
  · obtain ⟨a, b, as, bs, rfl, _⟩ := h
    rfl
  · obtain ⟨ra, rb, as, bs, rfl, ⟨dx, l1, ea, e1⟩, ⟨dy, l2, eb, e2⟩, la, lb, ba, bb, q⟩ := h
    refine ⟨_, PSs.nox (pss_cons (ps_if (pt_not (pt_val (pe_callB call_isi (by rfl) T.fre (by decide +kernel) (pa_cons (pv 1) (pa_cons (pe_glob (v := .ref (PC K)) (by rfl) (T.gl "Polynomial" (by decide)) rfl) pa_nil))))) (pss_one ps_never) pss_nil)
      (pss_cons (ps_set (i := 2) sc_mul.nd rfl (Or.inl rfl) (pe_op op_rep (pe_lst (pa_cons pe_int pa_nil)) (pe_op op_add (pe_callB call_len_seq (by rfl) T.fre (by decide +kernel) (pa_cons (pe_fld (pv 0) rfl) pa_nil)) (pe_callB call_len_seq (by rfl) T.fre (by decide +kernel) (pa_cons (pe_fld (pv 1) rfl) pa_nil)))))
      (pss_cons (ps_for PassesOwn.never rfl (pi_enumT (by rfl) T.fre (pa_cons (pe_fld (pv 0) rfl) pa_nil)) (pg_tup (by rfl) (pgs_cons (pg_name (i := 3) sc_mul.nd rfl (.inl rfl)) (pgs_cons (pg_name (i := 4) sc_mul.nd rfl (.inl rfl)) pgs_nil)))
        (pss_one (ps_for PassesOwn.never rfl (pi_enumT (by rfl) T.fre (pa_cons (pe_fld (pv 1) rfl) pa_nil)) (pg_tup (by rfl) (pgs_cons (pg_name (i := 5) sc_mul.nd rfl (.inl rfl)) (pgs_cons (pg_name (i := 6) sc_mul.nd rfl (.inl rfl)) pgs_nil)))
          (pss_one (ps_asg (pe_op op_add (pe_ix ix_list (pv 2) (pe_op op_add (pv 3) (pv 5)) (fun _ _ => rfl)) (pe_op op_mulW (pv 4) (pv 6))) (pg_sub (pv 2) (pe_op op_add (pv 3) (pv 5)) set_list))))))
      (pss_one (ps_ret (pe_makeS1 T.mkp I (hr.mono (by decide)) (by rfl) (T.gl "Polynomial" (by decide)) pass0 (pv 2))))))), ?_⟩
    have la' : (as.map V.int).length = as.length := List.length_map _
    have lb' : (bs.map V.int).length = bs.length := List.length_map _
    have lz : 10000 ≤ sizeLine := by rw [sizeLine_eq]; decide
    have tn : ((((as.map V.int).length : Nat) : Int) + ((bs.map V.int).length : Nat)).toNat = as.length + bs.length := by rw [la', lb']; omega
    refine ⟨_, rfl, _, _, _, _, true, rfl, .own _, T.tyP eb, T.kitP, true, rfl, iteF ?_⟩
    refine ⟨by show 1 ≤ sizeLine; omega, fun l0 n0 => ?_⟩
    have s0 : Same H (upd H l0 (.lst [.int 0])) := same_new n0
    refine ⟨_, rfl, ra, _, dx, _, _, rfl, s0 _ _ ea, T.clP, T.nC, rfl, l1, _, rfl, .inr (SqT.of (s0 _ _ e1)), _, rfl, rb, _, dy, _, _, rfl, s0 _ _ eb, T.clP, T.nC, rfl, l2, _, rfl, .inr (SqT.of (s0 _ _ e2)), _, _, rfl, rfl, l0, _, _, rfl, rfl, upd_same, by rw [la', lb']; omega, by rw [la', lb']; omega, by rw [tn, show [V.int 0].length = 1 from rfl]; omega, fun l3 n3 => ?_⟩
    rw [tn, rep0]
    have s3 : Same H (upd (upd H l0 (.lst [.int 0])) l3 (.lst ((mulOut as bs 0).map V.int))) := s0.trans (same_new n3)
    have h3 : H l3 = none := gone s0 n3
    have e3 : (upd (upd H l0 (.lst [.int 0])) l3 (.lst ((mulOut as bs 0).map V.int))) l3 = some (.lst ((mulOut as bs 0).map V.int)) := upd_same
    refine ⟨_, rfl, ra, _, dx, _, _, rfl, s3 _ _ ea, T.clP, T.nC, rfl, l1, _, rfl, SqT.of (s3 _ _ e1), ?_⟩
    refine for_it walk_enumT (fun i σ H' => Same H H' ∧ H' l3 = some (.lst ((mulOut as bs i).map V.int)) ∧ ∃ u3 u4 u5 u6, σ = [some (.ref ra), some (.ref rb), some (.ref l3), u3, u4, u5, u6]) ⟨s3, e3, none, none, none, none, rfl⟩ (fun i σ H' _ pv => SqT.of (pv.1 _ _ e1)) ?_ ?_
    · rintro i v σ H7 H8 hi ⟨s7, e7, u3, u4, u5, u6, rfl⟩ ⟨t, y1, y2, rfl, nt, rfl, hx, hy⟩
      dsimp only at hx hy
      cases hx
      obtain ⟨a, ha, rfl⟩ := getm hy
      have hae : as.getD i 0 = a := by rw [List.getD_eq_getElem?_getD, ha]; rfl
      have s8 := s7.trans (same_new (o := .tup [.int (i : Nat), .int a]) nt)
      have e8 : (upd H7 t (.tup [.int (i : Nat), .int a])) l3 = some (.lst ((mulOut as bs i).map V.int)) := same_new nt _ _ e7
      refine ⟨t, _, rfl, SqT.of upd_same, rfl, _, _, rfl, _, _, rfl, rfl, ?_⟩
      refine ⟨_, rfl, rb, _, dy, _, _, rfl, s8 _ _ eb, T.clP, T.nC, rfl, l2, _, rfl, SqT.of (s8 _ _ e2), ?_⟩
      refine for_it walk_enumT (fun j σ H' => Same H H' ∧ H' l3 = some (.lst ((mulIn a i bs j (mulOut as bs i)).map V.int)) ∧ ∃ u5 u6, σ = [some (.ref ra), some (.ref rb), some (.ref l3), some (.int (i : Nat)), some (.int a), u5, u6]) ⟨s8, e8, u5, u6, rfl⟩ (fun i σ H' _ pv => SqT.of (pv.1 _ _ e2)) ?_ ?_
      · rintro j v σ H9 H10 hj ⟨s9, e9, u5, u6, rfl⟩ ⟨t2, y1, y2, rfl, nt2, rfl, hx, hy⟩
        dsimp only at hx hy
        cases hx
        obtain ⟨b, hb, rfl⟩ := getm hy
        rw [la'] at hi
        rw [lb'] at hj
        have hbe : bs.getD j 0 = b := by rw [List.getD_eq_getElem?_getD, hb]; rfl
        have e10 : (upd H9 t2 (.tup [.int (j : Nat), .int b])) l3 = some (.lst ((mulIn a i bs j (mulOut as bs i)).map V.int)) := same_new nt2 _ _ e9
        have s10 := s9.trans (same_new (o := .tup [.int (j : Nat), .int b]) nt2)
        have hlen : (mulIn a i bs j (mulOut as bs i)).length = as.length + bs.length := (mulIn_len _ _ _ _ _).trans (mulOut_len _ _ _)
        have hij : ((i : Nat) : Int) + ((j : Nat) : Int) = ((i + j : Nat) : Int) := by omega
        have hat : (mulIn a i bs j (mulOut as bs i))[i + j]? = some ((mulIn a i bs j (mulOut as bs i)).getD (i + j) 0) := by
          rw [List.getD_eq_getElem?_getD, List.getElem?_eq_getElem (show i + j < _ by omega)]
          rfl
        refine ⟨t2, _, rfl, SqT.of upd_same, rfl, _, _, rfl, _, _, rfl, rfl, ?_⟩
        refine ⟨_, rfl, _, rfl, _, rfl, _, _, rfl, rfl, l3, _, _, _, rfl, rfl, SqL.of e10, by rw [hij]; exact atI_nat (getM hat), _, rfl, _, rfl, a, b, rfl, rfl, cmW (ba a (List.mem_of_getElem? ha)) (bb b (List.mem_of_getElem? hb)), _, _, rfl, rfl, ?_⟩
        refine ⟨_, rfl, _, rfl, _, rfl, _, _, rfl, rfl, l3, _, _, i + j, rfl, rfl, e10, ?_, ?_⟩
        · rw [hij, List.length_map, hlen]
          unfold ixN
          rw [if_pos (by omega), if_pos (by omega), Int.toNat_natCast]
        · refine ⟨fun b' o' e' => ?_, ?_, _, _, rfl⟩
          · rw [upd_ne (ne_of_none e' h3)]
            exact s10 _ _ e'
          · rw [upd_same]
            show some (HO.lst _) = some (HO.lst ((addAt (mulIn a i bs j (mulOut as bs i)) (i + j) (a * bs.getD j 0)).map V.int))
            unfold addAt
            rw [hbe, List.map_set]
      · rintro σ H9 ⟨s9, e9, u5, u6, rfl⟩
        rw [lb'] at e9
        refine ⟨s9, ?_, _, _, _, _, rfl⟩
        show _ = some (HO.lst ((mulIn (as.getD i 0) i bs bs.length (mulOut as bs i)).map V.int))
        rw [hae]
        exact e9
    · rintro σ H7 ⟨s7, e7, u3, u4, u5, u6, rfl⟩
      rw [la'] at e7
      exact ⟨_, rfl, l3, _, rfl, .inr (SqL.of e7), madeP (by rw [mulOut_len]; omega) fun x H9 s9 r9 n9 => q x H9 (s7.trans s9) (gone s7 n9) r9⟩
end
end K71

namespace SgM
/-! ### the mathematics of sign_runs: moved rows, homogeneous values, changes of sign -/
/-- the value at x, the lowest coefficient first -/
def wat : List Int → Int → Int
  | [], _ => 0
  | c :: cs, d => wat cs d * d + c
/-- the sum of c_j x^j y^(n-j) -/
def hw : List Int → Int → Int → Int
  | [], _, _ => 0
  | c :: cs, x, y => c * y ^ cs.length + x * hw cs x y
theorem hw_one : ∀ (cs : List Int) (x : Int), hw cs x 1 = wat cs x
  | [], _ => rfl
  | c :: cs, x => by
    show c * 1 ^ cs.length + x * hw cs x 1 = wat cs x * x + c
    rw [hw_one cs x, Int.one_pow, Int.mul_comm x]
    omega
/-- Horner's row -/
def syn (b : Int) : List Int → List Int
  | [] => []
  | c :: cs => (c + b * (syn b cs).headD 0) :: syn b cs
theorem syn_len (b : Int) : ∀ cs, (syn b cs).length = cs.length
  | [] => rfl
  | c :: cs => congrArg Nat.succ (syn_len b cs)
theorem syn_hw (b : Int) (z y : Int) : ∀ cs : List Int, hw cs z y = (z - b * y) * hw (syn b cs).tail z y + (syn b cs).headD 0 * y ^ (cs.length - 1)
  | [] => by simp [hw, syn]
  | c :: cs => by
    have ih := syn_hw b z y cs
    show c * y ^ cs.length + z * hw cs z y = (z - b * y) * hw (syn b cs) z y + (c + b * (syn b cs).headD 0) * y ^ cs.length
    rw [ih]
    cases e : syn b cs with
    | nil =>
      have l := syn_len b cs
      rw [e] at l
      simp [hw]
    | cons h t =>
      have l := syn_len b cs
      rw [e, List.length_cons] at l
      show c * y ^ cs.length + z * ((z - b * y) * hw t z y + h * y ^ (cs.length - 1)) = (z - b * y) * (h * y ^ t.length + z * hw t z y) + (c + b * h) * y ^ cs.length
      rw [← l, Nat.add_sub_cancel, Int.pow_succ]
      grind
def mv (b : Int) : Nat → List Int → List Int
  | 0, _ => []
  | n + 1, cs => match syn b cs with
    | [] => []
    | h :: t => h :: mv b n t
theorem mv_len (b : Int) : ∀ (n : Nat) (cs : List Int), cs.length = n → (mv b n cs).length = n
  | 0, cs, _ => rfl
  | n + 1, cs, h => by
    unfold mv
    have l := syn_len b cs
    cases e : syn b cs with
    | nil => rw [e, h] at l; cases l
    | cons x t =>
      rw [e, h] at l
      show (mv b n t).length + 1 = n + 1
      rw [mv_len b n t (Nat.succ.inj l)]
theorem mv_hw (b x y : Int) : ∀ (n : Nat) (cs : List Int), cs.length = n → hw (mv b n cs) x y = hw cs (x + b * y) y
  | 0, cs, h => by
    rw [List.length_eq_zero_iff.mp h]
    rfl
  | n + 1, cs, h => by
    have k := syn_hw b (x + b * y) y cs
    have l := syn_len b cs
    unfold mv
    cases e : syn b cs with
    | nil => rw [e, h] at l; cases l
    | cons c t =>
      rw [e, h] at l
      rw [e, h] at k
      have lt : t.length = n := Nat.succ.inj l
      show c * y ^ (mv b n t).length + x * hw (mv b n t) x y = _
      rw [mv_len b n t lt, mv_hw b x y n t lt, k]
      show _ = (x + b * y - b * y) * hw t (x + b * y) y + c * y ^ n
      rw [Int.add_sub_cancel]
      omega
theorem hw_app (x y : Int) (c : Int) : ∀ cs : List Int, hw (cs ++ [c]) x y = y * hw cs x y + c * x ^ cs.length
  | [] => by simp [hw]
  | d :: ds => by
    show d * y ^ (ds ++ [c]).length + x * hw (ds ++ [c]) x y = y * (d * y ^ ds.length + x * hw ds x y) + c * x ^ (ds.length + 1)
    rw [hw_app x y c ds, List.length_append, List.length_singleton, Int.pow_succ, Int.pow_succ]
    grind
theorem hw_rev (x y : Int) : ∀ cs : List Int, hw cs.reverse x y = hw cs y x
  | [] => rfl
  | c :: cs => by
    rw [List.reverse_cons, hw_app, hw_rev x y cs, List.length_reverse]
    show _ = c * x ^ cs.length + y * hw cs y x
    omega
/-- coefficients times the powers of h -/
def scl (h : Int) : Int → List Int → List Int
  | _, [] => []
  | p, c :: cs => c * p :: scl h (p * h) cs
theorem scl_len (h : Int) : ∀ (p : Int) (cs : List Int), (scl h p cs).length = cs.length
  | _, [] => rfl
  | p, _ :: cs => congrArg Nat.succ (scl_len h (p * h) cs)
theorem scl_hw (h u : Int) : ∀ (p : Int) (cs : List Int), hw (scl h p cs) u h = p * h ^ (cs.length - 1) * wat cs u
  | _, [] => by simp [hw, scl, wat]
  | p, c :: cs => by
    show c * p * h ^ (scl h (p * h) cs).length + u * hw (scl h (p * h) cs) u h = p * h ^ (cs.length + 1 - 1) * (wat cs u * u + c)
    rw [scl_len, scl_hw h u (p * h) cs, Nat.add_sub_cancel]
    cases cs with
    | nil => simp [wat]; grind
    | cons d ds =>
      rw [List.length_cons, Nat.add_sub_cancel, Int.pow_succ]
      grind
/-- what most_roots makes, and what it says of the values between -/
def bern (h : Int) (cs : List Int) : List Int := mv 1 cs.length (scl h 1 cs).reverse
theorem bern_len (h : Int) (cs : List Int) : (bern h cs).length = cs.length := mv_len 1 _ _ (by rw [List.length_reverse, scl_len])
theorem bern_hw (u v : Int) (cs : List Int) : hw (bern (u + v) cs) v u = (u + v) ^ (cs.length - 1) * wat cs u := by
  unfold bern
  rw [mv_hw 1 v u _ _ (by rw [List.length_reverse, scl_len]), hw_rev, Int.one_mul, Int.add_comm v u, scl_hw, Int.one_mul]
end SgM

namespace SgM
/-! ### changes of sign -/
def chB : List Bool → Nat
  | [] => 0
  | [_] => 0
  | a :: b :: r => (if a = b then 0 else 1) + chB (b :: r)
/-- the signs of those that are not 0 -/
def sgs : List Int → List Bool
  | [] => []
  | c :: cs => if c = 0 then sgs cs else decide (0 < c) :: sgs cs
def Same (b : Bool) (cs : List Int) : Prop := ∀ c ∈ cs, c ≠ 0 → decide (0 < c) = b
def Some_ (cs : List Int) : Prop := ∃ c ∈ cs, c ≠ 0
theorem sgs_app : ∀ as bs : List Int, sgs (as ++ bs) = sgs as ++ sgs bs
  | [], _ => rfl
  | a :: as, bs => by
    show (if a = 0 then sgs (as ++ bs) else decide (0 < a) :: sgs (as ++ bs)) = (if a = 0 then sgs as else decide (0 < a) :: sgs as) ++ sgs bs
    rw [sgs_app as bs]
    split <;> rfl
theorem sgs_mem : ∀ {cs : List Int} {b : Bool}, b ∈ sgs cs → ∃ c ∈ cs, c ≠ 0 ∧ decide (0 < c) = b
  | c :: cs, b, h => by
    unfold sgs at h
    split at h
    · obtain ⟨x, hx, r⟩ := sgs_mem h
      exact ⟨x, List.mem_cons_of_mem _ hx, r⟩
    · rename_i n
      rcases List.mem_cons.mp h with z | z
      · exact ⟨c, List.mem_cons_self, n, z.symm⟩
      · obtain ⟨x, hx, r⟩ := sgs_mem z
        exact ⟨x, List.mem_cons_of_mem _ hx, r⟩
theorem sgs_nil : ∀ {cs : List Int}, sgs cs = [] → ∀ c ∈ cs, c = 0
  | [], _, c, hc => by cases hc
  | x :: cs, h, c, hc => by
    unfold sgs at h
    split at h
    · rename_i z
      rcases List.mem_cons.mp hc with y | y
      · rw [y, z]
      · exact sgs_nil h c y
    · cases h
theorem Same.cons {b : Bool} {c : Int} {cs : List Int} (h : c ≠ 0 → decide (0 < c) = b) (h' : Same b cs) : Same b (c :: cs) := fun x hx n => by
  rcases List.mem_cons.mp hx with z | z
  · rw [z] at n ⊢
    exact h n
  · exact h' x z n
theorem ch_none : ∀ {cs : List Int}, chB (sgs cs) = 0 → ∃ b, Same b cs
  | [], _ => ⟨true, fun c hc => by cases hc⟩
  | c :: cs, h => by
    unfold sgs at h
    split at h
    · rename_i z
      obtain ⟨b, s⟩ := ch_none h
      exact ⟨b, s.cons fun n => absurd z n⟩
    · cases e : sgs cs with
      | nil => exact ⟨decide (0 < c), Same.cons (fun _ => rfl) fun x hx n => absurd (sgs_nil e x hx) n⟩
      | cons d r =>
        rw [e] at h
        unfold chB at h
        have hd : decide (0 < c) = d := Classical.byContradiction fun z => by rw [if_neg z] at h; omega
        have h0 : chB (sgs cs) = 0 := by rw [e]; omega
        obtain ⟨b, s⟩ := ch_none h0
        obtain ⟨x, hx, nx, sx⟩ := sgs_mem (cs := cs) (b := d) (by rw [e]; exact List.mem_cons_self)
        have := s x hx nx
        exact ⟨b, s.cons fun _ => by rw [hd, ← sx, this]⟩
theorem ch_one : ∀ {cs : List Int}, chB (sgs cs) = 1 → ∃ as bs b, cs = as ++ bs ∧ Same b as ∧ Same (!b) bs ∧ Some_ as ∧ Some_ bs
  | [], h => by cases h
  | c :: cs, h => by
    unfold sgs at h
    split at h
    · rename_i z
      obtain ⟨as, bs, b, e, s1, s2, ⟨x, hx, nx⟩, t2⟩ := ch_one h
      exact ⟨c :: as, bs, b, by rw [e]; rfl, s1.cons fun n => absurd z n, s2, ⟨x, List.mem_cons_of_mem _ hx, nx⟩, t2⟩
    · rename_i nc
      cases e : sgs cs with
      | nil => rw [e] at h; cases h
      | cons d r =>
        rw [e] at h
        unfold chB at h
        obtain ⟨x, hx, nx, sx⟩ := sgs_mem (cs := cs) (b := d) (by rw [e]; exact List.mem_cons_self)
        by_cases hd : decide (0 < c) = d
        · rw [if_pos hd] at h
          have h1 : chB (sgs cs) = 1 := by rw [e]; omega
          obtain ⟨as, bs, b, e', s1, s2, t1, t2⟩ := ch_one h1
          have hb : d = b := by
            rw [e', sgs_app] at e
            cases ea : sgs as with
            | nil =>
              obtain ⟨y, hy, ny⟩ := t1
              exact absurd (sgs_nil ea y hy) ny
            | cons f g =>
              rw [ea] at e
              have : f = d := by injection e
              obtain ⟨y, hy, ny, sy⟩ := sgs_mem (cs := as) (b := f) (by rw [ea]; exact List.mem_cons_self)
              rw [← this, ← sy]
              exact s1 y hy ny
          exact ⟨c :: as, bs, b, by rw [e']; rfl, s1.cons fun _ => by rw [hd, hb], s2, ⟨c, List.mem_cons_self, nc⟩, t2⟩
        · rw [if_neg hd] at h
          have h0 : chB (sgs cs) = 0 := by rw [e]; omega
          obtain ⟨b, s⟩ := ch_none h0
          have hb : b = d := by rw [← s x hx nx, sx]
          refine ⟨[c], cs, decide (0 < c), rfl, Same.cons (fun _ => rfl) (fun y hy => by cases hy), ?_, ⟨c, List.mem_singleton.mpr rfl, nc⟩, ⟨x, hx, nx⟩⟩
          have : (!decide (0 < c)) = b := by
            rw [hb]
            revert hd
            cases decide (0 < c) <;> cases d <;> simp
          rw [this]
          exact s
/-! ### values of rows of one sign -/
theorem hw_map_neg (x y : Int) : ∀ cs : List Int, hw (cs.map (- ·)) x y = - hw cs x y
  | [] => rfl
  | c :: cs => by
    show -c * y ^ (cs.map (- ·)).length + x * hw (cs.map (- ·)) x y = -(c * y ^ cs.length + x * hw cs x y)
    rw [hw_map_neg x y cs, List.length_map, Int.neg_mul, Int.mul_neg]
    omega
theorem pow_p {y : Int} (h : 0 < y) (n : Nat) : 0 < y ^ n := Int.pow_pos h
theorem hw_nn {x y : Int} (hx : 0 < x) (hy : 0 < y) : ∀ {cs : List Int}, (∀ c ∈ cs, 0 ≤ c) → 0 ≤ hw cs x y
  | [], _ => Int.le_refl 0
  | c :: cs, h => Int.add_nonneg (Int.mul_nonneg (h c List.mem_cons_self) (Int.le_of_lt (pow_p hy _))) (Int.mul_nonneg (Int.le_of_lt hx) (hw_nn hx hy fun c hc => h c (List.mem_cons_of_mem _ hc)))
theorem hw_pos {x y : Int} (hx : 0 < x) (hy : 0 < y) : ∀ {cs : List Int}, (∀ c ∈ cs, 0 ≤ c) → (∃ c ∈ cs, 0 < c) → 0 < hw cs x y
  | [], _, ⟨c, hc, _⟩ => by cases hc
  | d :: cs, h, ⟨c, hc, pc⟩ => by
    have hd := h d List.mem_cons_self
    have hr : ∀ c ∈ cs, 0 ≤ c := fun c hc => h c (List.mem_cons_of_mem _ hc)
    show 0 < d * y ^ cs.length + x * hw cs x y
    rcases List.mem_cons.mp hc with z | z
    · rw [z] at pc
      have a := Int.mul_pos pc (pow_p hy cs.length)
      have b := Int.mul_nonneg (Int.le_of_lt hx) (hw_nn hx hy hr)
      omega
    · have a := Int.mul_nonneg hd (Int.le_of_lt (pow_p hy cs.length))
      have b := Int.mul_pos hx (hw_pos hx hy hr ⟨c, z, pc⟩)
      omega
theorem pow_le {a b : Int} (h0 : 0 ≤ a) (h : a ≤ b) : ∀ n : Nat, a ^ n ≤ b ^ n
  | 0 => by rw [Int.pow_zero, Int.pow_zero]; exact Int.le_refl _
  | n + 1 => by
    rw [Int.pow_succ, Int.pow_succ]
    exact Int.mul_le_mul (pow_le h0 h n) h h0 (Int.pow_nonneg (Int.le_trans h0 h))
theorem hw_less {x1 y1 x2 y2 : Int} (a1 : 0 < x1) (b1 : 0 < y1) (a2 : 0 < x2) (b2 : 0 < y2) (h : x1 * y2 ≤ x2 * y1) : ∀ {cs : List Int}, (∀ c ∈ cs, 0 ≤ c) → hw cs x2 y2 * x1 ^ (cs.length - 1) ≤ hw cs x1 y1 * x2 ^ (cs.length - 1)
  | [], _ => by simp [hw]
  | [c], _ => by
    show (c * y2 ^ 0 + x2 * 0) * x1 ^ 0 ≤ (c * y1 ^ 0 + x1 * 0) * x2 ^ 0
    simp
  | c :: d :: ds, hc => by
    have ih := hw_less a1 b1 a2 b2 h (cs := d :: ds) fun c h => hc c (List.mem_cons_of_mem _ h)
    have c0 := hc c List.mem_cons_self
    show (c * y2 ^ (ds.length + 1) + x2 * hw (d :: ds) x2 y2) * x1 ^ (ds.length + 1) ≤ (c * y1 ^ (ds.length + 1) + x1 * hw (d :: ds) x1 y1) * x2 ^ (ds.length + 1)
    have ih' : hw (d :: ds) x2 y2 * x1 ^ ds.length ≤ hw (d :: ds) x1 y1 * x2 ^ ds.length := ih
    have p := pow_le (Int.le_of_lt (Int.mul_pos a1 b2)) h (ds.length + 1)
    rw [Int.mul_pow, Int.mul_pow] at p
    have p1 := Int.mul_le_mul_of_nonneg_left p c0
    have q1 := Int.mul_le_mul_of_nonneg_left ih' (Int.le_of_lt (Int.mul_pos a1 a2))
    rw [Int.pow_succ x1, Int.pow_succ x2] at *
    grind
theorem hw_apps (x y : Int) : ∀ as bs : List Int, hw (as ++ bs) x y = y ^ bs.length * hw as x y + x ^ as.length * hw bs x y
  | [], bs => by simp [hw]
  | a :: as, bs => by
    show a * y ^ (as ++ bs).length + x * hw (as ++ bs) x y = y ^ bs.length * (a * y ^ as.length + x * hw as x y) + x ^ (as.length + 1) * hw bs x y
    rw [hw_apps x y as bs, List.length_append, Int.pow_add, Int.pow_succ]
    grind
theorem hw_more {x1 y1 x2 y2 : Int} (a1 : 0 < x1) (b1 : 0 < y1) (a2 : 0 < x2) (b2 : 0 < y2) (h : x1 * y2 ≤ x2 * y1) {cs : List Int} (hc : ∀ c ∈ cs, 0 ≤ c) : hw cs x1 y1 * y2 ^ (cs.length - 1) ≤ hw cs x2 y2 * y1 ^ (cs.length - 1) := by
  have := hw_less b2 a2 b1 a1 (by rw [Int.mul_comm y2, Int.mul_comm y1]; exact h) (cs := cs.reverse) fun c h => hc c (List.mem_reverse.mp h)
  rw [hw_rev, hw_rev, List.length_reverse] at this
  exact this
/-- a row of + and then - : once the value is not above 0 it is below 0 at all greater quotients -/
theorem hw_once {x1 y1 x2 y2 : Int} (a1 : 0 < x1) (b1 : 0 < y1) (a2 : 0 < x2) (b2 : 0 < y2) (h : x1 * y2 < x2 * y1) {as bs : List Int} (ha : ∀ c ∈ as, 0 ≤ c) (hb : ∀ c ∈ bs, c ≤ 0) (pa : ∃ c ∈ as, 0 < c) (pb : ∃ c ∈ bs, c < 0) (n : hw (as ++ bs) x1 y1 ≤ 0) : hw (as ++ bs) x2 y2 < 0 := by
  rw [hw_apps] at n ⊢
  have hb' : ∀ c ∈ bs.map (- ·), 0 ≤ c := fun c hc => by
    obtain ⟨d, hd, rfl⟩ := List.mem_map.mp hc
    have := hb d hd
    omega
  have pb' : ∃ c ∈ bs.map (- ·), 0 < c := by
    obtain ⟨d, hd, z⟩ := pb
    exact ⟨-d, List.mem_map.mpr ⟨d, hd, rfl⟩, by omega⟩
  have l1 := hw_less a1 b1 a2 b2 (Int.le_of_lt h) ha
  have l2 := hw_more a1 b1 a2 b2 (Int.le_of_lt h) hb'
  have q2 := hw_pos a2 b2 hb' pb'
  rw [hw_map_neg, hw_map_neg, List.length_map] at l2
  rw [hw_map_neg] at q2
  obtain ⟨m, hm⟩ : ∃ m, as.length = m + 1 := by
    cases as with
    | nil => obtain ⟨c, hc, _⟩ := pa; cases hc
    | cons c r => exact ⟨_, rfl⟩
  obtain ⟨k, hk⟩ : ∃ k, bs.length = k + 1 := by
    cases bs with
    | nil => obtain ⟨c, hc, _⟩ := pb; cases hc
    | cons c r => exact ⟨_, rfl⟩
  rw [hm, Nat.add_sub_cancel] at l1
  rw [hk, Nat.add_sub_cancel] at l2
  rw [hm, hk, Int.pow_succ, Int.pow_succ] at n ⊢
  have X1 := pow_p a1 m
  have X2 := pow_p a2 m
  have Y1 := pow_p b1 k
  have Y2 := pow_p b2 k
  generalize hw as x1 y1 = α1 at *
  generalize hw as x2 y2 = α2 at *
  generalize hw bs x1 y1 = β1 at *
  generalize hw bs x2 y2 = β2 at *
  generalize x1 ^ m = P1 at *
  generalize x2 ^ m = P2 at *
  generalize y1 ^ k = R1 at *
  generalize y2 ^ k = R2 at *
  have n' : R1 * y1 * α1 ≤ -(P1 * x1 * β1) := by omega
  have e1 := Int.mul_le_mul_of_nonneg_left l1 (Int.le_of_lt (Int.mul_pos (Int.mul_pos Y2 b2) (Int.mul_pos Y1 b1)))
  have e2 := Int.mul_le_mul_of_nonneg_left n' (Int.le_of_lt (Int.mul_pos (Int.mul_pos Y2 b2) X2))
  have e3 := Int.mul_le_mul_of_nonneg_left l2 (Int.le_of_lt (Int.mul_pos (Int.mul_pos b2 X2) (Int.mul_pos X1 a1)))
  have e4 := Int.mul_pos (Int.mul_pos (Int.mul_pos X1 X2) (Int.mul_pos Y1 q2)) (show 0 < x2 * y1 - x1 * y2 by omega)
  refine Classical.byContradiction fun g => ?_
  have e5 := Int.mul_nonneg (Int.not_lt.mp g) (Int.le_of_lt (Int.mul_pos (Int.mul_pos X1 Y1) b1))
  grind
end SgM

namespace SgM
/-! ### a bound beyond which the sign stays -/
def Bnd (A B : Int) : List Int → Prop
  | [] => False
  | [a] => A ≤ a
  | c :: d :: r => (-(A * B ^ (d :: r).length) ≤ c) ∧ Bnd A B (d :: r)
theorem far_pos {A B d : Int} (hA : 0 < A) (hB : 0 < B) (hd : 2 * B ≤ d) : ∀ {cs : List Int}, Bnd A B cs → A * B ^ (cs.length - 1) ≤ wat cs d
  | [a], h => by
    show A * B ^ 0 ≤ 0 * d + a
    have : A ≤ a := h
    simp
    exact this
  | c :: e :: r, h => by
    obtain ⟨h1, h2⟩ := h
    have ih := far_pos hA hB hd h2
    show A * B ^ (r.length + 1) ≤ wat (e :: r) d * d + c
    have ih' : A * B ^ r.length ≤ wat (e :: r) d := ih
    have h1' : -(A * B ^ (r.length + 1)) ≤ c := h1
    have p := Int.mul_pos hA (pow_p hB r.length)
    rw [Int.pow_succ] at h1' ⊢
    generalize B ^ r.length = P at *
    generalize wat (e :: r) d = W at *
    have a1 : A * P * (2 * B) ≤ A * P * d := Int.mul_le_mul_of_nonneg_left hd (Int.le_of_lt p)
    have a2 : A * P * d ≤ W * d := Int.mul_le_mul_of_nonneg_right ih' (by omega)
    grind
/-! ### what no change and one change of sign say of the values between -/
theorem wat_mv (b x : Int) (cs : List Int) : wat (mv b cs.length cs) x = wat cs (x + b) := by
  rw [← hw_one, mv_hw b x 1 _ _ rfl, Int.mul_one, hw_one]
/-- the row that most_roots counts the changes of -/
def row (low high : Int) (cs : List Int) : List Int := bern (high - low) (mv low cs.length cs)
theorem row_len (low high : Int) (cs : List Int) : (row low high cs).length = cs.length := (bern_len _ _).trans (mv_len low _ _ rfl)
theorem row_hw (low high d : Int) (cs : List Int) : hw (row low high cs) (high - d) (d - low) = (high - low) ^ (cs.length - 1) * wat cs d := by
  have e : high - low = (d - low) + (high - d) := by omega
  unfold row
  rw [e, bern_hw, mv_len low _ _ rfl, wat_mv, show d - low + low = d by omega]
theorem wat_neg (x : Int) : ∀ cs : List Int, wat (cs.map (- ·)) x = - wat cs x
  | [] => rfl
  | c :: cs => by
    show wat (cs.map (- ·)) x * x + -c = -(wat cs x * x + c)
    rw [wat_neg x cs, Int.neg_mul]
    omega
/-- the sign: -1, 0 or 1 -/
def sg (z : Int) : Int := if z = 0 then 0 else if 0 < z then 1 else -1
theorem sg_pos {z : Int} (h : 0 < z) : sg z = 1 := by
  unfold sg
  rw [if_neg (by omega), if_pos h]
theorem sg_neg {z : Int} (h : z < 0) : sg z = -1 := by
  unfold sg
  rw [if_neg (by omega), if_neg (by omega)]
theorem sg_zero : sg 0 = 0 := rfl
theorem sg_one {z : Int} (h : sg z = 1) : 0 < z := by
  unfold sg at h
  split at h
  · cases h
  · split at h
    · assumption
    · cases h
theorem sg_mone {z : Int} (h : sg z = -1) : z < 0 := by
  unfold sg at h
  split at h
  · cases h
  · split at h
    · cases h
    · omega
theorem Same.nn {cs : List Int} (h : Same true cs) : ∀ c ∈ cs, 0 ≤ c := fun c hc => by
  by_cases z : c = 0
  · omega
  · have := of_decide_eq_true (h c hc z)
    omega
theorem Same.np {cs : List Int} (h : Same false cs) : ∀ c ∈ cs, c ≤ 0 := fun c hc => by
  by_cases z : c = 0
  · omega
  · have := of_decide_eq_false (h c hc z)
    omega
theorem Same.some_p {cs : List Int} (h : Same true cs) (n : Some_ cs) : ∃ c ∈ cs, 0 < c := let ⟨c, hc, nc⟩ := n; ⟨c, hc, of_decide_eq_true (h c hc nc)⟩
theorem Same.some_n {cs : List Int} (h : Same false cs) (n : Some_ cs) : ∃ c ∈ cs, c < 0 := let ⟨c, hc, nc⟩ := n; ⟨c, hc, by have := of_decide_eq_false (h c hc nc); omega⟩
theorem neg_nn {cs : List Int} (h : ∀ c ∈ cs, c ≤ 0) : ∀ c ∈ cs.map (- ·), 0 ≤ c := fun c hc => by
  obtain ⟨d, hd, rfl⟩ := List.mem_map.mp hc
  have := h d hd
  omega
theorem neg_sp {cs : List Int} (h : ∃ c ∈ cs, c < 0) : ∃ c ∈ cs.map (- ·), 0 < c := let ⟨c, hc, n⟩ := h; ⟨-c, List.mem_map.mpr ⟨c, hc, rfl⟩, by omega⟩
/-- no change: one sign, not 0, strictly between -/
theorem none_between {low high : Int} {cs : List Int} (h : chB (sgs (row low high cs)) = 0) (n : Some_ (row low high cs)) : ∃ s : Int, s ≠ 0 ∧ ∀ d, low < d → d < high → sg (wat cs d) = s := by
  obtain ⟨b, hs⟩ := ch_none h
  cases b with
  | true =>
    refine ⟨1, by decide, fun d h1 h2 => sg_pos ?_⟩
    have p := hw_pos (x := high - d) (y := d - low) (by omega) (by omega) hs.nn (hs.some_p n)
    rw [row_hw] at p
    have q := pow_p (show 0 < high - low by omega) (cs.length - 1)
    exact Int.pos_of_mul_pos_right p q
  | false =>
    refine ⟨-1, by decide, fun d h1 h2 => sg_neg ?_⟩
    have p := hw_pos (x := high - d) (y := d - low) (by omega) (by omega) (neg_nn hs.np) (neg_sp (hs.some_n n))
    rw [hw_map_neg, row_hw] at p
    have q := pow_p (show 0 < high - low by omega) (cs.length - 1)
    rw [← Int.mul_neg] at p
    have := Int.pos_of_mul_pos_right p q
    omega
end SgM

namespace SgM
theorem hw_x0 (y c : Int) (cs : List Int) : hw (c :: cs) 0 y = c * y ^ cs.length := by
  show c * y ^ cs.length + 0 * hw cs 0 y = _
  omega
theorem hw_y0 (x c : Int) (cs : List Int) : hw (cs ++ [c]) x 0 = c * x ^ cs.length := by
  rw [hw_app]
  omega
theorem sg_ne {z : Int} (h : z ≠ 0) (p : 0 ≤ z) : sg z = 1 := sg_pos (by omega)
theorem pos_of {K z : Int} (hK : 0 < K) (h : 0 < K * z) : 0 < z := Int.pos_of_mul_pos_right h hK
theorem one_pos {low high K : Int} {R : List Int} {F : Int → Int} (hl : low < high) (hK : 0 < K) (e : ∀ d, hw R (high - d) (d - low) = K * F d) {as bs : List Int} (hR : R = as ++ bs) (ha : ∀ c ∈ as, 0 ≤ c) (hb : ∀ c ∈ bs, c ≤ 0) (pa : ∃ c ∈ as, 0 < c) (pb : ∃ c ∈ bs, c < 0) (n1 : F low ≠ 0) (n2 : F high ≠ 0) :
    F low < 0 ∧ 0 < F high ∧ ∀ d1 d2, low < d1 → d1 < d2 → d2 < high → F d2 ≤ 0 → F d1 < 0 := by
  have hh : 0 < high - low := by omega
  refine ⟨?_, ?_, fun d1 d2 h1 h2 h3 n => ?_⟩
  · have k := e low
    rw [show low - low = 0 by omega, hR] at k
    rcases List.eq_nil_or_concat bs with z | ⟨bs', c, z⟩
    · obtain ⟨x, hx, _⟩ := pb
      rw [z] at hx
      cases hx
    · rw [z, List.concat_eq_append, ← List.append_assoc, hw_y0] at k
      have hc : c ≤ 0 := hb c (by rw [z, List.concat_eq_append]; simp)
      have p := pow_p hh (as ++ bs').length
      generalize (high - low) ^ (as ++ bs').length = Pw at *
      have k1 : K * F low ≤ 0 := by
        rw [← k]
        exact Int.mul_nonpos_of_nonpos_of_nonneg hc (Int.le_of_lt p)
      have : ¬ 0 < F low := fun z => by
        have := Int.mul_pos hK z
        omega
      omega
  · have k := e high
    rw [show high - high = 0 by omega, hR] at k
    cases as with
    | nil => obtain ⟨x, hx, _⟩ := pa; cases hx
    | cons c r =>
      rw [List.cons_append, hw_x0] at k
      have hc := ha c List.mem_cons_self
      have p := pow_p hh (r ++ bs).length
      generalize (high - low) ^ (r ++ bs).length = Pw at *
      have k1 : 0 ≤ K * F high := by
        rw [← k]
        exact Int.mul_nonneg hc (Int.le_of_lt p)
      have : ¬ F high < 0 := fun z => by
        have := Int.mul_neg_of_pos_of_neg hK z
        omega
      omega
  · have k2 := e d2
    have k1 := e d1
    rw [hR] at k1 k2
    have c2 : hw (as ++ bs) (high - d2) (d2 - low) ≤ 0 := by
      rw [k2]
      exact Int.mul_nonpos_of_nonneg_of_nonpos (Int.le_of_lt hK) n
    have hq : (high - d2) * (d1 - low) < (high - d1) * (d2 - low) := by
      have a1 : (high - d2) * (d1 - low) ≤ (high - d2) * (d2 - low) := Int.mul_le_mul_of_nonneg_left (by omega) (by omega)
      have a2 : (high - d2) * (d2 - low) < (high - d1) * (d2 - low) := Int.mul_lt_mul_of_pos_right (by omega) (by omega)
      omega
    have c1 := hw_once (x1 := high - d2) (y1 := d2 - low) (x2 := high - d1) (y2 := d1 - low) (by omega) (by omega) (by omega) (by omega) hq ha hb pa pb c2
    rw [k1] at c1
    have : ¬ 0 ≤ F d1 := fun z => by
      have := Int.mul_nonneg (Int.le_of_lt hK) z
      omega
    omega
/-- one change, no root at the ends: one root between, at most one whole number it -/
theorem one_between {low high : Int} {cs : List Int} (hl : low < high) (h : chB (sgs (row low high cs)) = 1) (n1 : wat cs low ≠ 0) (n2 : wat cs high ≠ 0) :
    ∃ s : Int, (s = 1 ∨ s = -1) ∧ sg (wat cs low) = -s ∧ sg (wat cs high) = s ∧ ∀ d1 d2, low < d1 → d1 < d2 → d2 < high → sg (wat cs d2) ≠ s → sg (wat cs d1) = -s := by
  obtain ⟨as, bs, b, e, s1, s2, t1, t2⟩ := ch_one h
  have hK := pow_p (show 0 < high - low by omega) (cs.length - 1)
  cases b with
  | true =>
    obtain ⟨r1, r2, r3⟩ := one_pos hl hK (fun d => row_hw low high d cs) e s1.nn (Same.np s2) (s1.some_p t1) (Same.some_n s2 t2) n1 n2
    refine ⟨1, .inl rfl, sg_neg r1, sg_pos r2, fun d1 d2 h1 h2 h3 n => sg_neg (r3 d1 d2 h1 h2 h3 ?_)⟩
    rcases Int.lt_or_le 0 (wat cs d2) with z | z
    · exact absurd (sg_pos z) n
    · exact z
  | false =>
    have s2' : Same true bs := s2
    obtain ⟨r1, r2, r3⟩ := one_pos (R := (row low high cs).map (- ·)) (F := fun d => - wat cs d) (as := as.map (- ·)) (bs := bs.map (- ·)) hl hK (fun d => by rw [hw_map_neg, row_hw, Int.mul_neg]) (by rw [e, List.map_append])
      (neg_nn s1.np) (fun c hc => by obtain ⟨d, hd, rfl⟩ := List.mem_map.mp hc; have := s2'.nn d hd; omega) (neg_sp (s1.some_n t1)) (let ⟨c, hc, p⟩ := s2'.some_p t2; ⟨-c, List.mem_map.mpr ⟨c, hc, rfl⟩, by omega⟩) (by omega) (by omega)
    refine ⟨-1, .inr rfl, sg_pos (by omega), sg_neg (by omega), fun d1 d2 h1 h2 h3 n => sg_pos ?_⟩
    have := r3 d1 d2 h1 h2 h3 (by
      rcases Int.lt_or_le (wat cs d2) 0 with z | z
      · exact absurd (sg_neg z) n
      · omega)
    omega
/-! ### a row that is not nought is not nought between -/
theorem hw_nil {x y : Int} : ∀ {cs : List Int}, (∀ c ∈ cs, c = 0) → hw cs x y = 0
  | [], _ => rfl
  | c :: cs, h => by
    show c * y ^ cs.length + x * hw cs x y = 0
    rw [h c List.mem_cons_self, hw_nil fun c hc => h c (List.mem_cons_of_mem _ hc)]
    omega
theorem row_some {low high d : Int} {cs : List Int} (hl : low < high) (n : wat cs d ≠ 0) : Some_ (row low high cs) := Classical.byContradiction fun z => by
  have e := row_hw low high d cs
  rw [hw_nil fun c hc => Classical.byContradiction fun y => z ⟨c, hc, y⟩] at e
  have hK := pow_p (show 0 < high - low by omega) (cs.length - 1)
  rcases Int.mul_eq_zero.mp e.symm with y | y
  · omega
  · exact n y
end SgM

namespace SgM
/-! ### the runs of one sign -/
/-- l tells the runs of F from a on -/
inductive IsRuns (F : Int → Int) : Int → List (Int × Int) → Prop
  | last {a : Int} (h : ∀ d, a ≤ d → F d = F a) : IsRuns F a [(a, F a)]
  | more {a b : Int} {l : List (Int × Int)} (lt : a < b) (h : ∀ d, a ≤ d → d < b → F d = F a) (ne : F b ≠ F a) (r : IsRuns F b l) : IsRuns F a ((a, F a) :: l)
theorem IsRuns.uniq {F : Int → Int} : ∀ {l l' : List (Int × Int)} {a : Int}, IsRuns F a l → IsRuns F a l' → l = l' := by
  intro l l' a h
  induction h generalizing l' with
  | last h =>
    intro h'
    cases h' with
    | last _ => rfl
    | more lt _ ne _ => exact absurd (h _ (Int.le_of_lt lt)) ne
  | @more a b l lt h ne r ih =>
    intro h'
    cases h' with
    | last h2 => exact absurd (h2 _ (Int.le_of_lt lt)) ne
    | @more _ b' l' lt' h2 ne' r' =>
      have e : b = b' := by
        rcases Int.lt_trichotomy b b' with z | z | z
        · exact absurd (h2 b (Int.le_of_lt lt) z) ne
        · exact z
        · exact absurd (h b' (Int.le_of_lt lt') z) ne'
      subst e
      rw [ih r']
/-- what is told of the places ms, s the sign told last -/
def bld (F : Int → Int) : Int → List Int → List (Int × Int)
  | _, [] => []
  | s, m :: ms => if F m = s then bld F s ms else (m, F m) :: bld F (F m) ms
/-- F doesn't change from a on but at the places ms -/
def Cov (F : Int → Int) : Int → List Int → Prop
  | a, [] => ∀ d, a ≤ d → F d = F a
  | a, m :: ms => a ≤ m ∧ (∀ d, a ≤ d → d < m → F d = F a) ∧ Cov F m ms
theorem bld_runs {F : Int → Int} : ∀ (ms : List Int) (r a : Int), r ≤ a → (∀ d, r ≤ d → d ≤ a → F d = F r) → Cov F a ms → IsRuns F r ((r, F r) :: bld F (F r) ms)
  | [], r, a, hr, hs, hc => .last fun d hd => by
    rcases Int.lt_or_le a d with z | z
    · rw [hc d (Int.le_of_lt z), hs a hr (Int.le_refl a)]
    · exact hs d hd z
  | m :: ms, r, a, hr, hs, hc => by
    obtain ⟨h1, h2, h3⟩ := hc
    have up : ∀ d, r ≤ d → d < m → F d = F r := fun d a1 a2 => by
      rcases Int.lt_or_le a d with z | z
      · rw [h2 d (Int.le_of_lt z) a2, hs a hr (Int.le_refl a)]
      · exact hs d a1 z
    unfold bld
    by_cases e : F m = F r
    · rw [if_pos e]
      refine bld_runs ms r m (Int.le_trans hr h1) (fun d a1 a2 => ?_) h3
      rcases Int.lt_or_le d m with z | z
      · exact up d a1 z
      · rw [show d = m by omega, e]
    · rw [if_neg e]
      have lt : r < m := by
        rcases Int.lt_or_le r m with z | z
        · exact z
        · have : m = r := by omega
          rw [this] at e
          exact absurd rfl e
      exact .more lt up e (bld_runs ms m m (Int.le_refl m) (fun d a1 a2 => by rw [show d = m by omega]) h3)
theorem runs_of {F : Int → Int} {a : Int} {ms : List Int} (h : Cov F a ms) : IsRuns F a ((a, F a) :: bld F (F a) ms) := bld_runs ms a a (Int.le_refl a) (fun d h1 h2 => by rw [show d = a by omega]) h
/-- .. up to b -/
def CovTo (F : Int → Int) : Int → List Int → Int → Prop
  | a, [], b => a ≤ b ∧ ∀ d, a ≤ d → d < b → F d = F a
  | a, m :: ms, b => a ≤ m ∧ (∀ d, a ≤ d → d < m → F d = F a) ∧ CovTo F m ms b
theorem CovTo.app {F : Int → Int} : ∀ {ms ns : List Int} {a b c : Int}, CovTo F a ms b → CovTo F b ns c → CovTo F a (ms ++ b :: ns) c
  | [], ns, a, b, c, h, h' => ⟨h.1, h.2, h'⟩
  | m :: ms, ns, a, b, c, h, h' => ⟨h.1, h.2.1, CovTo.app h.2.2 h'⟩
theorem CovTo.end_ {F : Int → Int} : ∀ {ms : List Int} {a b : Int}, CovTo F a ms b → (∀ d, b ≤ d → F d = F b) → Cov F a (ms ++ [b])
  | [], a, b, h, h' => ⟨h.1, h.2, h'⟩
  | m :: ms, a, b, h, h' => ⟨h.1, h.2.1, CovTo.end_ h.2.2 h'⟩
/-! ### what a piece between two places tells -/
theorem piece_one {F : Int → Int} (low : Int) : CovTo F low [] (low + 1) := ⟨by omega, fun d h1 h2 => by rw [show d = low by omega]⟩
theorem piece_none {F : Int → Int} {low high s : Int} (hl : low + 1 < high) (h : ∀ d, low < d → d < high → F d = s) : CovTo F low [low + 1] high :=
  ⟨by omega, fun d h1 h2 => by rw [show d = low by omega], by omega, fun d h1 h2 => by rw [h d (by omega) h2, h (low + 1) (by omega) hl]⟩
/-- c is the first place behind low with another sign than low's -/
theorem piece_change {F : Int → Int} {low high s c : Int} (hl : low < high) (e1 : F low = -s) (e2 : F high = s) (n : s ≠ -s) (h : ∀ d1 d2, low < d1 → d1 < d2 → d2 < high → F d2 ≠ s → F d1 = -s) (c1 : low < c) (c2 : c ≤ high) (hc : F c ≠ -s) (hb : ∀ d, low ≤ d → d < c → F d = -s) : CovTo F low [c, min (c + 1) high] high := by
  refine ⟨Int.le_of_lt c1, fun d h1 h2 => by rw [hb d h1 h2, e1], ?_, ?_, ?_, ?_⟩
  · omega
  · intro d h1 h2
    rw [show d = c by omega]
  · omega
  · intro d h1 h2
    have up : ∀ d, c < d → d < high → F d = s := fun d a1 a2 => Classical.byContradiction fun z => hc (h c d c1 a1 a2 z)
    rw [up d (by omega) h2, up (min (c + 1) high) (by omega) (by omega)]
end SgM

set_option maxHeartbeats 4000000
set_option exponentiation.threshold 3000
namespace K71
open PySem PySem.Spec PyProof.Rows L2 RtL ErL StX
open SgM (wat sg)
/-- bounds: all |c| below 2^n, |d| below 2^m -/
theorem wat_bd {n m : Nat} {d : Int} (hd : Bd m d) : ∀ {cs : List Int}, (∀ c ∈ cs, Bd n c) → Bd (n + cs.length * (m + 1)) (wat cs d)
  | [], _ => by
    show (0 : Int).natAbs < _
    exact Nat.two_pow_pos _
  | c :: cs, h => by
    have h1 := wat_bd (cs := cs) hd fun c hc => h c (List.mem_cons_of_mem _ hc)
    have h2 := h c List.mem_cons_self
    show (wat cs d * d + c).natAbs < _
    have a1 : (wat cs d).natAbs < 2 ^ (n + cs.length * (m + 1)) := h1
    have a2 : d.natAbs < 2 ^ m := hd
    have a3 : c.natAbs < 2 ^ n := h2
    have b1 : (wat cs d * d).natAbs < 2 ^ (n + cs.length * (m + 1) + m) := wide_lt h1 hd
    have b2 : 2 ^ n ≤ 2 ^ (n + cs.length * (m + 1) + m) := Nat.pow_le_pow_right (by decide) (by omega)
    rw [List.length_cons, show n + (cs.length + 1) * (m + 1) = (n + cs.length * (m + 1) + m) + 1 by rw [Nat.succ_mul]; omega, Nat.pow_succ]
    omega
section
variable {P : Program} {w : World} {K : Fr} {mg : Str → Option Value} {base : Heap} {f : Addr} {fd : FuncData}
/-! ### worth_at, sign_at -/
abbrev s_worth : Stmt := top 7
theorem sc_worth : FnScope ["coefficients", "d", "found", "coefficient"] ["coefficients", "d"] (defScope s_worth) := ⟨rfl, rfl, rfl, by decide +kernel, rfl, by decide +kernel, by decide +kernel⟩
def spWorth (K : Fr) : Sp := fun vs H Q _ => ∃ (t : Addr) (cs : List Int) (d : Int), vs = [.ref t, .int d] ∧ H t = some (.tup (cs.map V.int)) ∧ (∀ c ∈ cs, Bd 1000 c) ∧ cs.length ≤ 12 ∧ Bd 1200 d ∧ ∀ H', Same H H' → Q (.int (wat cs d)) H'
theorem ok_worth (F : FunD K "worth_at" "worth_at" (defArgs s_worth) (defBody s_worth) (defScope s_worth) [] [] f fd) (T : TT K mg) : FnOk P w K mg base CX0 1 f fd ["coefficients", "d"] (spWorth K) := by
  refine F.ok sc_worth (fun vs H Q E h => ?_) (fun cdv A outer s H vs Q E hr h => ?_)
  · obtain ⟨t, cs, d, rfl, _⟩ := h
    rfl
  · obtain ⟨t, cs, d, rfl, et, hb, hl, hd, q⟩ := h
    refine ⟨_, PSs.nox (pss_cons (ps_set (i := 2) sc_worth.nd rfl (Or.inl rfl) pe_int)
      (pss_cons (ps_for PassesOwn.never rfl (pi_reversed (by rfl) T.fre (pa_cons (pe_callTy call_list_of (by rfl) T.fre (by decide +kernel) (pa_cons (pv 0) pa_nil)) pa_nil)) (pg_name (i := 3) sc_worth.nd rfl (Or.inl rfl))
        (pss_one (ps_set (i := 2) sc_worth.nd rfl (Or.inl rfl) (pe_op op_add (pe_op op_mulW (pv 2) (pv 1)) (pv 3)))))
      (pss_one (ps_ret (pv 2))))), ?_⟩
    refine ⟨_, rfl, t, _, rfl, .inr (SqT.of et), fun l hl' => ⟨l, _, rfl, SqL.of upd_same, ?_⟩⟩
    have hlen : (cs.map V.int).length = cs.length := List.length_map _
    refine for_it (walk_rev (xs := cs.map V.int)) (fun i σ H2 => H2 = upd H l (.lst (cs.map V.int)) ∧ ∃ u, σ = [some (.ref t), some (.int d), some (.int (wat (cs.drop (cs.length - i)) d)), u]) ⟨rfl, none, by rw [Nat.sub_zero, List.drop_length]; rfl⟩ (fun i σ H2 _ ⟨e, _⟩ => by rw [e]; exact SqL.of upd_same) ?_ ?_
    · rintro i x σ H2 H3 hi ⟨rfl, u, rfl⟩ ⟨rfl, hx⟩
      rw [hlen] at hi hx
      obtain ⟨c, hc, rfl⟩ := getm hx
      have hj : cs.length - 1 - i < cs.length := by omega
      have e1 : cs.drop (cs.length - (i + 1)) = c :: cs.drop (cs.length - i) := by
        have e2 : cs.length - (i + 1) = cs.length - 1 - i := by omega
        have e3 : cs.length - i = cs.length - 1 - i + 1 := by omega
        rw [e2, e3, List.drop_eq_getElem_cons hj]
        congr 1
        rw [List.getElem?_eq_getElem hj] at hc
        exact Option.some.inj hc
      have bw : Bd 20000 (wat (cs.drop (cs.length - i)) d) := by
        refine bd_up (wat_bd (n := 1000) hd fun c hc => hb c (List.mem_of_mem_drop hc)) ?_
        rw [List.length_drop]
        omega
      refine ⟨_, rfl, _, rfl, _, _, rfl, rfl, cmW bw hd, _, rfl, _, _, rfl, rfl, rfl, some (.int c), ?_⟩
      rw [e1]
      rfl
    · rintro σ H2 ⟨rfl, u, rfl⟩
      rw [hlen, Nat.sub_self, List.drop_zero]
      exact ⟨_, rfl, q _ (same_new hl')⟩
abbrev WorthG (P : Program) (w : World) (K : Fr) (mg : Str → Option Value) (base : Heap) : Prop := ∃ f d, Gd P w K mg base 1 "worth_at" f d ["coefficients", "d"] (spWorth K)
abbrev sSa : Stmt := top 8
theorem scSa : FnScope ["coefficients", "d", "worth"] ["coefficients", "d"] (defScope sSa) := ⟨rfl, rfl, rfl, by decide +kernel, rfl, by decide +kernel, by decide +kernel⟩
def spSa (K : Fr) : Sp := fun vs H Q _ => ∃ (t : Addr) (cs : List Int) (d : Int), vs = [.ref t, .int d] ∧ H t = some (.tup (cs.map V.int)) ∧ (∀ c ∈ cs, Bd 1000 c) ∧ cs.length ≤ 12 ∧ Bd 1200 d ∧ ∀ H', Same H H' → Q (.int (sg (wat cs d))) H'
theorem ok_sa (F : FunD K "sign_at" "sign_at" (defArgs sSa) (defBody sSa) (defScope sSa) [] [] f fd) (T : TT K mg) (G : WorthG P w K mg base) : FnOk P w K mg base CX0 2 f fd ["coefficients", "d"] (spSa K) := by
  obtain ⟨fW, dW, GW⟩ := G
  refine F.ok scSa (fun vs H Q E h => ?_) (fun cdv A outer s H vs Q E hr h => ?_)
  · obtain ⟨t, cs, d, rfl, _⟩ := h
    rfl
  · obtain ⟨t, cs, d, rfl, et, hb, hl, hd, q⟩ := h
    refine ⟨_, PSs.nox (pss_cons (ps_set (i := 2) scSa.nd rfl (Or.inl rfl) (pe_gd GW hr (by rfl) (pa_cons (pv 0) (pa_cons (pv 1) pa_nil))))
      (pss_cons (ps_if (pt_cmpR op_eq (pv 2) pe_int (nomark _)) (pss_one (ps_ret pe_int)) pss_nil)
      (pss_one (ps_ret (pe_ifExp (pt_cmpR op_gt (pv 2) pe_int (nomark _)) pe_int (pe_un un_neg pe_int)))))), ?_⟩
    refine ⟨_, rfl, _, rfl, t, cs, d, rfl, et, hb, hl, hd, fun H1 s1 => ?_⟩
    have hq := q H1 s1
    unfold sg at hq
    refine ⟨_, rfl, rfl, _, rfl, ite2 (fun h => ?_) (fun h => ?_)⟩
    · have z : wat cs d = 0 := by
        have y := of_decide_eq_true h
        injection y
      rw [if_pos z] at hq
      exact hq
    · have z : ¬ wat cs d = 0 := fun y => h (decide_eq_true (by rw [y]))
      rw [if_neg z] at hq
      refine ⟨_, rfl, _, 0, rfl, rfl, _, rfl, ite2 (fun h2 => ?_) (fun h2 => ?_)⟩
      · rw [if_pos (of_decide_eq_true h2)] at hq
        exact hq
      · rw [if_neg (fun y => h2 (decide_eq_true y))] at hq
        exact ⟨_, rfl, hq⟩
abbrev SaG (P : Program) (w : World) (K : Fr) (mg : Str → Option Value) (base : Heap) : Prop := ∃ f d, Gd P w K mg base 2 "sign_at" f d ["coefficients", "d"] (spSa K)
end
end K71

set_option maxHeartbeats 4000000
set_option exponentiation.threshold 3000
namespace K71
open PySem PySem.Spec PyProof.Rows L2 RtL ErL StX
open SgM (wat sg syn syn_len mv)
/-! ### moved: the mathematics -/
theorem gd_app_r (xs ys : List Int) (k : Nat) : (xs ++ ys).getD (xs.length + k) 0 = ys.getD k 0 := by
  rw [List.getD_eq_getElem?_getD, List.getElem?_append_right (Nat.le_add_right _ _), Nat.add_sub_cancel_left, List.getD_eq_getElem?_getD]
theorem syn_get (b : Int) : ∀ (cs : List Int) (k : Nat), (syn b cs).getD k 0 = cs.getD k 0 + b * (syn b cs).getD (k + 1) 0
  | [], k => by simp [syn]
  | c :: cs, 0 => by
    show c + b * (syn b cs).headD 0 = c + b * ((c + b * (syn b cs).headD 0) :: syn b cs).getD 1 0
    cases syn b cs <;> simp
  | c :: cs, k + 1 => by
    have := syn_get b cs k
    simpa [syn] using this
/-- behind j steps of a pass over rest -/
def mixd (b : Int) (rest : List Int) (j : Nat) : List Int := rest.take (rest.length - 1 - j) ++ (syn b rest).drop (rest.length - 1 - j)
theorem mixd_len (b : Int) (rest : List Int) (j : Nat) : (mixd b rest j).length = rest.length := by
  unfold mixd
  rw [List.length_append, List.length_take, List.length_drop, syn_len]
  omega
theorem mixd_zero (b : Int) (rest : List Int) : mixd b rest 0 = rest := by
  unfold mixd
  refine List.ext_getElem (by rw [List.length_append, List.length_take, List.length_drop, syn_len]; omega) fun i h1 h2 => ?_
  by_cases h : i < rest.length - 1
  · rw [List.getElem_append_left (by rw [List.length_take]; omega), List.getElem_take]
  · have l : (syn b rest).length = rest.length := syn_len b rest
    rw [List.getElem_append_right (by rw [List.length_take]; omega), List.getElem_drop]
    have e := syn_get b rest i
    have z : (syn b rest).getD (i + 1) 0 = 0 := by rw [List.getD_eq_getElem?_getD, List.getElem?_eq_none (by omega)]; rfl
    rw [z, Int.mul_zero, Int.add_zero, List.getD_eq_getElem?_getD, List.getD_eq_getElem?_getD, List.getElem?_eq_getElem (by omega), List.getElem?_eq_getElem h2] at e
    have ix : rest.length - 1 - 0 + (i - (List.take (rest.length - 1 - 0) rest).length) = i := by rw [List.length_take]; omega
    simp only [ix]
    exact e
theorem mixd_get (b : Int) (rest : List Int) (j i : Nat) : (mixd b rest j)[i]? = if i < rest.length - 1 - j then rest[i]? else (syn b rest)[i]? := by
  unfold mixd
  have l : (syn b rest).length = rest.length := syn_len b rest
  by_cases h : i < rest.length - 1 - j
  · rw [if_pos h, List.getElem?_append_left (by rw [List.length_take]; omega), List.getElem?_take, if_pos h]
  · rw [if_neg h, List.getElem?_append_right (by rw [List.length_take]; omega), List.getElem?_drop]
    congr 1
    rw [List.length_take]
    omega
theorem mixd_step (b : Int) (rest : List Int) (j : Nat) (h : j + 1 < rest.length) : mixd b rest (j + 1) = (mixd b rest j).set (rest.length - 2 - j) (rest.getD (rest.length - 2 - j) 0 + b * (syn b rest).getD (rest.length - 1 - j) 0) := by
  have l : (syn b rest).length = rest.length := syn_len b rest
  have e := syn_get b rest (rest.length - 2 - j)
  rw [show rest.length - 2 - j + 1 = rest.length - 1 - j by omega] at e
  rw [← e]
  refine List.ext_getElem? fun i => ?_
  rw [List.getElem?_set, mixd_get, mixd_get, mixd_len]
  by_cases h3 : rest.length - 2 - j = i
  · subst h3
    rw [if_neg (by omega), if_pos rfl, if_pos (by omega), List.getD_eq_getElem?_getD, List.getElem?_eq_getElem (by omega)]
    rfl
  · rw [if_neg h3]
    by_cases z : i < rest.length - 1 - (j + 1)
    · rw [if_pos z, if_pos (by omega)]
    · rw [if_neg z, if_neg (by omega)]
theorem mixd_all (b : Int) (rest : List Int) (h : 0 < rest.length) : mixd b rest (rest.length - 1) = syn b rest := by
  unfold mixd
  rw [Nat.sub_self]
  rfl
theorem syn_bd {N m : Nat} {b : Int} (hb : Bd m b) : ∀ {cs : List Int}, (∀ c ∈ cs, Bd N c) → ∀ x ∈ syn b cs, Bd (N + cs.length * (m + 1)) x
  | [], _, x, hx => by cases hx
  | c :: cs, h, x, hx => by
    have ih := syn_bd hb (cs := cs) fun y hy => h y (List.mem_cons_of_mem _ hy)
    rcases List.mem_cons.mp hx with z | z
    · rw [z]
      have hh : Bd (N + cs.length * (m + 1)) ((syn b cs).headD 0) := by
        cases e : syn b cs with
        | nil => exact Nat.two_pow_pos _
        | cons y ys => exact ih y (by rw [e]; exact List.mem_cons_self)
      have b1 : Bd (m + (N + cs.length * (m + 1))) (b * (syn b cs).headD 0) := bd_mul hb hh
      have b2 : Bd (m + (N + cs.length * (m + 1))) c := bd_up (h c List.mem_cons_self) (by omega)
      refine bd_up (bd_add b2 b1) ?_
      rw [List.length_cons, Nat.succ_mul]
      omega
    · refine bd_up (ih x z) ?_
      rw [List.length_cons, Nat.succ_mul]
      omega
end K71

set_option maxHeartbeats 4000000
set_option exponentiation.threshold 3000
namespace K71
open PySem PySem.Spec PyProof.Rows L2 RtL ErL StX
open SgM (wat sg syn syn_len mv)
section
variable {P : Program} {w : World} {K : Fr} {mg : Str → Option Value} {base : Heap} {f : Addr} {fd : FuncData}
abbrev sMv : Stmt := top 9
abbrev NMv : List Str := ["coefficients", "by", "found", "ahead", "at"]
theorem scMv : FnScope NMv ["coefficients", "by"] (defScope sMv) := ⟨rfl, rfl, rfl, by decide +kernel, rfl, by decide +kernel, by decide +kernel⟩
def spMv (K : Fr) : Sp := fun vs H Q _ => ∃ (t : Addr) (cs : List Int) (b : Int), vs = [.ref t, .int b] ∧ (H t = some (.tup (cs.map V.int)) ∨ H t = some (.lst (cs.map V.int))) ∧ (∀ c ∈ cs, Bd 200000 c) ∧ cs.length ≤ 12 ∧ Bd 1200 b ∧ ∀ l H', Same H H' → H l = none → H' l = some (.lst ((mv b cs.length cs).map V.int)) → Q (.ref l) H'
theorem ok_mv (F : FunD K "moved" "moved" (defArgs sMv) (defBody sMv) (defScope sMv) [] [] f fd) (T : TT K mg) : FnOk P w K mg base CX0 1 f fd ["coefficients", "by"] (spMv K) := by
  refine F.ok scMv (fun vs H Q E h => ?_) (fun cdv A outer s H vs Q E hr h => ?_)
  · obtain ⟨t, cs, b, rfl, _⟩ := h
    rfl
  · obtain ⟨t, cs, b, rfl, et, hb, hl, hd, q⟩ := h
    refine ⟨_, PSs.nox (pss_cons (ps_set (i := 2) scMv.nd rfl (Or.inl rfl) (pe_callTy call_list_of (by rfl) T.fre (by decide +kernel) (pa_cons (pv 0) pa_nil)))
      (pss_cons (ps_for PassesOwn.never rfl (pi_range1 (by rfl) T.fre (pa_cons (pe_op op_sub (pe_callB call_len_seq (by rfl) T.fre (by decide +kernel) (pa_cons (pv 2) pa_nil)) pe_int) pa_nil)) (pg_name (i := 3) scMv.nd rfl (Or.inl rfl))
        (pss_one (ps_for PassesOwn.never rfl (pi_range3 (by rfl) T.fre (pa_cons (pe_op op_sub (pe_callB call_len_seq (by rfl) T.fre (by decide +kernel) (pa_cons (pv 2) pa_nil)) pe_int) (pa_cons (pe_op op_sub (pv 3) pe_int) (pa_cons (pe_un un_neg pe_int) pa_nil)))) (pg_name (i := 4) scMv.nd rfl (Or.inl rfl))
          (pss_one (ps_asg (pe_op op_add (pe_ix ix_list (pv 2) (pv 4) (fun _ _ => rfl)) (pe_op op_mulW (pv 1) (pe_ix ix_list (pv 2) (pe_op op_add (pv 4) pe_int) (fun _ _ => rfl)))) (pg_sub (pv 2) (pv 4) set_list))))))
      (pss_one (ps_ret (pv 2))))), ?_⟩
    have lz : 10000 ≤ sizeLine := by rw [sizeLine_eq]; decide
    have seq : SqL K H t (cs.map V.int) ∨ SqT K H t (cs.map V.int) := et.elim (fun e => .inr (SqT.of e)) fun e => .inl (SqL.of e)
    refine ⟨_, rfl, t, _, rfl, seq, fun l nl => ?_⟩
    have hln : (cs.map V.int).length = cs.length := List.length_map _
    have s0 : Same H (upd H l (.lst (cs.map V.int))) := same_new nl
    refine ⟨_, rfl, l, _, rfl, .inl (SqL.of upd_same), _, _, rfl, rfl, _, rfl, by rw [hln]; omega, by rw [hln]; omega, ?_⟩
    have e1 : (((cs.map V.int).length : Nat) - 1 : Int).toNat = cs.length - 1 := by rw [hln]; omega
    rw [e1]
    refine for_it walk_range (fun i σ H' => Same H H' ∧ ∃ (hs rest : List Int) (u3 u4 : Option V), H' l = some (.lst ((hs ++ rest).map V.int)) ∧ hs.length = i ∧ hs.length + rest.length = cs.length ∧ hs ++ mv b rest.length rest = mv b cs.length cs ∧ (∀ c ∈ hs ++ rest, Bd (200000 + i * 14420) c) ∧ σ = [some (.ref t), some (.int b), some (.ref l), u3, u4])
      ⟨s0, [], cs, none, none, upd_same, rfl, by simp, rfl, by simpa using hb, rfl⟩ (fun _ _ _ _ _ => trivial) ?_ ?_
    · rintro i v σ H7 H8 hi ⟨s7, hs, rest, u3, u4, e7, hi', hn, hm, hbd, rfl⟩ ⟨rfl, rfl⟩
      have hh : i < cs.length - 1 := hi
      have r2 : 2 ≤ rest.length := by omega
      have len7 : ((hs ++ rest).map V.int).length = cs.length := by rw [List.length_map, List.length_append]; exact hn
      have rg : RgC ((((hs ++ rest).map V.int).length : Nat) - 2 : Int) ((0 + (i : Nat)) - 1) (-1) (rest.length - 1) := by
        have z := RgC.neg (i := (((hs ++ rest).map V.int).length : Nat) - 2) (j := (0 + (i : Nat)) - 1) (by rw [len7]; omega) (by rw [len7]; omega) (by omega) (by omega)
        rw [show ((((hs ++ rest).map V.int).length : Nat) - 2 - ((0 + (i : Nat)) - 1) : Int).toNat = rest.length - 1 by rw [len7]; omega] at z
        exact z
      refine ⟨_, rfl, l, _, rfl, .inl (SqL.of e7), _, _, rfl, rfl, _, rfl, _, _, rfl, rfl, _, rfl, _, _, _, _, rfl, rg, ?_⟩
      have hbr : ∀ c ∈ rest, Bd (200000 + i * 14420) c := fun c hc => hbd c (List.mem_append_right _ hc)
      have hbs : ∀ c ∈ syn b rest, Bd (200000 + (i + 1) * 14420) c := fun c hc => bd_up (syn_bd hd hbr c hc) (by
        have : rest.length * (1200 + 1) ≤ 12 * 1201 := Nat.mul_le_mul_right _ (by omega)
        omega)
      have ls : (syn b rest).length = rest.length := syn_len b rest
      refine for_it walk_rangeC (fun j σ H' => Same H H' ∧ H' l = some (.lst ((hs ++ mixd b rest j).map V.int)) ∧ ∃ u4 : Option V, σ = [some (.ref t), some (.int b), some (.ref l), some (.int (0 + (i : Nat))), u4]) ⟨s7, by rw [mixd_zero]; exact e7, u4, rfl⟩ (fun _ _ _ _ _ => trivial) ?_ ?_
      · rintro j v σ H9 H10 hj ⟨s9, e9, u4, rfl⟩ ⟨rfl, rfl⟩
        have hj' : j < rest.length - 1 := hj
        have at_ : ((((hs ++ rest).map V.int).length : Nat) - 2 : Int) + (j : Nat) * (-1) = ((hs.length + (rest.length - 2 - j) : Nat) : Int) := by rw [len7]; omega
        have g1 : (hs ++ mixd b rest j)[hs.length + (rest.length - 2 - j)]? = some (rest.getD (rest.length - 2 - j) 0) := by
          rw [List.getElem?_append_right (Nat.le_add_right _ _), Nat.add_sub_cancel_left, mixd_get, if_pos (by omega), List.getD_eq_getElem?_getD, List.getElem?_eq_getElem (by omega)]
          rfl
        have g2 : (hs ++ mixd b rest j)[hs.length + (rest.length - 2 - j) + 1]? = some ((syn b rest).getD (rest.length - 1 - j) 0) := by
          rw [show hs.length + (rest.length - 2 - j) + 1 = hs.length + (rest.length - 1 - j) by omega, List.getElem?_append_right (Nat.le_add_right _ _), Nat.add_sub_cancel_left, mixd_get, if_neg (by omega), List.getD_eq_getElem?_getD, List.getElem?_eq_getElem (by omega)]
          rfl
        have bs : Bd (200000 + (i + 1) * 14420) ((syn b rest).getD (rest.length - 1 - j) 0) := by
          rw [List.getD_eq_getElem?_getD, List.getElem?_eq_getElem (show rest.length - 1 - j < (syn b rest).length by omega)]
          exact hbs _ (List.getElem_mem _)
        have bs' : Bd 400000 ((syn b rest).getD (rest.length - 1 - j) 0) := bd_up bs (by omega)
        have at2 : ((((hs ++ rest).map V.int).length : Nat) - 2 : Int) + (j : Nat) * (-1) + 1 = ((hs.length + (rest.length - 2 - j) + 1 : Nat) : Int) := by rw [at_]; omega
        refine ⟨_, rfl, _, rfl, l, _, _, _, rfl, rfl, SqL.of e9, by rw [at_]; exact atI_nat (getM g1), _, rfl, _, rfl, _, rfl, _, _, rfl, rfl, l, _, _, _, rfl, rfl, SqL.of e9, by rw [at2]; exact atI_nat (getM g2), _, _, rfl, rfl, cmW hd bs', _, _, rfl, rfl, ?_⟩
        refine ⟨_, rfl, _, rfl, l, _, _, hs.length + (rest.length - 2 - j), rfl, rfl, e9, ?_, ?_⟩
        · rw [at_, List.length_map, List.length_append, mixd_len]
          unfold ixN
          rw [if_pos (by omega), if_pos (by omega), Int.toNat_natCast]
        · refine ⟨fun b' o' e' => ?_, ?_, _, rfl⟩
          · rw [upd_ne (ne_of_none e' nl)]
            exact s9 _ _ e'
          · rw [upd_same, mixd_step b rest j (by omega), ← List.map_set, List.set_append_right _ _ (Nat.le_add_right _ _), Nat.add_sub_cancel_left]
      · rintro σ H9 ⟨s9, e9, u4, rfl⟩
        rw [mixd_all b rest (by omega)] at e9
        cases e : syn b rest with
        | nil => rw [e] at ls; exact absurd ls (by rw [List.length_nil]; omega)
        | cons h tl =>
          have lt : rest.length = tl.length + 1 := by rw [← ls, e]; rfl
          refine ⟨s9, hs ++ [h], tl, _, _, ?_, ?_, ?_, ?_, ?_, rfl⟩
          · rw [e9, e, List.append_assoc]
            rfl
          · rw [List.length_append, hi']
            rfl
          · rw [List.length_append, List.length_singleton]
            omega
          · rw [← hm, lt, List.append_assoc]
            show hs ++ (h :: mv b tl.length tl) = hs ++ mv b (tl.length + 1) rest
            congr 1
            show _ = (match syn b rest with | [] => [] | h :: t => h :: mv b tl.length t)
            rw [e]
          · intro c hc
            rw [List.append_assoc] at hc
            rcases List.mem_append.mp hc with z | z
            · exact bd_up (hbd c (List.mem_append_left _ z)) (by omega)
            · exact hbs c (by rw [e]; exact z)
    · rintro σ H7 ⟨s7, hs, rest, u3, u4, e7, hi', hn, hm, hbd, rfl⟩
      refine ⟨_, rfl, q l H7 s7 nl ?_⟩
      rw [e7, ← hm]
      match rest, hn with
      | [], _ => rfl
      | [x], _ =>
        show some (HO.lst ((hs ++ [x]).map V.int)) = some (HO.lst ((hs ++ [x + b * 0]).map V.int))
        rw [Int.mul_zero, Int.add_zero]
      | x :: y :: r, hn =>
        exfalso
        simp only [List.length_cons] at hn
        omega
abbrev MvG (P : Program) (w : World) (K : Fr) (mg : Str → Option Value) (base : Heap) : Prop := ∃ f d, Gd P w K mg base 1 "moved" f d ["coefficients", "by"] (spMv K)
end
end K71

set_option maxHeartbeats 4000000
set_option exponentiation.threshold 3000
namespace K71
open PySem PySem.Spec PyProof.Rows L2 RtL ErL StX
open SgM (wat sg syn syn_len mv chB sgs sgs_app)
theorem chB_snoc : ∀ (l : List Bool) (a b : Bool), chB (l ++ [a, b]) = chB (l ++ [a]) + if a = b then 0 else 1
  | [], a, b => by
    show (if a = b then 0 else 1) + 0 = 0 + _
    omega
  | [x], a, b => by
    show (if x = a then 0 else 1) + ((if a = b then 0 else 1) + 0) = ((if x = a then 0 else 1) + 0) + _
    omega
  | x :: y :: r, a, b => by
    have := chB_snoc (y :: r) a b
    show (if x = y then 0 else 1) + chB ((y :: r) ++ [a, b]) = ((if x = y then 0 else 1) + chB ((y :: r) ++ [a])) + _
    rw [this]
    omega
theorem chB_take {bs : List Bool} {j : Nat} {a b : Bool} (ha : bs[j]? = some a) (hb : bs[j + 1]? = some b) : chB (bs.take (j + 2)) = chB (bs.take (j + 1)) + if a = b then 0 else 1 := by
  have e1 : bs.take (j + 1) = bs.take j ++ [a] := by rw [List.take_add_one, ha]; rfl
  have e2 : bs.take (j + 2) = bs.take j ++ [a, b] := by rw [List.take_add_one, hb, e1, List.append_assoc]; rfl
  rw [e1, e2, chB_snoc]
theorem sgs_len : ∀ cs : List Int, (sgs cs).length ≤ cs.length
  | [] => Nat.le_refl _
  | c :: cs => by
    have := sgs_len cs
    unfold sgs
    split
    · rw [List.length_cons]; omega
    · rw [List.length_cons, List.length_cons]; omega
theorem chB_le : ∀ bs : List Bool, chB bs ≤ bs.length
  | [] => Nat.le_refl _
  | [_] => Nat.zero_le _
  | a :: b :: r => by
    have := chB_le (b :: r)
    show (if a = b then 0 else 1) + chB (b :: r) ≤ _
    rw [List.length_cons]
    split <;> omega
section
variable {P : Program} {w : World} {K : Fr} {mg : Str → Option Value} {base : Heap} {f : Addr} {fd : FuncData}
abbrev sSc : Stmt := top 10
abbrev NSc : List Str := ["numbers", "signs", "number", "at"]
theorem scSc : FnScope NSc ["numbers"] (defScope sSc) := ⟨rfl, rfl, rfl, by decide +kernel, rfl, by decide +kernel, by decide +kernel⟩
def spSc (K : Fr) : Sp := fun vs H Q _ => ∃ (l : Addr) (cs : List Int), vs = [.ref l] ∧ H l = some (.lst (cs.map V.int)) ∧ cs.length ≤ 100 ∧ ∀ H', Same H H' → Q (.int (chB (sgs cs) : Nat)) H'
theorem ok_sc (F : FunD K "sign_changes" "sign_changes" (defArgs sSc) (defBody sSc) (defScope sSc) [] [] f fd) (T : TT K mg) : FnOk P w K mg base CX0 1 f fd ["numbers"] (spSc K) := by
  refine F.ok scSc (fun vs H Q E h => ?_) (fun cdv A outer s H vs Q E hr h => ?_)
  · obtain ⟨l, cs, rfl, _⟩ := h
    rfl
  · obtain ⟨l, cs, rfl, el, hl, q⟩ := h
    refine ⟨_, PSs.nox (pss_cons (ps_set (i := 1) scSc.nd rfl (Or.inr rfl) (pe_lc (own := [("number", 2)]) (g := gName 2) (by rfl) scSc.nd (pi_list (pv 0)) (blkOk_by (N := NSc) (sc := defScope sSc) (by decide +kernel)) (fun _ _ _ _ _ => pg_name (i := 2) scSc.nd rfl (Or.inl rfl)) (fun _ _ _ _ _ => pts_one (pt_cmpR op_ne (pv 2) pe_int (nomark _))) (fun _ _ _ _ _ => pe_cmpR op_gt (pv 2) pe_int (nomark _))))
      (pss_one (ps_ret (pe_callB call_len_seq (by rfl) T.fre (by decide +kernel) (pa_cons (pe_lc (own := [("at", 3)]) (g := gName 3) (by rfl) scSc.nd (pi_range2 (by rfl) T.fre (pa_cons pe_int (pa_cons (pe_callB call_len_seq (by rfl) T.fre (by decide +kernel) (pa_cons (pv 1) pa_nil)) pa_nil))) (blkOk_by (N := NSc) (sc := defScope sSc) (by decide +kernel)) (fun _ _ _ _ _ => pg_name (i := 3) scSc.nd rfl (Or.inl rfl))
        (fun _ _ _ _ _ => pts_one (pt_cmpR op_ne (pe_ix (r := rIxL K) ix_list (pv 1) (pv 3) (fun _ _ => rfl)) (pe_ix (r := rIxL K) ix_list (pv 1) (pe_op op_sub (pv 3) pe_int) (fun _ _ => rfl)) (nomark _))) (fun _ _ _ _ _ => pe_int)) pa_nil))))), ?_⟩
    have lz : 10000 ≤ sizeLine := by rw [sizeLine_eq]; decide
    refine ⟨_, rfl, l, rfl, ⟨_, SqL.of el⟩, fun D nD => ?_⟩
    have hln : (cs.map V.int).length = cs.length := List.length_map _
    refine lc_it (walk_list (xs := cs.map V.int)) (fun i H' => Same H H' ∧ H' D = some (.lst ((sgs (cs.take i)).map V.bl))) ⟨same_new nD, upd_same⟩ (fun i H' _ pv => SqL.of (pv.1 _ _ el)) ?_ ?_
    · rintro i v H7 H8 hi ⟨s7, e7⟩ ⟨rfl, hx⟩
      obtain ⟨x, hx', rfl⟩ := getm hx
      have tk : cs.take (i + 1) = cs.take i ++ [x] := take_succ' hx'
      have es : sgs [x] = if x = 0 then [] else [decide (0 < x)] := rfl
      have et : sgs (cs.take (i + 1)) = sgs (cs.take i) ++ if x = 0 then [] else [decide (0 < x)] := by rw [tk, sgs_app, es]
      have li : (sgs (cs.take i)).length ≤ 100 := Nat.le_trans (sgs_len _) (Nat.le_trans (by rw [List.length_take]; omega) hl)
      refine ⟨rfl, _, rfl, rfl, _, rfl, ite2 (fun h => ?_) (fun h => ?_)⟩
      · have z : ¬ x = 0 := fun y => by
          rw [y] at h
          exact absurd h (by decide)
        rw [if_neg z] at et
        refine ⟨_, rfl, x, 0, rfl, rfl, _, e7, ?_, ?_, ?_⟩
        · rw [List.length_map]
          omega
        · intro b' o' e'
          rw [upd_ne (ne_of_none e' nD)]
          exact s7 _ _ e'
        · rw [upd_same, et, List.map_append]
          rfl
      · have z : x = 0 := Classical.byContradiction fun y => h (by rw [decide_eq_false (fun zz => y (by injection zz))]; rfl)
        rw [if_pos z, List.append_nil] at et
        rw [et]
        exact ⟨s7, e7⟩
    · rintro H7 ⟨s7, e7⟩
      rw [hln, List.take_length] at e7
      have lb : (sgs cs).length ≤ 100 := Nat.le_trans (sgs_len cs) hl
      have hlb : ((sgs cs).map V.bl).length = (sgs cs).length := List.length_map _
      refine ⟨_, rfl, D, _, rfl, .inl (SqL.of e7), 1, _, rfl, ⟨by decide, by decide, by rw [hlb]; omega, by rw [hlb]; omega⟩, fun D2 n2 => ?_⟩
      have e1 : ((((sgs cs).map V.bl).length : Nat) - 1 : Int).toNat = (sgs cs).length - 1 := by rw [hlb]; omega
      rw [e1]
      refine lc_it walk_range (fun i H' => Same H7 H' ∧ H' D2 = some (.lst (List.replicate (chB ((sgs cs).take (i + 1))) (V.int 1)))) ⟨same_new n2, ?_⟩ (fun _ _ _ _ => trivial) ?_ ?_
      · rw [upd_same]
        cases sgs cs <;> rfl
      · rintro i v H9 H10 hi ⟨s9, e9⟩ ⟨rfl, rfl⟩
        have hi' : i < (sgs cs).length - 1 := hi
        have g1 : (sgs cs)[i]? = some (sgs cs)[i] := List.getElem?_eq_getElem (by omega)
        have g2 : (sgs cs)[i + 1]? = some (sgs cs)[i + 1] := List.getElem?_eq_getElem (by omega)
        have ct := chB_take g1 g2
        have gm : ∀ {k : Nat} {b : Bool}, (sgs cs)[k]? = some b → ((sgs cs).map V.bl)[k]? = some (V.bl b) := fun h => by rw [List.getElem?_map, h]; rfl
        have i1 : (1 : Int) + (i : Nat) = ((i + 1 : Nat) : Int) := by omega
        have i2 : (1 : Int) + (i : Nat) - 1 = ((i : Nat) : Int) := by omega
        have lc : chB ((sgs cs).take (i + 1)) ≤ 100 := Nat.le_trans (chB_le _) (Nat.le_trans (by rw [List.length_take]; omega) lb)
        refine ⟨rfl, _, rfl, _, rfl, D, _, _, _, rfl, rfl, SqL.of (s9 _ _ e7), by rw [i1]; exact atI_nat (gm g2), _, rfl, _, rfl, _, _, rfl, rfl, D, _, _, _, rfl, rfl, SqL.of (s9 _ _ e7), by rw [i2]; exact atI_nat (gm g1), rfl, _, rfl, ite2 (fun h => ?_) (fun h => ?_)⟩
        · have z : ¬ (sgs cs)[i] = (sgs cs)[i + 1] := fun y => by
            rw [y, decide_eq_true rfl] at h
            exact absurd h (by decide)
          rw [if_neg z] at ct
          refine ⟨_, e9, ?_, ?_, ?_⟩
          · rw [List.length_replicate]
            omega
          · intro b' o' e'
            rw [upd_ne (ne_of_none e' n2)]
            exact s9 _ _ e'
          · rw [upd_same, ct, List.replicate_succ']
        · have z : (sgs cs)[i] = (sgs cs)[i + 1] := Classical.byContradiction fun y => h (by rw [decide_eq_false (fun zz => y (by injection zz with zz; exact zz.symm))]; rfl)
          rw [if_pos z] at ct
          exact ⟨s9, by rw [e9, ct]; rfl⟩
      · rintro H9 ⟨s9, e9⟩
        have e2 : (sgs cs).take ((sgs cs).length - 1 + 1) = sgs cs := List.take_of_length_le (by omega)
        rw [e2] at e9
        refine ⟨D2, _, rfl, .inl (SqL.of e9), ?_⟩
        rw [List.length_replicate]
        exact q H9 (s7.trans s9)
abbrev ScG (P : Program) (w : World) (K : Fr) (mg : Str → Option Value) (base : Heap) : Prop := ∃ f d, Gd P w K mg base 1 "sign_changes" f d ["numbers"] (spSc K)
end
end K71

set_option maxHeartbeats 4000000
set_option exponentiation.threshold 3000
namespace K71
open PySem PySem.Spec PyProof.Rows L2 RtL ErL StX
open SgM (wat sg syn syn_len mv chB sgs sgs_app scl)
theorem scl_snoc (h : Int) : ∀ (p : Int) (xs : List Int) (c : Int), scl h p (xs ++ [c]) = scl h p xs ++ [c * (p * h ^ xs.length)]
  | p, [], c => by simp [scl]
  | p, x :: xs, c => by
    show x * p :: scl h (p * h) (xs ++ [c]) = x * p :: (scl h (p * h) xs ++ [c * (p * h ^ (xs.length + 1))])
    rw [scl_snoc h (p * h) xs c, Int.pow_succ, Int.mul_assoc, Int.mul_comm h]
theorem mv_bd {N m : Nat} {b : Int} (hb : Bd m b) : ∀ {n : Nat} {cs : List Int}, cs.length ≤ 12 → (∀ c ∈ cs, Bd N c) → ∀ x ∈ mv b n cs, Bd (N + n * (12 * (m + 1))) x
  | 0, _, _, _, x, hx => by cases hx
  | n + 1, cs, hl, h, x, hx => by
    have hs := syn_bd hb h
    have ls := syn_len b cs
    have le : N + cs.length * (m + 1) ≤ N + 12 * (m + 1) := Nat.add_le_add_left (Nat.mul_le_mul_right _ hl) _
    unfold mv at hx
    cases e : syn b cs with
    | nil => rw [e] at hx; cases hx
    | cons y t =>
      rw [e] at hx hs ls
      have ht : ∀ c ∈ t, Bd (N + 12 * (m + 1)) c := fun c hc => bd_up (hs c (List.mem_cons_of_mem _ hc)) le
      have hx' : x ∈ y :: mv b n t := hx
      rw [Nat.succ_mul]
      rcases List.mem_cons.mp hx' with z | z
      · rw [z]
        exact bd_up (hs y List.mem_cons_self) (by omega)
      · refine bd_up (mv_bd hb (n := n) (cs := t) (by rw [List.length_cons] at ls; omega) ht x z) (by omega)
theorem pw_bd {m : Nat} {h : Int} (hh : Bd m h) : ∀ n : Nat, Bd (m * n + 1) (h ^ n)
  | 0 => by
    show (h ^ 0).natAbs < 2 ^ (0 + 1)
    rw [Int.pow_zero]
    decide
  | n + 1 => by
    rw [Int.pow_succ]
    exact bd_up (bd_mul (pw_bd hh n) hh) (by rw [Nat.mul_succ]; omega)
theorem scl_bd {N m : Nat} {h : Int} (hh : Bd m h) : ∀ {k : Nat} {p : Int} {xs : List Int}, Bd k p → (∀ c ∈ xs, Bd N c) → ∀ x ∈ scl h p xs, Bd (N + k + xs.length * m) x
  | _, _, [], _, _, x, hx => by cases hx
  | k, p, c :: xs, hp, hc, x, hx => by
    rw [List.length_cons, Nat.succ_mul]
    rcases List.mem_cons.mp (show x ∈ c * p :: scl h (p * h) xs from hx) with z | z
    · rw [z]
      exact bd_up (bd_mul (hc c List.mem_cons_self) hp) (by omega)
    · exact bd_up (scl_bd hh (bd_mul hp hh) (fun y hy => hc y (List.mem_cons_of_mem _ hy)) x z) (by omega)
theorem mv_len' (b : Int) (cs : List Int) : (mv b cs.length cs).length = cs.length := SgM.mv_len b _ _ rfl
section
variable {P : Program} {w : World} {K : Fr} {mg : Str → Option Value} {base : Heap} {f : Addr} {fd : FuncData}
abbrev sMr : Stmt := top 11
abbrev NMr : List Str := ["coefficients", "low", "high", "scaled", "power", "coefficient"]
theorem scMr : FnScope NMr ["coefficients", "low", "high"] (defScope sMr) := ⟨rfl, rfl, rfl, by decide +kernel, rfl, by decide +kernel, by decide +kernel⟩
def spMr (K : Fr) : Sp := fun vs H Q _ => ∃ (t : Addr) (cs : List Int) (a b : Int), vs = [.ref t, .int a, .int b] ∧ H t = some (.tup (cs.map V.int)) ∧ (∀ c ∈ cs, Bd 1000 c) ∧ cs.length ≤ 12 ∧ Bd 1199 a ∧ Bd 1199 b ∧ ∀ H', Same H H' → Q (.int (chB (sgs (SgM.row a b cs)) : Nat)) H'
theorem ok_mr (F : FunD K "most_roots" "most_roots" (defArgs sMr) (defBody sMr) (defScope sMr) [] [] f fd) (T : TT K mg) (G : MvG P w K mg base) (S : ScG P w K mg base) : FnOk P w K mg base CX0 2 f fd ["coefficients", "low", "high"] (spMr K) := by
  obtain ⟨fM, dM, GM⟩ := G
  obtain ⟨fS, dS, GS⟩ := S
  refine F.ok scMr (fun vs H Q E h => ?_) (fun cdv A outer s H vs Q E hr h => ?_)
  · obtain ⟨t, cs, a, b, rfl, _⟩ := h
    rfl
  · obtain ⟨t, cs, a, b, rfl, et, hb, hl, ha, hb2, q⟩ := h
    refine ⟨_, PSs.nox (pss_cons (ps_set (i := 3) scMr.nd rfl (Or.inl rfl) (pe_lst pa_nil))
      (pss_cons (ps_set (i := 4) scMr.nd rfl (Or.inl rfl) pe_int)
      (pss_cons (ps_for PassesOwn.never rfl (pi_list (pe_gd GM hr (by rfl) (pa_cons (pv 0) (pa_cons (pv 1) pa_nil)))) (pg_name (i := 5) scMr.nd rfl (Or.inl rfl))
        (pss_cons (ps_expr (pe_bm PySem.F.plainAttrs_list PySem.F.slot_list_append PySem.F.type_list_append mt_append (pv 3) (pa_cons (pe_op op_mulW (pv 5) (pv 4)) pa_nil)))
        (pss_one (ps_set (i := 4) scMr.nd rfl (Or.inl rfl) (pe_op op_mulW (pv 4) (pe_op op_sub (pv 2) (pv 1)))))))
      (pss_one (ps_ret (pe_gd GS hr (by rfl) (pa_cons (pe_gd GM hr (by rfl) (pa_cons (pe_revL (pv 3)) (pa_cons pe_int pa_nil))) pa_nil))))))), ?_⟩
    have hd : Bd 1200 (b - a) := bd_sub hb2 ha
    refine ⟨Nat.zero_le _, fun S nS => ?_⟩
    have s0 : Same H (upd H S (.lst [])) := same_new nS
    refine ⟨_, rfl, _, rfl, t, cs, a, rfl, .inl (s0 _ _ et), fun c hc => bd_up (hb c hc) (by decide), hl, bd_up ha (by decide), fun m H1 s1 n1 em => ?_⟩
    have eS : H1 S = some (.lst []) := s1 _ _ upd_same
    have dS : m ≠ S := fun z => by rw [z, upd_same] at n1; cases n1
    have hmb := mv_bd (n := cs.length) (b := a) (N := 1000) (m := 1199) ha hl hb
    have hml := mv_len' a cs
    refine ⟨m, rfl, ⟨_, SqL.of em⟩, ?_⟩
    obtain ⟨r, hr'⟩ : ∃ r, r = mv a cs.length cs := ⟨_, rfl⟩
    rw [← hr'] at em hmb hml
    have s01 : Same H H1 := s0.trans s1
    have brr : ∀ c ∈ r, Bd 180000 c := fun c hc => bd_up (hmb c hc) (by omega)
    refine for_list (xs := r.map V.int) (fun i σ H2 => Same H H2 ∧ H2 m = some (.lst (r.map V.int)) ∧ H2 S = some (.lst ((scl (b - a) 1 (r.take i)).map V.int)) ∧ ∃ u : Option V, σ = [some (.ref t), some (.int a), some (.int b), some (.ref S), some (.int ((b - a) ^ i)), u]) ⟨s01, em, eS, none, by rw [Int.pow_zero]; rfl⟩ (fun i σ H2 _ pv => SqL.of pv.2.1) ?_ ?_
    · rintro i v σ H2 hi ⟨s2, e2, eS2, u, rfl⟩
      obtain ⟨c, hc, rfl⟩ := getm hi
      have hi' : i < r.length := (List.getElem?_eq_some_iff.mp hc).1
      have tk : r.take (i + 1) = r.take i ++ [c] := take_succ' hc
      have lt : (r.take i).length = i := by rw [List.length_take]; omega
      have bp : Bd 15000 ((b - a) ^ i) := bd_up (pw_bd hd i) (by omega)
      have bc := brr c (List.mem_of_getElem? hc)
      refine ⟨_, rfl, .inl ⟨rfl, _, SqL.of eS2⟩, _, rfl, _, rfl, _, _, rfl, rfl, cmW bc bp, S, _, _, rfl, rfl, eS2, ?_, ?_⟩
      · rw [List.length_map, SgM.scl_len, lt, sizeLine_eq]
        omega
      refine ⟨_, rfl, _, rfl, _, rfl, _, _, rfl, rfl, _, _, rfl, rfl, cmW bp hd, ?_⟩
      refine ⟨fun b' o' e' => ?_, ?_, ?_, some (.int c), by rw [Int.pow_succ]; rfl⟩
      · rw [upd_ne (ne_of_none e' nS)]
        exact s2 _ _ e'
      · rw [upd_ne dS]
        exact e2
      · rw [upd_same, tk, scl_snoc, lt, Int.one_mul, List.map_append]
        rfl
    · rintro σ H2 ⟨s2, e2, eS2, u, rfl⟩
      rw [List.length_map, List.take_length] at eS2
      have ls : (scl (b - a) 1 r).reverse.length = r.length := by rw [List.length_reverse, SgM.scl_len]
      refine ⟨_, rfl, S, _, rfl, SqL.of eS2, fun p np => ?_⟩
      have s3 : Same H2 (upd H2 p (.lst ((scl (b - a) 1 r).map V.int).reverse)) := same_new np
      refine ⟨p, (scl (b - a) 1 r).reverse, 1, rfl, .inr (by rw [upd_same, List.map_reverse]), fun c hc => ?_, by rw [ls]; omega, bd_up (n := 1) (by decide) (by decide), fun l2 H3 s4 n4 e4 => ?_⟩
      · refine bd_up (scl_bd hd (k := 1) (by decide) brr c (List.mem_reverse.mp hc)) ?_
        have : r.length * 1200 ≤ 12 * 1200 := Nat.mul_le_mul_right _ (by omega)
        omega
      refine ⟨l2, _, rfl, e4, by rw [mv_len', ls]; omega, fun H4 s5 => ?_⟩
      have e : mv 1 (scl (b - a) 1 r).reverse.length (scl (b - a) 1 r).reverse = SgM.row a b cs := by
        unfold SgM.row SgM.bern
        rw [ls, ← hr']
      rw [e]
      exact q H4 (((s2.trans s3).trans s4).trans s5)
abbrev MrG (P : Program) (w : World) (K : Fr) (mg : Str → Option Value) (base : Heap) : Prop := ∃ f d, Gd P w K mg base 2 "most_roots" f d ["coefficients", "low", "high"] (spMr K)
end
end K71

set_option maxHeartbeats 4000000
set_option exponentiation.threshold 3000
namespace K71
open PySem PySem.Spec PyProof.Rows L2 RtL ErL StX
open SgM (wat sg)
section
variable {P : Program} {w : World} {K : Fr} {mg : Str → Option Value} {base : Heap} {f : Addr} {fd : FuncData}
abbrev sFo : Stmt := top 13
abbrev NFo : List Str := ["coefficients", "low", "high", "sign", "middle"]
theorem scFo : FnScope NFo ["coefficients", "low", "high"] (defScope sFo) := ⟨rfl, rfl, rfl, by decide +kernel, rfl, by decide +kernel, by decide +kernel⟩
def spFo (K : Fr) : Sp := fun vs H Q _ => ∃ (t : Addr) (cs : List Int) (a b : Int), vs = [.ref t, .int a, .int b] ∧ H t = some (.tup (cs.map V.int)) ∧ (∀ c ∈ cs, Bd 1000 c) ∧ cs.length ≤ 12 ∧ 0 ≤ a ∧ a < b ∧ Bd 1199 b ∧ sg (wat cs b) ≠ sg (wat cs a) ∧
  ∀ c H', Same H H' → a < c → c ≤ b → sg (wat cs c) ≠ sg (wat cs a) → (c = a + 1 ∨ a < c - 1 ∧ sg (wat cs (c - 1)) = sg (wat cs a)) → Q (.int c) H'
theorem ok_fo (F : FunD K "first_other_sign" "first_other_sign" (defArgs sFo) (defBody sFo) (defScope sFo) [] [] f fd) (T : TT K mg) (G : SaG P w K mg base) : FnOk P w K mg base CX0 3 f fd ["coefficients", "low", "high"] (spFo K) := by
  obtain ⟨fS, dS, GS⟩ := G
  refine F.ok scFo (fun vs H Q E h => ?_) (fun cdv A outer s H vs Q E hr h => ?_)
  · obtain ⟨t, cs, a, b, rfl, _⟩ := h
    rfl
  · obtain ⟨t, cs, a, b, rfl, et, hb, hl, a0, ab, bb, ne, q⟩ := h
    refine ⟨_, PSs.nox (pss_cons (ps_set (i := 3) scFo.nd rfl (Or.inl rfl) (pe_gd GS hr (by rfl) (pa_cons (pv 0) (pa_cons (pv 1) pa_nil))))
      (pss_cons (ps_while PassesOwn.never (pt_cmpR op_gt (pe_op op_sub (pv 2) (pv 1)) pe_int (nomark _))
        (pss_cons (ps_set (i := 4) scFo.nd rfl (Or.inl rfl) (pe_op op_fdivW (pe_op op_add (pv 1) (pv 2)) pe_int))
        (pss_one (ps_if (pt_cmpR op_eq (pe_gd GS hr (by rfl) (pa_cons (pv 0) (pa_cons (pv 4) pa_nil))) (pv 3) (nomark _)) (pss_one (ps_set (i := 1) scFo.nd rfl (Or.inl rfl) (pv 4))) (pss_one (ps_set (i := 2) scFo.nd rfl (Or.inl rfl) (pv 4)))))))
      (pss_one (ps_ret (pv 2))))), ?_⟩
    have bd : ∀ z : Int, 0 ≤ z → z ≤ b → Bd 1200 z := fun z h1 h2 => by
      have : b.natAbs < 2 ^ 1199 := bb
      exact Nat.lt_of_le_of_lt (show z.natAbs ≤ b.natAbs by omega) (Nat.lt_of_lt_of_le this (Nat.pow_le_pow_right (by decide) (by decide)))
    refine ⟨_, rfl, _, rfl, t, cs, a, rfl, et, hb, hl, bd a a0 (by omega), fun H1 s1 => ?_⟩
    refine ⟨fun m σ H' => Same H H' ∧ ∃ (lo hi : Int) (u : Option V), σ = [some (.ref t), some (.int lo), some (.int hi), some (.int (sg (wat cs a))), u] ∧ a ≤ lo ∧ lo < hi ∧ hi ≤ b ∧ sg (wat cs lo) = sg (wat cs a) ∧ sg (wat cs hi) ≠ sg (wat cs a) ∧ (lo = a ∨ a < lo) ∧ m = (hi - lo).toNat, ⟨_, s1, a, b, none, rfl, by omega, ab, by omega, rfl, ne, .inl rfl, rfl⟩, ?_⟩
    rintro m σ H3 ⟨s3, lo, hi, u, rfl, h1, h2, h3, e1, e2, h5, rfl⟩
    refine ⟨_, rfl, _, rfl, _, _, rfl, rfl, _, 1, rfl, rfl, _, rfl, ite2 (fun h => ?_) (fun h => ?_)⟩
    · have h0 : (1 : Int) < hi - lo := of_decide_eq_true h
      have mid : lo < (lo + hi) / 2 ∧ (lo + hi) / 2 < hi := by omega
      refine ⟨fun σ' H' => Same H H' ∧ ∃ (lo' hi' : Int) (u : Option V), σ' = [some (.ref t), some (.int lo'), some (.int hi'), some (.int (sg (wat cs a))), u] ∧ a ≤ lo' ∧ lo' < hi' ∧ hi' ≤ b ∧ sg (wat cs lo') = sg (wat cs a) ∧ sg (wat cs hi') ≠ sg (wat cs a) ∧ (lo' = a ∨ a < lo') ∧ hi' - lo' < hi - lo, ?_, ?_⟩
      · rintro σ' H' ⟨z1, lo', hi', u', z2, z3, z4, z5, z6, z7, z8, z9⟩
        exact ⟨_, by omega, z1, lo', hi', u', z2, z3, z4, z5, z6, z7, z8, rfl⟩
      refine ⟨_, rfl, _, rfl, _, _, rfl, rfl, _, _, rfl, rfl, ⟨by decide, by decide⟩, ?_⟩
      refine ⟨_, rfl, _, rfl, t, cs, _, rfl, s3 _ _ et, hb, hl, bd _ (by omega) (by omega), fun H4 s4 => ⟨_, rfl, rfl, _, rfl, ite2 (fun h6 => ?_) (fun h6 => ?_)⟩⟩
      · have y : sg (wat cs ((lo + hi) / 2)) = sg (wat cs a) := by
          have y := of_decide_eq_true h6
          injection y
        exact ⟨_, rfl, s3.trans s4, (lo + hi) / 2, hi, _, rfl, by omega, by omega, h3, y, e2, .inr (by omega), by omega⟩
      · have y : sg (wat cs ((lo + hi) / 2)) ≠ sg (wat cs a) := fun y => h6 (decide_eq_true (by rw [y]))
        exact ⟨_, rfl, s3.trans s4, lo, (lo + hi) / 2, _, rfl, h1, by omega, by omega, e1, y, h5, by omega⟩
    · have h0 : ¬ (1 : Int) < hi - lo := fun y => h (decide_eq_true y)
      refine ⟨_, rfl, q hi H3 s3 (by omega) h3 e2 ?_⟩
      rcases h5 with rfl | h5
      · exact .inl (by omega)
      · exact .inr ⟨by omega, by rw [show hi - 1 = lo by omega]; exact e1⟩
abbrev FoG (P : Program) (w : World) (K : Fr) (mg : Str → Option Value) (base : Heap) : Prop := ∃ f d, Gd P w K mg base 3 "first_other_sign" f d ["coefficients", "low", "high"] (spFo K)
end
end K71

namespace SgM
/-! ### the sign stays beyond the bound -/
/-- each coefficient below the last is at most A times B to its distance from the last -/
def Small (A B : Int) : List Int → Prop
  | [] => True
  | c :: r => (c.natAbs : Int) ≤ A * B ^ (r.length + 1) ∧ Small A B r
theorem bnd_of {A B l : Int} (hl : A ≤ l) : ∀ {is : List Int}, Small A B is → Bnd A B (is ++ [l])
  | [], _ => hl
  | [c], h => ⟨by have := h.1; show -(A * B ^ 1) ≤ c; have e : (([] : List Int).length + 1) = 1 := rfl; rw [e] at this; omega, hl⟩
  | c :: d :: r, h => by
    refine ⟨?_, bnd_of hl h.2⟩
    have := h.1
    have e : (d :: (r ++ [l])).length = (d :: r).length + 1 := by simp
    show -(A * B ^ (d :: (r ++ [l])).length) ≤ c
    rw [e]
    omega
theorem Small.neg {A B : Int} : ∀ {is : List Int}, Small A B is → Small A B (is.map (- ·))
  | [], h => h
  | c :: r, h => by
    refine ⟨?_, h.2.neg⟩
    rw [List.length_map, Int.natAbs_neg]
    exact h.1
theorem far_sign {A B l : Int} {is : List Int} (hA : 0 < A) (hB : 0 < B) (hl : A ≤ (l.natAbs : Int)) (h : Small A B is) : ∀ d, 2 * B ≤ d → sg (wat (is ++ [l]) d) = sg l := fun d hd => by
  have pos : ∀ {js : List Int} {m : Int}, A ≤ m → Small A B js → 0 < wat (js ++ [m]) d := fun {js m} hm hj => by
    have p := far_pos hA hB hd (bnd_of hm hj)
    have := Int.mul_pos hA (pow_p hB ((js ++ [m]).length - 1))
    omega
  rcases Int.lt_trichotomy l 0 with z | z | z
  · have p := pos (js := is.map (- ·)) (m := -l) (by omega) h.neg
    rw [show is.map (- ·) ++ [-l] = (is ++ [l]).map (- ·) by rw [List.map_append]; rfl, wat_neg] at p
    rw [sg_neg (by omega), sg_neg z]
  · rw [z] at hl
    simp at hl
    omega
  · rw [sg_pos (pos (by omega) h), sg_pos z]
/-- what the quotients say: k times the bound is at least the bits that a coefficient has more -/
theorem quot_le {b k : Int} (hk : 0 < k) : b ≤ k * -((-b).fdiv k) := by
  have h1 := Int.mul_fdiv_add_fmod (-b) k
  have h2 := Int.fmod_nonneg_of_pos (-b) hk
  rw [Int.mul_neg]
  omega
end SgM

namespace SgM
/-! ### a row cut in two has no more changes of sign than before -/
def nc : Option Bool → List Bool → Nat
  | _, [] => 0
  | s, b :: r => (if s = some (!b) then 1 else 0) + nc (some b) r
theorem chB_some : ∀ (l : List Bool) (a : Bool), chB (a :: l) = nc (some a) l
  | [], a => rfl
  | b :: r, a => by
    show (if a = b then 0 else 1) + chB (b :: r) = (if some a = some (!b) then 1 else 0) + nc (some b) r
    rw [chB_some r b]
    cases a <;> cases b <;> rfl
theorem chB_nc : ∀ l : List Bool, chB l = nc none l
  | [] => rfl
  | a :: l => by
    rw [chB_some]
    show _ = (if none = some (!a) then 1 else 0) + nc (some a) l
    rw [if_neg (by simp), Nat.zero_add]
theorem nc_drop (s : Option Bool) (b : Bool) : ∀ Q : List Bool, nc s Q ≤ nc s (b :: Q)
  | [] => Nat.zero_le _
  | q :: r => by
    show (if s = some (!q) then 1 else 0) + nc (some q) r ≤ (if s = some (!b) then 1 else 0) + ((if some b = some (!q) then 1 else 0) + nc (some q) r)
    rcases s with _ | s
    · cases b <;> cases q <;> simp
    · cases s <;> cases b <;> cases q <;> simp <;> omega
theorem nc_none_le (s : Option Bool) : ∀ Q : List Bool, nc none Q ≤ nc s Q
  | [] => Nat.le_refl _
  | q :: r => by
    show (if none = some (!q) then 1 else 0) + nc (some q) r ≤ (if s = some (!q) then 1 else 0) + nc (some q) r
    rw [if_neg (by simp)]
    omega
theorem nc_app : ∀ (l l' : List Bool) (s : Option Bool), nc s l + nc none l' ≤ nc s (l ++ l')
  | [], l', s => by
    show 0 + nc none l' ≤ nc s l'
    have := nc_none_le s l'
    omega
  | b :: r, l', s => by
    have := nc_app r l' (some b)
    show (if s = some (!b) then 1 else 0) + nc (some b) r + nc none l' ≤ (if s = some (!b) then 1 else 0) + nc (some b) (r ++ l')
    omega
theorem chB_app (l l' : List Bool) : chB l + chB l' ≤ chB (l ++ l') := by
  rw [chB_nc, chB_nc, chB_nc]
  exact nc_app l l' none
theorem chB_len : ∀ l : List Bool, chB l ≤ l.length
  | [] => Nat.le_refl _
  | [_] => Nat.zero_le _
  | a :: b :: r => by
    have := chB_len (b :: r)
    show (if a = b then 0 else 1) + chB (b :: r) ≤ (b :: r).length + 1
    split <;> omega
theorem sgs_len : ∀ l : List Int, (sgs l).length ≤ l.length
  | [] => Nat.le_refl _
  | c :: l => by
    have := sgs_len l
    show (if c = 0 then sgs l else decide (0 < c) :: sgs l).length ≤ l.length + 1
    split
    · omega
    · rw [List.length_cons]
      omega
/-- never more changes of sign, wherever they stand -/
def Le (l l' : List Int) : Prop := ∀ s Q, nc s (sgs l ++ Q) ≤ nc s (sgs l' ++ Q)
theorem Le.refl (l : List Int) : Le l l := fun _ _ => Nat.le_refl _
theorem Le.trans {a b c : List Int} (h : Le a b) (h' : Le b c) : Le a c := fun s Q => Nat.le_trans (h s Q) (h' s Q)
theorem sgs_cons (x : Int) (l : List Int) : sgs (x :: l) = if x = 0 then sgs l else decide (0 < x) :: sgs l := rfl
theorem Le.cons (x : Int) {l l' : List Int} (h : Le l l') : Le (x :: l) (x :: l') := fun s Q => by
  rw [sgs_cons, sgs_cons]
  split
  · exact h s Q
  · exact Nat.add_le_add_left (h _ Q) _
theorem Le.app {l l' : List Int} (h : Le l l') (r : List Int) : Le (l ++ r) (l' ++ r) := fun s Q => by
  rw [sgs_app, sgs_app, List.append_assoc, List.append_assoc]
  exact h s _
theorem Le.ins (x : Int) (l : List Int) : Le l (x :: l) := fun s Q => by
  rw [sgs_cons]
  split
  · exact Nat.le_refl _
  · exact nc_drop s _ _
theorem nc_dup (s : Option Bool) (b : Bool) (Q : List Bool) : nc s (b :: b :: Q) = nc s (b :: Q) := by
  show (if s = some (!b) then 1 else 0) + ((if some b = some (!b) then 1 else 0) + nc (some b) Q) = _
  rw [if_neg (show ¬ some b = some (!b) by cases b <;> simp)]
  show _ = (if s = some (!b) then 1 else 0) + nc (some b) Q
  omega
theorem Le.mid {a b : Int} (ha : 0 < a) (hb : 0 < b) (x y : Int) (l : List Int) : Le (x :: (a * x + b * y) :: y :: l) (x :: y :: l) := fun s Q => by
  rw [sgs_cons, sgs_cons, sgs_cons, sgs_cons, sgs_cons]
  rcases Int.lt_trichotomy x 0 with hx | hx | hx
  · have ax : a * x < 0 := Int.mul_neg_of_pos_of_neg ha hx
    rw [if_neg (by omega), decide_eq_false (show ¬ 0 < x by omega)]
    rcases Int.lt_trichotomy y 0 with hy | hy | hy
    · have bY : b * y < 0 := Int.mul_neg_of_pos_of_neg hb hy
      rw [if_neg (by omega), if_neg (by omega), if_neg (by omega), decide_eq_false (show ¬ 0 < y by omega), decide_eq_false (show ¬ 0 < a * x + b * y by omega)]
      show nc s (false :: false :: false :: (sgs l ++ Q)) ≤ nc s (false :: false :: (sgs l ++ Q))
      rw [nc_dup]
      exact Nat.le_refl _
    · rw [hy, Int.mul_zero, Int.add_zero, if_neg (by omega), if_pos rfl, if_neg (by omega), decide_eq_false (show ¬ 0 < a * x by omega)]
      show nc s (false :: false :: (sgs l ++ Q)) ≤ nc s (false :: (sgs l ++ Q))
      rw [nc_dup]
      exact Nat.le_refl _
    · rw [if_neg (show ¬ y = 0 by omega), if_neg (show ¬ x = 0 by omega), decide_eq_true hy]
      split
      · exact Nat.le_refl _
      · rcases Int.lt_or_le 0 (a * x + b * y) with z | z
        · rw [decide_eq_true z]
          show nc s (false :: true :: true :: (sgs l ++ Q)) ≤ nc s (false :: true :: (sgs l ++ Q))
          exact Nat.add_le_add_left (Nat.le_of_eq (nc_dup _ _ _)) _
        · rw [decide_eq_false (by omega)]
          show nc s (false :: false :: true :: (sgs l ++ Q)) ≤ nc s (false :: true :: (sgs l ++ Q))
          rw [nc_dup]
          exact Nat.le_refl _
  · rw [hx, Int.mul_zero, Int.zero_add, if_pos rfl, if_pos rfl]
    rcases Int.lt_trichotomy y 0 with hy | hy | hy
    · have bY : b * y < 0 := Int.mul_neg_of_pos_of_neg hb hy
      rw [if_neg (by omega), if_neg (by omega), decide_eq_false (show ¬ 0 < y by omega), decide_eq_false (show ¬ 0 < b * y by omega)]
      show nc s (false :: false :: (sgs l ++ Q)) ≤ nc s (false :: (sgs l ++ Q))
      rw [nc_dup]
      exact Nat.le_refl _
    · rw [hy, Int.mul_zero, if_pos rfl]
      exact Nat.le_refl _
    · have bY : 0 < b * y := Int.mul_pos hb hy
      rw [if_neg (by omega), if_neg (by omega), decide_eq_true hy, decide_eq_true bY]
      show nc s (true :: true :: (sgs l ++ Q)) ≤ nc s (true :: (sgs l ++ Q))
      rw [nc_dup]
      exact Nat.le_refl _
  · have ax : 0 < a * x := Int.mul_pos ha hx
    rw [if_neg (by omega), decide_eq_true hx]
    rcases Int.lt_trichotomy y 0 with hy | hy | hy
    · rw [if_neg (show ¬ y = 0 by omega), if_neg (show ¬ x = 0 by omega), decide_eq_false (show ¬ 0 < y by omega)]
      split
      · exact Nat.le_refl _
      · rcases Int.lt_or_le 0 (a * x + b * y) with z | z
        · rw [decide_eq_true z]
          show nc s (true :: true :: false :: (sgs l ++ Q)) ≤ nc s (true :: false :: (sgs l ++ Q))
          rw [nc_dup]
          exact Nat.le_refl _
        · rw [decide_eq_false (by omega)]
          show nc s (true :: false :: false :: (sgs l ++ Q)) ≤ nc s (true :: false :: (sgs l ++ Q))
          exact Nat.add_le_add_left (Nat.le_of_eq (nc_dup _ _ _)) _
    · rw [hy, Int.mul_zero, Int.add_zero, if_neg (by omega), if_pos rfl, if_neg (by omega), decide_eq_true ax]
      show nc s (true :: true :: (sgs l ++ Q)) ≤ nc s (true :: (sgs l ++ Q))
      rw [nc_dup]
      exact Nat.le_refl _
    · have bY : 0 < b * y := Int.mul_pos hb hy
      rw [if_neg (by omega), if_neg (by omega), if_neg (by omega), decide_eq_true hy, decide_eq_true (show 0 < a * x + b * y by omega)]
      show nc s (true :: true :: true :: (sgs l ++ Q)) ≤ nc s (true :: true :: (sgs l ++ Q))
      rw [nc_dup]
      exact Nat.le_refl _
/-! ### rows as functions -/
def tol : Nat → (Nat → Int) → List Int
  | 0, f => [f 0]
  | n + 1, f => f 0 :: tol n (fun j => f (j + 1))
theorem tol_len : ∀ (n : Nat) (f : Nat → Int), (tol n f).length = n + 1
  | 0, _ => rfl
  | n + 1, f => congrArg Nat.succ (tol_len n _)
theorem tol_snoc : ∀ (n : Nat) (f : Nat → Int), tol (n + 1) f = tol n f ++ [f (n + 1)]
  | 0, f => rfl
  | n + 1, f => by
    show f 0 :: tol (n + 1) (fun j => f (j + 1)) = f 0 :: (tol n (fun j => f (j + 1)) ++ [f (n + 2)])
    rw [tol_snoc n]
theorem tol_congr : ∀ {n : Nat} {f g : Nat → Int}, (∀ j, j ≤ n → f j = g j) → tol n f = tol n g
  | 0, f, g, h => by
    show [f 0] = [g 0]
    rw [h 0 (Nat.le_refl 0)]
  | n + 1, f, g, h => by
    show f 0 :: tol n _ = g 0 :: tol n _
    rw [h 0 (Nat.zero_le _), tol_congr fun j hj => h (j + 1) (by omega)]
theorem tol_getD : ∀ (l : List Int) (n : Nat), l.length = n + 1 → tol n (fun j => l.getD j 0) = l
  | [c], 0, _ => rfl
  | c :: d :: r, n + 1, h => by
    show c :: tol n (fun j => (d :: r).getD j 0) = c :: d :: r
    rw [tol_getD (d :: r) n (Nat.succ.inj h)]
def cut (a b : Int) (f : Nat → Int) : Nat → Int := fun j => a * f j + b * f (j + 1)
def cutN (a b : Int) : Nat → (Nat → Int) → Nat → Int
  | 0, f => f
  | k + 1, f => cutN a b k (cut a b f)
theorem cutN_shift (a b : Int) : ∀ (k : Nat) (f : Nat → Int) (j : Nat), cutN a b k (fun i => f (i + 1)) j = cutN a b k f (j + 1)
  | 0, _, _ => rfl
  | k + 1, f, j => cutN_shift a b k (cut a b f) j
theorem corner {a b : Int} (ha : 0 < a) (hb : 0 < b) : ∀ (n : Nat) (f : Nat → Int), Le (f 0 :: (tol n (cut a b f) ++ [f (n + 1)])) (tol (n + 1) f)
  | 0, f => Le.mid ha hb (f 0) (f 1) []
  | n + 1, f => by
    have ih := corner ha hb n fun j => f (j + 1)
    show Le (f 0 :: (a * f 0 + b * f 1) :: (tol n (cut a b fun j => f (j + 1)) ++ [f (n + 2)])) (f 0 :: tol (n + 1) fun j => f (j + 1))
    exact (((Le.ins (f 1) _).cons _).cons _).trans ((Le.mid ha hb (f 0) (f 1) _).trans (ih.cons _))
/-- the two edges of the triangle -/
theorem edges {a b : Int} (ha : 0 < a) (hb : 0 < b) : ∀ (n : Nat) (f : Nat → Int), Le (tol n (fun k => cutN a b k f 0) ++ tol n (fun j => cutN a b (n - j) f j)) (tol n f)
  | 0, f => fun s Q => by
    show nc s (sgs [f 0, f 0] ++ Q) ≤ nc s (sgs [f 0] ++ Q)
    rw [sgs_cons, sgs_cons]
    split
    · exact Nat.le_refl _
    · show nc s (decide (0 < f 0) :: decide (0 < f 0) :: Q) ≤ nc s (decide (0 < f 0) :: Q)
      rw [nc_dup]
      exact Nat.le_refl _
  | n + 1, f => by
    have ih := edges ha hb n (cut a b f)
    have e1 : tol (n + 1) (fun k => cutN a b k f 0) = f 0 :: tol n (fun k => cutN a b k (cut a b f) 0) := rfl
    have e2 : tol (n + 1) (fun j => cutN a b (n + 1 - j) f j) = tol n (fun j => cutN a b (n - j) (cut a b f) j) ++ [f (n + 1)] := by
      rw [tol_snoc, Nat.sub_self]
      congr 1
      refine tol_congr fun j hj => ?_
      show cutN a b (n + 1 - j) f j = _
      rw [show n + 1 - j = (n - j) + 1 by omega]
      rfl
    rw [e1, e2, List.cons_append, ← List.append_assoc]
    exact ((ih.app _).cons _).trans (corner ha hb n f)
/-! ### values -/
def ev (p q : Int) : Nat → (Nat → Int) → Int
  | 0, f => f 0
  | n + 1, f => p * ev p q n f + q * ev p q n (fun j => f (j + 1))
theorem ev_lin (p q a b : Int) : ∀ (n : Nat) (f g : Nat → Int), ev p q n (fun j => a * f j + b * g j) = a * ev p q n f + b * ev p q n g
  | 0, _, _ => rfl
  | n + 1, f, g => by
    show p * ev p q n (fun j => a * f j + b * g j) + q * ev p q n (fun j => a * f (j + 1) + b * g (j + 1)) = a * (p * ev p q n f + q * ev p q n fun j => f (j + 1)) + b * (p * ev p q n g + q * ev p q n fun j => g (j + 1))
    rw [ev_lin p q a b n, ev_lin p q a b n (fun j => f (j + 1)) (fun j => g (j + 1))]
    grind
theorem ev_congr (p q : Int) : ∀ {n : Nat} {f g : Nat → Int}, (∀ j, j ≤ n → f j = g j) → ev p q n f = ev p q n g
  | 0, f, g, h => h 0 (Nat.le_refl _)
  | n + 1, f, g, h => by
    show p * ev p q n f + q * ev p q n (fun j => f (j + 1)) = p * ev p q n g + q * ev p q n (fun j => g (j + 1))
    rw [ev_congr p q fun j hj => h j (by omega), ev_congr (f := fun j => f (j + 1)) (g := fun j => g (j + 1)) p q fun j hj => h (j + 1) (by omega)]
theorem ev_hom (k p q : Int) : ∀ (n : Nat) (f : Nat → Int), ev (k * p) (k * q) n f = k ^ n * ev p q n f
  | 0, f => by
    show f 0 = k ^ 0 * f 0
    simp
  | n + 1, f => by
    show k * p * ev (k * p) (k * q) n f + k * q * ev (k * p) (k * q) n (fun j => f (j + 1)) = k ^ (n + 1) * (p * ev p q n f + q * ev p q n fun j => f (j + 1))
    rw [ev_hom k p q n, ev_hom k p q n, Int.pow_succ]
    grind
theorem sub_H (a b c d : Int) : ∀ (n : Nat) (f : Nat → Int), ev (c + d * a) (d * b) n f = ev c d n (fun k => cutN a b k f 0)
  | 0, f => rfl
  | n + 1, f => by
    have e : ev c d (n + 1) (fun k => cutN a b k f 0) = c * ev c d n (fun k => cutN a b k f 0) + d * ev c d n (fun k => cutN a b k (cut a b f) 0) := rfl
    rw [e, ← sub_H a b c d n f, ← sub_H a b c d n (cut a b f)]
    show (c + d * a) * ev (c + d * a) (d * b) n f + d * b * ev (c + d * a) (d * b) n (fun j => f (j + 1)) = _
    rw [show cut a b f = fun j => a * f j + b * f (j + 1) from rfl, ev_lin (c + d * a) (d * b) a b n f fun j => f (j + 1)]
    grind
theorem sub_L (a b c d : Int) : ∀ (n : Nat) (f : Nat → Int), ev (d * a) (c + d * b) n f = ev c d n (fun k => cutN a b k f (n - k))
  | 0, f => rfl
  | n + 1, f => by
    have e : ev c d (n + 1) (fun k => cutN a b k f (n + 1 - k)) = c * ev c d n (fun k => cutN a b k (fun i => f (i + 1)) (n - k)) + d * ev c d n (fun k => cutN a b k (cut a b f) (n - k)) := by
      show c * ev c d n (fun k => cutN a b k f (n + 1 - k)) + d * ev c d n (fun k => cutN a b (k + 1) f (n + 1 - (k + 1))) = _
      congr 1
      · congr 1
        refine ev_congr c d fun k hk => ?_
        rw [cutN_shift, show n - k + 1 = n + 1 - k by omega]
      · congr 1
        refine ev_congr c d fun k hk => ?_
        rw [show n + 1 - (k + 1) = n - k by omega]
        rfl
    rw [e, ← sub_L a b c d n, ← sub_L a b c d n (cut a b f)]
    show d * a * ev (d * a) (c + d * b) n f + (c + d * b) * ev (d * a) (c + d * b) n (fun j => f (j + 1)) = _
    rw [show cut a b f = fun j => a * f j + b * f (j + 1) from rfl, ev_lin (d * a) (c + d * b) a b n f fun j => f (j + 1)]
    grind
/-! ### the sums -/
def hs (n : Nat) (f : Nat → Int) (x y : Int) : Int := hw (tol n f) x y
theorem hs_succ (n : Nat) (f : Nat → Int) (x y : Int) : hs (n + 1) f x y = f 0 * y ^ (n + 1) + x * hs n (fun j => f (j + 1)) x y := by
  show f 0 * y ^ (tol n fun j => f (j + 1)).length + x * hw (tol n fun j => f (j + 1)) x y = _
  rw [tol_len]
  rfl
theorem hs_zero (f : Nat → Int) (x y : Int) : hs 0 f x y = f 0 := by
  show f 0 * y ^ 0 + x * 0 = f 0
  simp
theorem hs_snoc (n : Nat) (f : Nat → Int) (x y : Int) : hs (n + 1) f x y = y * hs n f x y + f (n + 1) * x ^ (n + 1) := by
  show hw (tol (n + 1) f) x y = _
  rw [tol_snoc, hw_app, tol_len]
  rfl
theorem hs_congr {n : Nat} {f g : Nat → Int} (x y : Int) (h : ∀ j, j ≤ n → f j = g j) : hs n f x y = hs n g x y := by
  show hw (tol n f) x y = hw (tol n g) x y
  rw [tol_congr h]
theorem hs_lin (a b x y : Int) : ∀ (n : Nat) (f g : Nat → Int), hs n (fun j => a * f j + b * g j) x y = a * hs n f x y + b * hs n g x y
  | 0, f, g => by rw [hs_zero, hs_zero, hs_zero]
  | n + 1, f, g => by
    rw [hs_succ, hs_succ, hs_succ, hs_lin a b x y n (fun j => f (j + 1)) fun j => g (j + 1)]
    grind
/-- binomials -/
def bn : Nat → Nat → Int
  | 0, 0 => 1
  | 0, _ + 1 => 0
  | _ + 1, 0 => 1
  | n + 1, j + 1 => bn n j + bn n (j + 1)
theorem bn_nn : ∀ n j, 0 ≤ bn n j
  | 0, 0 => by decide
  | 0, _ + 1 => by show (0 : Int) ≤ 0; omega
  | _ + 1, 0 => by show (0 : Int) ≤ 1; omega
  | n + 1, j + 1 => Int.add_nonneg (bn_nn n j) (bn_nn n (j + 1))
theorem bn_pos : ∀ n j, j ≤ n → 0 < bn n j
  | 0, 0, _ => by decide
  | _ + 1, 0, _ => by show (0 : Int) < 1; omega
  | n + 1, j + 1, h => by
    have a := bn_pos n j (by omega)
    have b := bn_nn n (j + 1)
    show 0 < bn n j + bn n (j + 1)
    omega
theorem bn_out : ∀ n j, n < j → bn n j = 0
  | 0, _ + 1, _ => rfl
  | n + 1, j + 1, h => by
    show bn n j + bn n (j + 1) = 0
    rw [bn_out n j (by omega), bn_out n (j + 1) (by omega)]
    rfl
theorem ev_hs (p q : Int) : ∀ (n : Nat) (f : Nat → Int), ev p q n f = hs n (fun j => bn n j * f j) q p
  | 0, f => by
    rw [hs_zero]
    show f 0 = 1 * f 0
    omega
  | n + 1, f => by
    have k : hs (n + 1) (fun j => bn (n + 1) j * f j) q p = hs (n + 1) (fun j => 1 * (bn n j * f j) + 1 * (match j with | 0 => 0 | i + 1 => bn n i * f (i + 1))) q p := by
      refine hs_congr q p fun j hj => ?_
      cases j with
      | zero =>
        show bn (n + 1) 0 * f 0 = 1 * (bn n 0 * f 0) + 1 * 0
        have : bn n 0 = 1 := by cases n <;> rfl
        rw [this]
        show 1 * f 0 = _
        omega
      | succ i =>
        show (bn n i + bn n (i + 1)) * f (i + 1) = 1 * (bn n (i + 1) * f (i + 1)) + 1 * (bn n i * f (i + 1))
        grind
    rw [k, hs_lin, hs_snoc, hs_succ, bn_out n (n + 1) (by omega)]
    show p * ev p q n f + q * ev p q n (fun j => f (j + 1)) = 1 * (p * hs n (fun j => bn n j * f j) q p + 0 * f (n + 1) * q ^ (n + 1)) + 1 * (0 * p ^ (n + 1) + q * hs n (fun i => bn n i * f (i + 1)) q p)
    rw [ev_hs p q n f, ev_hs p q n fun j => f (j + 1)]
    grind
theorem tol_rev : ∀ (n : Nat) (f : Nat → Int), (tol n f).reverse = tol n (fun j => f (n - j))
  | 0, f => rfl
  | n + 1, f => by
    rw [tol_snoc n f, List.reverse_append, tol_rev n f]
    show f (n + 1) :: tol n (fun j => f (n - j)) = f (n + 1 - 0) :: tol n (fun j => f (n + 1 - (j + 1)))
    congr 1
    exact tol_congr fun j hj => by rw [show n + 1 - (j + 1) = n - j by omega]
theorem hs_rev (n : Nat) (f : Nat → Int) (x y : Int) : hs n f x y = hs n (fun j => f (n - j)) y x := by
  show hw (tol n f) x y = hw (tol n fun j => f (n - j)) y x
  rw [← tol_rev, hw_rev]
theorem hs_scaleX (w x y : Int) : ∀ (n : Nat) (f : Nat → Int), hs n f (w * x) y = hs n (fun j => w ^ j * f j) x y
  | 0, f => by rw [hs_zero, hs_zero]; simp
  | n + 1, f => by
    have e : (fun j => w ^ (j + 1) * f (j + 1)) = fun j => w * (w ^ j * f (j + 1)) + 0 * (0 : Int) := by
      funext j
      rw [Int.pow_succ]
      grind
    rw [hs_succ, hs_succ, hs_scaleX w x y n fun j => f (j + 1), e, hs_lin w 0 x y n (fun j => w ^ j * f (j + 1)) fun _ => 0]
    rw [Int.pow_zero]
    grind
theorem hs_scaleY (w x y : Int) (n : Nat) (f : Nat → Int) : hs n f x (w * y) = hs n (fun j => w ^ (n - j) * f j) x y := by
  rw [hs_rev, hs_scaleX, hs_rev n fun j => w ^ (n - j) * f j]
  exact hs_congr _ _ fun j hj => by rw [show n - (n - j) = j by omega]
/-! ### what the values say of the row -/
theorem pow_mod (w z : Int) : ∀ n : Nat, ∃ k, (z + w) ^ n = w ^ n + z * k
  | 0 => ⟨0, by simp⟩
  | n + 1 => by
    obtain ⟨k, e⟩ := pow_mod w z n
    refine ⟨k * (z + w) + w ^ n, ?_⟩
    rw [Int.pow_succ, Int.pow_succ, e]
    grind
theorem div_all {c : Int} (h : ∀ z : Int, 0 < z → ∃ k, c = z * k) : c = 0 := Classical.byContradiction fun n => by
  obtain ⟨k, e⟩ := h (c.natAbs + 1) (by omega)
  have e2 : c.natAbs = ((c.natAbs : Int) + 1).natAbs * k.natAbs := by
    rw [← Int.natAbs_mul, ← e]
  have kp : 0 < k.natAbs := by
    rcases Nat.eq_zero_or_pos k.natAbs with z | z
    · rw [z] at e2
      omega
    · exact z
  have := Nat.le_mul_of_pos_right (((c.natAbs : Int) + 1).natAbs) kp
  omega
theorem uq {w : Int} (hw0 : w ≠ 0) : ∀ {n : Nat} {f : Nat → Int}, (∀ Y, w < Y → hs n f (w - Y) Y = 0) → ∀ j, j ≤ n → f j = 0
  | 0, f, h, j, hj => by
    have := h (w + 1) (by omega)
    rw [hs_zero] at this
    rw [show j = 0 by omega]
    exact this
  | n + 1, f, h, j, hj => by
    have h0 : f 0 = 0 := by
      have : f 0 * w ^ (n + 1) = 0 := div_all fun z hz => by
        have e := h (z + w) (by omega)
        rw [hs_succ] at e
        obtain ⟨k, ek⟩ := pow_mod w z (n + 1)
        rw [ek, show w - (z + w) = -z by omega] at e
        generalize hs n (fun j => f (j + 1)) (-z) (z + w) = V at e
        exact ⟨V - f 0 * k, by grind⟩
      rcases Int.mul_eq_zero.mp this with z | z
      · exact z
      · exact absurd z (Int.pow_ne_zero hw0)
    have h1 : ∀ Y, w < Y → hs n (fun j => f (j + 1)) (w - Y) Y = 0 := fun Y hY => by
      have e := h Y hY
      rw [hs_succ, h0, Int.zero_mul, Int.zero_add] at e
      rcases Int.mul_eq_zero.mp e with z | z
      · omega
      · exact z
    cases j with
    | zero => exact h0
    | succ i => exact uq hw0 h1 i (by omega)
theorem uq2 {w a b : Int} (hw0 : w ≠ 0) {n : Nat} {f g : Nat → Int} (h : ∀ Y, a * hs n f (w - Y) Y = b * hs n g (w - Y) Y) : ∀ j, j ≤ n → a * f j = b * g j := fun j hj => by
  have := uq hw0 (n := n) (f := fun j => a * f j + (-b) * g j) (fun Y _ => by rw [hs_lin, h Y]; grind) j hj
  have t : a * f j + (-b) * g j = 0 := this
  grind
theorem common : ∀ (n : Nat) (f : Nat → Int), (∀ j, j ≤ n → 0 < f j) → ∃ N : Int, 0 < N ∧ ∃ m : Nat → Int, ∀ j, j ≤ n → 0 < m j ∧ f j * m j = N
  | 0, f, h => ⟨f 0, h 0 (Nat.le_refl _), fun _ => 1, fun j hj => ⟨Int.one_pos, by rw [show j = 0 by omega]; simp⟩⟩
  | n + 1, f, h => by
    obtain ⟨N, hN, m, hm⟩ := common n f fun j hj => h j (by omega)
    have hl := h (n + 1) (Nat.le_refl _)
    refine ⟨N * f (n + 1), Int.mul_pos hN hl, fun j => if j = n + 1 then N else m j * f (n + 1), fun j hj => ?_⟩
    by_cases z : j = n + 1
    · dsimp only
      rw [if_pos z, z]
      exact ⟨hN, Int.mul_comm _ _⟩
    · obtain ⟨a, b⟩ := hm j (by omega)
      dsimp only
      rw [if_neg z]
      exact ⟨Int.mul_pos a hl, by rw [← Int.mul_assoc, b]⟩
theorem sgs_pos : ∀ {n : Nat} {f g : Nat → Int}, (∀ j, j ≤ n → ∃ a b : Int, 0 < a ∧ 0 < b ∧ a * f j = b * g j) → sgs (tol n f) = sgs (tol n g) := by
  have one : ∀ {x y : Int} {l l' : List Int}, (∃ a b : Int, 0 < a ∧ 0 < b ∧ a * x = b * y) → sgs l = sgs l' → sgs (x :: l) = sgs (y :: l') := by
    intro x y l l' ⟨a, b, ha, hb, e⟩ h
    rw [sgs_cons, sgs_cons, h]
    rcases Int.lt_trichotomy x 0 with z | z | z
    · have e1 : a * x < 0 := Int.mul_neg_of_pos_of_neg ha z
      have e2 : y < 0 := by
        rcases Int.lt_or_le y 0 with u | u
        · exact u
        · have := Int.mul_nonneg (Int.le_of_lt hb) u
          omega
      rw [if_neg (by omega), if_neg (by omega), decide_eq_false (by omega), decide_eq_false (by omega)]
    · rw [z, Int.mul_zero] at e
      have e2 : y = 0 := by
        rcases Int.mul_eq_zero.mp e.symm with u | u
        · omega
        · exact u
      rw [if_pos z, if_pos e2]
    · have e1 : 0 < a * x := Int.mul_pos ha z
      have e2 : 0 < y := by
        rcases Int.lt_or_le 0 y with u | u
        · exact u
        · have := Int.mul_nonpos_of_nonneg_of_nonpos (Int.le_of_lt hb) u
          omega
      rw [if_neg (by omega), if_neg (by omega), decide_eq_true z, decide_eq_true e2]
  intro n
  induction n with
  | zero => exact fun h => one (h 0 (Nat.le_refl _)) rfl
  | succ n ih => exact fun h => one (h 0 (Nat.zero_le _)) (ih fun j hj => h (j + 1) (by omega))
/-- the changes of the two halves are no more than those of the whole -/
theorem halves {low mid high : Int} (h1 : low < mid) (h2 : mid < high) (cs : List Int) : chB (sgs (row low mid cs)) + chB (sgs (row mid high cs)) ≤ chB (sgs (row low high cs)) := by
  rcases Nat.eq_zero_or_pos cs.length with z | z
  · have e : ∀ a b : Int, row a b cs = [] := fun a b => List.length_eq_zero_iff.mp ((row_len a b cs).trans z)
    rw [e, e]
    exact Nat.zero_le _
  obtain ⟨n, hn⟩ : ∃ n, cs.length = n + 1 := ⟨cs.length - 1, by omega⟩
  have tl : ∀ a b : Int, tol n (fun j => (row a b cs).getD j 0) = row a b cs := fun a b => tol_getD _ n ((row_len a b cs).trans hn)
  have val : ∀ a b d : Int, hs n (fun j => (row a b cs).getD j 0) (b - d) (d - a) = (b - a) ^ n * wat cs d := fun a b d => by
    show hw (tol n fun j => (row a b cs).getD j 0) _ _ = _
    rw [tl, row_hw, hn, Nat.add_sub_cancel]
  obtain ⟨N, hN, m, hm⟩ := common n (bn n) (bn_pos n)
  let B : Nat → Int := fun j => m j * (row low high cs).getD j 0
  have evB : ∀ d, ev (d - low) (high - d) n B = N * ((high - low) ^ n * wat cs d) := fun d => by
    rw [ev_hs, ← val low high d]
    have e : hs n (fun j => bn n j * B j) (high - d) (d - low) = hs n (fun j => N * (row low high cs).getD j 0 + 0 * (0 : Int)) (high - d) (d - low) := by
      refine hs_congr _ _ fun j hj => ?_
      show bn n j * (m j * _) = _
      rw [← Int.mul_assoc, (hm j hj).2]
      omega
    rw [e, hs_lin N 0 _ _ n (fun j => (row low high cs).getD j 0) fun _ => 0]
    omega
  have hw0 : 0 < high - low := by omega
  have Wp : ∀ k : Nat, 0 < (high - low) ^ k := fun k => pow_p hw0 k
  have E1 : sgs (row low mid cs) = sgs (tol n fun j => cutN (mid - low) (high - mid) (n - j) B j) := by
    rw [← tl low mid]
    refine sgs_pos fun j hj => ⟨N * (high - low) ^ n, (high - low) ^ j * bn n (n - j), Int.mul_pos hN (Wp n), Int.mul_pos (Wp j) (bn_pos n _ (by omega)), ?_⟩
    have k := uq2 (w := mid - low) (a := N * (high - low) ^ n) (b := 1) (by omega) (n := n) (f := fun j => (row low mid cs).getD j 0) (g := fun j => (high - low) ^ j * (bn n (n - j) * cutN (mid - low) (high - mid) (n - j) B (n - (n - j)))) (fun Y => ?_) j hj
    · rw [show n - (n - j) = j by omega] at k
      rw [k]
      grind
    · have v := val low mid (Y + low)
      rw [show mid - (Y + low) = mid - low - Y by omega, show Y + low - low = Y by omega] at v
      rw [v, ← hs_scaleX]
      have r := hs_rev n (fun k => bn n k * cutN (mid - low) (high - mid) k B (n - k)) Y ((high - low) * (mid - low - Y))
      have r' : hs n (fun k => bn n k * cutN (mid - low) (high - mid) k B (n - k)) Y ((high - low) * (mid - low - Y)) = hs n (fun j => bn n (n - j) * cutN (mid - low) (high - mid) (n - j) B (n - (n - j))) ((high - low) * (mid - low - Y)) Y := r
      rw [← r', ← ev_hs, ← sub_L]
      have e1 : Y * (mid - low) = (mid - low) * (Y + low - low) := by grind
      have e2 : (high - low) * (mid - low - Y) + Y * (high - mid) = (mid - low) * (high - (Y + low)) := by grind
      rw [e1, e2, ev_hom, evB]
      grind
  have E2 : sgs (row mid high cs) = sgs (tol n fun k => cutN (mid - low) (high - mid) k B 0) := by
    rw [← tl mid high]
    refine sgs_pos fun j hj => ⟨N * (high - low) ^ n, (high - low) ^ (n - j) * bn n j, Int.mul_pos hN (Wp n), Int.mul_pos (Wp _) (bn_pos n _ hj), ?_⟩
    have k := uq2 (w := high - mid) (a := N * (high - low) ^ n) (b := 1) (by omega) (n := n) (f := fun j => (row mid high cs).getD j 0) (g := fun j => (high - low) ^ (n - j) * (bn n j * cutN (mid - low) (high - mid) j B 0)) (fun Y => ?_) j hj
    · rw [k]
      grind
    · have v := val mid high (Y + mid)
      rw [show high - (Y + mid) = high - mid - Y by omega, show Y + mid - mid = Y by omega] at v
      rw [v, ← hs_scaleY, ← ev_hs, ← sub_H]
      have e1 : (high - low) * Y + (high - mid - Y) * (mid - low) = (high - mid) * (Y + mid - low) := by grind
      have e2 : (high - mid - Y) * (high - mid) = (high - mid) * (high - (Y + mid)) := by grind
      rw [e1, e2, ev_hom, evB]
      grind
  have E3 : sgs (row low high cs) = sgs (tol n B) := by
    rw [← tl low high]
    exact sgs_pos fun j hj => ⟨m j, 1, (hm j hj).1, by decide, by show _ = 1 * (m j * _); omega⟩
  have k := edges (show 0 < mid - low by omega) (show 0 < high - mid by omega) n B none []
  rw [List.append_nil, List.append_nil, ← chB_nc, ← chB_nc, sgs_app, ← E1, ← E2, ← E3] at k
  have := chB_app (sgs (row mid high cs)) (sgs (row low mid cs))
  omega
end SgM

set_option maxHeartbeats 4000000
set_option exponentiation.threshold 3000
namespace K71
open PySem PySem.Spec PyProof.Rows L2 RtL ErL StX
open SgM (wat sg chB sgs CovTo)
theorem sg_nz {z : Int} (h : sg z ≠ 0) : z ≠ 0 := fun y => h (by rw [y]; rfl)
section
variable {P : Program} {w : World} {K : Fr} {mg : Str → Option Value} {base : Heap} {f : Addr} {fd : FuncData}
abbrev sMb : Stmt := top 14
abbrev NMb : List Str := ["coefficients", "low", "high", "many", "change"]
theorem scMb : FnScope NMb ["coefficients", "low", "high"] (defScope sMb) := ⟨rfl, rfl, rfl, by decide +kernel, rfl, by decide +kernel, by decide +kernel⟩
def spMb (K : Fr) : Sp := fun vs H Q _ => ∃ (t : Addr) (cs : List Int) (a b : Int), vs = [.ref t, .int a, .int b] ∧ H t = some (.tup (cs.map V.int)) ∧ (∀ c ∈ cs, Bd 1000 c) ∧ cs.length ≤ 12 ∧ 0 ≤ a ∧ a < b ∧ Bd 1198 b ∧ (∃ d, wat cs d ≠ 0) ∧
  (∀ l ms H', Same H H' → H l = none → H' l = some (.lst ((a :: ms).map V.int)) → ms.length ≤ 2 → CovTo (fun d => sg (wat cs d)) a ms b → Q (.ref l) H') ∧ (∀ H', Same H H' → 2 ≤ b - a → 1 ≤ chB (sgs (SgM.row a b cs)) → Q .non H')
theorem ok_mb (F : FunD K "marks_between" "marks_between" (defArgs sMb) (defBody sMb) (defScope sMb) [] [] f fd) (T : TT K mg) (S : SaG P w K mg base) (G : MrG P w K mg base) (D : FoG P w K mg base) : FnOk P w K mg base CX0 4 f fd ["coefficients", "low", "high"] (spMb K) := by
  obtain ⟨fS, dS, GS⟩ := S
  obtain ⟨fM, dM, GM⟩ := G
  obtain ⟨fD, dD, GD⟩ := D
  refine F.ok scMb (fun vs H Q E h => ?_) (fun cdv A outer s H vs Q E hr h => ?_)
  · obtain ⟨t, cs, a, b, rfl, _⟩ := h
    rfl
  · obtain ⟨t, cs, a, b, rfl, et, hb, hl, a0, ab, bb, ⟨dn, nz⟩, q, qn⟩ := h
    refine ⟨_, PSs.nox (pss_cons (ps_if (pt_cmpR op_eq (pe_op op_sub (pv 2) (pv 1)) pe_int (nomark _)) (pss_one (ps_ret (pe_lst (pa_cons (pv 1) pa_nil)))) pss_nil)
      (pss_cons (ps_set (i := 3) scMb.nd rfl (Or.inl rfl) (pe_gd GM (hr.mono (by decide)) (by rfl) (pa_cons (pv 0) (pa_cons (pv 1) (pa_cons (pv 2) pa_nil)))))
      (pss_cons (ps_if (pt_cmpR op_eq (pv 3) pe_int (nomark _)) (pss_one (ps_ret (pe_lst (pa_cons (pv 1) (pa_cons (pe_op op_add (pv 1) pe_int) pa_nil))))) pss_nil)
      (pss_cons (ps_if (PW.pt (pw_or (pt_cmpR op_gt (pv 3) pe_int (nomark _)) (pw_or (pt_cmpR op_eq (pe_gd GS (hr.mono (by decide)) (by rfl) (pa_cons (pv 0) (pa_cons (pv 1) pa_nil))) pe_int (nomark _)) (pw_or1 (pt_cmpR op_eq (pe_gd GS (hr.mono (by decide)) (by rfl) (pa_cons (pv 0) (pa_cons (pv 2) pa_nil))) pe_int (nomark _)))))) (pss_one (ps_ret pe_non)) pss_nil)
      (pss_cons (ps_set (i := 4) scMb.nd rfl (Or.inl rfl) (pe_gd GD hr (by rfl) (pa_cons (pv 0) (pa_cons (pv 1) (pa_cons (pv 2) pa_nil)))))
      (pss_one (ps_ret (pe_lst (pa_cons (pv 1) (pa_cons (pv 4) (pa_cons (pe_callB (call_min2 rfl) (by rfl) T.fre (by decide +kernel) (pa_cons (pe_op op_add (pv 4) pe_int) (pa_cons (pv 2) pa_nil))) pa_nil))))))))))), ?_⟩
    have lz : 10000 ≤ sizeLine := by rw [sizeLine_eq]; decide
    have bbn : b.natAbs < 2 ^ 1198 := bb
    have ba : Bd 1198 a := Nat.lt_of_le_of_lt (show a.natAbs ≤ b.natAbs by omega) bbn
    refine ⟨_, rfl, _, rfl, _, _, rfl, rfl, rfl, _, rfl, ite2 (fun h => ?_) (fun h => ?_)⟩
    · have y : b - a = 1 := by
        have y := of_decide_eq_true h
        injection y
      refine ⟨_, rfl, by show 1 ≤ sizeLine; omega, fun l nl => q l [] _ (same_new nl) nl upd_same (by decide) ?_⟩
      rw [show b = a + 1 by omega]
      exact SgM.piece_one a
    have n1 : b - a ≠ 1 := fun y => h (decide_eq_true (congrArg V.int y))
    have n2 : 2 ≤ b - a := by omega
    refine ⟨_, rfl, _, rfl, _, rfl, t, cs, a, b, rfl, et, hb, hl, bd_up ba (by decide), bd_up bb (by decide), fun H1 s1 => ?_⟩
    refine ⟨_, rfl, rfl, _, rfl, ite2 (fun h0 => ?_) (fun h0 => ?_)⟩
    · have y : chB (sgs (SgM.row a b cs)) = 0 := by
        have y := of_decide_eq_true h0
        injection y with y
        omega
      obtain ⟨s', _, hs⟩ := SgM.none_between y (SgM.row_some ab nz)
      refine ⟨_, rfl, _, rfl, _, _, rfl, rfl, by show 2 ≤ sizeLine; omega, fun l nl => q l [a + 1] _ (s1.trans (same_new nl)) (gone s1 nl) upd_same (by show 1 ≤ 2; decide) ?_⟩
      exact SgM.piece_none (by omega) hs
    have c0 : chB (sgs (SgM.row a b cs)) ≠ 0 := fun y => h0 (decide_eq_true (by rw [y]; rfl))
    refine ⟨_, rfl, _, _, rfl, rfl, _, rfl, ite2 (fun h1 => qn H1 s1 n2 (Nat.pos_of_ne_zero c0)) (fun h1 => ?_)⟩
    have c1 : ¬ (1 : Int) < (chB (sgs (SgM.row a b cs)) : Nat) := fun y => h1 (decide_eq_true y)
    have ch : chB (sgs (SgM.row a b cs)) = 1 := by omega
    refine ⟨_, rfl, _, rfl, t, cs, a, rfl, s1 _ _ et, hb, hl, bd_up ba (by decide), fun H2 s2 => ⟨rfl, _, rfl, ite2 (fun h2 => qn H2 (s1.trans s2) n2 (Nat.pos_of_ne_zero c0)) (fun h2 => ?_)⟩⟩
    have z1 : wat cs a ≠ 0 := sg_nz fun y => h2 (decide_eq_true (congrArg V.int y))
    have s12 := s1.trans s2
    refine ⟨_, rfl, _, rfl, t, cs, b, rfl, s12 _ _ et, hb, hl, bd_up bb (by decide), fun H3 s3 => ⟨rfl, _, rfl, ite2 (fun h3 => qn H3 (s12.trans s3) n2 (Nat.pos_of_ne_zero c0)) (fun h3 => ?_)⟩⟩
    have z2 : wat cs b ≠ 0 := sg_nz fun y => h3 (decide_eq_true (congrArg V.int y))
    have s123 := s12.trans s3
    obtain ⟨sn, hsn, sa, sb, hm⟩ := SgM.one_between ab ch z1 z2
    have nn : sn ≠ -sn := by omega
    refine ⟨_, rfl, _, rfl, _, rfl, t, cs, a, b, rfl, s123 _ _ et, hb, hl, a0, ab, bd_up bb (by decide), by rw [sa, sb]; exact nn, fun c H4 s4 c1 c2 c3 c4 => ?_⟩
    rw [sa] at c3 c4
    have s1234 := s123.trans s4
    have before : ∀ d, a ≤ d → d < c → sg (wat cs d) = -sn := fun d d1 d2 => by
      rcases c4 with c4 | ⟨c4, c5⟩
      · rw [show d = a by omega, sa]
      · by_cases e1 : d = a
        · rw [e1, sa]
        · by_cases e2 : d = c - 1
          · rw [e2, c5]
          · exact hm d (c - 1) (by omega) (by omega) (by omega) (by rw [c5]; exact fun y => nn y.symm)
    refine ⟨_, rfl, _, rfl, _, rfl, _, _, rfl, rfl, _, rfl, _, _, rfl, ?_⟩
    have em : (if b < c + 1 then b else c + 1) = min (c + 1) b := by
      split <;> omega
    rw [em]
    refine ⟨by show 3 ≤ sizeLine; omega, fun l nl => q l [c, min (c + 1) b] _ (s1234.trans (same_new nl)) (gone s1234 nl) upd_same (by show 2 ≤ 2; decide) ?_⟩
    exact SgM.piece_change ab sa sb nn hm c1 c2 c3 before
abbrev MbG (P : Program) (w : World) (K : Fr) (mg : Str → Option Value) (base : Heap) : Prop := ∃ f d, Gd P w K mg base 4 "marks_between" f d ["coefficients", "low", "high"] (spMb K)
end
end K71

set_option maxHeartbeats 4000000
/-! for k, x in enumerate(reversed(l)), l a list -/
namespace RtL
open PySem PySem.Spec PyProof.Rows L2
open PySem.Sem (wp)
section
variable {prog : Program} {w : World} {A : Around} {E : Value → Shared → Prop} {s : Shared} {e j l : Addr} {n : Nat} {items : Array Value} {y u : Value}
theorem nextOf_rev_item {it l : Addr} {i : Nat} {x : Value} {Q : Value → Shared → Prop} (hit : s.heap.IsRevIter it l (i : Int)) (hl : s.heap.IsList l items) (hx : items[i]? = some x)
    (hQ : ∀ h', h'.IsRevIter it l ((i : Int) - 1) → Heap.SameBut it s.heap h' → Q x { s with heap := h' }) : wpAny (model prog w) A (Builtin.SmallTypes.nextOf (.ref it)) Q E s := by
  obtain ⟨o, ho, hc, hd⟩ := id hit
  obtain ⟨ol, hol, _, nl, hdl⟩ := hl
  unfold Builtin.SmallTypes.nextOf
  refine wpAny_bind (wpAny_callSpecial?_slot (name := Str.ofString "__next__") hit.typeIs F.slot_lri_next
    (wpAny_call_entry F.slot_lri_next hit.typeIs F.entry_lri_next ?_ (F.args_lri_next_1 _)))
  unfold Builtin.«list_reverseiterator.__next__»
  refine wpAny_bind (wpAny_of_eq (a := (Value.ref it, [])) rfl ?_)
  try dsimp only
  refine wpAny_bind (wpAny_field ho hd (x := rawInt (i : Int)) rfl ?_)
  show wpAny _ _ (if (i : Int) < 0 then _ else _) _ _ s
  rw [if_neg (by omega)]
  show wpAny _ _ (field (.ref it) 0 >>= _) _ _ s
  refine wpAny_bind (wpAny_field ho hd (x := .ref l) rfl ?_)
  show wpAny _ _ (seqItems? (.ref l) >>= _) _ _ s
  refine wpAny_bind (wpAny_seqItems hol hdl ?_)
  simp only [Int.toNat_natCast, hx]
  refine wpAny_bind (wpAny_setField ho hd (by simp) ?_)
  first
  | refine wpAny_pure ⟨x, rfl, wpAny_pure (hQ _ ?_ (Heap.SameBut.update ..))⟩
  | refine wpAny_bind (wpAny_pure (wpAny_pure ⟨x, rfl, wpAny_pure (hQ _ ?_ (Heap.SameBut.update ..))⟩))
  exact ⟨_, Heap.get?_update_self _ ho (Obj.isFreed_of_fields (Obj.data_mapFields hd _)), (Obj.cls_mapFields ..).trans hc, by
    rw [Obj.data_mapFields hd]; simp⟩
theorem nextOf_rev_end {it l : Addr} {Q : Value → Shared → Prop} (hh : A.handled = none) (hit : s.heap.IsRevIter it l (-1))
    (hE : ∀ h' e, Heap.ExtBut it s.heap h' → (∃ o, h'.get? e = some o ∧ o.cls = .type "StopIteration") → E (.ref e) { s with heap := h' }) : wpAny (model prog w) A (Builtin.SmallTypes.nextOf (.ref it)) Q E s := by
  obtain ⟨o, ho, hc, hd⟩ := id hit
  unfold Builtin.SmallTypes.nextOf
  refine wpAny_bind (wpAny_callSpecial?_slot (name := Str.ofString "__next__") hit.typeIs F.slot_lri_next
    (wpAny_call_entry F.slot_lri_next hit.typeIs F.entry_lri_next ?_ (F.args_lri_next_1 _)))
  unfold Builtin.«list_reverseiterator.__next__»
  refine wpAny_bind (wpAny_of_eq (a := (Value.ref it, [])) rfl ?_)
  try dsimp only
  refine wpAny_bind (wpAny_field ho hd (x := rawInt (-1)) rfl ?_)
  show wpAny _ _ (if (-1 : Int) < 0 then _ else _) _ _ s
  rw [if_pos (by decide)]
  refine wpAny_bind (wpAny_rule ?_)
  first
  | show wpAny _ _ (newExc (.type "StopIteration") [] >>= _) _ _ _
  | (refine wpAny_bind ?_; show wpAny _ _ (newExc (.type "StopIteration") [] >>= _) _ _ _)
  refine wpAny_bind ?_
  simp only [newExc, newTuple]
  refine wpAny_bind (wpAny_newObj_type ?_ (by size_fits))
  refine wpAny_bind (m := firstArgMember _ _) (wpAny_of_eq (a := Value.none) (by first | rfl | (simp only [firstArgMember]; rfl)) ?_)
  refine wpAny_newObj_type ?_ (by size_fits)
  simp only [raiseNew]
  refine wpAny_bind (wpAny_handled ?_)
  first | rw [show A.in1.handled = none from hh] | rw [hh]
  refine wpAny_bind (wpAny_pure (wpAny_throw ?_))
  exact hE _ _ (((Heap.ExtBut.refl _ _).push _).push _) ⟨_, Heap.get?_push_size _ rfl, rfl⟩
theorem enumR_next {i : Nat} {Q : Value → Shared → Prop} (hE : IsEnum s.heap e j n u) (hJ : s.heap.IsRevIter j l (i : Int)) (hL : s.heap.IsList l items) (hy : items[i]? = some y) (ej : e ≠ j)
    (go : ∀ h', IsEnumOut h' e j ((n : Int) + 1) y s.heap.objs.size → h'.IsRevIter j l ((i : Int) - 1) → h'.get? s.heap.objs.size = some { cls := .type "tuple", data := .seq #[.int n s.toks, y] } →
      h'.objs.size = s.heap.objs.size + 1 → (∀ b o, b ≠ e → b ≠ j → s.heap.get? b = some o → h'.get? b = some o) → Q (.ref s.heap.objs.size) { s with heap := h', toks := s.toks + 1 }) :
    wpAny (model prog w) A (Builtin.«enumerate.__next__» ⟨[.ref e], []⟩) (fun fin s' => ∃ v, fin = .done (.ret v) ∧ Q v s') E s := by
  obtain ⟨hp, g, d, tk, os⟩ := s
  show wpAny _ _ (field (.ref e) 2 >>= _) _ _ _
  refine wpAny_bind (wpAny_field hE rfl (x := .ref j) rfl (wpAny_bind (nextOf_rev_item hJ hL hy fun g1 J1 S1 => ?_)))
  have S1 : Heap.SameBut j hp g1 := S1
  have E1 : IsEnum g1 e j n u := (S1.2 e ej).trans hE
  show wpAny _ _ (field (.ref e) 3 >>= _) _ _ ⟨g1, g, d, tk, os⟩
  refine wpAny_bind (wpAny_field E1 rfl (x := rawInt n) rfl (?_ : wpAny _ _ (field (.ref e) 4 >>= _) _ _ ⟨g1, g, d, tk, os⟩))
  refine wpAny_bind (wpAny_field E1 rfl (x := .none) rfl (?_ : wpAny _ _ (mkInt n >>= _) _ _ ⟨g1, g, d, tk, os⟩))
  refine wpAny_bind (wpAny_mkInt (?_ : wpAny _ _ (setField (.ref e) 3 (rawInt ((n : Int) + 1)) >>= _) _ _ ⟨g1, g, d, tk + 1, os⟩))
  refine wpAny_bind (wpAny_setField_rec E1 (by simp) fun g2 E2 S2 => (?_ : wpAny _ _ (setField (.ref e) 4 .none >>= _) _ _ ⟨g2, g, d, tk + 1, os⟩))
  have S2 : Heap.SameBut e g1 g2 := S2
  have E2 : IsEnum g2 e j ((n : Int) + 1) u := E2
  refine wpAny_bind (wpAny_setField_rec E2 (by simp) fun g3 E3 S3 => (?_ : wpAny _ _ (newTuple [.int n tk, y] >>= _) _ _ ⟨g3, g, d, tk + 1, os⟩))
  have S3 : Heap.SameBut e g2 g3 := S3
  have E3 : IsEnum g3 e j ((n : Int) + 1) u := E3
  refine wpAny_bind (wpAny_newTuple ?_)
  have z3 : g3.objs.size = hp.objs.size := (S3.1.trans S2.1).trans S1.1
  have le : e < hp.objs.size := Heap.lt_size hE
  have keep : ∀ b o, b ≠ e → b ≠ j → hp.get? b = some o → g3.get? b = some o := fun b o b1 b2 q => S3.extBut b o b1 (S2.extBut b o b1 (S1.extBut b o b2 q))
  have J3 : g3.IsRevIter j l ((i : Int) - 1) := (J1.at fun o q => S2.extBut j o (Ne.symm ej) q).at fun o q => S3.extBut j o (Ne.symm ej) q
  obtain ⟨g4, e4⟩ : ∃ g4, g4 = g3.push { cls := .type "tuple", data := .seq #[.int n tk, y] } := ⟨_, rfl⟩
  have E4 : IsEnum g4 e j ((n : Int) + 1) u := by rw [e4]; exact Heap.get?_push_of_some _ E3
  have T4 : g4.get? hp.objs.size = some { cls := .type "tuple", data := .seq #[.int n tk, y] } := by rw [e4, ← z3]; exact Heap.get?_push_size _ rfl
  have z4 : g4.objs.size = hp.objs.size + 1 := by rw [e4, Heap.size_push, z3]
  have k4 : ∀ b o, b ≠ e → b ≠ j → hp.get? b = some o → g4.get? b = some o := fun b o b1 b2 q => by rw [e4]; exact Heap.get?_push_of_some _ (keep b o b1 b2 q)
  have J4 : g4.IsRevIter j l ((i : Int) - 1) := J3.at fun o q => by rw [e4]; exact Heap.get?_push_of_some _ q
  rw [← e4]
  refine wpAny_bind (?_ : wpAny _ _ (Builtin.SmallTypes.ownedTupleIsFree (.ref e)) _ _ ⟨g4, g, d, tk + 1, os⟩)
  rw [z3]
  unfold Builtin.SmallTypes.ownedTupleIsFree
  refine wpAny_bind (wpAny_field E4 rfl (x := .none) rfl (wpAny_pure ?_))
  simp only [if_true]
  refine wpAny_bind (wpAny_rule (wpAny_bind (wpAny_field E4 rfl (x := u) rfl (wpAny_bind (wpAny_setField_rec E4 (by simp) fun g5 E5 S5 => ?_)))))
  have S5 : Heap.SameBut e g4 g5 := S5
  have E5 : IsEnum g5 e j ((n : Int) + 1) y := E5
  refine wpAny_bind (?_ : wpAny _ _ (Builtin.SmallTypes.ownedTupleHandOut (.ref e) (.ref hp.objs.size)) _ _ ⟨g5, g, d, tk + 1, os⟩)
  unfold Builtin.SmallTypes.ownedTupleHandOut
  refine wpAny_bind (wpAny_setField_rec E5 (by simp) fun g6 E6 S6 => ?_)
  have S6 : Heap.SameBut e g5 g6 := S6
  have E6 : IsEnumOut g6 e j ((n : Int) + 1) y hp.objs.size := E6
  refine wpAny_setField_rec E6 (by simp) fun g7 E7 S7 => ?_
  have S7 : Heap.SameBut e g6 g7 := S7
  have E7 : IsEnumOut g7 e j ((n : Int) + 1) y hp.objs.size := E7
  have up : ∀ b o, b ≠ e → g4.get? b = some o → g7.get? b = some o := fun b o b1 q => S7.extBut b o b1 (S6.extBut b o b1 (S5.extBut b o b1 q))
  refine wpAny_bind (wpAny_letGo (wpAny_pure ⟨_, rfl, go g7 E7 ?_ (up _ _ (Nat.ne_of_gt le) T4) ?_ fun b o b1 b2 q => up b o b1 (k4 b o b1 b2 q)⟩))
  · exact J4.at fun o q => up j o (Ne.symm ej) q
  · exact ((S7.1.trans S6.1).trans S5.1).trans z4
theorem enumR_item {i : Nat} {Q : Option Value → Shared → Prop} (hE : IsEnum s.heap e j n u) (hJ : s.heap.IsRevIter j l (i : Int)) (hL : s.heap.IsList l items) (hy : items[i]? = some y) (ej : e ≠ j)
    (go : ∀ h', IsEnumOut h' e j ((n : Int) + 1) y s.heap.objs.size → h'.IsRevIter j l ((i : Int) - 1) → h'.get? s.heap.objs.size = some { cls := .type "tuple", data := .seq #[.int n s.toks, y] } →
      h'.objs.size = s.heap.objs.size + 1 → (∀ b o, b ≠ e → b ≠ j → s.heap.get? b = some o → h'.get? b = some o) → Q (some (.ref s.heap.objs.size)) { s with heap := h', toks := s.toks + 1 }) :
    wpAny (model prog w) A (pyNext (.ref e)) Q E s := by
  have ty : s.TypeIs (.ref e) "enumerate" := ⟨_, hE, rfl⟩
  unfold pyNext
  refine wpAny_bind (wpAny_attempt (wpAny_callSpecial?_slot (name := Str.ofString "__next__") ty F.slot_enumerate_next ?_))
  exact wpAny_call_entry F.slot_enumerate_next ty F.entry_enumerate_next (enumR_next hE hJ hL hy ej fun h' a1 a2 a3 a4 a5 => wpAny_pure (go h' a1 a2 a3 a4 a5)) (F.args_enumerate_next_1 _)
theorem enumR_end {Q : Option Value → Shared → Prop} (calm : A.handled = none) (hE : IsEnum s.heap e j n u) (hJ : s.heap.IsRevIter j l (-1))
    (go : ∀ h', Heap.ExtBut j s.heap h' → Q none { s with heap := h' }) : wpAny (model prog w) A (pyNext (.ref e)) Q E s := by
  have ty : s.TypeIs (.ref e) "enumerate" := ⟨_, hE, rfl⟩
  unfold pyNext
  refine wpAny_bind (wpAny_attempt (wpAny_callSpecial?_slot (name := Str.ofString "__next__") ty F.slot_enumerate_next ?_))
  refine wpAny_call_entry F.slot_enumerate_next ty F.entry_enumerate_next (?_ : wpAny _ _ (field (.ref e) 2 >>= _) _ _ _) (F.args_enumerate_next_1 _)
  refine wpAny_bind (wpAny_field hE rfl (x := .ref j) rfl (wpAny_bind (nextOf_rev_end calm hJ fun h' x a1 a2 => ?_)))
  obtain ⟨o, q, c⟩ := a2
  exact wpAny_bind (wpAny_isInstance (T := "StopIteration") (b := true) ⟨o, q, c⟩ isSubtype_stop (wpAny_pure (go _ a1)))
theorem enumR_new (t : Addr) (i : Int) (ob : Obj) (hc : ob.cls = .type "list_reverseiterator") (hd : ob.data = .fields #[.ref l, rawInt i]) :
    Meets (Builtin.«enumerate.__new__» ⟨[.type "enumerate", .ref t], []⟩) (fun _ R s => s.heap.get? t = some ob ∧
      R (.ok (.ret (.ref s.heap.objs.size)))
        { s with heap := s.heap.push { cls := .type "enumerate", data := .fields #[.none, .bool false, .ref t, rawInt 0, .none, .none] } }) :=
  .of_wp fun prog w A R s h => by
    obtain ⟨hp, g, d, tk, os⟩ := s
    obtain ⟨ht, h⟩ := h
    have sb := sub_enumerate
    have tp : Heap.IsRevIter (Shared.heap ⟨hp, g, d, tk, os⟩) t l i := ⟨_, ht, hc, hd⟩
    wp_walk using AutoSeq1.wpAny_loadPart' ht
    refine wpAny_stack_any fun st => wpAny_pure ?_
    split
    · rename_i c _ _ _ _ _
      cases (c == Value.type "enumerate") <;> (wp_walk using AutoSeq1.wpAny_loadPart' ht, wpAny_pyIter_revIter tp; exact ⟨_, rfl, h⟩)
    · wp_walk using AutoSeq1.wpAny_loadPart' ht, wpAny_pyIter_revIter tp
      exact ⟨_, rfl, h⟩
theorem enumR_call {t : Addr} {i : Int} {Q : Value → Shared → Prop} (tp : s.heap.IsRevIter t l i)
    (h : ∀ h', IsEnum h' s.heap.objs.size t 0 .none → h'.objs.size = s.heap.objs.size + 1 → (∀ b o, s.heap.get? b = some o → h'.get? b = some o) → Q (.ref s.heap.objs.size) { s with heap := h' }) :
    wpAny (model prog w) A (call (.type "enumerate") [.ref t]) Q E s := by
  obtain ⟨ob, ht, hc, hd⟩ := tp
  refine callType_new F.called_enumerate (by decide) (F.typeCall_enumerate_1 _) (F.newCall_enumerate_1 _) (fun obj => F.args_object_init_2 obj _) F.entry_enumerate_new (enumR_new t i ob hc hd) ⟨ht, ?_⟩
  have he : IsEnum (s.heap.push { cls := .type "enumerate", data := .fields #[.none, .bool false, .ref t, rawInt 0, .none, .none] }) s.heap.objs.size t 0 .none := Heap.get?_push_size _ rfl
  exact ⟨⟨_, he, rfl⟩, h _ he (by rw [Heap.size_push]) fun b o q => Heap.get?_push_of_some _ q⟩
end
/-- the list at a (n items), from its end, in new pairs with their turns -/
def IteR (K : PySem.W.Frag) (a : Addr) (n : Nat) : It :=
  ⟨fun i H => i < n ∧ ∃ (xs : List V) (x : V), SqL K H a xs ∧ xs[n - 1 - i]? = some x, fun i H v H' => ∃ T x, v = .ref T ∧ H T = none ∧ H' = upd H T (.tup [.int (i : Nat), x]) ∧ ∀ xs, SqL K H a xs → xs[n - 1 - i]? = some x, fun i _ => n ≤ i⟩
theorem turn_enumR {P : Program} {w : World} {K : PySem.W.Frag} {el : List Expr} {kk : Nat} {tp : Pos} (a e j : Addr) (n : Nat) : Turn P w K (.Tuple el kk tp) (IteR K a n) [e, j] e fun i h => (∃ u, IsEnum h e j ((i : Nat) : Int) u) ∧ i ≤ n ∧ h.IsRevIter j a ((n : Int) - 1 - (i : Nat)) ∧ e ≠ j where
  mem := List.mem_cons_self
  obj := fun i h st b hb => by
    obtain ⟨⟨u, hE⟩, _, ⟨o, ho, hc, hd⟩, _⟩ := st
    simp only [List.mem_cons, List.not_mem_nil, or_false] at hb
    rcases hb with rfl | rfl
    · exact ⟨_, hE, fun v q => by cases q⟩
    · refine ⟨o, ho, fun v q => ?_⟩
      rw [hd] at q
      cases q
  keep := fun i h h' ⟨⟨u, hE⟩, hn, hJ, ne⟩ k => ⟨⟨u, k e List.mem_cons_self _ hE⟩, hn, hJ.at fun o q => k j (List.mem_cons_of_mem _ List.mem_cons_self) o q, ne⟩
  self := fun A i s Q E ⟨⟨_, hE⟩, _⟩ h => wpAny_pyIter_enum hE h
  done := by
    rintro X rfl rfl rfl cal i pins s σ H E I fp ⟨⟨u, hE⟩, hn, hJ, ne⟩ hx
    have hx : n ≤ i := hx
    obtain ⟨f0, f1, f2, f3, f4, f5⟩ := fp j (List.mem_cons_of_mem _ List.mem_cons_self)
    have e1 : (n : Int) - 1 - ((i : Nat) : Int) = -1 := by omega
    rw [e1] at hJ
    exact enumR_end (I.ok.hd cal) hE hJ fun h' eb => ⟨rfl, I.turned (t' := s.toks) (fun b o b1 q => eb b o b1 q) f0 f1 f3 f4 f5⟩
  item := by
    rintro X rfl rfl rfl cal i pins s σ H E I fp ⟨⟨u, hE⟩, hn, hJ, ne⟩ ⟨hin, xs, x, hq, hx⟩
    obtain ⟨its, rv, p, hz⟩ := I.list hq
    obtain ⟨y, hy, ry⟩ := rv.get hx
    have le : e < s.heap.objs.size := Heap.lt_size hE
    have lj : j < s.heap.objs.size := by
      obtain ⟨_, q, _⟩ := hJ
      exact Heap.lt_size q
    have e1 : (n : Int) - 1 - ((i : Nat) : Int) = ((n - 1 - i : Nat) : Int) := by omega
    rw [e1] at hJ
    refine enumR_item hE hJ p.isList (y := y) (by rw [List.getElem?_toArray]; exact hy) ne fun h1 o1 J1 T1 z1 k1 => ⟨_, rfl, ?_⟩
    have e2 : ((n - 1 - i : Nat) : Int) - 1 = (n : Int) - 1 - ((i + 1 : Nat) : Int) := by omega
    rw [e2] at J1
    refine wpAny_letOwnedTupleGo_enum (s := { s with heap := h1, toks := s.toks + 1 }) o1 fun h2 E2 sb => ?_
    have T2 : h2.get? s.heap.objs.size = some { cls := .type "tuple", data := .seq #[.int i s.toks, y] } := (sb.2 _ (Nat.ne_of_gt le)).trans T1
    have ob : ObjOk X.prog X.w (upd H s.heap.objs.size (.tup [.int (i : Nat), x])) h2 s.heap.objs.size (.tup [.int (i : Nat), x]) := ⟨by show 2 ≤ sizeLine; decide, [.int i s.toks, y], .cons ⟨_, rfl⟩ (.cons ry .nil), ⟨_, T2, rfl, _, rfl⟩⟩
    have old : ∀ b o, b ∉ [e, j] → s.heap.get? b = some o → h2.get? b = some o := fun b o hb q => (sb.2 b fun z => hb (by rw [z]; exact List.mem_cons_self)).trans (k1 b o (fun z => hb (by rw [z]; exact List.mem_cons_self)) (fun z => hb (by rw [z]; exact List.mem_cons_of_mem _ List.mem_cons_self)) q)
    have I1 : Inv X pins σ (upd H s.heap.objs.size (.tup [.int (i : Nat), x])) { s with heap := h2, toks := s.toks + 1 } := I.turnedNew (ch := [e, j]) old fp (Nat.le_refl _) ob
    have nx : ((i + 1 : Nat) : Int) = (i : Int) + 1 := by omega
    refine ⟨.ref s.heap.objs.size, _, I1, rfl, ⟨_, x, rfl, I.hok.fresh (Nat.le_refl _), rfl, fun zs hz => by rw [I.list_inj hz hq]; exact hx⟩, ⟨⟨y, by rw [nx]; exact E2⟩, hin, J1.at fun o q => (sb.2 j (Ne.symm ne)).trans q, ne⟩, fun b hb => ?_⟩
    have lb : b < s.heap.objs.size := by
      simp only [List.mem_cons, List.not_mem_nil, or_false] at hb
      rcases hb with rfl | rfl <;> assumption
    rw [upd_ne (Nat.ne_of_lt lb)]
    exact (fp b hb).1
def iEnumR (K : PySem.W.Frag) (te : TE) : TI := fun σ H R => te σ H fun v H1 => ∃ a xs, v = .ref a ∧ SqL K H1 a xs ∧ R (IteR K a xs.length) H1
theorem pi_enumR {X : Cx} {e : Expr} {te : TE} {p p2 pos pos2 tp : Pos} {el : List Expr} {kk : Nat} (hg : Gl X "enumerate") (hm : X.mg "enumerate" = none) (hg2 : Gl X "reversed") (hm2 : X.mg "reversed" = none) (he : PE X e te)
    (hs : starEach [e] X.env = (false, eval e X.env) :: starEach [] X.env := by rfl)
    (hs2 : starEach [.Call (.Name "reversed" p2) [e] [] pos2] X.env = (false, eval (.Call (.Name "reversed" p2) [e] [] pos2) X.env) :: starEach [] X.env := by rfl) :
    PI X (.Tuple el kk tp) (.Call (.Name "enumerate" p) [.Call (.Name "reversed" p2) [e] [] pos2] [] pos) (iEnumR X.K te) := by
  refine ⟨fun pins s σ H R I h => ?_⟩
  refine Call_ (ld_blt I hg hm boot_enumerate (PyProof.Rows.callWith_type1 (args_cons (Call_ (ld_blt I hg2 hm2 PyProof.Rows.boot_reversed (PyProof.Rows.callWith_type1 (args_cons (thn (he.run pins s σ H _ I h) fun u s1 ⟨v, H1, I1, r1, q1⟩ => args_nil ?_) hs) hs rfl))) hs2) hs2 rfl))
  obtain ⟨a, xs, ev, hq, q⟩ := q1
  subst ev
  obtain rfl : u = Value.ref a := r1
  obtain ⟨its, rv, p', hz⟩ := I1.list hq
  have hl := rv.length
  refine call_reversed_list p'.isList (args_nil ?_)
  have k0 : ∀ b o, s1.heap.get? b = some o → (s1.heap.push (revObj a ((its.toArray.size : Int) - 1))).get? b = some o := fun b o e => Heap.get?_push_of_some _ e
  have hit : (s1.heap.push (revObj a ((its.toArray.size : Int) - 1))).IsRevIter s1.heap.objs.size a ((its.toArray.size : Int) - 1) := ⟨_, Heap.get?_push_size _ rfl, rfl, rfl⟩
  have sz : (s1.heap.push (revObj a ((its.toArray.size : Int) - 1))).objs.size = s1.heap.objs.size + 1 := Heap.size_push ..
  refine enumR_call (s := { s1 with heap := s1.heap.push (revObj a ((its.toArray.size : Int) - 1)) }) hit fun h' hE z k => wpAny_pyIter_enum hE ?_
  have hE : IsEnum h' (s1.heap.push (revObj a ((its.toArray.size : Int) - 1))).objs.size s1.heap.objs.size 0 .none := hE
  show ∃ a' fp St W H', _
  rw [sz] at hE
  have k2 : ∀ b o, s1.heap.get? b = some o → h'.get? b = some o := fun b o q => k b o (k0 b o q)
  refine ⟨s1.heap.objs.size + 1, [s1.heap.objs.size + 1, s1.heap.objs.size], _, _, H1, by rw [← sz], I1.kept (t' := s1.toks) k2, turn_enumR a (s1.heap.objs.size + 1) s1.heap.objs.size xs.length, ⟨⟨.none, hE⟩, Nat.zero_le _, ?_, Nat.succ_ne_self _⟩, fun b hb => ?_, q⟩
  · have e1 : ((its.toArray.size : Nat) : Int) - 1 = (xs.length : Int) - 1 - ((0 : Nat) : Int) := by simp only [List.size_toArray]; omega
    rw [← e1]
    exact hit.at fun o q => k _ o q
  have lb : s1.heap.objs.size ≤ b := by
    simp only [List.mem_cons, List.not_mem_nil, or_false] at hb
    rcases hb with rfl | rfl
    · exact Nat.le_succ _
    · exact Nat.le_refl _
  exact I1.fpOk lb (I1.hok.fresh lb)
theorem walk_enumR {K : PySem.W.Frag} {a : Addr} {xs : List V} : Walk (IteR K a xs.length) xs.length (fun H => SqL K H a xs) (YPair (fun i => some (.int (i : Nat))) (fun i => xs[xs.length - 1 - i]?)) := by
  refine ⟨fun i _ hi q => ⟨hi, xs, xs[xs.length - 1 - i]'(by omega), q, List.getElem?_eq_getElem (by omega)⟩, fun _ q => Nat.le_refl _, ?_⟩
  rintro i H v H' hi q ⟨T, x, h1, h2, h3, h4⟩
  exact ⟨T, _, x, h1, h2, h3, rfl, h4 xs q⟩
end RtL

set_option maxHeartbeats 4000000
set_option exponentiation.threshold 3000
namespace K71
open PySem PySem.Spec PyProof.Rows L2 RtL ErL StX
open SgM (wat sg chB sgs CovTo)
open Builtin.Int (intBits)
theorem sIx_m1 (n d : Nat) : HT.sIx (n + 1) d (some (-1)) = n := by
  show (if (-1 : Int) < 0 then ((-1 : Int) + ((n + 1 : Nat) : Int)).toNat else min (-1 : Int).toNat (n + 1)) = n
  rw [if_pos (by decide)]
  omega
theorem small_of {A B : Int} : ∀ {is : List Int}, (∀ (j : Nat) (c : Int), is[j]? = some c → (c.natAbs : Int) ≤ A * B ^ (is.length - j)) → SgM.Small A B is
  | [], _ => trivial
  | c :: r, h => ⟨h 0 c rfl, small_of fun j d hd => by
    have := h (j + 1) d hd
    rw [List.length_cons, Nat.add_sub_add_right] at this
    exact this⟩
/-- what the quotients say -/
theorem quo_ge {b k : Int} (hk : 0 < k) : b ≤ k * -((-b) / k) := by
  have h1 := Int.mul_ediv_add_emod (-b) k
  have h2 := Int.emod_nonneg (-b) (show k ≠ 0 by omega)
  rw [Int.mul_neg]
  omega
theorem quo_le {x k n : Int} (hk : 0 < k) (hn : 0 ≤ n) (h : -n ≤ x) : -(x / k) ≤ n := by
  have : -n ≤ x / k := by
    refine Int.le_ediv_of_mul_le hk ?_
    have : n * 1 ≤ n * k := Int.mul_le_mul_of_nonneg_left (by omega) hn
    rw [Int.neg_mul]
    omega
  omega
theorem bits_low {l : Int} (h : 0 < intBits l) : (2 : Int) ^ (intBits l - 1) ≤ (l.natAbs : Int) := by
  have : ¬ l.natAbs < 2 ^ (intBits l - 1) := fun z => by
    have := PySem.intBits_le_iff.mpr z
    omega
  have : 2 ^ (intBits l - 1) ≤ l.natAbs := by omega
  have e : ((2 ^ (intBits l - 1) : Nat) : Int) = (2 : Int) ^ (intBits l - 1) := by
    rw [Int.natCast_pow]
    rfl
  omega
theorem bits_up (c : Int) : (c.natAbs : Int) ≤ 2 ^ intBits c := by
  have : c.natAbs < 2 ^ intBits c := PySem.intBits_le_iff.mp (Nat.le_refl _)
  have e : ((2 ^ intBits c : Nat) : Int) = (2 : Int) ^ intBits c := by
    rw [Int.natCast_pow]
    rfl
  omega
section
variable {P : Program} {w : World} {K : Fr} {mg : Str → Option Value} {base : Heap} {f : Addr} {fd : FuncData}
abbrev sBr : Stmt := top 12
abbrev NBr : List Str := ["coefficients", "own", "longest", "below", "coefficient"]
theorem scBr : FnScope NBr ["coefficients"] (defScope sBr) := ⟨rfl, rfl, rfl, by decide +kernel, rfl, by decide +kernel, by decide +kernel⟩
def spBr (K : Fr) : Sp := fun vs H Q _ => ∃ (t : Addr) (is : List Int) (l : Int), vs = [.ref t] ∧ H t = some (.tup ((is ++ [l]).map V.int)) ∧ (∀ c ∈ is ++ [l], Bd 1000 c) ∧ is.length ≤ 12 ∧ l ≠ 0 ∧
  ∀ (L : Nat) H', Same H H' → L ≤ 1000 → (∀ d : Int, 2 * 2 ^ L ≤ d → sg (wat (is ++ [l]) d) = sg l) → Q (.int (2 * 2 ^ L)) H'
theorem ok_br (F : FunD K "beyond_roots" "beyond_roots" (defArgs sBr) (defBody sBr) (defScope sBr) [] [] f fd) (T : TT K mg) : FnOk P w K mg base CX0 1 f fd ["coefficients"] (spBr K) := by
  refine F.ok scBr (fun vs H Q E h => ?_) (fun cdv A outer s H vs Q E hr h => ?_)
  · obtain ⟨t, is, l, rfl, _⟩ := h
    rfl
  · obtain ⟨t, is, l, rfl, et, hb, hl, l0, q⟩ := h
    refine ⟨_, PSs.nox (pss_cons (ps_set (i := 1) scBr.nd rfl (Or.inl rfl) (pe_bits (pe_ix ix_tup (pv 0) (pe_un un_neg pe_int) (fun _ _ => rfl))))
      (pss_cons (ps_set (i := 2) scBr.nd rfl (Or.inl rfl) pe_int)
      (pss_cons (ps_for PassesOwn.never rfl (pi_enumR (by rfl) T.fre (by rfl) T.fre (pe_callTy call_list_of (by rfl) T.fre (by decide +kernel) (pa_cons (pe_slice sl_tupA (pv 0) po_none (po_some (pe_un un_neg pe_int))) pa_nil))) (pg_tup (by rfl) (pgs_cons (pg_name (i := 3) scBr.nd rfl (.inl rfl)) (pgs_cons (pg_name (i := 4) scBr.nd rfl (.inl rfl)) pgs_nil)))
        (pss_one (ps_if (pt_cmpR op_ne (pv 4) pe_int (nomark _)) (pss_one (ps_set (i := 2) scBr.nd rfl (Or.inl rfl) (pe_callB (call_max2 rfl) (by rfl) T.fre (by decide +kernel) (pa_cons (pv 2) (pa_cons (pe_un un_neg (pe_op op_fdiv (pe_op op_sub (pe_op op_sub (pv 1) pe_int) (pe_bits (pv 4))) (pe_op op_add (pv 3) pe_int))) pa_nil))))) pss_nil)))
      (pss_one (ps_ret (pe_op op_shlW pe_int (pv 2))))))), ?_⟩
    have bl : (intBits l : Int) ≥ 1 := by
      rcases Nat.eq_zero_or_pos (intBits l) with z | z
      · have := PySem.intBits_le_iff.mp (Nat.le_of_eq z)
        omega
      · omega
    have hlen : ((is ++ [l]).map V.int).length = is.length + 1 := by rw [List.length_map, List.length_append, List.length_singleton]
    have em : (is ++ [l]).map V.int = is.map V.int ++ [V.int l] := by rw [List.map_append]; rfl
    refine ⟨_, rfl, _, rfl, t, _, _, _, rfl, rfl, SqT.of et, by rw [em]; exact atI_last _ _, _, rfl, ?_⟩
    refine ⟨_, rfl, 1, rfl, -1, rfl, t, _, rfl, SqT.of et, fun z => ?_, fun z p np => ?_⟩
    · have := z.2
      rw [hlen, sIx_m1] at this
      omega
    have ec : cutV ((is ++ [l]).map V.int) none (some (-1)) = is.map V.int := by
      unfold cutV
      rw [hlen, sIx_m1, HT.sIx_none, List.drop_zero, Nat.sub_zero, em, List.take_left' (List.length_map _)]
    refine ⟨p, _, rfl, .inr (SqT.of upd_same), fun l1 n1 => ?_⟩
    rw [ec] at n1 ⊢
    have s1 : Same H (upd (upd H p (.tup (is.map V.int))) l1 (.lst (is.map V.int))) := (same_new np).trans (same_new n1)
    have ll : (is.map V.int).length = is.length := List.length_map _
    have lb : intBits l ≤ 1000 := PySem.intBits_le_iff.mpr (hb l (List.mem_append_right _ (List.mem_singleton.mpr rfl)))
    refine ⟨l1, _, rfl, SqL.of upd_same, ?_⟩
    refine for_it walk_enumR (fun i σ H2 => Same H H2 ∧ H2 l1 = some (.lst (is.map V.int)) ∧ ∃ (L : Int) (u3 u4 : Option V), σ = [some (.ref t), some (.int (intBits l)), some (.int L), u3, u4] ∧ 0 ≤ L ∧ L ≤ 1000 ∧ ∀ (k : Nat) (c : Int), k < i → is[is.length - 1 - k]? = some c → c ≠ 0 → (intBits c : Int) - intBits l + 1 ≤ ((k : Int) + 1) * L) ⟨s1, upd_same, 0, none, none, rfl, Int.le_refl _, by decide, fun k c hk => absurd hk (Nat.not_lt_zero _)⟩ (fun i σ H' _ pv => SqL.of pv.2.1) ?_ ?_
    · rintro i v σ H7 H8 hi ⟨s7, e7, L, u3, u4, rfl, L0, L1, hL⟩ ⟨T', y1, y2, rfl, nt, rfl, hx, hy⟩
      dsimp only at hx hy
      cases hx
      obtain ⟨c, hc, rfl⟩ := getm hy
      rw [ll] at hc hi
      refine ⟨T', _, rfl, SqT.of upd_same, rfl, _, _, rfl, _, _, rfl, rfl, ?_⟩
      have s8 := s7.trans (same_new (o := .tup [.int (i : Nat), .int c]) nt)
      have e8 : (upd H7 T' (.tup [.int (i : Nat), .int c])) l1 = some (.lst (is.map V.int)) := same_new nt _ _ e7
      have cb : intBits c ≤ 1000 := PySem.intBits_le_iff.mpr (hb c (List.mem_append_left _ (List.mem_of_getElem? hc)))
      have old : ∀ (L' : Int), L ≤ L' → 0 ≤ L' → (c ≠ 0 → (intBits c : Int) - intBits l + 1 ≤ ((i : Int) + 1) * L') → ∀ (k : Nat) (c : Int), k < i + 1 → is[is.length - 1 - k]? = some c → c ≠ 0 → (intBits c : Int) - intBits l + 1 ≤ ((k : Int) + 1) * L' := fun L' h1 h2 h3 k c' hk hc' nc => by
        rcases Nat.lt_or_ge k i with z | z
        · have a := hL k c' z hc' nc
          have b : ((k : Int) + 1) * L ≤ ((k : Int) + 1) * L' := Int.mul_le_mul_of_nonneg_left h1 (by omega)
          omega
        · have : k = i := by omega
          subst this
          rw [hc] at hc'
          cases hc'
          exact h3 nc
      refine ⟨_, rfl, rfl, _, rfl, ite2 (fun h => ?_) (fun h => ?_)⟩
      · refine ⟨_, rfl, _, rfl, _, _, rfl, rfl, _, rfl, c, rfl, _, _, rfl, rfl, _, rfl, _, _, rfl, rfl, _, _, rfl, rfl, ⟨by omega, by omega⟩, _, rfl, _, _, rfl, ?_⟩
        have g1 := quo_ge (b := (intBits c : Int) - intBits l + 1) (k := (i : Int) + 1) (by omega)
        have g2 := quo_le (x := (intBits l : Int) - 1 - intBits c) (k := (i : Int) + 1) (n := 1000) (by omega) (by decide) (by omega)
        rw [show -((intBits c : Int) - intBits l + 1) = (intBits l : Int) - 1 - intBits c by omega] at g1
        generalize -(((intBits l : Int) - 1 - intBits c) / ((i : Int) + 1)) = v at *
        by_cases hv : v > L
        · rw [if_pos hv]
          exact ⟨s8, e8, v, _, _, rfl, by omega, g2, old v (by omega) (by omega) fun _ => g1⟩
        · rw [if_neg hv]
          refine ⟨s8, e8, L, _, _, rfl, L0, L1, old L (by omega) L0 fun _ => ?_⟩
          have : ((i : Int) + 1) * v ≤ ((i : Int) + 1) * L := Int.mul_le_mul_of_nonneg_left (by omega) (by omega)
          omega
      · have z : c = 0 := Classical.byContradiction fun y => h (by
          show (!decide (V.int c = V.int 0)) = true
          rw [decide_eq_false (fun w => y (by injection w))]
          rfl)
        exact ⟨s8, e8, L, _, _, rfl, L0, L1, old L (Int.le_refl _) L0 fun nz => absurd z nz⟩
    · rintro σ H7 ⟨s7, e7, L, u3, u4, rfl, L0, L1, hL⟩
      rw [ll] at hL
      have eL : ((L.toNat : Nat) : Int) = L := by omega
      refine ⟨_, rfl, _, _, rfl, rfl, by rw [← eL]; exact shl_ok (n := 2) (by decide) (by omega), q L.toNat H7 s7 (by omega) ?_⟩
      have Lp : (0 : Int) < 2 ^ L.toNat := SgM.pow_p (by decide) _
      refine SgM.far_sign (A := 2 ^ (intBits l - 1)) (B := 2 ^ L.toNat) (SgM.pow_p (by decide) _) Lp (bits_low (by omega)) (small_of fun j c hj => ?_)
      have hjl : j < is.length := (List.getElem?_eq_some_iff.mp hj).1
      by_cases nc : c = 0
      · rw [nc]
        exact Int.mul_nonneg (Int.le_of_lt (SgM.pow_p (by decide) _)) (Int.le_of_lt (SgM.pow_p Lp _))
      · have k := hL (is.length - 1 - j) c (by omega) (by rw [show is.length - 1 - (is.length - 1 - j) = j by omega]; exact hj) nc
        rw [show ((is.length - 1 - j : Nat) : Int) + 1 = ((is.length - j : Nat) : Int) by omega] at k
        refine Int.le_trans (bits_up c) ?_
        rw [← Int.pow_mul, ← Int.pow_add]
        have kN : intBits c ≤ intBits l - 1 + L.toNat * (is.length - j) := by
          have : ((L.toNat * (is.length - j) : Nat) : Int) = ((is.length - j : Nat) : Int) * L := by
            rw [Int.natCast_mul, eL, Int.mul_comm]
          omega
        have := Nat.pow_le_pow_right (n := 2) (by decide) kN
        have e : ∀ n : Nat, ((2 ^ n : Nat) : Int) = (2 : Int) ^ n := fun n => by
          rw [Int.natCast_pow]
          rfl
        rw [← e, ← e]
        omega
abbrev BrG (P : Program) (w : World) (K : Fr) (mg : Str → Option Value) (base : Heap) : Prop := ∃ f d, Gd P w K mg base 1 "beyond_roots" f d ["coefficients"] (spBr K)
end
end K71

set_option maxHeartbeats 4000000
set_option exponentiation.threshold 3000
namespace K71
open PySem PySem.Spec PyProof.Rows L2 RtL ErL StX
open SgM (wat sg chB sgs CovTo Cov bld IsRuns row)
/-! ### lists of pairs -/
def PL (H : Hp) : List V → List (Int × Int) → Prop
  | [], [] => True
  | v :: vs, p :: ps => (∃ r, v = .ref r ∧ H r = some (.tup [.int p.1, .int p.2])) ∧ PL H vs ps
  | _, _ => False
theorem PL.imp {H H' : Hp} (k : ∀ r a b, H r = some (.tup [.int a, .int b]) → H' r = some (.tup [.int a, .int b])) : ∀ {vs : List V} {ps : List (Int × Int)}, PL H vs ps → PL H' vs ps
  | [], [], _ => trivial
  | _ :: _, _ :: _, ⟨⟨r, e, h⟩, h'⟩ => ⟨⟨r, e, k _ _ _ h⟩, h'.imp k⟩
theorem PL.same {H H' : Hp} {vs : List V} {ps : List (Int × Int)} (h : PL H vs ps) (s : Same H H') : PL H' vs ps := h.imp fun _ _ _ e => s _ _ e
theorem PL.updL {H : Hp} {l : Addr} {xs : List V} {o : HO} {vs : List V} {ps : List (Int × Int)} (h : PL H vs ps) (hl : H l = some (.lst xs)) : PL (upd H l o) vs ps := h.imp fun r a b e => by
  rw [upd_ne (show r ≠ l from fun z => by rw [z, hl] at e; cases e)]
  exact e
theorem PL.len {H : Hp} : ∀ {vs : List V} {ps : List (Int × Int)}, PL H vs ps → vs.length = ps.length
  | [], [], _ => rfl
  | _ :: _, _ :: _, ⟨_, h⟩ => congrArg Nat.succ h.len
theorem PL.snoc {H : Hp} {r : Addr} {a b : Int} (e : H r = some (.tup [.int a, .int b])) : ∀ {vs : List V} {ps : List (Int × Int)}, PL H vs ps → PL H (vs ++ [.ref r]) (ps ++ [(a, b)])
  | [], [], _ => ⟨⟨r, rfl, e⟩, trivial⟩
  | _ :: _, _ :: _, ⟨h, h'⟩ => ⟨h, h'.snoc e⟩
theorem PL.unsnoc {H : Hp} {a b : Int} : ∀ {ps : List (Int × Int)} {vs : List V}, PL H vs (ps ++ [(a, b)]) → ∃ us r, vs = us ++ [.ref r] ∧ H r = some (.tup [.int a, .int b]) ∧ PL H us ps
  | [], [v], ⟨⟨r, e, h⟩, _⟩ => ⟨[], r, by rw [e]; rfl, h, trivial⟩
  | [], _ :: _ :: _, ⟨_, h⟩ => h.elim
  | p :: ps, v :: vs, ⟨h, h'⟩ => by
    obtain ⟨us, r, e, h1, h2⟩ := h'.unsnoc
    exact ⟨v :: us, r, by rw [e]; rfl, h1, h, h2⟩
/-! ### the pieces that wait, the next one first -/
inductive Ch : Int → List (Int × Int × Nat) → Int → Prop
  | nil {b : Int} : Ch b [] b
  | cons {a b c : Int} {k : Nat} {r : List (Int × Int × Nat)} (lt : a < b) (w : b - a ≤ 2 ^ k) (h : Ch b r c) : Ch a ((a, b, k) :: r) c
theorem Ch.le {a c : Int} {r : List (Int × Int × Nat)} (h : Ch a r c) : a ≤ c := by
  induction h with
  | nil => exact Int.le_refl _
  | cons lt _ _ ih => omega
def vr (cs : List Int) (a b : Int) : Nat := chB (sgs (row a b cs))
def pot (cs : List Int) : List (Int × Int × Nat) → Nat
  | [] => 0
  | (a, b, k) :: r => 3 + 6 * (k * vr cs a b) + pot cs r
theorem pot_len (cs : List Int) : ∀ st : List (Int × Int × Nat), 3 * st.length ≤ pot cs st
  | [] => Nat.le_refl _
  | (a, b, k) :: r => by
    have := pot_len cs r
    show 3 * (r.length + 1) ≤ 3 + 6 * (k * vr cs a b) + pot cs r
    omega
def prs (st : List (Int × Int × Nat)) : List (Int × Int) := (st.map fun p => (p.1, p.2.1)).reverse
theorem prs_cons (a b : Int) (k : Nat) (r : List (Int × Int × Nat)) : prs ((a, b, k) :: r) = prs r ++ [(a, b)] := by
  unfold prs
  rw [List.map_cons, List.reverse_cons]
/-- what a piece cut in two leaves -/
theorem cut_ok {cs : List Int} {a b c : Int} {k : Nat} {r : List (Int × Int × Nat)} (w : 2 ≤ b - a) (hk : b - a ≤ 2 ^ k) (hv : 1 ≤ vr cs a b) (h : Ch b r c) :
    ∃ j, Ch a ((a, (a + b) / 2, j) :: ((a + b) / 2, b, j) :: r) c ∧ pot cs ((a, (a + b) / 2, j) :: ((a + b) / 2, b, j) :: r) < pot cs ((a, b, k) :: r) := by
  cases k with
  | zero =>
    have : b - a ≤ 1 := by simpa using hk
    omega
  | succ j =>
    have e : (2 : Int) ^ (j + 1) = 2 * 2 ^ j := by rw [Int.pow_succ]; omega
    rw [e] at hk
    have hm := SgM.halves (low := a) (mid := (a + b) / 2) (high := b) (by omega) (by omega) cs
    refine ⟨j, .cons (by omega) (by omega) (.cons (by omega) (by omega) h), ?_⟩
    show 3 + 6 * (j * vr cs a ((a + b) / 2)) + (3 + 6 * (j * vr cs ((a + b) / 2) b) + pot cs r) < 3 + 6 * ((j + 1) * vr cs a b) + pot cs r
    have hm' : vr cs a ((a + b) / 2) + vr cs ((a + b) / 2) b ≤ vr cs a b := hm
    have h1 : j * vr cs a ((a + b) / 2) + j * vr cs ((a + b) / 2) b ≤ j * vr cs a b := by
      rw [← Nat.mul_add]
      exact Nat.mul_le_mul_left _ hm'
    have h2 : (j + 1) * vr cs a b = j * vr cs a b + vr cs a b := Nat.succ_mul _ _
    omega
/-- the marks so far -/
def Mk_ (F : Int → Int) (ms : List Int) (a : Int) : Prop := (ms = [] ∧ a = 1) ∨ ∃ r, ms = 1 :: r ∧ CovTo F 1 r a
theorem Mk_.go {F : Int → Int} {ms r : List Int} {a b : Int} (h : Mk_ F ms a) (c : CovTo F a r b) : Mk_ F (ms ++ a :: r) b := by
  rcases h with ⟨rfl, rfl⟩ | ⟨s, rfl, h⟩
  · exact .inr ⟨r, rfl, c⟩
  · exact .inr ⟨s ++ a :: r, rfl, h.app c⟩
theorem CovTo.mem {F : Int → Int} : ∀ {ms : List Int} {a b : Int}, CovTo F a ms b → a ≤ b ∧ ∀ m ∈ ms, a ≤ m ∧ m ≤ b
  | [], _, _, h => ⟨h.1, fun _ hm => by cases hm⟩
  | x :: ms, a, b, h => by
    obtain ⟨h1, h2⟩ := CovTo.mem h.2.2
    have h3 : a ≤ x := h.1
    refine ⟨by omega, fun m hm => ?_⟩
    rcases List.mem_cons.mp hm with z | z
    · rw [z]
      exact ⟨h3, h1⟩
    · have := h2 m z
      omega
/-- one more place looked at -/
def bl2 (F : Int → Int) (ps : List (Int × Int)) (m : Int) : List (Int × Int) :=
  match ps.getLast? with
  | none => ps ++ [(m, F m)]
  | some p => if p.2 = F m then ps else ps ++ [(m, F m)]
theorem bl2_snoc (F : Int → Int) (ps : List (Int × Int)) (p : Int × Int) (m : Int) : bl2 F (ps ++ [p]) m = if p.2 = F m then ps ++ [p] else ps ++ [p] ++ [(m, F m)] := by
  unfold bl2
  rw [List.getLast?_concat]
theorem bl2_len (F : Int → Int) : ∀ (xs : List Int) (ps : List (Int × Int)), (xs.foldl (bl2 F) ps).length ≤ ps.length + xs.length
  | [], ps => Nat.le_refl _
  | x :: xs, ps => by
    have h1 := bl2_len F xs (bl2 F ps x)
    have h2 : (bl2 F ps x).length ≤ ps.length + 1 := by
      unfold bl2
      split
      · rw [List.length_append]; exact Nat.le_refl _
      · split
        · exact Nat.le_succ _
        · rw [List.length_append]; exact Nat.le_refl _
    rw [List.foldl_cons, List.length_cons]
    omega
theorem bl2_fold (F : Int → Int) : ∀ (ms : List Int) (ps : List (Int × Int)) (x s : Int), ms.foldl (bl2 F) (ps ++ [(x, s)]) = ps ++ (x, s) :: bld F s ms
  | [], _, _, _ => rfl
  | m :: ms, ps, x, s => by
    rw [List.foldl_cons, bl2_snoc]
    unfold bld
    by_cases e : F m = s
    · rw [if_pos (show s = F m from e.symm), if_pos e, bl2_fold F ms]
    · rw [if_neg (show ¬ s = F m from fun z => e z.symm), if_neg e, bl2_fold F ms, List.append_assoc]
      rfl
/-- what holds between two turns of the while -/
def Wv (K : Fr) (H : Hp) (t lw lm : Addr) (cs : List Int) (lim : Int) (m : Nat) (σ : L2.St) (H' : Hp) : Prop :=
  Same H H' ∧ ∃ (a : Int) (st : List (Int × Int × Nat)) (us : List V) (ms : List Int) (u4 u5 u6 u7 : Option V), σ = [some (.ref t), some (.int lim), some (.ref lw), some (.ref lm), u4, u5, u6, u7, none, none, none] ∧ H' lw = some (.lst us) ∧ PL H' us (prs st) ∧
    H' lm = some (.lst (ms.map V.int)) ∧ Ch a st lim ∧ Mk_ (fun d => sg (wat cs d)) ms a ∧ 0 < a ∧ ms.length + pot cs st ≤ 80000 ∧ m = pot cs st
section
variable {P : Program} {w : World} {K : Fr} {mg : Str → Option Value} {base : Heap} {f : Addr} {fd : FuncData}
abbrev sS1 : Stmt := top 15
abbrev NS1 : List Str := ["coefficients", "limit", "waiting", "marks", "low", "high", "own", "middle", "found", "start", "sign"]
theorem scS1 : FnScope NS1 ["coefficients"] (defScope sS1) := ⟨rfl, rfl, rfl, by decide +kernel, rfl, by decide +kernel, by decide +kernel⟩
def spS1 (K : Fr) : Sp := fun vs H Q _ => ∃ (t : Addr) (cs : List Int), vs = [.ref t] ∧ H t = some (.tup (cs.map V.int)) ∧ (∀ c ∈ cs, Bd 1000 c) ∧ cs.length ≤ 12 ∧ (∀ is l, cs = is ++ [l] → l ≠ 0) ∧
  ∀ l H' us ps, Same H H' → H l = none → H' l = some (.lst us) → us.length ≤ 90000 → PL H' us ps → IsRuns (fun d => sg (wat cs d)) 1 ps → Q (.ref l) H'
theorem ok_s1 (F : FunD K "signs_from_one" "signs_from_one" (defArgs sS1) (defBody sS1) (defScope sS1) [] [] f fd) (T : TT K mg) (S : SaG P w K mg base) (B : BrG P w K mg base) (M : MbG P w K mg base) : FnOk P w K mg base CX0 5 f fd ["coefficients"] (spS1 K) := by
  obtain ⟨fS, dS, GS⟩ := S
  obtain ⟨fB, dB, GB⟩ := B
  obtain ⟨fM, dM, GM⟩ := M
  refine F.ok scS1 (fun vs H Q E h => ?_) (fun cdv A outer s H vs Q E hr h => ?_)
  · obtain ⟨t, cs, rfl, _⟩ := h
    rfl
  · obtain ⟨t, cs, rfl, et, hb, hl, hz, q⟩ := h
    refine ⟨_, PSs.nox (pss_cons (ps_if (pt_cmpR op_le (pe_callB call_len_seq (by rfl) T.fre (by decide +kernel) (pa_cons (pv 0) pa_nil)) pe_int (nomark _)) (pss_one (ps_ret (pe_lst (pa_cons (pe_tup (pa_cons pe_int (pa_cons (pe_gd GS (hr.mono (by decide)) (by rfl) (pa_cons (pv 0) (pa_cons pe_int pa_nil))) pa_nil))) pa_nil)))) pss_nil)
      (pss_cons (ps_set (i := 1) scS1.nd rfl (Or.inl rfl) (pe_gd GB (hr.mono (by decide)) (by rfl) (pa_cons (pv 0) pa_nil)))
      (pss_cons (ps_set (i := 2) scS1.nd rfl (Or.inl rfl) (pe_lst (pa_cons (pe_tup (pa_cons pe_int (pa_cons (pv 1) pa_nil))) pa_nil)))
      (pss_cons (ps_set (i := 3) scS1.nd rfl (Or.inl rfl) (pe_lst pa_nil))
      (pss_cons (ps_while PassesOwn.never (pt_truth (pv 2) (by intro _; rfl))
        (pss_cons (ps_asg (pe_bm0 PySem.F.plainAttrs_list PySem.F.slot_list_pop PySem.F.type_list_pop mt_pop (pv 2)) (pg_tup (by rfl) (pgs_cons (pg_name (i := 4) scS1.nd rfl (.inl rfl)) (pgs_cons (pg_name (i := 5) scS1.nd rfl (.inl rfl)) pgs_nil))))
        (pss_cons (ps_set (i := 6) scS1.nd rfl (Or.inl rfl) (pe_gd GM hr (by rfl) (pa_cons (pv 0) (pa_cons (pv 4) (pa_cons (pv 5) pa_nil)))))
        (pss_one (ps_if (pt_cmp (pc_isN (pv 6)))
          (pss_cons (ps_set (i := 7) scS1.nd rfl (Or.inl rfl) (pe_op op_fdivW (pe_op op_add (pv 4) (pv 5)) pe_int))
          (pss_cons (ps_expr (pe_bm PySem.F.plainAttrs_list PySem.F.slot_list_append PySem.F.type_list_append mt_append (pv 2) (pa_cons (pe_tup (pa_cons (pv 7) (pa_cons (pv 5) pa_nil))) pa_nil)))
          (pss_one (ps_expr (pe_bm PySem.F.plainAttrs_list PySem.F.slot_list_append PySem.F.type_list_append mt_append (pv 2) (pa_cons (pe_tup (pa_cons (pv 4) (pa_cons (pv 7) pa_nil))) pa_nil))))))
          (pss_one (ps_expr (pe_bm PySem.F.plainAttrs_list PySem.F.slot_list_extend PySem.F.type_list_extend mt_extend (pv 3) (pa_cons (pv 6) pa_nil)))))))))
      (pss_cons (ps_set (i := 8) scS1.nd rfl (Or.inl rfl) (pe_lst pa_nil))
      (pss_cons (ps_for PassesOwn.never rfl (pi_list (pe_op op_cat (pv 3) (pe_lst (pa_cons (pv 1) pa_nil)))) (pg_name (i := 9) scS1.nd rfl (Or.inl rfl))
        (pss_cons (ps_set (i := 10) scS1.nd rfl (Or.inl rfl) (pe_gd GS (hr.mono (by decide)) (by rfl) (pa_cons (pv 0) (pa_cons (pv 9) pa_nil))))
        (pss_one (ps_if (PW.pt (pw_or (pt_not (pt_truth (pv 8) (by intro _; rfl))) (pw_or1 (pt_cmpR op_ne (pe_ix ix_tup (pe_ix ix_list (pv 8) (pe_un un_neg pe_int) (fun _ _ => rfl)) pe_int (fun _ _ => rfl)) (pv 10) (nomark _)))))
          (pss_one (ps_expr (pe_bm PySem.F.plainAttrs_list PySem.F.slot_list_append PySem.F.type_list_append mt_append (pv 8) (pa_cons (pe_tup (pa_cons (pv 9) (pa_cons (pv 10) pa_nil))) pa_nil)))) pss_nil))))
      (pss_one (ps_ret (pv 8)))))))))), ?_⟩
    have lz : 100000 ≤ sizeLine := by rw [sizeLine_eq]; decide
    have bd1 : Bd 1200 1 := bd_up (n := 1) (by decide) (by decide)
    refine ⟨_, rfl, t, _, rfl, .inr (SqT.of et), _, _, rfl, rfl, _, rfl, ite2 (fun h => ?_) (fun h => ?_)⟩
    · have h1 : cs.length ≤ 1 := by
        have := of_decide_eq_true h
        rw [List.length_map] at this
        omega
      refine ⟨_, rfl, t, cs, 1, rfl, et, hb, hl, bd1, fun H1 s1 => ⟨by show 2 ≤ sizeLine; omega, fun tp ntp => ⟨by show 1 ≤ sizeLine; omega, fun l nl => ?_⟩⟩⟩
      have s3 := (s1.trans (same_new (o := .tup [.int 1, .int (sg (wat cs 1))]) ntp)).trans (same_new (o := .lst [.ref tp]) nl)
      refine q l _ _ [(1, sg (wat cs 1))] s3 (gone (s1.trans (same_new ntp)) nl) upd_same (by show 1 ≤ 90000; decide) ⟨⟨tp, rfl, ?_⟩, trivial⟩ (.last (F := fun d => sg (wat cs d)) fun d hd => ?_)
      · exact same_new nl _ _ upd_same
      · match cs, h1 with
        | [], _ => rfl
        | [c], _ =>
          show sg (0 * d + c) = sg (0 * 1 + c)
          rw [Int.zero_mul, Int.zero_mul]
    have h1 : ¬ cs.length ≤ 1 := fun y => h (by rw [List.length_map]; exact decide_eq_true (by omega))
    obtain ⟨is, l, rfl⟩ : ∃ is l, cs = is ++ [l] := by
      rcases List.eq_nil_or_concat cs with z | ⟨is, l, z⟩
      · rw [z] at h1
        exact absurd (Nat.zero_le _) h1
      · exact ⟨is, l, by rw [z, List.concat_eq_append]⟩
    have l0 := hz is l rfl
    have li : is.length ≤ 12 := by
      rw [List.length_append] at hl
      omega
    refine ⟨_, rfl, t, is, l, rfl, et, hb, li, l0, fun L H1 s1 hL far => ?_⟩
    have nz : ∃ d, wat (is ++ [l]) d ≠ 0 := ⟨2 * 2 ^ L, sg_nz (by
      rw [far _ (Int.le_refl _)]
      unfold sg
      rw [if_neg l0]
      split <;> decide)⟩
    have elim : (2 : Int) * 2 ^ L = 2 ^ (L + 1) := by rw [Int.pow_succ]; omega
    have blim : Bd 1198 (2 * 2 ^ L) := by
      rw [elim]
      show ((2 : Int) ^ (L + 1)).natAbs < 2 ^ 1198
      rw [Int.natAbs_pow]
      exact Nat.pow_lt_pow_right (by decide) (by omega)
    have plim : (1 : Int) < 2 * 2 ^ L := by
      have : (0 : Int) < 2 ^ L := SgM.pow_p (by decide) L
      omega
    generalize hcs : is ++ [l] = cs at *
    generalize hlim : (2 : Int) * 2 ^ L = lim at *
    refine ⟨_, rfl, by show 2 ≤ sizeLine; omega, fun tp ntp => ⟨by show 1 ≤ sizeLine; omega, fun lw nlw => ⟨by show 0 ≤ sizeLine; omega, fun lm nlm => ?_⟩⟩⟩
    have s2 : Same H1 (upd H1 tp (.tup [.int 1, .int lim])) := same_new ntp
    have s3 := s2.trans (same_new (o := .lst [.ref tp]) nlw)
    have s4 := s3.trans (same_new (o := .lst []) nlm)
    have hlw : H lw = none := gone (s1.trans s2) nlw
    have hlm : H lm = none := gone (s1.trans s3) nlm
    have dlw : lm ≠ lw := fun z => by
      rw [z, upd_same] at nlm
      cases nlm
    refine ⟨Wv K H t lw lm cs lim, ⟨_, s1.trans s4, 1, [(1, lim, L + 1)], [.ref tp], [], none, none, none, none, rfl, ?_, ⟨⟨tp, rfl, ?_⟩, trivial⟩, upd_same, .cons plim (by rw [elim]; omega) .nil, .inl ⟨rfl, rfl⟩, by decide, ?_, rfl⟩, ?_⟩
    · exact same_new nlm _ _ upd_same
    · exact same_new nlm _ _ (same_new nlw _ _ upd_same)
    · have v1 : vr cs 1 lim ≤ 12 := by
        refine Nat.le_trans (SgM.chB_len _) (Nat.le_trans (SgM.sgs_len _) ?_)
        rw [SgM.row_len]
        exact hl
      have v2 : (L + 1) * vr cs 1 lim ≤ 1001 * 12 := Nat.mul_le_mul (by omega) v1
      show 0 + (3 + 6 * ((L + 1) * vr cs 1 lim) + 0) ≤ 80000
      omega
    rintro m σ H5 ⟨s5, a, st, us, ms, u4, u5, u6, u7, rfl, e5, p5, m5, ch, mk, a0, tot, rfl⟩
    refine ⟨_, rfl, !us.isEmpty, .inl ⟨us, SqL.of e5, rfl⟩, ?_⟩
    have upL : ∀ {H6 : Hp} {xs : List V} {o : HO}, Same H H6 → Same H (upd H6 lw o) := fun {H6 xs o} s b ob e => by
      rw [upd_ne (ne_of_none e hlw)]
      exact s _ _ e
    have upM : ∀ {H6 : Hp} {o : HO}, Same H H6 → Same H (upd H6 lm o) := fun {H6 o} s b ob e => by
      rw [upd_ne (ne_of_none e hlm)]
      exact s _ _ e
    cases st with
    | nil =>
      have z : us = [] := List.length_eq_zero_iff.mp p5.len
      subst z
      cases ch
      have mk2 : ∃ rr, ms = 1 :: rr ∧ CovTo (fun d => sg (wat cs d)) 1 rr lim := by
        rcases mk with ⟨_, z⟩ | z
        · omega
        · exact z
      obtain ⟨rr, rfl, cov⟩ := mk2
      refine iteF ⟨by show 0 ≤ sizeLine; omega, fun lf nlf => ?_⟩
      have s6 := s5.trans (same_new (o := .lst []) nlf)
      have hlf : H lf = none := gone s5 nlf
      have m6 := same_new (o := .lst []) nlf _ _ m5
      refine ⟨_, rfl, _, rfl, by show 1 ≤ sizeLine; omega, fun l2 n2 => ?_⟩
      have s7 := s6.trans (same_new (o := .lst [.int lim]) n2)
      have m7 := same_new (o := .lst [.int lim]) n2 _ _ m6
      have f7 : (upd (upd H5 lf (.lst [])) l2 (.lst [.int lim])) lf = some (.lst []) := same_new n2 _ _ upd_same
      refine ⟨lm, l2, _, _, rfl, rfl, m7, upd_same, ?_, fun l3 n3 => ?_⟩
      · have : (1 :: rr).length + 0 ≤ 80000 := tot
        rw [List.length_map]
        show (1 :: rr).length + 1 ≤ sizeLine
        omega
      have e3 : (1 :: rr).map V.int ++ [V.int lim] = (1 :: (rr ++ [lim])).map V.int := by
        rw [List.map_cons, List.map_cons, List.map_append]
        rfl
      rw [e3]
      have s8 := s7.trans (same_new (o := .lst ((1 :: (rr ++ [lim])).map V.int)) n3)
      have f8 := same_new (o := .lst ((1 :: (rr ++ [lim])).map V.int)) n3 _ _ f7
      refine ⟨l3, rfl, ⟨_, SqL.of upd_same⟩, ?_⟩
      refine for_list (xs := (1 :: (rr ++ [lim])).map V.int) (fun i σ H' => Same H H' ∧ (∃ u9 u10, ∃ u4 u5 u6 u7 : Option V, σ = [some (.ref t), some (.int lim), some (.ref lw), some (.ref lm), u4, u5, u6, u7, some (.ref lf), u9, u10]) ∧ H' l3 = some (.lst ((1 :: (rr ++ [lim])).map V.int)) ∧ ∃ us, H' lf = some (.lst us) ∧ PL H' us (((1 :: (rr ++ [lim])).take i).foldl (bl2 fun d => sg (wat cs d)) []))
        ⟨s8, ⟨none, none, u4, u5, u6, u7, rfl⟩, upd_same, [], f8, trivial⟩ (fun i σ H' _ pv => SqL.of pv.2.2.1) ?_ ?_
      · rintro i v σ H9 hi ⟨s9, ⟨u9, u10, u4, u5, u6, u7, rfl⟩, e9, us, f9, p9⟩
        obtain ⟨c, hc, rfl⟩ := getm hi
        have bc : Bd 1200 c := by
          have hm := (CovTo.mem cov).2
          have h1 : lim.natAbs < 2 ^ 1198 := blim
          have hcm := List.mem_of_getElem? hc
          have : 1 ≤ c ∧ c ≤ lim := by
            rcases List.mem_cons.mp hcm with z | z
            · omega
            · rcases List.mem_append.mp z with z | z
              · exact hm c z
              · rw [List.mem_singleton.mp z]
                omega
          exact bd_up (n := 1198) (Nat.lt_of_le_of_lt (show c.natAbs ≤ lim.natAbs by omega) h1) (by decide)
        have li' : i < 80001 := by
          have h1 : (1 :: rr).length + 0 ≤ 80000 := tot
          have h2 := (List.getElem?_eq_some_iff.mp hc).1
          rw [List.length_cons, List.length_append, List.length_singleton] at h2
          rw [List.length_cons] at h1
          omega
        have lf_ : us.length ≤ i := by
          rw [p9.len]
          have h1 := bl2_len (fun d => sg (wat cs d)) ((1 :: (rr ++ [lim])).take i) []
          rw [List.length_take, List.length_nil] at h1
          omega
        rw [take_succ' hc, List.foldl_append, List.foldl_cons, List.foldl_nil]
        generalize (List.foldl (bl2 fun d => sg (wat cs d)) [] (List.take i (1 :: (rr ++ [lim])))) = ps at p9 ⊢
        refine ⟨_, rfl, _, rfl, t, cs, c, rfl, s9 _ _ et, hb, hl, bc, fun H10 s10 => ?_⟩
        have f10 := s10 _ _ f9
        have e10 := s10 _ _ e9
        have d3 : l3 ≠ lf := fun z => by
          rw [z, f7] at n3
          cases n3
        have addIt : ∀ tn, H10 tn = none → ∃ l xs y, V.ref lf = .ref l ∧ [V.ref tn] = [y] ∧ (upd H10 tn (.tup [.int c, .int (sg (wat cs c))])) l = some (.lst xs) ∧ xs.length < sizeLine ∧
            (Same H (upd (upd H10 tn (.tup [.int c, .int (sg (wat cs c))])) l (.lst (xs ++ [y]))) ∧ (upd (upd H10 tn (.tup [.int c, .int (sg (wat cs c))])) l (.lst (xs ++ [y]))) l3 = some (.lst ((1 :: (rr ++ [lim])).map V.int)) ∧ ∃ us, (upd (upd H10 tn (.tup [.int c, .int (sg (wat cs c))])) l (.lst (xs ++ [y]))) lf = some (.lst us) ∧ PL (upd (upd H10 tn (.tup [.int c, .int (sg (wat cs c))])) l (.lst (xs ++ [y]))) us (ps ++ [(c, sg (wat cs c))])) := fun tn ntn => by
          have f11 := same_new (o := .tup [.int c, .int (sg (wat cs c))]) ntn _ _ f10
          refine ⟨lf, us, .ref tn, rfl, rfl, f11, by omega, fun b o e => ?_, ?_, us ++ [.ref tn], upd_same, (((p9.same s10).same (same_new ntn)).snoc upd_same).updL f11⟩
          · rw [upd_ne (ne_of_none e hlf)]
            exact same_new ntn _ _ (s10 _ _ (s9 _ _ e))
          · rw [upd_ne d3]
            exact same_new ntn _ _ e10
        rcases List.eq_nil_or_concat ps with z | ⟨ps', p, z⟩
        · subst z
          have uz : us = [] := List.length_eq_zero_iff.mp p9.len
          subst uz
          refine ⟨_, rfl, false, .inl ⟨[], SqL.of f10, rfl⟩, iteT ?_⟩
          refine ⟨_, rfl, .inl ⟨rfl, _, SqL.of f10⟩, _, rfl, _, rfl, by show 2 ≤ sizeLine; omega, fun tn ntn => ?_⟩
          obtain ⟨l, xs, y, a1, a2, a3, a4, a5, a6, a7⟩ := addIt tn ntn
          exact ⟨l, xs, y, a1, a2, a3, a4, a5, ⟨_, _, _, _, _, _, rfl⟩, a6, a7⟩
        · obtain ⟨x, sx⟩ := p
          rw [List.concat_eq_append] at z
          subst z
          obtain ⟨us', r, rfl, er, p10⟩ := p9.unsnoc
          refine ⟨_, rfl, true, .inl ⟨_, SqL.of f10, by cases us' <;> rfl⟩, iteF ?_⟩
          refine ⟨_, rfl, 1, rfl, lf, _, _, _, rfl, rfl, SqL.of f10, atI_last _ _, r, _, _, _, rfl, rfl, SqT.of (s10 _ _ er), rfl, _, rfl, rfl, _, rfl, ite2 (fun h => ?_) (fun h => ?_)⟩
          · have ne : sx ≠ sg (wat cs c) := fun z => by
              rw [z] at h
              simp at h
            rw [bl2_snoc, if_neg ne]
            refine ⟨_, rfl, .inl ⟨rfl, _, SqL.of f10⟩, _, rfl, _, rfl, by show 2 ≤ sizeLine; omega, fun tn ntn => ?_⟩
            obtain ⟨l, xs, y, a1, a2, a3, a4, a5, a6, a7⟩ := addIt tn ntn
            exact ⟨l, xs, y, a1, a2, a3, a4, a5, ⟨_, _, _, _, _, _, rfl⟩, a6, a7⟩
          · have e : sx = sg (wat cs c) := Classical.byContradiction fun z => h (by
              show (!decide (V.int sx = V.int (sg (wat cs c)))) = true
              rw [decide_eq_false fun y => z (by injection y)]
              rfl)
            rw [bl2_snoc, if_pos e]
            exact ⟨s9.trans s10, ⟨_, _, _, _, _, _, rfl⟩, e10, us' ++ [.ref r], f10, p9.same s10⟩
      · rintro σ H9 ⟨s9, ⟨u9, u10, u4, u5, u6, u7, rfl⟩, e9, us, f9, p9⟩
        have lus : us.length ≤ 90000 := by
          rw [p9.len]
          have h1 := bl2_len (fun d => sg (wat cs d)) ((1 :: (rr ++ [lim])).take ((1 :: (rr ++ [lim])).map V.int).length) []
          have h2 : (1 :: rr).length + 0 ≤ 80000 := tot
          rw [List.length_take, List.length_map, List.length_cons, List.length_append, List.length_singleton, List.length_nil] at h1
          rw [List.length_cons] at h2
          rw [List.length_map, List.length_cons, List.length_append, List.length_singleton]
          omega
        rw [List.length_map, List.take_length, List.foldl_cons] at p9
        refine ⟨_, rfl, q lf H9 us _ s9 hlf f9 lus p9 ?_⟩
        have := bl2_fold (fun d => sg (wat cs d)) (rr ++ [lim]) [] 1 (sg (wat cs 1))
        rw [show bl2 (fun d => sg (wat cs d)) [] 1 = [] ++ [(1, sg (wat cs 1))] from rfl, this]
        exact SgM.runs_of (F := fun d => sg (wat cs d)) (cov.end_ fun d hd => by rw [far d hd, far lim (Int.le_refl _)])
    | cons hd r =>
      obtain ⟨a1, b, k⟩ := hd
      rw [prs_cons] at p5
      obtain ⟨us', rf, rfl, er, p6⟩ := p5.unsnoc
      cases ch with
      | cons lt wk ch =>
      have en : (!(us' ++ [V.ref rf]).isEmpty) = true := by cases us' <;> rfl
      rw [en]
      have bn : b.natAbs < 2 ^ 1198 := by
        have h1 : lim.natAbs < 2 ^ 1198 := blim
        have := ch.le
        exact Nat.lt_of_le_of_lt (by omega) h1
      have er6 : (upd H5 lw (.lst (us' ++ [V.ref rf]).dropLast)) rf = some (.tup [.int a, .int b]) := by
        rw [upd_ne (show rf ≠ lw from fun z => by rw [z, e5] at er; cases er)]
        exact er
      rw [List.dropLast_concat] at er6
      have s6 : Same H (upd H5 lw (.lst us')) := upL (xs := []) s5
      have p6' : PL (upd H5 lw (.lst us')) us' (prs r) := p6.updL e5
      have m6 : (upd H5 lw (.lst us')) lm = some (.lst (ms.map V.int)) := by
        rw [upd_ne dlw]
        exact m5
      refine iteT ⟨fun σ' H' => ∃ m', m' < _ ∧ Wv K H t lw lm cs lim m' σ' H', fun _ _ z => z, ?_⟩
      refine ⟨_, rfl, .inl ⟨rfl, _, SqL.of e5⟩, lw, us' ++ [.ref rf], .ref rf, rfl, rfl, e5, by simp, ?_⟩
      rw [List.dropLast_concat]
      have lus : us'.length ≤ 80000 := by
        have h1 := p6.len
        have h2 := pot_len cs r
        have h3 : (prs r).length = r.length := by
          unfold prs
          rw [List.length_reverse, List.length_map]
        have h4 : ms.length + (3 + 6 * (k * vr cs a b) + pot cs r) ≤ 80000 := tot
        omega
      have tot' : ms.length + (3 + 6 * (k * vr cs a b) + pot cs r) ≤ 80000 := tot
      have dlw' : lw ≠ lm := fun z => dlw z.symm
      refine ⟨rf, _, rfl, SqT.of er6, rfl, _, _, rfl, _, _, rfl, rfl, ?_⟩
      refine ⟨_, rfl, _, rfl, _, rfl, t, cs, a, b, rfl, s6 _ _ et, hb, hl, by omega, lt, bn, nz, fun ln ns H7 s7 n7 e7 hn cv => ?_, fun H7 s7 w2 v1 => ?_⟩
      · have m7 := s7 _ _ m6
        refine ⟨_, rfl, _, rfl, ite2 (fun h => absurd (of_decide_eq_true h) (by intro z; cases z)) (fun _ => ?_)⟩
        refine ⟨_, rfl, .inl ⟨rfl, _, SqL.of m7⟩, _, rfl, lm, ln, _, _, rfl, rfl, m7, e7, ?_, ?_⟩
        · rw [List.length_map, List.length_map]
          show ms.length + (ns.length + 1) ≤ sizeLine
          omega
        refine ⟨pot cs r, ?_, upM (s6.trans s7), b, r, us', ms ++ a :: ns, _, _, _, _, rfl, ?_, (p6'.same s7).updL m7, ?_, ch, mk.go cv, by omega, ?_, rfl⟩
        · show pot cs r < 3 + 6 * (k * vr cs a b) + pot cs r
          omega
        · rw [upd_ne dlw']
          exact s7 _ _ upd_same
        · rw [upd_same, List.map_append]
        · rw [List.length_append]
          show ms.length + (ns.length + 1) + pot cs r ≤ 80000
          omega
      · obtain ⟨j, ch2, lp⟩ := cut_ok w2 wk v1 ch
        have w7 : H7 lw = some (.lst us') := s7 _ _ upd_same
        have m7 := s7 _ _ m6
        refine ⟨_, rfl, _, rfl, ite2 (fun _ => ?_) (fun h => absurd (decide_eq_true rfl) h)⟩
        refine ⟨_, rfl, _, rfl, _, _, rfl, rfl, _, _, rfl, rfl, ⟨by decide, by decide⟩, ?_⟩
        refine ⟨_, rfl, .inl ⟨rfl, _, SqL.of w7⟩, _, rfl, _, rfl, by show 2 ≤ sizeLine; omega, fun tq nq => ?_⟩
        have w8 := same_new (o := .tup [.int ((a + b) / 2), .int b]) nq _ _ w7
        have m8 := same_new (o := .tup [.int ((a + b) / 2), .int b]) nq _ _ m7
        refine ⟨lw, _, _, rfl, rfl, w8, by omega, ?_⟩
        have h8 : (upd (upd H7 tq (.tup [.int ((a + b) / 2), .int b])) lw (.lst (us' ++ [.ref tq]))) lw = some (.lst (us' ++ [.ref tq])) := upd_same
        refine ⟨_, rfl, .inl ⟨rfl, _, SqL.of h8⟩, _, rfl, _, rfl, by show 2 ≤ sizeLine; omega, fun tr nr => ?_⟩
        have w9 := same_new (o := .tup [.int a, .int ((a + b) / 2)]) nr _ _ h8
        refine ⟨lw, _, _, rfl, rfl, w9, by rw [List.length_append, List.length_singleton]; omega, ?_⟩
        have p8 : PL (upd H7 tq (.tup [.int ((a + b) / 2), .int b])) (us' ++ [.ref tq]) (prs r ++ [((a + b) / 2, b)]) := ((p6'.same s7).same (same_new nq)).snoc upd_same
        have p9 := (((p8.updL (o := .lst (us' ++ [.ref tq])) w8).same (same_new nr)).snoc (upd_same (o := .tup [.int a, .int ((a + b) / 2)]))).updL (o := .lst (us' ++ [.ref tq] ++ [.ref tr])) w9
        have s9 : Same H (upd (upd (upd (upd H7 tq (.tup [.int ((a + b) / 2), .int b])) lw (.lst (us' ++ [.ref tq]))) tr (.tup [.int a, .int ((a + b) / 2)])) lw (.lst (us' ++ [.ref tq] ++ [.ref tr]))) :=
          upL (xs := []) ((upL (xs := []) ((s6.trans s7).trans (same_new nq))).trans (same_new nr))
        refine ⟨_, lp, s9, a, _, us' ++ [.ref tq] ++ [.ref tr], ms, _, _, _, _, rfl, upd_same, ?_, ?_, ch2, mk, a0, ?_, rfl⟩
        · rw [prs_cons, prs_cons]
          exact p9
        · rw [upd_ne dlw]
          refine same_new nr _ _ ?_
          rw [upd_ne dlw]
          exact m8
        · have : pot cs ((a, b, k) :: r) = 3 + 6 * (k * vr cs a b) + pot cs r := rfl
          omega
abbrev S1G (P : Program) (w : World) (K : Fr) (mg : Str → Option Value) (base : Heap) : Prop := ∃ f d, Gd P w K mg base 5 "signs_from_one" f d ["coefficients"] (spS1 K)
end
end K71

set_option maxHeartbeats 4000000
namespace K71
open PySem
open SgM (wat sg Cov bld IsRuns)
theorem wat_pl (d : Int) : ∀ cs : List Int, wat (pl cs) d = wat cs d
  | [] => rfl
  | c :: cs => by
    have ih := wat_pl d cs
    show wat (pl (c :: cs)) d = wat cs d * d + c
    unfold pl
    cases e : pl cs with
    | nil =>
      rw [e] at ih
      have z : wat cs d = 0 := ih.symm
      rw [z]
      by_cases hc : c = 0
      · rw [if_pos hc, hc]
        show (0 : Int) = 0 * d + 0
        omega
      · rw [if_neg hc]
        show 0 * d + c = 0 * d + c
        rfl
    | cons x xs =>
      rw [e] at ih
      show wat (x :: xs) d * d + c = _
      rw [ih]
theorem pl_end : ∀ {cs is : List Int} {l : Int}, pl cs = is ++ [l] → l ≠ 0
  | [], is, l, h => by
    have : (pl ([] : List Int)).length = (is ++ [l]).length := by rw [h]
    simp [pl] at this
  | c :: cs, is, l, h => by
    unfold pl at h
    cases e : pl cs with
    | nil =>
      rw [e] at h
      by_cases hc : c = 0
      · rw [if_pos hc] at h
        have : ([] : List Int).length = (is ++ [l]).length := congrArg List.length h
        simp at this
      · rw [if_neg hc] at h
        cases is with
        | nil =>
          have : c = l := by injection h
          rw [← this]
          exact hc
        | cons y ys =>
          have : ([c] : List Int).length = (y :: ys ++ [l]).length := congrArg List.length h
          simp at this
    | cons x xs =>
      rw [e] at h
      cases is with
      | nil =>
        have : (c :: x :: xs).length = (([] : List Int) ++ [l]).length := congrArg List.length h
        simp at this
      | cons y ys =>
        rw [List.cons_append] at h
        injection h with _ h
        exact pl_end (cs := cs) (is := ys) (by rw [e]; exact h)
theorem pl_zero_of : ∀ {bs : List Int}, (∀ d, 0 < d → wat bs d = 0) → pl bs = []
  | [], _ => rfl
  | b :: bs, h => by
    have hb : b = 0 := SgM.div_all fun z hz => ⟨-wat bs z, by
      have : wat bs z * z + b = 0 := h z hz
      rw [Int.mul_neg, Int.mul_comm]
      omega⟩
    have : pl bs = [] := pl_zero_of fun d hd => by
      have e : wat bs d * d + b = 0 := h d hd
      rw [hb, Int.add_zero] at e
      rcases Int.mul_eq_zero.mp e with z | z
      · exact z
      · omega
    unfold pl
    rw [this]
    exact if_pos hb
/-- the values say which row it is -/
theorem pl_uniq : ∀ {as bs : List Int}, (∀ d, 0 < d → wat as d = wat bs d) → pl as = pl bs
  | [], bs, h => (pl_zero_of fun d hd => (h d hd).symm).symm
  | as, [], h => pl_zero_of fun d hd => h d hd
  | a :: as, b :: bs, h => by
    have hb : a - b = 0 := SgM.div_all fun z hz => ⟨wat bs z - wat as z, by
      have e : wat as z * z + a = wat bs z * z + b := h z hz
      rw [Int.mul_sub, Int.mul_comm z, Int.mul_comm z]
      omega⟩
    have hab : a = b := by omega
    have : pl as = pl bs := pl_uniq fun d hd => by
      have e : wat as d * d + a = wat bs d * d + b := h d hd
      have e2 : (wat as d - wat bs d) * d = 0 := by
        rw [Int.sub_mul]
        omega
      rcases Int.mul_eq_zero.mp e2 with z | z
      · omega
      · omega
    unfold pl
    rw [this, hab]
theorem wat_app (d : Int) (bs : List Int) : ∀ as : List Int, wat (as ++ bs) d = wat as d + d ^ as.length * wat bs d
  | [] => by
    show wat bs d = 0 + d ^ 0 * wat bs d
    rw [Int.pow_zero]
    omega
  | a :: as => by
    show wat (as ++ bs) d * d + a = wat as d * d + a + d ^ (as.length + 1) * wat bs d
    rw [wat_app d bs as, Int.pow_succ]
    grind
theorem wat_rep (d : Int) : ∀ n : Nat, wat (List.replicate n 0) d = 0
  | 0 => rfl
  | n + 1 => by
    show wat (List.replicate n 0) d * d + 0 = 0
    rw [wat_rep d n]
    omega
theorem wat_fill (d : Int) (cs : List Int) (m : Nat) : wat (fill cs m) d = wat cs d := by
  unfold fill
  rw [wat_app, wat_rep]
  omega
theorem wat_zip (d : Int) : ∀ {as bs : List Int}, as.length = bs.length → wat (List.zipWith (· + ·) as bs) d = wat as d + wat bs d
  | [], [], _ => rfl
  | a :: as, b :: bs, h => by
    have ih := wat_zip d (as := as) (bs := bs) (Nat.succ.inj h)
    show wat (List.zipWith (· + ·) as bs) d * d + (a + b) = wat as d * d + a + (wat bs d * d + b)
    rw [ih, Int.add_mul]
    omega
theorem wat_addl (d : Int) (as bs : List Int) : wat (addl (· + ·) as bs) d = wat as d + wat bs d := by
  unfold addl
  rw [wat_pl, wat_zip, wat_fill, wat_fill]
  rw [fill_len _ (Nat.le_max_left ..), fill_len _ (Nat.le_max_right ..)]
theorem wat_addAt (d v : Int) : ∀ (xs : List Int) (i : Nat), i < xs.length → wat (addAt xs i v) d = wat xs d + v * d ^ i
  | x :: xs, 0, _ => by
    show wat xs d * d + (x + v) = wat xs d * d + x + v * d ^ 0
    rw [Int.pow_zero]
    omega
  | x :: xs, i + 1, h => by
    have ih := wat_addAt d v xs i (Nat.lt_of_succ_lt_succ h)
    show wat (addAt xs i v) d * d + x = wat xs d * d + x + v * d ^ (i + 1)
    rw [ih, Int.pow_succ]
    grind
theorem take_getD (bs : List Int) {j : Nat} (h : j < bs.length) : bs.take (j + 1) = bs.take j ++ [bs.getD j 0] := take_succ' (by rw [List.getD_eq_getElem?_getD, List.getElem?_eq_getElem h]; rfl)
theorem wat_mulIn (d a : Int) (i : Nat) (bs : List Int) : ∀ (j : Nat) (xs : List Int), j ≤ bs.length → i + j ≤ xs.length → wat (mulIn a i bs j xs) d = wat xs d + a * d ^ i * wat (bs.take j) d
  | 0, xs, _, _ => by
    show wat xs d = wat xs d + a * d ^ i * wat (bs.take 0) d
    rw [List.take_zero]
    show _ = _ + a * d ^ i * 0
    omega
  | j + 1, xs, hj, hx => by
    have ih := wat_mulIn d a i bs j xs (by omega) (by omega)
    show wat (addAt (mulIn a i bs j xs) (i + j) (a * bs.getD j 0)) d = _
    rw [wat_addAt _ _ _ _ (by rw [mulIn_len]; omega), ih, take_getD bs (by omega), wat_app, List.length_take, Nat.min_eq_left (by omega), Int.pow_add]
    show _ = wat xs d + a * d ^ i * (wat (bs.take j) d + d ^ j * (0 * d + bs.getD j 0))
    grind
theorem wat_mulOut (d : Int) (as bs : List Int) : ∀ i : Nat, i ≤ as.length → wat (mulOut as bs i) d = wat (as.take i) d * wat bs d
  | 0, _ => by
    show wat (List.replicate _ 0) d = wat (as.take 0) d * wat bs d
    rw [wat_rep, List.take_zero]
    show 0 = 0 * _
    omega
  | i + 1, hi => by
    have ih := wat_mulOut d as bs i (by omega)
    show wat (mulIn (as.getD i 0) i bs bs.length (mulOut as bs i)) d = _
    rw [wat_mulIn _ _ _ _ _ _ (Nat.le_refl _) (by rw [mulOut_len]; omega), ih, List.take_length, take_getD as (by omega), wat_app, List.length_take, Nat.min_eq_left (by omega)]
    show _ = (wat (as.take i) d + d ^ i * (0 * d + as.getD i 0)) * wat bs d
    grind
theorem wat_mull (d : Int) (as bs : List Int) : wat (mull as bs) d = wat as d * wat bs d := by
  unfold mull
  rw [wat_pl, wat_mulOut _ _ _ _ (Nat.le_refl _), List.take_length]
theorem pl_pl (cs : List Int) : pl (pl cs) = pl cs := pl_uniq fun d _ => wat_pl d cs
/-! ### moved rows -/
def shf (b : Int) (fs : List Int) : List Int := List.zipWith (fun lo hi => lo - b * hi) fs (fs.tail ++ [0])
def mstep (b : Int) (fs : List Int) (c : Int) : List Int := (c - b * fs.headD 0) :: shf b fs
theorem shf_cons (b f : Int) (r : List Int) : shf b (f :: r) = (f - b * r.headD 0) :: shf b r := by
  cases r <;> rfl
theorem shf_len (b : Int) : ∀ fs : List Int, (shf b fs).length = fs.length
  | [] => rfl
  | f :: r => by
    rw [shf_cons, List.length_cons, shf_len b r, List.length_cons]
theorem shf_wat (b x : Int) : ∀ fs : List Int, wat (shf b fs) x * x - b * fs.headD 0 = wat fs x * (x - b)
  | [] => by
    show 0 * x - b * 0 = 0 * (x - b)
    omega
  | f :: r => by
    have ih := shf_wat b x r
    rw [shf_cons]
    show (wat (shf b r) x * x + (f - b * r.headD 0)) * x - b * f = (wat r x * x + f) * (x - b)
    rw [show wat (shf b r) x * x + (f - b * r.headD 0) = (wat (shf b r) x * x - b * r.headD 0) + f by omega, ih]
    grind
theorem mstep_wat (b x c : Int) (fs : List Int) : wat (mstep b fs c) x = wat fs x * (x - b) + c := by
  show wat (shf b fs) x * x + (c - b * fs.headD 0) = _
  have := shf_wat b x fs
  omega
def mvd (b : Int) (cs : List Int) : List Int := cs.reverse.foldl (mstep b) []
theorem mvd_cons (b c : Int) (cs : List Int) : mvd b (c :: cs) = mstep b (mvd b cs) c := by
  unfold mvd
  rw [List.reverse_cons, List.foldl_append]
  rfl
theorem mvd_wat (b x : Int) : ∀ cs : List Int, wat (mvd b cs) x = wat cs (x - b)
  | [] => rfl
  | c :: cs => by
    rw [mvd_cons, mstep_wat, mvd_wat b x cs]
    rfl
theorem mvd_len (b : Int) : ∀ cs : List Int, (mvd b cs).length = cs.length
  | [] => rfl
  | c :: cs => by
    rw [mvd_cons]
    show (shf b (mvd b cs)).length + 1 = cs.length + 1
    rw [shf_len, mvd_len b cs]
theorem bd_one {n : Nat} (h : 0 < n) : Bd n 0 := Nat.two_pow_pos n
theorem bd_hd {n : Nat} {fs : List Int} (h : ∀ c ∈ fs, Bd n c) : Bd n (fs.headD 0) := by
  cases fs with
  | nil => exact Nat.two_pow_pos n
  | cons f r => exact h f List.mem_cons_self
theorem bd_step {n : Nat} {b c h : Int} (hb : Bd 30 b) (hc : Bd n c) (hh : Bd n h) : Bd (n + 31) (c - b * h) := by
  have h1 : Bd (30 + n) (b * h) := bd_mul hb hh
  have h2 : Bd (30 + n) c := bd_up hc (by omega)
  exact bd_up (bd_sub h2 h1) (by omega)
theorem shf_bd {n : Nat} {b : Int} (hb : Bd 30 b) : ∀ {fs : List Int}, (∀ c ∈ fs, Bd n c) → ∀ c ∈ shf b fs, Bd (n + 31) c
  | [], _, c, hc => by cases hc
  | f :: r, h, c, hc => by
    rw [shf_cons] at hc
    rcases List.mem_cons.mp hc with z | z
    · rw [z]
      exact bd_step hb (h f List.mem_cons_self) (bd_hd fun c hc => h c (List.mem_cons_of_mem _ hc))
    · exact shf_bd hb (fun c hc => h c (List.mem_cons_of_mem _ hc)) c z
theorem mstep_bd {n : Nat} {b c : Int} {fs : List Int} (hb : Bd 30 b) (hc : Bd n c) (h : ∀ c ∈ fs, Bd n c) : ∀ x ∈ mstep b fs c, Bd (n + 31) x := fun x hx => by
  rcases List.mem_cons.mp hx with z | z
  · rw [z]
    exact bd_step hb hc (bd_hd h)
  · exact shf_bd hb h x z
theorem mvd_bd {b : Int} (hb : Bd 30 b) : ∀ {cs : List Int}, (∀ c ∈ cs, Bd 4 c) → ∀ x ∈ mvd b cs, Bd (4 + cs.length * 31) x
  | [], _, x, hx => by cases hx
  | c :: cs, h, x, hx => by
    rw [mvd_cons] at hx
    have h1 := mvd_bd hb (cs := cs) fun c hc => h c (List.mem_cons_of_mem _ hc)
    exact bd_up (mstep_bd hb (bd_up (h c List.mem_cons_self) (by omega)) h1 x hx) (by rw [List.length_cons]; omega)
/-! ### far away the sign stays -/
theorem far10p {cs : List Int} (h : ∀ c ∈ cs, -9 ≤ c) {l : Int} (hl : 1 ≤ l) {y : Int} (hy : 10 ≤ y) : 1 ≤ wat (cs ++ [l]) y := by
  induction cs with
  | nil =>
    show 1 ≤ 0 * y + l
    omega
  | cons c cs ih =>
    have h1 := ih fun c hc => h c (List.mem_cons_of_mem _ hc)
    have h2 := h c List.mem_cons_self
    show 1 ≤ wat (cs ++ [l]) y * y + c
    have h3 : 1 * y ≤ wat (cs ++ [l]) y * y := Int.mul_le_mul_of_nonneg_right h1 (by omega)
    omega
theorem far10 {cs : List Int} (h : ∀ c ∈ cs, -9 ≤ c ∧ c ≤ 9) : ∃ s, ∀ y, 10 ≤ y → sg (wat cs y) = s := by
  rcases List.eq_nil_or_concat (pl cs) with z | ⟨is, l, z⟩
  · refine ⟨0, fun y _ => ?_⟩
    rw [← wat_pl, z]
    rfl
  · rw [List.concat_eq_append] at z
    have l0 := pl_end z
    have hm : ∀ c ∈ is ++ [l], -9 ≤ c ∧ c ≤ 9 := fun c hc => h c (pl_mem (by rw [z]; exact hc))
    rcases Int.lt_or_le 0 l with p | p
    · refine ⟨1, fun y hy => ?_⟩
      rw [← wat_pl, z]
      have := far10p (cs := is) (fun c hc => (hm c (List.mem_append_left _ hc)).1) (show 1 ≤ l by omega) hy
      exact SgM.sg_pos (by omega)
    · refine ⟨-1, fun y hy => ?_⟩
      rw [← wat_pl, z]
      have := far10p (cs := is.map (- ·)) (l := -l) (fun c hc => by
        obtain ⟨d, hd, rfl⟩ := List.mem_map.mp hc
        have := (hm d (List.mem_append_left _ hd)).2
        omega) (show 1 ≤ -l by omega) hy
      rw [show is.map (- ·) ++ [-l] = (is ++ [l]).map (- ·) by rw [List.map_append]; rfl, SgM.wat_neg] at this
      exact SgM.sg_neg (by omega)
/-- every second coefficient turned round -/
def al : List Int → List Int
  | [] => []
  | c :: cs => c :: (al cs).map (- ·)
theorem al_wat (z : Int) : ∀ cs : List Int, wat (al cs) z = wat cs (-z)
  | [] => rfl
  | c :: cs => by
    show wat ((al cs).map (- ·)) z * z + c = wat cs (-z) * -z + c
    rw [SgM.wat_neg, al_wat z cs, Int.mul_neg, Int.neg_mul]
theorem al_mem : ∀ {cs : List Int}, (∀ c ∈ cs, -9 ≤ c ∧ c ≤ 9) → ∀ c ∈ al cs, -9 ≤ c ∧ c ≤ 9
  | [], _, c, hc => by cases hc
  | d :: cs, h, c, hc => by
    rcases List.mem_cons.mp hc with z | z
    · rw [z]
      exact h d List.mem_cons_self
    · obtain ⟨e, he, rfl⟩ := List.mem_map.mp z
      have := al_mem (fun c hc => h c (List.mem_cons_of_mem _ hc)) e he
      omega
theorem far10n {cs : List Int} (h : ∀ c ∈ cs, -9 ≤ c ∧ c ≤ 9) : ∃ s, ∀ y, y ≤ -10 → sg (wat cs y) = s := by
  obtain ⟨s, hs⟩ := far10 (al_mem h)
  refine ⟨s, fun y hy => ?_⟩
  have := hs (-y) (by omega)
  rw [al_wat, Int.neg_neg] at this
  exact this
theorem sg_mul (a b : Int) : sg (a * b) = sg a * sg b := by
  rcases Int.lt_trichotomy a 0 with ha | ha | ha
  · rcases Int.lt_trichotomy b 0 with hb | hb | hb
    · rw [SgM.sg_neg ha, SgM.sg_neg hb, SgM.sg_pos (Int.mul_pos_of_neg_of_neg ha hb)]
      rfl
    · rw [hb, Int.mul_zero]
      show (0 : Int) = _ * 0
      omega
    · rw [SgM.sg_neg ha, SgM.sg_pos hb, SgM.sg_neg (Int.mul_neg_of_neg_of_pos ha hb)]
      rfl
  · rw [ha, Int.zero_mul]
    show (0 : Int) = 0 * _
    omega
  · rcases Int.lt_trichotomy b 0 with hb | hb | hb
    · rw [SgM.sg_pos ha, SgM.sg_neg hb, SgM.sg_neg (Int.mul_neg_of_pos_of_neg ha hb)]
      rfl
    · rw [hb, Int.mul_zero]
      show (0 : Int) = _ * 0
      omega
    · rw [SgM.sg_pos ha, SgM.sg_pos hb, SgM.sg_pos (Int.mul_pos ha hb)]
      rfl
/-- the places from a on -/
def plc (a : Int) : Nat → List Int
  | 0 => []
  | n + 1 => a :: plc (a + 1) n
theorem plc_cov {F : Int → Int} : ∀ (n : Nat) (a : Int), (∀ d, a + n - 1 ≤ d → F d = F (a + n - 1)) → 0 < n → Cov F a (plc (a + 1) (n - 1))
  | 1, a, h, _ => by
    intro d hd
    have := h d (by omega)
    rw [show a + ((1 : Nat) : Int) - 1 = a by omega] at this
    exact this
  | n + 2, a, h, _ => by
    show a ≤ a + 1 ∧ (∀ d, a ≤ d → d < a + 1 → F d = F a) ∧ Cov F (a + 1) (plc (a + 1 + 1) n)
    refine ⟨by omega, fun d h1 h2 => by rw [show d = a by omega], ?_⟩
    have e : a + 1 + ((n + 1 : Nat) : Int) - 1 = a + ((n + 2 : Nat) : Int) - 1 := by omega
    have := plc_cov (F := F) (n + 1) (a + 1) (by rw [e]; exact h) (by omega)
    exact this
theorem plc_snoc : ∀ (n : Nat) (a : Int), plc a (n + 1) = plc a n ++ [a + n]
  | 0, a => by
    show [a] = [a + ((0 : Nat) : Int)]
    rw [show a + ((0 : Nat) : Int) = a by omega]
  | n + 1, a => by
    show a :: plc (a + 1) (n + 1) = a :: (plc (a + 1) n ++ [a + ((n + 1 : Nat) : Int)])
    rw [plc_snoc n (a + 1), show a + 1 + (n : Int) = a + ((n + 1 : Nat) : Int) by omega]
/-- what the law expects -/
theorem due_runs {F : Int → Int} {first n : Int} (h0 : 1 ≤ first) (hn : 1 ≤ n) (h1 : ∀ d, 1 ≤ d → d ≤ first → F d = F first) (h2 : ∀ d, first + n - 1 ≤ d → F d = F (first + n - 1)) :
    IsRuns F 1 ((plc first n.toNat).foldl (bl2 F) ([] ++ [(1, F first)])) := by
  rw [bl2_fold]
  have e1 : F 1 = F first := h1 1 (Int.le_refl _) h0
  rw [← e1]
  refine SgM.runs_of (F := F) (a := 1) ?_
  obtain ⟨m, hm⟩ : ∃ m : Nat, n.toNat = m + 1 := ⟨n.toNat - 1, by omega⟩
  rw [hm]
  refine ⟨h0, fun d a b => by rw [h1 d a (by omega), e1], ?_⟩
  have := plc_cov (F := F) (m + 1) first (fun d hd => by
    have e : first + ((m + 1 : Nat) : Int) - 1 = first + n - 1 := by omega
    rw [e] at hd ⊢
    exact h2 d hd) (by omega)
  exact this
end K71

set_option maxHeartbeats 4000000
set_option exponentiation.threshold 3000
namespace K71
open PySem PySem.Spec PyProof.Rows L2 RtL ErL StX
section
variable {P : Program} {w : World} {K : Fr} {mg : Str → Option Value} {base : Heap} {f : Addr} {fd : FuncData}
/-! ### a pot -/
abbrev sRng : Stmt := top 25
theorem scRng : FnScope ["_law_script", "_law_k", "_law_cell"] ["_law_script", "_law_k"] (defScope sRng) := ⟨rfl, rfl, rfl, by decide +kernel, rfl, by decide +kernel, by decide +kernel⟩
def PotAt (H : Hp) (p : Addr) : Prop := ∃ x y : Int, H p = some (.lst [.int x, .int y]) ∧ 0 ≤ x ∧ 0 ≤ y ∧ y < 2147483648
def spRng (K : Fr) : Sp := fun vs H Q _ => ∃ (a : Addr) (ns : List Int) (k : Nat), vs = [.ref a, .int k] ∧ SqL K H a (ns.map V.int) ∧ ns.length ≤ 63 ∧ k < 64 ∧ ∀ p H', H p = none → Same H H' → PotAt H' p → Q (.ref p) H'
theorem ok_rng (F : FunD K "_law_rng" "_law_rng" (defArgs sRng) (defBody sRng) (defScope sRng) [] [] f fd) (T : TT K mg) : FnOk P w K mg base CX0 1 f fd ["_law_script", "_law_k"] (spRng K) := by
  refine F.ok scRng (fun vs H Q E h => ?_) (fun cdv A outer s H vs Q E hr h => ?_)
  · obtain ⟨a, ns, k, rfl, _⟩ := h
    rfl
  · obtain ⟨a, ns, k, rfl, hS, hl, k63, q⟩ := h
    refine ⟨_, PSs.nox (pss_cons (ps_set (i := 2) scRng.nd rfl (Or.inl rfl) (pe_op op_add (pe_op op_mul pe_int (pv 1)) pe_int))
      (Evl.pss_cut (ps_if (pt_cmpR op_lt (pv 1) (pe_callB call_len_seq (by rfl) T.fre PySem.boot_len (pa_cons (pv 0) pa_nil)) (nomark _)) (pss_one (ps_set (i := 2) scRng.nd rfl (Or.inl rfl) (pe_ix ix_list (pv 0) (pv 1) (fun _ _ => rfl)))) pss_nil)
      (pss_one (ps_ret (pe_lst (pa_cons (pe_callB (call_max2 rfl) (by rfl) T.fre (by decide +kernel) (pa_cons pe_int (pa_cons (pe_op op_sub (pe_callB call_abs (by rfl) T.fre (by decide +kernel) (pa_cons (pv 2) pa_nil)) (pe_op op_pow pe_int pe_int)) pa_nil)))
        (pa_cons (pe_op op_add (pe_op op_mod (pe_op op_mul (pe_callTy call_int1 (by rfl) T.fre (by decide +kernel) (pa_cons (pe_op op_add (pe_op op_mod (pe_callTy call_int1 (by rfl) T.fre (by decide +kernel) (pa_cons (pe_callB call_abs (by rfl) T.fre (by decide +kernel) (pa_cons (pv 2) pa_nil)) pa_nil)) pe_int) pe_int) pa_nil)) (pe_op op_pow (pe_op op_add (pe_op op_mul pe_int (pv 1)) pe_int) pe_int)) pe_int) pe_int) pa_nil))))))), ?_⟩
    refine ⟨_, rfl, _, _, rfl, rfl, .inl ⟨by decide, by decide⟩, _, _, rfl, rfl, ?_⟩
    refine ⟨fun σ' H' => H' = H ∧ ∃ c : Int, σ' = [some (.ref a), some (.int (k : Nat)), some (.int c)], ?_, ?_⟩
    · refine ⟨_, rfl, _, rfl, _, _, rfl, .inl hS, _, _, rfl, rfl, _, rfl, ite2 (fun h1 => ?_) (fun _ => ?_)⟩
      · have hk : k < ns.length := by
          have z := of_decide_eq_true h1
          rw [List.length_map] at z
          omega
        exact ⟨_, rfl, _, rfl, a, _, _, _, rfl, rfl, hS, atI_nat (getM (List.getElem?_eq_getElem hk)), rfl, _, rfl⟩
      · exact ⟨rfl, _, rfl⟩
    · rintro σ' H' ⟨rfl, c, rfl⟩
      refine ⟨_, rfl, _, rfl, _, _, rfl, rfl, ⟨by decide, by decide, by decide⟩, _, _, rfl, rfl, _, _, rfl, ?_⟩
      refine ⟨_, rfl, _, rfl, .inl ⟨_, rfl, _, _, rfl, rfl, (by show (0 : Int) < 2147483489; decide), _, _, rfl, rfl, .inl ⟨_, rfl, ?_⟩⟩⟩
      refine ⟨_, rfl, _, _, rfl, rfl, .inl ⟨by decide, by decide⟩, _, _, rfl, rfl, _, _, rfl, rfl, ⟨by decide, by decide, ?_⟩, ?_⟩
      · omega
      · have m0 : 0 ≤ (if c < 0 then -c else c) % 2147483489 := Int.emod_nonneg _ (by decide)
        have m1 : (if c < 0 then -c else c) % 2147483489 < 2147483489 := Int.emod_lt_of_pos _ (by decide)
        refine ⟨_, _, rfl, rfl, .inl ⟨by omega, by omega⟩, _, _, rfl, rfl, (by show (0 : Int) < 2147483423; decide), _, _, rfl, rfl, (by show 2 ≤ sizeLine; decide), fun p hp => ?_⟩
        have e0 := Int.emod_nonneg (((if c < 0 then -c else c) % 2147483489 + 1) * (2 * (k : Int) + 7) ^ (Int.toNat 3)) (show (2147483423 : Int) ≠ 0 by decide)
        have e1 := Int.emod_lt_of_pos (((if c < 0 then -c else c) % 2147483489 + 1) * (2 * (k : Int) + 7) ^ (Int.toNat 3)) (show (0 : Int) < 2147483423 by decide)
        exact q p _ hp (same_new hp) ⟨_, _, upd_same, by split <;> omega, by omega, by omega⟩
abbrev RngG (P : Program) (w : World) (K : Fr) (mg : Str → Option Value) (base : Heap) : Prop := ∃ f d, Gd P w K mg base 1 "_law_rng" f d ["_law_script", "_law_k"] (spRng K)
/-! ### a draw -/
abbrev sDraw : Stmt := top 26
theorem scDraw : FnScope ["_law_rng_here", "_law_many", "_law_digit"] ["_law_rng_here", "_law_many"] (defScope sDraw) := ⟨rfl, rfl, rfl, by decide +kernel, rfl, by decide +kernel, by decide +kernel⟩
def But (p : Addr) (H H' : Hp) : Prop := ∀ b o, H b = some o → b ≠ p → H' b = some o
theorem But.trans {p : Addr} {H1 H2 H3 : Hp} (a : But p H1 H2) (b : But p H2 H3) : But p H1 H3 := fun c o e h => b c o (a c o e h) h
theorem But.of {p : Addr} {H1 H2 : Hp} (s : Same H1 H2) : But p H1 H2 := fun c o e _ => s c o e
theorem But.gone {p a : Addr} {H1 H2 : Hp} (s : But p H1 H2) (h : H2 a = none) (n : a ≠ p) : H1 a = none := by
  cases z : H1 a with
  | none => rfl
  | some o =>
    rw [s a o z n] at h
    cases h
theorem PotAt.same {p : Addr} {H1 H2 : Hp} (h : PotAt H1 p) (s : Same H1 H2) : PotAt H2 p := by
  obtain ⟨x, y, e, r⟩ := h
  exact ⟨x, y, s _ _ e, r⟩
theorem PotAt.ne {p a : Addr} {H : Hp} (h : PotAt H p) (n : H a = none) : a ≠ p := fun z => by
  obtain ⟨_, _, e, _⟩ := h
  rw [← z, n] at e
  cases e
theorem PotAt.nt {p a : Addr} {H : Hp} {vs : List V} (h : PotAt H p) (e : H a = some (.tup vs)) : a ≠ p := fun z => by
  obtain ⟨_, _, e2, _⟩ := h
  rw [← z, e] at e2
  cases e2
theorem PotAt.ni {p a C dx : Addr} {H : Hp} {fs : List (Str × V)} (h : PotAt H p) (e : H a = some (.ins C dx fs)) : a ≠ p := fun z => by
  obtain ⟨_, _, e2, _⟩ := h
  rw [← z, e] at e2
  cases e2
theorem PolAt.but {K : Fr} {p a : Addr} {H1 H2 : Hp} {cs : List Int} (h : PolAt K H1 a cs) (hp : PotAt H1 p) (s : But p H1 H2) : PolAt K H2 a cs := by
  obtain ⟨dx, t, e, e2⟩ := h
  exact ⟨dx, t, s _ _ e (hp.ni e), s _ _ e2 (hp.nt e2)⟩
def spDraw : Sp := fun vs H Q _ => ∃ (p : Addr) (m : Int), vs = [.ref p, .int m] ∧ PotAt H p ∧ 0 < m ∧ Bd 100 m ∧ ∀ d H', 0 ≤ d → d < m → PotAt H' p → But p H H' → Q (.int d) H'
theorem bd_log {n : Nat} {i : Int} (h : Bd n i) (hn : n ≤ 9000) (h0 : 0 < n := by decide) : i.natAbs.log2 < 9000 := Nat.lt_of_lt_of_le (PySem.Flt.log2_lt_of h0 h) hn
theorem ok_draw (F : FunD K "_law_draw" "_law_draw" (defArgs sDraw) (defBody sDraw) (defScope sDraw) [] [] f fd) (T : TT K mg) : FnOk P w K mg base CX0 1 f fd ["_law_rng_here", "_law_many"] spDraw := by
  refine F.ok scDraw (fun vs H Q E h => ?_) (fun cdv A outer s H vs Q E hr h => ?_)
  · obtain ⟨p, m, rfl, _⟩ := h
    rfl
  · obtain ⟨p, m, rfl, ⟨x, y, hp, x0, y0, y1⟩, m0, m1, q⟩ := h
    refine ⟨_, PSs.nox (pss_cons (ps_if (pt_cmpR op_gt (pe_ix ix_list (pv 0) pe_int (fun _ _ => rfl)) pe_int (nomark _))
        (pss_cons (ps_asg (pe_callB call_divmodW (by rfl) T.fre (by decide +kernel) (pa_cons (pe_ix ix_list (pv 0) pe_int (fun _ _ => rfl)) (pa_cons (pv 1) pa_nil))) (pg_tup (by rfl) (pgs_cons (pg_sub (pv 0) pe_int set_list) (pgs_cons (pg_name (i := 2) scDraw.nd rfl (.inl rfl)) pgs_nil))))
          (pss_one (ps_ret (pv 2)))) pss_nil)
      (pss_cons (ps_asg (pe_op op_mod (pe_callTy call_int1 (by rfl) T.fre (by decide +kernel) (pa_cons (pe_op op_add (pe_op op_mul (pe_ix ix_list (pv 0) pe_int (fun _ _ => rfl)) pe_int) pe_int) pa_nil)) pe_int) (pg_sub (pv 0) pe_int set_list))
      (pss_one (ps_ret (pe_op op_mod (pe_op op_fdiv (pe_op op_mod (pe_callTy call_int1 (by rfl) T.fre (by decide +kernel) (pa_cons (pe_op op_mul (pe_ix ix_list (pv 0) pe_int (fun _ _ => rfl)) (pe_ix ix_list (pv 0) pe_int (fun _ _ => rfl))) pa_nil)) pe_int) pe_int) (pv 1)))))), ?_⟩
    refine ⟨_, rfl, p, _, _, _, rfl, rfl, SqL.of hp, atI_nat (j := 0) rfl, _, _, rfl, rfl, _, rfl, ite2 (fun h1 => ?_) (fun _ => ?_)⟩
    · refine ⟨_, rfl, p, _, _, _, rfl, rfl, SqL.of hp, atI_nat (j := 0) rfl, _, rfl, _, _, rfl, ⟨m0, PyProof.noPylong_of_log2 (bd_log m1 (by decide))⟩, fun t nt => ?_⟩
      have hpt : p ≠ t := ne_of_none hp nt
      have e2 : (upd H t (.tup [.int (x / m), .int (x % m)])) p = some (.lst [.int x, .int y]) := by rw [upd_ne hpt]; exact hp
      refine ⟨t, _, rfl, SqT.of upd_same, rfl, ?_⟩
      refine ⟨_, _, rfl, _, rfl, p, _, _, 0, rfl, rfl, e2, rfl, _, _, rfl, rfl, ?_⟩
      refine ⟨_, rfl, q _ _ (Int.emod_nonneg _ (Int.ne_of_gt m0)) (Int.emod_lt_of_pos _ m0) ⟨x / m, y, upd_same, Int.ediv_nonneg x0 (Int.le_of_lt m0), y0, y1⟩ fun b o e hb => ?_⟩
      rw [upd_ne hb, upd_ne (ne_of_none e nt)]
      exact e
    · refine ⟨_, rfl, p, _, _, _, rfl, rfl, SqL.of hp, atI_nat (j := 1) rfl, _, _, rfl, rfl, .inr ⟨by decide, by decide⟩, _, _, rfl, rfl, .inl ⟨_, rfl, _, _, rfl, rfl, (by show (0 : Int) < 2147483399; decide), ?_⟩⟩
      refine ⟨_, rfl, p, _, _, 1, rfl, rfl, hp, rfl, ?_⟩
      have z0 : 0 ≤ (y * 39373 + 28411) % 2147483399 := Int.emod_nonneg _ (by decide)
      have z1 : (y * 39373 + 28411) % 2147483399 < 2147483399 := Int.emod_lt_of_pos _ (by decide)
      refine ⟨_, rfl, p, _, _, _, rfl, rfl, SqL.of upd_same, atI_nat (j := 1) rfl, _, rfl, p, _, _, _, rfl, rfl, SqL.of upd_same, atI_nat (j := 1) rfl, _, _, rfl, rfl, .inl ⟨by omega, by omega⟩, .inl ⟨_, rfl, _, _, rfl, rfl, (by show (0 : Int) < 2147483353; decide), _, _, rfl, rfl, ⟨by decide, by decide⟩, _, rfl, _, _, rfl, rfl, m0, ?_⟩⟩
      refine q _ _ (Int.emod_nonneg _ (Int.ne_of_gt m0)) (Int.emod_lt_of_pos _ m0) ⟨x, _, upd_same, x0, z0, by omega⟩ fun b o e hb => ?_
      rw [upd_ne hb]
      exact e
abbrev DrawG (P : Program) (w : World) (K : Fr) (mg : Str → Option Value) (base : Heap) : Prop := ∃ f d, Gd P w K mg base 1 "_law_draw" f d ["_law_rng_here", "_law_many"] spDraw
/-! ### a choice -/
abbrev sPick : Stmt := top 27
theorem scPick : FnScope ["_law_rng_here", "_law_some"] ["_law_rng_here", "_law_some"] (defScope sPick) := ⟨rfl, rfl, rfl, by decide +kernel, rfl, by decide +kernel, by decide +kernel⟩
def spPick : Sp := fun vs H Q _ => ∃ (p l : Addr) (xs : List V), vs = [.ref p, .ref l] ∧ PotAt H p ∧ H l = some (.lst xs) ∧ l ≠ p ∧ 0 < xs.length ∧ xs.length < 1000 ∧ ∀ (i : Nat) v H', xs[i]? = some v → PotAt H' p → But p H H' → Q v H'
theorem ok_pick (F : FunD K "_law_choice" "_law_choice" (defArgs sPick) (defBody sPick) (defScope sPick) [] [] f fd) (T : TT K mg) (D : DrawG P w K mg base) : FnOk P w K mg base CX0 2 f fd ["_law_rng_here", "_law_some"] spPick := by
  obtain ⟨fD, dD, GD⟩ := D
  refine F.ok scPick (fun vs H Q E h => ?_) (fun cdv A outer s H vs Q E hr h => ?_)
  · obtain ⟨p, l, xs, rfl, _⟩ := h
    rfl
  · obtain ⟨p, l, xs, rfl, hp, hl, ne, l0, l1, q⟩ := h
    refine ⟨_, PSs.nox (pss_one (ps_ret (pe_ix ix_list (pv 1) (pe_gd GD hr (by rfl) (pa_cons (pv 0) (pa_cons (pe_callB call_len_seq (by rfl) T.fre PySem.boot_len (pa_cons (pv 1) pa_nil)) pa_nil))) (fun _ _ => rfl)))), ?_⟩
    have b1 : Bd 100 (xs.length : Nat) := Nat.lt_trans (show ((xs.length : Nat) : Int).natAbs < 2 ^ 10 by omega) (by decide)
    refine ⟨_, rfl, _, rfl, _, rfl, _, _, rfl, .inl (SqL.of hl), p, _, rfl, hp, by omega, b1, fun d H' d0 d1 hp' hb => ?_⟩
    obtain ⟨j, rfl⟩ : ∃ j : Nat, d = (j : Int) := ⟨d.toNat, by omega⟩
    have hj : j < xs.length := by omega
    exact ⟨l, _, _, _, rfl, rfl, SqL.of (hb _ _ hl ne), atI_nat (List.getElem?_eq_getElem hj), q j _ H' (List.getElem?_eq_getElem hj) hp' hb⟩
abbrev PickG (P : Program) (w : World) (K : Fr) (mg : Str → Option Value) (base : Heap) : Prop := ∃ f d, Gd P w K mg base 2 "_law_choice" f d ["_law_rng_here", "_law_some"] spPick
end
end K71

set_option maxHeartbeats 4000000
set_option exponentiation.threshold 3000
namespace K71
open PySem PySem.Spec PyProof.Rows L2 RtL ErL StX
open SgM (wat sg Cov bld IsRuns)
/-! ### C() with *xs -/
section
variable {X : Cx} {CX : CXT} {k : Nat} {f C : Addr} {sp : Sp} {E : XK} {x : Str} {p pos : Pos}
theorem pe_makeR0 (M : Mk X.K C f) (F : FnR X.prog X.w X.K X.mg X.base CX k f sp) (hr : Room (k + 1) X.A) (hg : Gl X x) (hm : X.mg x = some (.ref C)) (hx : Passes CX X E) (hdb : (x == ("__debug__" : Str)) = false := by decide) : PE X (.Call (.Name x p) [] [] pos) (tMakeR C sp E tNil) := by
  refine ⟨fun pins s σ H Q I h => ?_⟩
  refine wpAny_Call_Name_kw (ld_glob I hg hm ?_ hdb)
  exact PySem.W.callWith_K0 I.kIn M.kp (run_makeR (us := []) M F hr hx I .nil h)
end
section
variable {P : Program} {w : World} {K : Fr} {mg : Str → Option Value} {base : Heap} {f : Addr} {fd : FuncData}
/-! ### sign_runs -/
abbrev sSr : Stmt := top 23
theorem scSr : FnScope ["polynomial"] ["polynomial"] (defScope sSr) := ⟨rfl, rfl, rfl, by decide +kernel, rfl, by decide +kernel, by decide +kernel⟩
/-- a list of the runs of F from 1 on -/
def RunsAt (H : Hp) (l : Addr) (F : Int → Int) : Prop := ∃ us ps, H l = some (.lst us) ∧ us.length ≤ 90000 ∧ PL H us ps ∧ IsRuns F 1 ps
def spSr (K : Fr) : Sp := fun vs H Q _ => ∃ (a : Addr) (cs : List Int), vs = [.ref a] ∧ PolAt K H a (pl cs) ∧ (∀ c ∈ pl cs, Bd 1000 c) ∧ (pl cs).length ≤ 12 ∧
  ∀ l H', Same H H' → H l = none → RunsAt H' l (fun d => sg (wat cs d)) → Q (.ref l) H'
abbrev CoefG (P : Program) (w : World) (K : Fr) (mg : Str → Option Value) (base : Heap) : Prop := ∃ d, FnOk P w K mg base CX0 1 (pm K "coefficients") d ["self"] (spCoef K) ∧ Binds K d ["self"] []
theorem ok_sr (F : FunD K "sign_runs" "sign_runs" (defArgs sSr) (defBody sSr) (defScope sSr) [] [] f fd) (T : TT K mg) (G : S1G P w K mg base) (C : CoefG P w K mg base) : FnOk P w K mg base CX0 6 f fd ["polynomial"] (spSr K) := by
  obtain ⟨fG, dG, GG⟩ := G
  obtain ⟨dC, oC, bC⟩ := C
  refine F.ok scSr (fun vs H Q E h => ?_) (fun cdv A outer s H vs Q E hr h => ?_)
  · obtain ⟨a, cs, rfl, _⟩ := h
    rfl
  · obtain ⟨a, cs, rfl, hp, hb, hl, q⟩ := h
    refine ⟨_, PSs.nox (pss_cons (ps_if (pt_not (pt_val (pe_callB call_isi (by rfl) T.fre (by decide +kernel) (pa_cons (pv 0) (pa_cons (pe_glob (v := .ref (PC K)) (by rfl) (T.gl "Polynomial" (by decide)) rfl) pa_nil))))) (pss_one ps_never) pss_nil)
      (pss_one (ps_ret (pe_gd GG hr (by rfl) (pa_cons (pe_meth0 (pv 0) T.clP T.coef oC (hr.mono (by decide)) bC .nil pass0) pa_nil))))), ?_⟩
    obtain ⟨dx, t, ea, et⟩ := _root_.id hp
    refine ⟨_, rfl, _, _, _, _, true, rfl, .own _, T.tyP ea, T.kitP, true, rfl, iteF ?_⟩
    refine ⟨_, rfl, a, _, _, rfl, ea, rfl, ?_⟩
    refine ⟨a, pl cs, rfl, hp, fun t' et' => ⟨t', pl cs, rfl, et', hb, hl, fun is l e => pl_end e, fun l H' us ps s1 n1 e1 l1 p1 r1 => q l H' s1 n1 ⟨us, ps, e1, l1, p1, ?_⟩⟩⟩
    have e : (fun d => sg (wat (pl cs) d)) = fun d => sg (wat cs d) := funext fun d => by rw [wat_pl]
    rw [← e]
    exact r1
abbrev SrG (P : Program) (w : World) (K : Fr) (mg : Str → Option Value) (base : Heap) : Prop := ∃ f d, Gd P w K mg base 6 "sign_runs" f d ["polynomial"] (spSr K)
abbrev sSg : Stmt := top 28
theorem scSg : FnScope ["_law_number"] ["_law_number"] (defScope sSg) := ⟨rfl, rfl, rfl, by decide +kernel, rfl, by decide +kernel, by decide +kernel⟩
def spSg (K : Fr) : Sp := fun vs H Q _ => ∃ d : Int, vs = [.int d] ∧ Q (.int (sg d)) H
theorem ok_sg (F : FunD K "_law_sign" "_law_sign" (defArgs sSg) (defBody sSg) (defScope sSg) [] [] f fd) (T : TT K mg) : FnOk P w K mg base CX0 1 f fd ["_law_number"] (spSg K) := by
  refine F.ok scSg (fun vs H Q E h => ?_) (fun cdv A outer s H vs Q E hr h => ?_)
  · obtain ⟨d, rfl, _⟩ := h
    rfl
  · obtain ⟨d, rfl, q⟩ := h
    refine ⟨_, PSs.nox (pss_one (ps_ret (pe_op op_sub (pe_callTy call_int1 (by rfl) T.fre (by decide +kernel) (pa_cons (pe_cmpR op_gt (pv 0) pe_int (nomark _)) pa_nil)) (pe_callTy call_int1 (by rfl) T.fre (by decide +kernel) (pa_cons (pe_cmpR op_lt (pv 0) pe_int (nomark _)) pa_nil))))), ?_⟩
    refine ⟨_, rfl, _, _, rfl, rfl, .inr ⟨_, rfl, _, rfl, _, _, rfl, rfl, .inr ⟨_, rfl, _, _, rfl, rfl, ?_⟩⟩⟩
    have e : (if decide (0 < d) = true then (1 : Int) else 0) - (if decide (d < 0) = true then (1 : Int) else 0) = sg d := by
      unfold sg
      rcases Int.lt_trichotomy d 0 with z | z | z
      · rw [if_neg (by simp; omega), if_pos (by simp; omega), if_neg (by omega), if_neg (by omega)]
        rfl
      · rw [if_neg (by simp; omega), if_neg (by simp; omega), if_pos z]
        rfl
      · rw [if_pos (by simp; omega), if_neg (by simp; omega), if_neg (by omega), if_pos z]
        rfl
    show Q (V.int ((if decide (0 < d) = true then (1 : Int) else 0) - (if decide (d < 0) = true then (1 : Int) else 0))) H
    rw [e]
    exact q
abbrev SgG (P : Program) (w : World) (K : Fr) (mg : Str → Option Value) (base : Heap) : Prop := ∃ f d, Gd P w K mg base 1 "_law_sign" f d ["_law_number"] (spSg K)
end
end K71

set_option maxHeartbeats 4000000
set_option exponentiation.threshold 3000
namespace RtL
open PySem PySem.Spec PyProof.Rows L2 ErL
section
variable {P : Program} {w : World} {K : PySem.W.Frag} {mg : Str → Option Value} {base : Heap} {k : Nat} {f : Addr} {ps N : List Str} {sp : SpG}
/-- a def's promise that holds where nothing is being shown, from its record -/
theorem fnG_D {x qual : Str} {params : Arguments} {body : List Stmt} {scope : Scope} {fd : FuncData} (F : FunD K x qual params body scope [] [] f fd) (S : FnScope N ps scope) (len : ∀ vs H Q, sp vs H Q → vs.length = ps.length)
    (hbody : ∀ (cdv : Value) (A : Around) (outer : List Env) (s : Shared) (H : Hp) (vs : List V) (Q : VK), Room k (A.deeper (envOfC qual scope s.heap.objs.size f cdv)) →
      (A.deeper (envOfC qual scope s.heap.objs.size f cdv)).guards = some [] → sp vs H Q →
      ∃ t, PSs (cxOf CX0 P w K mg base N qual scope f cdv A outer s H E0).nox body t ∧ t { nx := fun _ H' => Q .non H', rt := Q } (start N vs) H) :
    FnG P w K mg base (k + 1) f fd ps sp := by
  obtain ⟨oc, od, dV, kV, doc, pm, an, cdv, ct, osl, rfl, lk, hcd, _, _⟩ := F.ex
  refine ⟨len, fun A outer s H args us vs Q hr hg e0 hb r hsp => ?_⟩
  exact LamX.run_ofS (N := N) lk hcd S hr e0 hb r (len _ _ _ hsp) fun hr' => by
    obtain ⟨t, ht, hq⟩ := hbody cdv A outer s H vs Q hr' (guards_deeper hg) hsp
    exact ⟨t, ht.nox, hq⟩
structure GdG (P : Program) (w : World) (K : PySem.W.Frag) (mg : Str → Option Value) (base : Heap) (k : Nat) (x : Str) (f : Addr) (fd : FuncData) (ps : List Str) (sp : SpG) : Prop where
  ok : FnG P w K mg base k f fd ps sp
  gl : mg x = some (.ref f)
  kp : PySem.W.keepIn K (.ref f) = true
  bd : Binds K fd ps []
end
section
variable {X : Cx} {k : Nat} {x : Str} {p pos : Pos} {e : Expr} {es : List Expr} {t : TA} {f : Addr} {fd : FuncData} {ps : List Str} {sp : SpG}
theorem pe_gg (C : GdG X.prog X.w X.K X.mg X.base k x f fd ps sp) (hr : Room k X.A) (hG : X.A.guards = some []) (hg : Gl X x) (ha : PA X (e :: es) t) (hdb : (x == ("__debug__" : Str)) = false := by decide)
    (he : starEach (e :: es) X.env = (false, eval e X.env) :: starEach es X.env := by rfl) (hpl : (backTo pos (starEach es X.env)).any (·.1) = false := by rfl) : PE X (.Call (.Name x p) (e :: es) [] pos) (tCallG sp t) :=
  pe_callG C.ok hr hG hg C.gl C.kp C.bd ha hdb he hpl
end
section
variable {X : Cx} {k : Nat} {f C : Addr} {fd : FuncData} {sp : Sp} {ps : List Str}
/-- f(x), x of the class: a method that makes a text -/
def rOwnTxt (C : Addr) (sp : Sp) : List V → Hp → VK → Prop := fun xs H Q => ∃ a dx fs, xs = [.ref a] ∧ H a = some (.ins C dx fs) ∧ sp [.ref a] H (fun v H' => (∃ z, v = .str z) ∧ Q v H') E0
theorem call_strOwn (hs : PySem.W.findIn X.K (.ref C) "__str__" = some (some (.ref f))) (hf : PySem.W.isFn X.K (.ref f) = true) (F : FnOk X.prog X.w X.K X.mg X.base CX0 k f fd ps sp) (hr : Room (k + 2) X.A) (hb : Binds X.K fd ps []) : CallR X (.type "str") (rOwnTxt C sp) := by
  intro pins s σ H xs us Q I r h
  obtain ⟨a, dx, fs, rfl, ha, q⟩ := h
  obtain ⟨u, rfl, rx⟩ := vals1 r
  cases (show u = Value.ref a from rx)
  obtain ⟨mA, oa, _⟩ := ins_get I.hok ha
  obtain ⟨od, J, _⟩ := oa.look
  have un := hr.un
  have hl : ([Value.ref a] ++ []).length = ps.length := by
    rw [← F.len _ _ _ _ q]
    rfl
  refine PySem.W.kso_call (by have := hr.in1.in1.un; omega) I.kIn J hs hf ?_
  refine wpAny_call (codeAny_mono (F.run X.A.in1.in1 X.stack s H ⟨[.ref a], []⟩ [.ref a] [.ref a] _ E0 hr.in1.in1 I.env0.in1.in1 (hb s [.ref a] I.kIn hl) (.cons rfl .nil) q) fun r s' hq => ?_)
  match r, hq with
  | .ok (.ret u), hq =>
    obtain ⟨v, H', I3, rv, ⟨z, ez⟩, q3⟩ := I.after hq
    subst ez
    obtain ⟨tk, e⟩ := rv
    subst e
    exact ⟨.str z, H', I3, ⟨tk, rfl⟩, q3⟩
  | .ok .next, hq => exact False.elim hq
  | .ok .brk, hq => exact False.elim hq
  | .ok .cont, hq => exact False.elim hq
  | .error e, hq => exact False.elim hq
theorem call_reprOwn (hs : PySem.W.findIn X.K (.ref C) "__repr__" = some (some (.ref f))) (hf : PySem.W.isFn X.K (.ref f) = true) (F : FnOk X.prog X.w X.K X.mg X.base CX0 k f fd ps sp) (hr : Room (k + 1) X.A) (hb : Binds X.K fd ps []) : CallR X (.builtin "repr") (rOwnTxt C sp) := by
  intro pins s σ H xs us Q I r h
  obtain ⟨a, dx, fs, rfl, ha, q⟩ := h
  obtain ⟨u, rfl, rx⟩ := vals1 r
  cases (show u = Value.ref a from rx)
  obtain ⟨mA, oa, _⟩ := ins_get I.hok ha
  obtain ⟨od, J, _⟩ := oa.look
  have un := hr.un
  have hl : ([Value.ref a] ++ []).length = ps.length := by
    rw [← F.len _ _ _ _ q]
    rfl
  obtain ⟨m, hF⟩ := I.fr
  refine PySem.W.repr_K (by show X.A.units + _ < cLine; omega) hF I.ok.mod.kin J hs hf ?_
  refine wpAny_call (codeAny_mono (F.run X.A.in1 X.stack s H ⟨[.ref a], []⟩ [.ref a] [.ref a] _ E0 hr.in1 I.env0.in1 (hb s [.ref a] I.kIn hl) (.cons rfl .nil) q) fun r s' hq => ?_)
  match r, hq with
  | .ok (.ret u), hq =>
    obtain ⟨v, H', I3, rv, ⟨z, ez⟩, q3⟩ := I.after hq
    subst ez
    obtain ⟨tk, e⟩ := rv
    subst e
    exact ⟨.str z, H', I3, ⟨tk, rfl⟩, q3⟩
  | .ok .next, hq => exact False.elim hq
  | .ok .brk, hq => exact False.elim hq
  | .ok .cont, hq => exact False.elim hq
  | .error e, hq => exact False.elim hq
/-! ### repr of data whose texts may be long -/
structure OkW (d : PyData) : Prop where
  sh : d.showable = true
  dp : d.depth ≤ 20
  sz : d.shown.length ≤ sizeLine
def rReprW : List V → Hp → VK → Prop := fun xs H Q => ∃ a d, xs = [.ref a] ∧ Dq H (.ref a) d ∧ OkW d ∧ Q (.str d.shown) H
theorem call_reprW (hu : X.A.units + 70 < cLine) (hg : X.A.guards = some []) (y : SysIn X.K) : CallR X (.builtin "repr") rReprW := by
  intro pins s σ H xs us Q I r h
  obtain ⟨a, d, rfl, hd, ok, q⟩ := h
  obtain ⟨u, rfl, ru⟩ := vals1 r
  cases (show u = Value.ref a from ru)
  obtain ⟨as, ra, ta⟩ := hd.reads I (u := .ref a) rfl
  obtain ⟨o, ho⟩ := y
  refine repr_of_reads' ra ok.sh (fun _ z => ?_) hg (by have := ok.dp; omega) (fun _ _ z => z) (fun h' t tk k => ⟨.str d.shown, H, I.kept k, ⟨t, rfl⟩, q⟩) ok.sz
  obtain ⟨o', e⟩ := ta _ z
  have n := (I.bs _ o (I.ok.mod.kin _ _ ho)).2
  rw [n] at e
  cases e
/-- every sign of it is a sign of Unicode -/
def Cps (x : Str) : Prop := ∀ c ∈ TL.tl x, c < 0x110000
theorem Cps.app {x y : Str} (h : Cps x) (h' : Cps y) : Cps (x ++ y) := fun c hc => by
  rw [TL.tl_append] at hc
  exact (List.mem_append.mp hc).elim (h c) (h' c)
theorem joinL_mem {y : List Nat} : ∀ (ps : List (List Nat)) {c : Nat}, c ∈ TL.joinL y ps → c ∈ y ∨ ∃ p ∈ ps, c ∈ p
  | [], c, h => by cases h
  | [p], c, h => .inr ⟨p, List.mem_cons_self, h⟩
  | p :: q :: r, c, h => by
    rcases List.mem_append.mp (show c ∈ p ++ (y ++ TL.joinL y (q :: r)) from by simpa [TL.joinL] using h) with z | z
    · exact .inr ⟨p, List.mem_cons_self, z⟩
    · rcases List.mem_append.mp z with z | z
      · exact .inl z
      · rcases joinL_mem (q :: r) z with z | ⟨p', hp, z⟩
        · exact .inl z
        · exact .inr ⟨p', List.mem_cons_of_mem _ hp, z⟩
theorem Cps.join {y : Str} {ps : List Str} (h : Cps y) (h' : ∀ p ∈ ps, Cps p) : Cps (Txt.join y ps) := fun c hc => by
  rw [TL.join_eq, TL.tl_join] at hc
  rcases joinL_mem _ hc with z | ⟨p, hp, z⟩
  · exact h c z
  · obtain ⟨q, hq, rfl⟩ := List.mem_map.mp hp
    exact h' q hq c z
theorem shown_str {x : Str} (h : Cps x) : (PyData.str x).showable = true ∧ (PyData.str x).shown.length ≤ 10 * x.length + 2 := ⟨rfl, PySem.StrLaws.reprText_len x fun c hc => Nat.lt_trans (h c hc) (by decide)⟩
end
end RtL

set_option maxHeartbeats 1000000
/-! != of an own class that has __eq__ alone; repr of a truth value -/
namespace RtL
open PySem PySem.Spec PyProof.Rows L2
open PySem.Builtin
section
variable {prog : Program} {w : World} {K : PySem.W.Frag} {A : Around} {E : Value → Shared → Prop} {s : Shared} {x f C : Addr} {ox : Obj} {od : Option Obj} {b tb : Value}
/-- what is asked of the class -/
structure NeOf (K : PySem.W.Frag) (C f : Addr) : Prop where
  ne : PySem.W.findIn K (.ref C) "__ne__" = some (some (.builtin "object.__ne__"))
  mo : PySem.W.mroIn K C (.type "object") = some true
theorem ifBound_B {M : Model} {args : List Value} {Q : Option Value → Shared → Prop} {name : Str} {id T : String} (X : K.In s.heap) (I : PySem.W.InstAt s.heap x ox C od) (hs : PySem.W.findIn K (.ref C) name = some (some (.builtin id))) (S : Slot T name id)
    (h : wpAny M A (call (.builtin id) (.ref x :: args)) (fun v => Q (some v)) E s) : wpAny M A (callSpecialIfBound? (.ref x) name args) Q E s := by
  simp only [callSpecialIfBound?, bindSpecialIfBound?]
  refine wpAny_holding (wpAny_bind (wpAny_bind (wpAny_bind (I.type.here ((PySem.W.looks_findIn X hs).here ?_)))))
  refine wpAny_bind (wpAny_askSetting (wpAny_ite ?_))
  have fin : wpAny M A (call (.builtin id) ([.ref x] ++ args) >>= fun v => pure (some v)) Q E s := wpAny_bind (wpAny_mono h (fun v s' h' => wpAny_pure h') fun _ _ h' => h')
  rw [S.bind]
  split
  · exact wpAny_bind (wpAny_pure (wpAny_pure (by exact fin)))
  · exact wpAny_tryCatch (wpAny_bind (wpAny_pure (wpAny_pure (by exact fin))))
theorem ne_K {Q : Value → Shared → Prop} (hu : A.units + 1 < cLine) (X : K.In s.heap) (I : PySem.W.InstAt s.heap x ox C od) (hb : PySem.W.Looks (model prog w) s.heap (typeOf b) tb) (hn : PySem.W.notFirst K C tb = true) (N : NeOf K C f)
    (hs : PySem.W.findIn K (.ref C) "__eq__" = some (some (.ref f))) (hf : PySem.W.isFn K (.ref f) = true) (h : wpAny (model prog w) A.in1 (call (.ref f) [.ref x, b]) (fun v s' => ∃ c, v = .bool c ∧ Q (.bool (!c)) s') E s) :
    wpAny (model prog w) A (richCompare .NotEq (.ref x) b) Q E s := by
  have one : wpAny (model prog w) A (tryCompare (.ref x) (cmpInfo .NotEq).2.1 b) (fun r s' => ∃ v, r = some v ∧ Q v s') E s := by
    unfold tryCompare
    refine wpAny_bind (ifBound_B (T := "object") (name := "__ne__") X I N.ne PySem.F.cmp_object.ne (wpAny_call (codeAny_call_builtin PySem.F.cmp_object.ne.plain PySem.F.cmpEntry_ne
      (PySem.W.check_slot PySem.F.cmpKind_ne PySem.F.cmpSplit_ne (I.type.andThen (PySem.W.looks_mroIn X N.mo)) (PySem.F.cmpArgs_ne _ _) ?_))))
    unfold Builtin.«object.__ne__»
    refine wpAny_bind (m := slotArgs "__ne__" 1 ⟨[.ref x, b], []⟩) (wpAny_pure ?_)
    refine wpAny_bind (wpAny_cRoomFor (by show A.units + 1 < cLine; exact hu) ?_)
    refine wpAny_bind (m := callSpecialIfBound? (.ref x) (Str.ofString "__eq__") [b]) (PySem.W.ifBound_K X I hs hf (wpAny_mono h (fun v s' hv => ?_) fun _ _ e => e))
    obtain ⟨c, rfl, hq⟩ := hv
    refine wpAny_bind (m := truthy (.bool c)) (wpAny_truthy_bool ?_)
    exact wpAny_pure (wpAny_pure ⟨_, rfl, hq⟩)
  unfold richCompare
  simp only [oneThing_ref]
  refine wpAny_holding (wpAny_bind (wpAny_cRoomFor (by omega) ?_))
  refine wpAny_bind (I.type.here (wpAny_bind (hb.here ?_)))
  split
  · rename_i q
    have e : PySem.W.subIn K tb (.ref C) = some false := by
      rcases Bool.or_eq_true_iff.mp hn with e | e
      · rw [beq_iff_eq.mp e] at q; simp at q
      · exact beq_iff_eq.mp e
    refine wpAny_bind ((PySem.W.looks_subIn X e).here ?_)
    simp only [Bool.false_eq_true, if_false]
    refine wpAny_bind (wpAny_mono one (fun r s' z => ?_) fun _ _ e => e)
    obtain ⟨v, rfl, hq⟩ := z
    exact wpAny_pure hq
  · refine wpAny_bind (wpAny_pure ?_)
    simp only [Bool.false_eq_true, if_false]
    refine wpAny_bind (wpAny_mono one (fun r s' z => ?_) fun _ _ e => e)
    obtain ⟨v, rfl, hq⟩ := z
    exact wpAny_pure hq
end
section
variable {X : Cx} {CX : CXT} {k : Nat} {f C : Addr} {fd : FuncData} {sp : Sp} {E : XK} {ps : List Str}
/-- x != y by the method __eq__ of x's class -/
def rOwnNe (C : Addr) (sp : Sp) (E : XK) : R2 := fun x y H Q => rOwnEq C sp E x y H fun v H' => ∃ c, v = .bl c ∧ Q (.bl (!c)) H'
theorem op_ownNe (O : EqOf X.K C f) (N : NeOf X.K C f) (F : FnOk X.prog X.w X.K X.mg X.base CX k f fd ps sp) (hr : Room (k + 1) X.A) (hb : Binds X.K fd ps []) (hx : Passes CX X E) : OpR X (compareOp .NotEq) (rOwnNe C sp E) := by
  intro pins s σ H x y v u Q I rx ry h
  obtain ⟨a, dx, fs, rfl, ha, hy, q⟩ := h
  cases (show v = Value.ref a from rx)
  obtain ⟨mA, oa, _⟩ := ins_get I.hok ha
  obtain ⟨od, J, _⟩ := oa.look
  have nf : ∀ t ∈ ["int", "str", "NoneType", "bool"], PySem.W.notFirst X.K C (.type t) = true := fun t ht => by
    unfold PySem.W.notFirst
    rw [O.nt t ht]
    simp
  have hl : ([Value.ref a, u] ++ []).length = ps.length := by
    rw [← F.len _ _ _ _ q]
    rfl
  have go : wpAny (model X.prog X.w) X.A.in1 (call (.ref f) [.ref a, u]) (fun v s' => ∃ c, v = .bool c ∧ EP X pins σ Q (.bool (!c)) s') X.xe s := by
    refine wpAny_call (codeAny_mono (F.run X.A.in1 X.stack s H ⟨[.ref a, u], []⟩ [.ref a, u] [.ref a, y] _ E hr.in1 I.env0.in1 (hb s [.ref a, u] I.kIn hl) (.cons rfl (.cons ry .nil)) q) fun r s' hq => ?_)
    match r, hq with
    | .ok (.ret z), hq =>
      obtain ⟨v, H', I3, rv, c, ev, q3⟩ := I.after hq
      subst ev
      cases (show z = Value.bool c from rv)
      exact ⟨c, rfl, .bl (!c), H', I3, rfl, q3⟩
    | .ok .next, hq => exact False.elim hq
    | .ok .brk, hq => exact False.elim hq
    | .ok .cont, hq => exact False.elim hq
    | .error e, hq => exact hx pins σ H s e s' I hq
  have hu : X.A.units + 1 < cLine := by have := hr.un; omega
  show wpAny _ _ (richCompare .NotEq _ _) _ _ _
  rcases hy with ⟨b, dy, gs, rfl, hb'⟩ | ⟨i, rfl⟩ | ⟨z, rfl⟩ | rfl | ⟨c, rfl⟩
  · cases (show u = Value.ref b from ry)
    obtain ⟨mB, ob, _⟩ := ins_get I.hok hb'
    obtain ⟨od', J', _⟩ := ob.look
    exact ne_K (tb := .ref C) hu I.kIn J J'.type (by unfold PySem.W.notFirst; simp) N O.at_ O.fn go
  · obtain ⟨t, e⟩ := (show ∃ t, u = Value.int i t from ry)
    subst e
    exact ne_K (tb := .type "int") hu I.kIn J (PySem.W.Looks.of_pure rfl) (nf _ (by decide)) N O.at_ O.fn go
  · obtain ⟨t, e⟩ := (show ∃ t, u = Value.str z t from ry)
    subst e
    exact ne_K (tb := .type "str") hu I.kIn J (PySem.W.Looks.of_pure rfl) (nf _ (by decide)) N O.at_ O.fn go
  · cases (show u = Value.none from ry)
    exact ne_K (tb := .type "NoneType") hu I.kIn J (PySem.W.Looks.of_pure rfl) (nf _ (by decide)) N O.at_ O.fn go
  · cases (show u = Value.bool c from ry)
    exact ne_K (tb := .type "bool") hu I.kIn J (PySem.W.Looks.of_pure rfl) (nf _ (by decide)) N O.at_ O.fn go
/-- repr(b), b a truth value -/
theorem call_reprB : CallR X (.builtin "repr") (fun xs H Q => ∃ b, xs = [.bl b] ∧ Q (.str (if b then "True" else "False")) H) := by
  intro pins s σ H xs us Q I r h
  obtain ⟨b, rfl, q⟩ := h
  obtain ⟨u, rfl, rx⟩ := vals1 r
  cases (show u = Value.bool b from rx)
  refine PySem.P.repr_of_bool ⟨.str _, H, I.tok _, ⟨s.toks, rfl⟩, q⟩
end
end RtL

set_option maxHeartbeats 4000000
/-! repr of None, a truth value, a whole number, a text -/
namespace RtL
open PySem PySem.Spec PyProof.Rows L2 ErL
section
variable {X : Cx}
def rRepr0 : List V → Hp → VK → Prop := fun xs H Q => (xs = [.non] ∧ Q (.str "None") H) ∨ (∃ b, xs = [.bl b] ∧ Q (.str (if b then "True" else "False")) H) ∨ (∃ i : Int, xs = [.int i] ∧ i.natAbs.log2 < 1920 ∧ Q (.str (toString i)) H) ∨
  ∃ z : Str, xs = [.str z] ∧ (reprText z).length ≤ sizeLine ∧ Q (.str (reprText z)) H
theorem call_repr0 : CallR X (.builtin "repr") rRepr0 := by
  intro pins s σ H xs us Q I r h
  rcases h with ⟨rfl, q⟩ | ⟨b, rfl, q⟩ | ⟨i, rfl, hz, q⟩ | ⟨z, rfl, hz, q⟩
  · obtain ⟨u, rfl, rx⟩ := vals1 r
    cases (show u = Value.none from rx)
    exact PySem.P.repr_of_none ⟨.str _, H, I.tok _, ⟨_, rfl⟩, q⟩
  · obtain ⟨u, rfl, rx⟩ := vals1 r
    cases (show u = Value.bool b from rx)
    exact PySem.P.repr_of_bool ⟨.str _, H, I.tok _, ⟨s.toks, rfl⟩, q⟩
  · obtain ⟨u, rfl, t, rfl⟩ := vals1 r
    exact PySem.P.repr_of_int hz ⟨.str _, H, I.tok _, ⟨_, rfl⟩, q⟩
  · obtain ⟨u, rfl, t, rfl⟩ := vals1 r
    exact PySem.P.repr_of_str ⟨.str _, H, I.tok _, ⟨_, rfl⟩, q⟩ hz
def call_or {f : Value} {R1 R2 : List V → Hp → VK → Prop} (h1 : CallR X f R1) (h2 : CallR X f R2) : CallR X f (fun xs H Q => R1 xs H Q ∨ R2 xs H Q) := fun pins s σ H xs us Q I r h => h.elim (h1 pins s σ H xs us Q I r) (h2 pins s σ H xs us Q I r)
end
end RtL

set_option maxHeartbeats 4000000
namespace K71
open PySem PySem.Spec PyProof.Rows L2 RtL ErL StX
abbrev T_ (i : Int) : Str := toString i
theorem nil_app (x : Str) : Str.empty ++ x = x := by
  obtain ⟨c⟩ := x
  show (⟨#[] ++ c⟩ : Str) = ⟨c⟩
  rw [Array.empty_append]
theorem t_len {i : Int} (h : Bd 1000 i) : (T_ i).length ≤ 1001 := by
  show (Str.ofString (toString i)).length ≤ _
  rw [PySem.ofString_length]
  by_cases z : i.natAbs = 0
  · exact int_text_length_le (by decide) (by rw [z]; decide)
  · exact int_text_length_le (by decide) ((Nat.log2_lt z).mpr h)
theorem join_len (y : Str) : ∀ ps : List Str, (Txt.join y ps).length ≤ (ps.map (·.length)).sum + ps.length * y.length
  | [] => by rw [TL.join_eq]; exact Nat.zero_le _
  | [p] => by
    rw [TL.join_eq]
    show p.length ≤ (p.length + 0) + _
    omega
  | p :: q :: r => by
    have ih := join_len y (q :: r)
    rw [TL.join_eq] at ih ⊢
    show (p ++ y ++ Str.join y (q :: r)).length ≤ _
    rw [strLen_append, strLen_append, List.map_cons, List.sum_cons, List.length_cons, Nat.succ_mul]
    omega
theorem log_of {i : Int} (h : Bd 1000 i) : i.natAbs.log2 < 1920 := Nat.lt_of_lt_of_le (PySem.Flt.log2_lt_of (by decide) h) (by decide)
section
variable {P : Program} {w : World} {K : Fr} {mg : Str → Option Value} {base : Heap} {f : Addr} {fd : FuncData}
def NS : List Str := ["self", "other", "many", "ones", "others", "rests", "own", "less"]
theorem sc_sub : FnScope NS ["self", "other"] (defScope (inP 5)) := ⟨rfl, rfl, rfl, by decide +kernel, rfl, by decide +kernel, by decide +kernel⟩
theorem ok_sub {q : Str} (F : FunD K "__sub__" q (defArgs (inP 5)) (defBody (inP 5)) (defScope (inP 5)) [] [] f fd) (T : TT K mg) (I : PId P w K mg base) (GF : FillG P w K mg base) : FnOk P w K mg base CX0 4 f fd ["self", "other"] (spBin K (addl (· - ·))) := by
  obtain ⟨fF, dF, GF⟩ := GF
  refine F.ok sc_sub (fun vs H Q E h => ?_) (fun cdv A outer s H vs Q E hr h => ?_)
  · obtain ⟨a, b, as, bs, rfl, _⟩ := h
    rfl
  · obtain ⟨a, b, as, bs, rfl, ⟨dx, ta, ea, eta⟩, ⟨dy, tb, eb, etb⟩, la, lb, ba, bb, q⟩ := h
    refine ⟨_, PSs.nox (pss_cons (ps_if (pt_not (pt_val (pe_callB call_isi (by rfl) T.fre (by decide +kernel) (pa_cons (pv 1) (pa_cons (pe_glob (v := .ref (PC K)) (by rfl) (T.gl "Polynomial" (by decide)) rfl) pa_nil))))) (pss_one ps_never) pss_nil)
      (pss_cons (ps_set (i := 2) sc_sub.nd rfl (Or.inl rfl) (pe_callB (call_max2 rfl) (by rfl) T.fre (by decide +kernel) (pa_cons (pe_callB call_len_seq (by rfl) T.fre (by decide +kernel) (pa_cons (pe_fld (pv 0) rfl) pa_nil)) (pa_cons (pe_callB call_len_seq (by rfl) T.fre (by decide +kernel) (pa_cons (pe_fld (pv 1) rfl) pa_nil)) pa_nil))))
      (pss_cons (ps_par (i := 3) (j := 4) rfl sc_sub.nd rfl rfl (by decide) rfl rfl (pa_cons (pe_gd GF (hr.mono (by decide)) (by rfl) (pa_cons (pe_fld (pv 0) rfl) (pa_cons (pv 2) pa_nil))) (pa_cons (pe_gd GF (hr.mono (by decide)) (by rfl) (pa_cons (pe_fld (pv 1) rfl) (pa_cons (pv 2) pa_nil))) pa_nil)) (by rfl))
      (pss_cons (ps_setLc (i := 5) (own := [("own", 6), ("less", 7)]) (g := gTup K 2 (gCons (gName 6) (gCons (gName 7) gNil))) (tt := tYes) (by rfl) sc_sub.nd rfl rfl (sw_true rfl rfl rfl (by decide +kernel)) (pi_zip (by rfl) T.fre (pa_cons (pv 3) (pa_cons (pv 4) pa_nil))) (blkOk_by (N := NS) (sc := defScope (inP 5)) (by decide +kernel)) (fun _ _ _ _ _ => pg_tup (by rfl) (pgs_cons (pg_name (i := 6) sc_sub.nd rfl (Or.inl rfl)) (pgs_cons (pg_name (i := 7) sc_sub.nd rfl (Or.inl rfl)) pgs_nil))) (fun _ _ _ _ _ => pts_nil) (fun _ _ _ _ _ => pe_op op_sub (pv 6) (pv 7)))
      (pss_one (ps_ret (pe_makeS1 T.mkp I (hr.mono (by decide)) (by rfl) (T.gl "Polynomial" (by decide)) pass0 (pv 5)))))))), ?_⟩
    have hm : (if (((bs.map V.int).length : Nat) : Int) > ((as.map V.int).length : Nat) then (((bs.map V.int).length : Nat) : Int) else ((as.map V.int).length : Nat)) = ((max as.length bs.length : Nat) : Int) := by
      rw [List.length_map, List.length_map]
      split <;> omega
    refine ⟨_, rfl, _, _, _, _, true, rfl, .own _, T.tyP eb, T.kitP, true, rfl, iteF ?_⟩
    refine ⟨_, rfl, a, _, dx, _, _, rfl, ea, T.clP, T.nC, rfl, ta, _, rfl, .inr (SqT.of eta), _, rfl, b, _, dy, _, _, rfl, eb, T.clP, T.nC, rfl, tb, _, rfl, .inr (SqT.of etb), _, _, rfl, ?_⟩
    refine ⟨_, rfl, a, _, dx, _, _, rfl, ea, T.clP, T.nC, rfl, _, rfl, ta, as, max as.length bs.length, by rw [hm]; rfl, eta, by omega, by omega, fun l1 H1 s1 n1 e1 => ?_⟩
    refine ⟨_, rfl, b, _, dy, _, _, rfl, s1 _ _ eb, T.clP, T.nC, rfl, _, rfl, tb, bs, max as.length bs.length, by rw [hm]; rfl, s1 _ _ etb, by omega, by omega, fun l2 H2 s2 n2 e2 => ⟨_, _, rfl, ?_⟩⟩
    refine ⟨_, rfl, _, rfl, l1, l2, _, _, rfl, SqL.of (s2 _ _ e1), SqL.of e2, fun D nD => ?_⟩
    have l1' := fill_len as (Nat.le_max_left as.length bs.length)
    have l2' := fill_len bs (Nat.le_max_right as.length bs.length)
    generalize he1 : fill as (max as.length bs.length) = xs at e1 l1'
    generalize he2 : fill bs (max as.length bs.length) = ys at e2 l2'
    have hmx : max as.length bs.length ≤ 40 := by omega
    refine lc_it (walk_zip (xs := xs.map V.int) (ys := ys.map V.int) (n := max as.length bs.length) (by rw [List.length_map, List.length_map]; omega)) (fun i H' => Same H2 H' ∧ H' D = some (.lst (((List.zipWith (· - ·) xs ys).take i).map V.int))) ⟨same_new nD, upd_same⟩ (fun i H' _ pv => ⟨SqL.of (pv.1 _ _ (s2 _ _ e1)), SqL.of (pv.1 _ _ e2)⟩) ?_ ?_
    · rintro i v H7 H8 hi ⟨s7, e7⟩ ⟨t, y1, y2, rfl, nt, rfl, hx, hy⟩
      dsimp only at hx hy
      obtain ⟨x, hx', rfl⟩ := getm hx
      obtain ⟨y, hy', rfl⟩ := getm hy
      refine ⟨t, _, rfl, SqT.of upd_same, rfl, _, _, rfl, _, _, rfl, rfl, rfl, _, rfl, _, rfl, _, _, rfl, rfl, _, same_new nt _ _ e7, ?_, ?_, ?_⟩
      · rw [List.length_map, List.length_take, sizeLine_eq]
        omega
      · intro b' o' e'
        rw [upd_ne (ne_of_none e' nD)]
        exact same_new nt _ _ (s7 _ _ e')
      · rw [upd_same, zw_succ hx' hy', List.map_append]
        rfl
    · rintro H7 ⟨s7, e7⟩
      have e8 : (List.zipWith (· - ·) xs ys).take (max as.length bs.length) = List.zipWith (· - ·) xs ys := List.take_of_length_le (by rw [List.length_zipWith]; omega)
      rw [e8] at e7
      refine ⟨_, rfl, D, _, rfl, .inr (SqL.of e7), madeP (by rw [List.length_zipWith]; omega) fun x H9 s9 r9 n9 => ?_⟩
      rw [← he1, ← he2] at r9
      exact q x H9 (((s1.trans s2).trans s7).trans s9) (gone ((s1.trans s2).trans s7) n9) r9/-! ### listed_numbers -/
abbrev s_lst : Stmt := top 20
def NLs : List Str := ["numbers", "number"]
theorem sc_lst : FnScope NLs ["numbers"] (defScope s_lst) := ⟨rfl, rfl, rfl, by decide +kernel, rfl, by decide +kernel, by decide +kernel⟩
def listT (cs : List Int) : Str := Txt.join ", " (cs.map fun c => T_ c)
def spLst (K : Fr) : Sp := fun vs H Q _ => ∃ (t : Addr) (cs : List Int), vs = [.ref t] ∧ H t = some (.tup (cs.map V.int)) ∧ (∀ c ∈ cs, Bd 1000 c) ∧ cs.length ≤ 40 ∧ ∀ H', Same H H' → Q (.str (listT cs)) H'
theorem listT_bd : ∀ cs : List Int, (∀ c ∈ cs, Bd 1000 c) → ((cs.map fun c => T_ c).map (·.length)).sum ≤ cs.length * 1001
  | [], _ => Nat.zero_le _
  | c :: cs, h => by
    have h1 := t_len (h c List.mem_cons_self)
    have h2 := listT_bd cs fun c hc => h c (List.mem_cons_of_mem _ hc)
    rw [List.map_cons, List.map_cons, List.sum_cons, List.length_cons]
    omega
theorem ok_lst (F : FunD K "listed_numbers" "listed_numbers" (defArgs s_lst) (defBody s_lst) (defScope s_lst) [] [] f fd) (T : TT K mg) : FnOk P w K mg base CX0 1 f fd ["numbers"] (spLst K) := by
  refine F.ok sc_lst (fun vs H Q E h => ?_) (fun cdv A outer s H vs Q E hr h => ?_)
  · obtain ⟨t, cs, rfl, _⟩ := h
    rfl
  · obtain ⟨t, cs, rfl, et, hb, hl, q⟩ := h
    refine ⟨_, PSs.nox (pss_one (ps_ret (pe_join pe_str (pe_lc (own := [("number", 1)]) (g := gName 1) (tt := tYes) (by rfl) sc_lst.nd (pi_tup (pv 0)) (blkOk_by (N := NLs) (sc := defScope s_lst) (by decide +kernel)) (fun _ _ _ _ _ => pg_name (i := 1) sc_lst.nd rfl (Or.inl rfl)) (fun _ _ _ _ _ => pts_nil) (fun _ _ _ _ _ => pe_callTy call_str_int (by rfl) T.fre (by decide +kernel) (pa_cons (pv 1) pa_nil)))))), ?_⟩
    refine ⟨⟨_, rfl⟩, _, rfl, t, rfl, ⟨_, SqT.of et⟩, fun D nD => ?_⟩
    refine lc_it (walk_tup (xs := cs.map V.int)) (fun i H' => Same H H' ∧ H' D = some (.lst (((cs.map fun c => T_ c).take i).map V.str))) ⟨same_new nD, upd_same⟩ (fun i H' _ pv => SqT.of (pv.1 _ _ et)) ?_ ?_
    · rintro i v H7 H8 hi ⟨s7, e7⟩ ⟨rfl, hx⟩
      obtain ⟨x, hx', rfl⟩ := getm hx
      refine ⟨rfl, _, rfl, x, rfl, log_of (hb x (List.mem_of_getElem? hx')), _, e7, ?_, ?_, ?_⟩
      · rw [List.length_map, List.length_take, List.length_map, sizeLine_eq]
        omega
      · intro b' o' e'
        rw [upd_ne (ne_of_none e' nD)]
        exact s7 _ _ e'
      · have hm : (cs.map fun c => T_ c)[i]? = some (T_ x) := by rw [List.getElem?_map, hx']; rfl
        rw [upd_same, List.take_add_one, hm, List.map_append]
        rfl
    · rintro H7 ⟨s7, e7⟩
      have e8 : (cs.map fun c => T_ c).take (cs.map V.int).length = cs.map fun c => T_ c := List.take_of_length_le (by rw [List.length_map, List.length_map]; exact Nat.le_refl _)
      rw [e8] at e7
      have sm := listT_bd cs hb
      refine ⟨_, D, _, rfl, rfl, .inl (SqL.of e7), ?_, q H7 s7⟩
      rw [List.length_map, show (", " : Str).length = 2 from rfl]
      omega
abbrev LstG (P : Program) (w : World) (K : Fr) (mg : Str → Option Value) (base : Heap) : Prop := ∃ f d, Gd P w K mg base 1 "listed_numbers" f d ["numbers"] (spLst K)
theorem sc_rep : FnScope ["self"] ["self"] (defScope (inP 10)) := ⟨rfl, rfl, rfl, by decide +kernel, rfl, by decide +kernel, by decide +kernel⟩
def repT (cs : List Int) : Str := "Polynomial(" ++ listT cs ++ ")"
def spTxt (K : Fr) (g : List Int → Str) : Sp := fun vs H Q _ => ∃ a cs, vs = [.ref a] ∧ PolAt K H a cs ∧ (∀ c ∈ cs, Bd 1000 c) ∧ cs.length ≤ 40 ∧ (∀ H', Same H H' → Q (.str (g cs)) H')
theorem listT_len {cs : List Int} (hb : ∀ c ∈ cs, Bd 1000 c) (hl : cs.length ≤ 40) : (listT cs).length ≤ 50000 := by
  have h1 := listT_bd cs hb
  have h2 := join_len ", " (cs.map fun c => T_ c)
  rw [show (", " : Str).length = 2 from rfl, List.length_map] at h2
  unfold listT
  omega
theorem ok_rep {q : Str} (F : FunD K "__repr__" q (defArgs (inP 10)) (defBody (inP 10)) (defScope (inP 10)) [] [] f fd) (T : TT K mg) (G : LstG P w K mg base) : FnOk P w K mg base CX0 2 f fd ["self"] (spTxt K repT) := by
  obtain ⟨fP, dP, GP⟩ := G
  refine F.ok sc_rep (fun vs H Q E h => ?_) (fun cdv A outer s H vs Q E hr h => ?_)
  · obtain ⟨a, cs, rfl, _⟩ := h
    rfl
  · obtain ⟨a, cs, rfl, ⟨dx, t, ea, et⟩, hb, hl, q⟩ := h
    refine ⟨_, PSs.nox (pss_one (ps_ret (pe_joined (.cons pe_str (.cons (pe_fmt (pe_gd GP hr (by rfl) (pa_cons (pe_fld (pv 0) rfl) pa_nil))) (.cons pe_str .nil)))))), ?_⟩
    refine ⟨"Polynomial(", rfl, ?_, _, rfl, a, _, dx, _, _, rfl, ea, T.clP, T.nC, rfl, t, cs, rfl, et, hb, hl, fun H' s' => .inl ⟨_, rfl, ?_, _, rfl, ?_, ")", rfl, ?_, ?_⟩⟩
    all_goals have lz : 100000 ≤ sizeLine := by rw [sizeLine_eq]; decide
    all_goals have ll := listT_len hb hl
    · rw [nil_app, show ("Polynomial(" : Str).length = 11 from rfl]
      omega
    · omega
    · rw [nil_app, strLen_append, show ("Polynomial(" : Str).length = 11 from rfl]
      omega
    · rw [nil_app, strLen_append, strLen_append, show ("Polynomial(" : Str).length = 11 from rfl, show (")" : Str).length = 1 from rfl]
      omega
    · rw [nil_app]
      exact q H' s'
/-! ### what is refused -/
def Ref (C : Addr) (H : Hp) (v : V) (E : XK) : Prop := ∀ d H', Same H H' → H' d = some (.xd [("value", v)]) → E (.ref C) (some d) H'
def OddP (H : Hp) (v : V) : Prop := (∃ i, v = .int i) ∨ ∃ t, OddV H v t
theorem isi_oddP (T : TT K mg) {H : Hp} {v : V} (h : OddP H v) : ∃ c, TyX K H v c ∧ PySem.W.kitOne K c (.ref (PC K)) = some false := by
  rcases h with ⟨i, rfl⟩ | ⟨t, o⟩
  · exact ⟨_, .base (.int i), T.kitT "int" (by decide)⟩
  · have ht := o.mem
    exact ⟨_, o.ty (K := K), T.kitT t (by clear o; revert t; decide)⟩
def spSrX (K : Fr) : Sp := fun vs H Q E => ∃ v, vs = [v] ∧ OddP H v ∧ Ref (IP K) H v E
theorem ok_srX (F : FunD K "sign_runs" "sign_runs" (defArgs sSr) (defBody sSr) (defScope sSr) [] [] f fd) (T : TT K mg) (G : S1G P w K mg base) (C : CoefG P w K mg base) : FnOk P w K mg base (L2.CX P w) 6 f fd ["polynomial"] (spSrX K) := by
  obtain ⟨fG, dG, GG⟩ := G
  obtain ⟨dC, oC, bC⟩ := C
  refine F.ok scSr (fun vs H Q E h => ?_) (fun cdv A outer s H vs Q E hr h => ?_)
  · obtain ⟨v, rfl, _⟩ := h
    rfl
  · obtain ⟨v, rfl, ho, r⟩ := h
    obtain ⟨c, ty, kt⟩ := isi_oddP T ho
    refine ⟨_, (pss_cons (ps_if (pt_not (pt_val (pe_callB call_isi (by rfl) T.fre (by decide +kernel) (pa_cons (pv 0) (pa_cons (pe_glob (v := .ref (PC K)) (by rfl) (T.gl "Polynomial" (by decide)) rfl) pa_nil))))) (pss_one (ps_raise rfl (takes_of rfl rfl rfl rfl) (pmk_er1 T.ep.cl T.ip1 bd1_value hr (by rfl) (T.gl "InvalidPolynomial" (by decide)) (raises_own T.ep.be T.ep.tc) (pa_cons (pv 0) pa_nil)))) pss_nil)
      (pss_one (ps_ret (pe_gd GG hr (by rfl) (pa_cons (pe_meth0 (pv 0) T.clP T.coef oC (hr.mono (by decide)) bC .nil pass0) pa_nil))))), ?_⟩
    exact ⟨_, rfl, _, _, _, _, false, rfl, .own _, ty, kt, false, rfl, iteT ⟨_, rfl, v, rfl, fun d nd => r d _ (same_new nd) upd_same⟩⟩
end
end K71

set_option maxHeartbeats 4000000
/-! within an except suite: a list comprehension over a tuple, repr of a list that holds an own object -/
namespace RtL
open PySem PySem.Spec PyProof.Rows L2 L2H HotX ErL
section
variable {prog : Program} {w : World} {A : Around} {E : Value → Shared → Prop} {s : Shared}
/-- a tuple's iterator at its end, while an exception is handled -/
theorem tupH_end {it t x1 : Addr} {i : Nat} {items : Array Value} {Q : Option Value → Shared → Prop} (hot : HotAt A x1 s.heap) (n1 : x1 ≠ it) (hit : s.heap.IsTupleIter it t i) (ht : s.heap.IsTuple t items) (hx : items[i]? = none)
    (go : ∀ h', Heap.ExtBut it s.heap h' → Q none { s with heap := h' }) : wpAny (model prog w) A (pyNext (.ref it)) Q E s := by
  obtain ⟨hh, o1, vs1, h1, d1, c1⟩ := hot
  obtain ⟨o, ho, hc, hd⟩ := id hit
  obtain ⟨ol, hol, _, nl, hdl⟩ := ht
  unfold pyNext
  refine wpAny_bind (wpAny_attempt (wpAny_callSpecial?_slot (name := Str.ofString "__next__") hit.typeIs F.slot_tuple_iterator_next
    (wpAny_call_entry F.slot_tuple_iterator_next hit.typeIs F.entry_tuple_iterator_next ?_ (F.args_tuple_iterator_next_1 _))))
  show wpAny _ _ (field (.ref it) 0 >>= _) _ _ s
  refine wpAny_bind (wpAny_field ho hd (x := .ref t) rfl ?_)
  show wpAny _ _ (if (Value.ref t == Value.none) = true then _ else _) _ _ s
  rw [if_neg (show ¬ ((Value.ref t == Value.none) = true) from Bool.false_ne_true)]
  show wpAny _ _ (field (.ref it) 1 >>= _) _ _ s
  refine wpAny_bind (wpAny_field ho hd (x := .int i 0) rfl ?_)
  show wpAny _ _ (seqItems? (.ref t) >>= _) _ _ s
  refine wpAny_bind (wpAny_seqItems hol hdl ?_)
  simp only [Int.toNat_natCast, hx]
  refine wpAny_bind (wpAny_rule (wpAny_bind (wpAny_setField ho hd (by simp) ?_)))
  generalize hu : s.heap.update it (Obj.mapFields (·.setIfInBounds 0 .none)) = g
  have sb : Heap.SameBut it s.heap g := by rw [← hu]; exact Heap.SameBut.update ..
  show wpAny _ _ (newExc (.type "StopIteration") [] >>= _) _ _ _
  refine wpAny_bind ?_
  simp only [newExc, newTuple]
  refine wpAny_bind (wpAny_newObj_type ?_ (by size_fits))
  refine wpAny_bind (m := firstArgMember _ _) (wpAny_of_eq (a := Value.none) (by first | rfl | (simp only [firstArgMember]; rfl)) ?_)
  refine wpAny_newObj_type ?_ (by size_fits)
  have k1 : g.get? x1 = some o1 := sb.extBut x1 o1 n1 h1
  refine raiseNew_hot ⟨hh, o1, vs1, Heap.get?_push_of_some _ (Heap.get?_push_of_some _ k1), d1, c1⟩ (Nat.ne_of_lt (Heap.lt_size (Heap.get?_push_of_some _ k1))) (Heap.get?_push_size _ rfl) rfl (by first | (simp; done) | (simp; omega) | (simp only [Array.size_append]; simp; omega)) ?_
  refine wpAny_bind (wpAny_isInstance (T := "StopIteration") (b := true) ⟨_, Heap.get?_update_self _ (Heap.get?_push_size _ rfl) rfl, rfl⟩ isSubtype_stop ?_)
  refine wpAny_pure (go _ fun b o' b1 e => ?_)
  have e1 := sb.extBut b o' b1 e
  rw [Heap.get?_update_other _ _ (Nat.ne_of_gt (Heap.lt_size (Heap.get?_push_of_some _ e1)))]
  exact Heap.get?_push_of_some _ (Heap.get?_push_of_some _ e1)
end
section
variable {X : Cx}
/-- [elt for target in e], e a tuple, while an exception is handled -/
def tLcT (K : PySem.W.Frag) (te : TE) (g : TG) (tl : TE) (vs : List Nat) : TE := fun σ H Q => te σ H fun v H1 => ∃ (a : Addr) (xs : List V), v = .ref a ∧ SqT K H1 a xs ∧ ∀ D, H1 D = none → ∃ Pv : Nat → Hp → Prop, Pv 0 (upd H1 D (.lst [])) ∧ (∀ i H2, Pv i H2 → SqT K H2 a xs) ∧
  (∀ i x H2, xs[i]? = some x → Pv i H2 → g x (wipe σ vs) H2 fun σ2 H3 => wipe σ2 vs = wipe σ vs ∧ tl σ2 H3 fun y H4 => ∃ acc, H4 D = some (.lst acc) ∧ acc.length < sizeLine ∧ Pv (i + 1) (upd H4 D (.lst (acc ++ [y])))) ∧ ∀ H2, Pv xs.length H2 → Q (.ref D) H2
theorem pe_lcTH {elt tg iter : Expr} {scope : Scope} {own : List (Str × Nat)} {pos : Pos} {te : TE} {g : TG} {tl : TE} (hot : HotC X) (hN : X.N.Nodup) (hi : PE X iter te) (ok : BlkOk X.N X.env.scope scope own)
    (hg : ∀ (s : Shared) (H : Hp) (C : Addr) (cl : List (Str × Addr)) (fp : List Addr), PG (X.blk s H scope (compEnvC scope cl C X.env) fp) tg g)
    (he : ∀ (s : Shared) (H : Hp) (C : Addr) (cl : List (Str × Addr)) (fp : List Addr), PE (X.blk s H scope (compEnvC scope cl C X.env) fp) elt tl) (hs : ∀ x, foldedSetIterable iter X.env x = pure x := by intro _; rfl) :
    PE X (.ListComp elt [⟨tg, iter, [], 0⟩] scope pos) (tLcT X.K te g tl (own.map (·.2))) := by
  refine ⟨fun pins s σ H Q I h => ?_⟩
  obtain ⟨p, ⟨hh, v1, d1, c1⟩, hp⟩ := hot
  rw [eval_ListComp]
  have hfree : ∀ y ∈ scope.names, y.2 = .free → ∃ c, X.env.cells.lookup y.1 = some c := fun y hy e => (ok.free y hy e).elim (fun k => I.ok.has _ (.inl k)) fun k => I.ok.has _ (.inr k)
  refine wpAny_comprehension_free (use := none) rfl hs (closure_ok hfree) ok.kind (fun y hy e => by rw [ok.uniq y hy, e])
    (thn (hi.run pins s σ H _ I h) fun xv s1 ⟨v, H2, I1, r1, a, xs, ev, hq, q⟩ => ?_)
  subst ev
  obtain rfl : xv = Value.ref a := r1
  obtain ⟨its1, rv1, tp1, hz1⟩ := I1.tuple hq
  refine wpAny_pyIter_tuple (show s1.heap.IsTuple a its1.toArray from tp1) ?_
  have pinA := I1.pin p (List.mem_append_left _ hp)
  generalize hit : s1.heap.objs.size = it
  have I2 : Inv X pins σ H2 { s1 with heap := s1.heap.push { cls := .type "tuple_iterator", data := .fields #[.ref a, .int 0 0] } } := I1.kept (t' := s1.toks) fun b o e => Heap.get?_push_of_some _ e
  have st2 : (s1.heap.push { cls := .type "tuple_iterator", data := .fields #[.ref a, .int 0 0] }).IsTupleIter it a 0 := ⟨_, by rw [← hit]; exact Heap.get?_push_size _ rfl, rfl, rfl⟩
  have f2 : FpOk X pins H2 it := by
    rw [← hit]
    exact I1.fpOk (Nat.le_refl _) (I1.hok.fresh (Nat.le_refl _))
  generalize hs2 : ({ s1 with heap := s1.heap.push { cls := .type "tuple_iterator", data := .fields #[.ref a, .int 0 0] } } : Shared) = s2 at I2 ⊢
  have st2 : s2.heap.IsTupleIter it a 0 := by rw [← hs2]; exact st2
  have ltI : it < s2.heap.objs.size := by
    obtain ⟨o, e, _⟩ := st2
    exact Heap.lt_size e
  refine wpAny_newObj_type (newEnv_comp ?_) (by show 0 ≤ sizeLine; decide)
  generalize hD : s2.heap.objs.size = D
  have hDn : H2 D = none := I2.hok.fresh (Nat.le_of_eq hD)
  obtain ⟨Pv, p0, pS, pT, pE⟩ := q D hDn
  generalize hs3 : ({ s2 with heap := s2.heap.push { cls := .type "list", data := .seq ([] : List Value).toArray } } : Shared) = s3
  have h3 : s3.heap = s2.heap.push { cls := .type "list", data := .seq ([] : List Value).toArray } := by rw [← hs3]
  have I3 : Inv X pins σ (upd H2 D (.lst [])) s3 := by
    rw [← hs3]
    refine I2.laid (t' := s2.toks) (fun b o e => Heap.get?_push_of_some _ e) (Nat.le_of_eq hD) ⟨Nat.zero_le _, [], 0, .nil, ?_⟩
    rw [← hD]
    exact Heap.get?_push_size _ rfl
  have itD : it ≠ D := by rw [← hD]; exact Nat.ne_of_lt ltI
  have f3 : ∀ b ∈ [it], FpOk X pins (upd H2 D (.lst [])) b ∧ b < s3.heap.objs.size := fun b hb => by
    obtain rfl : b = it := List.mem_singleton.mp hb
    refine ⟨⟨by rw [upd_ne itD]; exact f2.1, f2.2⟩, ?_⟩
    rw [h3, Heap.size_push]
    exact Nat.lt_succ_of_lt ltI
  have st3 : s3.heap.IsTupleIter it a 0 := st2.at fun o e => by rw [h3]; exact Heap.get?_push_of_some _ e
  have I4 := block_start I3 ok hN f3
  have pg := hg s3 (upd H2 D (.lst [])) s3.heap.objs.size (cellsFrom (s3.heap.objs.size + 1) scope.names (cloFrom X.env.cells scope.names [])) [it]
  have pe := he s3 (upd H2 D (.lst [])) s3.heap.objs.size (cellsFrom (s3.heap.objs.size + 1) scope.names (cloFrom X.env.cells scope.names [])) [it]
  show codeAny _ _ (.compStart (.ListComp elt [⟨tg, iter, [], 0⟩] scope pos) 0 (.ref it) (.ref D) (compEnvC scope (cellsFrom (s3.heap.objs.size + 1) scope.names (cloFrom X.env.cells scope.names [])) s3.heap.objs.size X.env)) (compPost (model X.prog X.w) X.A X.xe none (EP X pins σ Q) (.ref D) s3.heap.objs.size) { s3 with heap := pushCells (s3.heap.push { cls := .type "dict", data := .dict #[] }) scope.names }
  generalize hce : compEnvC scope (cellsFrom (s3.heap.objs.size + 1) scope.names (cloFrom X.env.cells scope.names [])) s3.heap.objs.size X.env = ce at I4 pg pe ⊢
  have cL : ce.locals = s3.heap.objs.size := by subst hce; rfl
  have p3 : s3.heap.get? p.1 = some p.2 := by
    rw [h3]
    refine Heap.get?_push_of_some _ ?_
    rw [← hs2]
    exact Heap.get?_push_of_some _ pinA.1
  have np : upd H2 D (.lst []) p.1 = none := (I3.pin p (List.mem_append_left _ hp)).2.1
  have nfr : p.1 ∉ frs X.stack := fun hm => (List.mem_cons.mp (I1.stkSub p.1 hm)).elim pinA.2.2.1 pinA.2.2.2.1
  have nit : p.1 ≠ it := fun z => f2.2.2.2.2.2 p (List.mem_append_left _ hp) z
  generalize hH3 : upd H2 D (.lst []) = H3 at I3 I4 pg pe p0 f3 np
  generalize hs4 : ({ s3 with heap := pushCells (s3.heap.push { cls := .type "dict", data := .dict #[] }) scope.names } : Shared) = s4 at I4 ⊢
  have st4 : s4.heap.IsTupleIter it a 0 := st3.at fun o e => by rw [← hs4]; exact pushCells_keeps _ _ _ _ (Heap.get?_push_of_some _ e)
  have nI : H3 it = none := (f3 it (List.mem_singleton.mpr rfl)).1.1
  have hotAt : ∀ {σ' : L2.St} {H' : Hp} {s' : Shared} {pl : List (Addr × Obj)}, Inv (X.blk s3 H3 scope ce [it]) pl σ' H' s' → HotAt X.A p.1 s'.heap := fun {σ' H' s' pl} I' =>
    ⟨hh, p.2, v1, I'.base.keep p.1 p.2 p3 np nfr (fun z => nit (List.mem_singleton.mp z)), d1, c1⟩
  have stat : ∀ {σ' : L2.St} {H' : Hp} {s' : Shared}, Inv (X.blk s3 H3 scope ce [it]) [] σ' H' s' → H' it = none → ∀ b ∈ [it], FpOk (X.blk s3 H3 scope ce [it]) [] H' b := fun {σ' H' s'} I' hn b hb => by
    obtain rfl : b = it := List.mem_singleton.mp hb
    exact ⟨hn, (I'.ok.exf b hb).1, I'.ok.exfs b hb, .inl hb, fun x c e => (I'.ok.exf b hb).2 x c e, fun p hp => absurd (show p ∈ ([] : List (Addr × Obj)) ++ [] from hp) (by simp)⟩
  have objI : ∀ {h : Heap} {i : Nat}, h.IsTupleIter it a i → ∀ b ∈ [it], ∃ o, h.get? b = some o ∧ ∀ v, o.data ≠ .cell v := fun {h i} st b hb => by
    obtain rfl : b = it := List.mem_singleton.mp hb
    obtain ⟨o, e, _, d⟩ := st
    exact ⟨o, e, fun v z => by rw [d] at z; cases z⟩
  refine codeAny_compStart_list ?_ (wpAny_pyIter_tupleiter st4 ?_)
  all_goals
    refine compLoop_any (fun n s' => ∃ i H', n = xs.length - i ∧ i ≤ xs.length ∧ Inv (X.blk s3 H3 scope ce [it]) [] (wipe σ (own.map (·.2))) H' s' ∧ s'.heap.IsTupleIter it a i ∧ H' it = none ∧ Pv i H') ?_ _ ⟨0, H3, rfl, Nat.zero_le _, I4, st4, nI, p0⟩
    rintro n s5 ⟨i, H5, rfl, hi5, I5, st5, n5, w5⟩
    obtain ⟨its, rv, tp, hz⟩ := I5.tuple (pS i H5 w5)
    have hlen := rv.length
    obtain ⟨f0, f1, f2', f3', f4, f5⟩ := stat I5 n5 it (List.mem_singleton.mpr rfl)
    by_cases hlt : i < xs.length
    · obtain ⟨u, hu, ru⟩ := rv.get (List.getElem?_eq_getElem hlt)
      refine wpAny_pyNext_tuple_item st5 (show s5.heap.IsTuple a its.toArray from tp) (x := u) (by simpa using hu) fun h' st' sb => ?_
      have I6 : Inv (X.blk s3 H3 scope ce [it]) [] (wipe σ (own.map (·.2))) H5 { s5 with heap := h' } := I5.turned (t' := s5.toks) (fun b o hb e => (sb.2 b hb).trans e) f0 f1 f3' f4 f5
      obtain ⟨o, e, c, d⟩ := id st'
      refine go_of (s := { s5 with heap := h' }) e c d (by decide) ?_
      have I7 := I6.pinned (stat I6 n5) (objI st')
      refine thnF (pg.run _ _ _ H5 _ u _ I7 ru (pT i _ H5 (List.getElem?_eq_getElem hlt) w5)) fun _ s8 ⟨σ8, H8, I8, hw8, q8⟩ => ?_
      refine wpAny_pure ?_
      simp only [if_true]
      refine thnF (pe.run _ s8 σ8 H8 _ I8 q8) fun z s10 ⟨yv, H10, I10, r10, acc, hD10, hz10, nx⟩ => ?_
      refine app_ok (X := X.blk s3 H3 scope ce [it]) I10 hD10 hz10 r10 fun s11 I11 => ?_
      have pin' : ∀ b ∈ [it], ∀ o, h'.get? b = some o → s11.heap.get? b = some o ∧ (upd H10 D (.lst (acc ++ [yv]))) b = none := fun b hb o e =>
        let z := I11.pin (b, o) (List.mem_append_right _ (List.mem_append_right _ (mem_pinsAt hb e)))
        ⟨z.1, z.2.1⟩
      have hl : (wipe σ (own.map (·.2))).length = σ8.length := by rw [← hw8, wipe_length]
      refine ⟨xs.length - (i + 1), by omega, i + 1, _, rfl, hlt, (I11.unpinned (pins := [])).weak hl (fun j v e => ?_), st'.at fun o e => (pin' it (List.mem_singleton.mpr rfl) o e).1, (pin' it (List.mem_singleton.mpr rfl) o e).2, nx⟩
      rw [← hw8] at e
      exact (wipe_some e).1
    · refine tupH_end (hotAt I5) nit st5 (show s5.heap.IsTuple a its.toArray from tp) (by rw [List.getElem?_toArray]; exact List.getElem?_eq_none (by omega)) fun h' eb => ?_
      have I6 : Inv (X.blk s3 H3 scope ce [it]) [] (wipe σ (own.map (·.2))) H5 { s5 with heap := h' } := I5.turned (t' := s5.toks) (fun b o hb e => eb b o hb e) f0 f1 f3' f4 f5
      have I7 : Inv X pins σ H5 { s5 with heap := h' } := I3.call' (ch := [it]) I6.os I6.base I6.hok I6.bare fun b hb => ⟨(f3 b hb).1.2.2.2.1, (f3 b hb).1.2.1, (f3 b hb).1.2.2.2.2.1, (f3 b hb).1.2.2.2.2.2⟩
      have nC : H5 s3.heap.objs.size = none := by
        have z : H5 ce.locals = none := I6.free
        rw [cL] at z
        exact z
      obtain ⟨m, hn, _⟩ := I6.loc
      have hn : h'.Ns ce.locals m := hn
      rw [cL] at hn
      have e : i = xs.length := by omega
      subst e
      obtain ⟨g0, g1, g2, g3, g4, g5⟩ := I3.fpOk (Nat.le_refl _) nC
      exact ⟨m, hn, fun h'' sb => ⟨.ref D, H5, I7.turned (t' := s5.toks) (fun b o hb e => (sb.2 b hb).trans e) g0 g1 g3 g4 g5, rfl, pE H5 w5⟩⟩
end
end RtL

set_option maxHeartbeats 4000000
/-! repr of a list that holds whole numbers and own objects, within an except suite -/
namespace L2H
open PySem PySem.Spec PyProof.Rows L2 HotX RtL ErL
open PySem.Sem (wp)
open PySem.Builtin PySem.Builtin.List
theorem RoomH.in1 {k : Nat} {A : Around} (r : RoomH (k + 1) A) : RoomH k A.in1 :=
  ⟨by have := r.dp; show A.depth + 3 * k + 5 < _; omega, by have := r.un; show A.units + 1 + 16 * k + 200 < _; omega⟩
theorem RoomH.loop {k : Nat} {A : Around} (r : RoomH (k + 1) A) (args : Args) : RoomH k (A.under (.builtin "list.__repr__.loop" args)) :=
  ⟨by have := r.dp; have := loop_depth A args; omega, by have := r.un; rw [units_under_list_loop]; omega⟩
theorem Hot1.loop {A : Around} {p : Addr × Obj} (h : Hot1 A p) (args : Args) : Hot1 (A.under (.builtin "list.__repr__.loop" args)) p :=
  ⟨by first | exact h.1 | (simpa [Around.under, Code.envs, Code.isFrame, pushEnvs] using h.1), h.2⟩
theorem Hot1.in1 {A : Around} {p : Addr × Obj} (h : Hot1 A p) : Hot1 A.in1 p := h
section
variable {P : Program} {w : World} {K : PySem.W.Frag} {mg : Str → Option Value} {base : Heap} {x qual : Str} {params : Arguments} {body : List Stmt} {scope : Scope} {dvs : List V} {kws : List (Str × V)} {f : Addr} {fd : FuncData}
theorem FunD_okH {CX : CXT} {N ps : List Str} {k : Nat} {sp : Sp} (F : FunD K x qual params body scope dvs kws f fd) (S : FnScope N ps scope) (len : ∀ vs H Q E, sp vs H Q E → vs.length = ps.length)
    (hbody : ∀ (cdv : Value) (A : Around) (outer : List Env) (s : Shared) (H : Hp) (vs : List V) (Q : VK) (E : XK) (p : Addr × Obj), Hot1 A p → RoomH k (A.deeper (envOfC qual scope s.heap.objs.size f cdv)) → sp vs H Q E →
      ∃ t, PSs (cxH CX P w K mg base N qual scope f cdv A outer s H E p) body t ∧ t { nx := fun _ H' => Q .non H', rt := Q } (start N vs) H) : FnH P w K mg base CX (k + 1) f fd ps sp := by
  obtain ⟨oc, od, dV, kV, doc, pm, an, cdv, ct, osl, rfl, lk, hcd, _, _⟩ := F.ex
  exact fn_ofH lk hcd S len fun A outer s H vs Q E p hot hr hsp => hbody cdv A outer s H vs Q E p hot hr hsp
end
section
variable {X : Cx} {k : Nat} {f C : Addr} {fd : FuncData} {sp : Sp} {ps : List Str} {pins : List (Addr × Obj)} {σ : L2.St} {H : Hp} {p : Addr × Obj}
theorem under_ownH (hs : PySem.W.findIn X.K (.ref C) "__repr__" = some (some (.ref f))) (hf : PySem.W.isFn X.K (.ref f) = true) (F : FnH X.prog X.w X.K X.mg X.base CX0 k f fd ps sp) (hb : Binds X.K fd ps []) {A : Around} {s : Shared} {E : Value → Shared → Prop} (hr : RoomH k A) (hot : Hot1 A p) (hp : p ∈ X.pn)
    (e0 : Env0 X.prog X.w X.K X.mg X.base A X.stack s H) (I : Inv X pins σ H s) {a dx : Addr} {fs : List (Str × V)} {t : Str} {base : Nat} {Q : Str → Shared → Prop} (ha : H a = some (.ins C dx fs)) (hq : ∀ Q : VK, Q (.str t) H → sp [.ref a] H Q E0) (hz : base ≤ sizeLine)
    (h : ∀ s', Inv X pins σ H s' → Q t s') : wpAny (model X.prog X.w) A (pyReprUnder base (.ref a)) Q E s := by
  obtain ⟨mA, oa, _⟩ := ins_get I.hok ha
  obtain ⟨od, J, _⟩ := oa.look
  have q := hq (fun v H' => v = .str t ∧ H' = H) ⟨rfl, rfl⟩
  have hl : ([Value.ref a] ++ []).length = ps.length := by
    rw [← F.len _ _ _ _ q]
    rfl
  have P1 := I.pin p (List.mem_append_left _ hp)
  have hpin : PinOk X.stack H s p := ⟨P1.1, P1.2.1, fun hm => (List.mem_cons.mp (I.stkSub p.1 hm)).elim P1.2.2.1 P1.2.2.2.1, P1.2.2.2.2⟩
  refine wpAny_pyReprUnder_ref hz ?_
  unfold pyReprObjUnder pyReprObjBy
  refine wpAny_bind (wpAny_cRoomFor (by have := hr.un; omega) ?_)
  refine wpAny_bind (wpAny_bind (J.type.here ((PySem.W.looks_findIn I.kIn hs).here ?_)))
  show wpAny _ _ (if (some (Value.ref f)).isNone = true then _ else _) _ _ _
  rw [if_neg (by simp)]
  refine wpAny_bind (ifBoundBy_K I.kIn J hs hf ?_)
  show wpAny _ _ (call (.ref f) [.ref a]) _ _ _
  refine wpAny_call (codeAny_mono (F.run A X.stack s H ⟨[.ref a], []⟩ [.ref a] [.ref a] _ E0 p hr hot hpin e0 (hb s [.ref a] I.kIn hl) (.cons rfl .nil) q) fun r s' hq => ?_)
  match r, hq with
  | .ok (.ret u), hq =>
    obtain ⟨v, H', I3, rv, ev, eH⟩ := I.after hq
    subst ev eH
    obtain ⟨tk, e⟩ := rv
    subst e
    exact wpAny_bind (wpAny_isInstance (T := "str") (b := true) rfl isSubtype_str_str (wpAny_pure ⟨_, _, rfl, h s' I3⟩))
  | .ok .next, hq => exact False.elim hq
  | .ok .brk, hq => exact False.elim hq
  | .ok .cont, hq => exact False.elim hq
  | .error e, hq => exact False.elim hq
theorem itA_oneH (hs : PySem.W.findIn X.K (.ref C) "__repr__" = some (some (.ref f))) (hf : PySem.W.isFn X.K (.ref f) = true) (F : FnH X.prog X.w X.K X.mg X.base CX0 k f fd ps sp) (hb : Binds X.K fd ps []) {A : Around} (hr : RoomH (k + 1) A) (hot : Hot1 A p) (hp : p ∈ X.pn)
    (e0 : ∀ (pins : List (Addr × Obj)) s, Inv X pins σ H s → Env0 X.prog X.w X.K X.mg X.base A X.stack s H) {a : Addr} {v : V} {t : Str} (h : ShA C sp H v t) : ItA X σ H A a v t := by
  intro rest pins base E s Q u hz ru I q
  rcases h with (⟨j, rfl, rfl, hlog⟩ | ⟨b, dx, fs, rfl, eb, hq⟩) | ⟨b, rfl, rfl⟩
  · obtain ⟨tk, rfl⟩ := (show ∃ tk, u = Value.int j tk from ru)
    exact ReprIs.int tk hlog base hz _ _ _ _ fun tk' => q _ (I.tok tk')
  · obtain rfl : u = Value.ref b := ru
    exact under_ownH hs hf F hb (RoomH.loop hr _) (hot.loop _) hp (Env0.loop (e0 _ s I) _) I eb hq (by omega) q
  · obtain rfl : u = Value.bool b := ru
    exact ReprIs.bool b base hz _ _ _ _ fun tk' => q _ (I.tok tk')
/-- repr(xs), xs a list of whole numbers, truth values, own objects -/
def rReprH (C : Addr) (sp : Sp) : List V → Hp → VK → Prop := fun xs H Q => ∃ a vs ts, xs = [.ref a] ∧ H a = some (.lst vs) ∧ vs ≠ [] ∧ ts.length = vs.length ∧ (∀ (i : Nat) (v : V), vs[i]? = some v → ∃ t, ts[i]? = some t ∧ ShA C sp H v t) ∧
  (listText ts).length ≤ sizeLine ∧ Q (.str (listText ts)) H
theorem call_reprH (hs : PySem.W.findIn X.K (.ref C) "__repr__" = some (some (.ref f))) (hf : PySem.W.isFn X.K (.ref f) = true) (F : FnH X.prog X.w X.K X.mg X.base CX0 k f fd ps sp) (hb : Binds X.K fd ps []) (hr : RoomH (k + 3) X.A) (hg : X.A.guards = some []) (hc : HotC X) :
    CallR X (.builtin "repr") (rReprH C sp) := by
  intro pins s σ H xs us Q I r h
  obtain ⟨p, hot, hp⟩ := hc
  obtain ⟨a, vs, ts, rfl, ea, hne, hlen, hT, hsz, q⟩ := h
  obtain ⟨u, rfl, rx⟩ := vals1 r
  cases (show u = Value.ref a from rx)
  obtain ⟨_, its, nn, rv, ho⟩ := (show ObjOk X.prog X.w H s.heap a (.lst vs) from I.hok a _ ea)
  cases rv with
  | nil => exact absurd rfl hne
  | cons r1 r2 =>
    rename_i v vs x l
    refine call_repr_slot (by have := hr.un; show X.A.units + 1 < cLine; omega) ⟨_, ho, rfl⟩ PySem.F.slot_list_repr.toG ?_
    refine wpAny_call (codeAny_call_builtin PySem.F.slot_list_repr.plain PySem.F.entry_list_repr (PySem.F.slot_list_repr.check _ _ _ _ _ _ _ _ ⟨_, ho, rfl⟩ (PySem.F.args_list_repr_1 _) ?_))
    refine wpAny_list_repr_head (g := []) hg (fun v rest kw hm => nomatch hm) ho rfl ?_
    refine wpAny_bind (m := newList []) (wpAny_newObj_type ?_)
    refine wpAny_pure ⟨PySem.F.quiet_list_repr_loop _, ?_⟩
    refine loopA (A := X.A.in1) (P := s.heap.objs.size) (base := 0) ea hlen (fun i w hw => ?_) (by omega) (.inr I.sz) (fun x c e z => ?_) (fun p hp z => ?_) (fun s' u I' => ?_) _ 0 _ #[] _ [] rfl (Nat.zero_le _) (ClX.pin_new I (fun b o e => Heap.get?_push_of_some _ e) (Nat.le_refl _) (Heap.get?_push_size _ rfl) (fun v z => nomatch z)) rfl (by simp)
    · obtain ⟨t', ht', hs'⟩ := hT i w hw
      exact ⟨t', ht', itA_oneH hs hf F hb (RoomH.mono hr.in1 (by omega)) hot.in1 hp (fun pins s I => I.env0.in1) hs'⟩
    · obtain ⟨v, o, hc, _⟩ := I.cell x c e
      rw [z] at hc
      exact absurd (Heap.lt_size hc) (Nat.lt_irrefl _)
    · have e := (I.pin p hp).1
      rw [z] at e
      exact absurd (Heap.lt_size e) (Nat.lt_irrefl _)
    · exact ⟨_, _, rfl, .str _, H, I', ⟨u, rfl⟩, q⟩
end
end L2H

set_option maxHeartbeats 4000000
namespace K71
open PySem PySem.Spec PyProof.Rows L2 L2H RtL ErL StX
section
variable {P : Program} {w : World} {K : Fr} {mg : Str → Option Value} {base : Heap} {f : Addr} {fd : FuncData}
theorem ok_lstH (F : FunD K "listed_numbers" "listed_numbers" (defArgs s_lst) (defBody s_lst) (defScope s_lst) [] [] f fd) (T : TT K mg) : FnH P w K mg base CX0 1 f fd ["numbers"] (spLst K) := by
  refine FunD_okH F sc_lst (fun vs H Q E h => ?_) (fun cdv A outer s H vs Q E p hot hr h => ?_)
  · obtain ⟨t, cs, rfl, _⟩ := h
    rfl
  · obtain ⟨t, cs, rfl, et, hb, hl, q⟩ := h
    have hc : HotC (cxH CX0 P w K mg base NLs "listed_numbers" (defScope s_lst) f cdv A outer s H E p) := ⟨p, ⟨hot.1, hot.2⟩, List.mem_singleton.mpr rfl⟩
    refine ⟨_, (pss_one (ps_ret (pe_join pe_str (pe_lcTH (own := [("number", 1)]) (g := gName 1) hc sc_lst.nd (pv 0) (blkOk_by (N := NLs) (sc := defScope s_lst) (by decide +kernel)) (fun _ _ _ _ _ => pg_name (i := 1) sc_lst.nd rfl (Or.inl rfl)) (fun _ _ _ _ _ => pe_callTy call_str_int (by rfl) T.fre (by decide +kernel) (pa_cons (pv 1) pa_nil)))))), ?_⟩
    refine ⟨⟨_, rfl⟩, _, rfl, t, _, rfl, SqT.of et, fun D nD => ?_⟩
    refine ⟨fun i H' => Same H H' ∧ H' D = some (.lst (((cs.map fun c => T_ c).take i).map V.str)), ⟨same_new nD, upd_same⟩, fun i H' pv => SqT.of (pv.1 _ _ et), ?_, ?_⟩
    · rintro i v H7 hx ⟨s7, e7⟩
      obtain ⟨x, hx', rfl⟩ := getm hx
      refine ⟨rfl, _, rfl, x, rfl, log_of (hb x (List.mem_of_getElem? hx')), _, e7, ?_, ?_, ?_⟩
      · rw [List.length_map, List.length_take, List.length_map, sizeLine_eq]
        omega
      · intro b' o' e'
        rw [upd_ne (ne_of_none e' nD)]
        exact s7 _ _ e'
      · have hm : (cs.map fun c => T_ c)[i]? = some (T_ x) := by rw [List.getElem?_map, hx']; rfl
        rw [upd_same, List.take_add_one, hm, List.map_append]
        rfl
    · rintro H7 ⟨s7, e7⟩
      have e8 : (cs.map fun c => T_ c).take (cs.map V.int).length = cs.map fun c => T_ c := List.take_of_length_le (by rw [List.length_map, List.length_map]; exact Nat.le_refl _)
      rw [e8] at e7
      have sm := listT_bd cs hb
      refine ⟨_, D, _, rfl, rfl, .inl (SqL.of e7), ?_, q H7 s7⟩
      rw [List.length_map, show (", " : Str).length = 2 from rfl]
      omega
abbrev LstH (P : Program) (w : World) (K : Fr) (mg : Str → Option Value) (base : Heap) : Prop := ∃ f d, FnH P w K mg base CX0 1 f d ["numbers"] (spLst K) ∧ mg "listed_numbers" = some (.ref f) ∧ PySem.W.keepIn K (.ref f) = true ∧ Binds K d ["numbers"] []
theorem ok_repH {q0 : Str} (F : FunD K "__repr__" q0 (defArgs (inP 10)) (defBody (inP 10)) (defScope (inP 10)) [] [] f fd) (T : TT K mg) (G : LstH P w K mg base) : FnH P w K mg base CX0 2 f fd ["self"] (spTxt K repT) := by
  obtain ⟨fP, dP, oP, gP, kP, bP⟩ := G
  refine FunD_okH F sc_rep (fun vs H Q E h => ?_) (fun cdv A outer s H vs Q E p hot hr h => ?_)
  · obtain ⟨a, cs, rfl, _⟩ := h
    rfl
  · obtain ⟨a, cs, rfl, ⟨dx, t, ea, et⟩, hb, hl, q⟩ := h
    have hc : HotC (cxH CX0 P w K mg base ["self"] q0 (defScope (inP 10)) f cdv A outer s H E p) := ⟨p, ⟨hot.1, hot.2⟩, List.mem_singleton.mpr rfl⟩
    refine ⟨_, (pss_one (ps_ret (pe_joined (.cons pe_str (.cons (pe_fmt (pe_callH (E := fun _ => E0) oP hr hc (by rfl) gP kP bP (fun σ _ _ _ _ _ _ h => False.elim h) (pa_cons (pe_fld (pv 0) rfl) pa_nil))) (.cons pe_str .nil)))))), ?_⟩
    refine ⟨"Polynomial(", rfl, ?_, _, rfl, a, _, dx, _, _, rfl, ea, T.clP, T.nC, rfl, t, cs, rfl, et, hb, hl, fun H' s' => .inl ⟨_, rfl, ?_, _, rfl, ?_, ")", rfl, ?_, ?_⟩⟩
    all_goals have lz : 100000 ≤ sizeLine := by rw [sizeLine_eq]; decide
    all_goals have ll := listT_len hb hl
    · rw [nil_app, show ("Polynomial(" : Str).length = 11 from rfl]
      omega
    · omega
    · rw [nil_app, strLen_append, show ("Polynomial(" : Str).length = 11 from rfl]
      omega
    · rw [nil_app, strLen_append, strLen_append, show ("Polynomial(" : Str).length = 11 from rfl, show (")" : Str).length = 1 from rfl]
      omega
    · rw [nil_app]
      exact q H' s'
end
end K71

set_option maxHeartbeats 1000000
/-! an own error with one field raised, its context None -/
namespace RtL
open PySem PySem.Spec PyProof.Rows L2 ErL
open PySem.Er (Made Cl In1 In2 Shw)
theorem takes0N {X : Cx} : L2N.Takes X (fun _ _ _ _ => False) := fun u s' h => by
  obtain ⟨a, B, sI, pins, σ, H, cls, d, _, _, _, _, _, _, _, _, w⟩ := h
  exact w.elim
section
variable {X : Cx} {B newId initId : String} {bmB : List Value} {C : Addr} {f x : Str} {p pos : Pos} {a : Expr} {ta : TA} {k : Nat}
theorem pmk_er1N (c : Cl X.K C B newId initId bmB) (i : In1 X.K C f) (hb : Bd1 f gP1) (hr : Room k X.A) (hg : Gl X x) (hm : X.mg x = some (.ref C)) (rs : Raises X (.ref C)) (ha : PA X [a] ta)
    (hdb : (x == ("__debug__" : Str)) = false := by decide) (he : starEach [a] X.env = (false, eval a X.env) :: starEach [] X.env := by rfl) (hpl : (backTo pos (starEach [] X.env)).any (·.1) = false := by rfl) :
    L2N.PMk X (.Call (.Name x p) [a] [] pos) (tMk1 C f ta) := by
  intro pins s σ H Q I h
  refine wpAny_Call_Name_kw (ld_glob I hg hm ?_ hdb)
  refine PySem.W.callWith_K (h₀ := X.base) I.ok.mod.kin c.kC (thn (ha.run pos pins s σ H _ I h) fun us s1 hh => ?_) he hpl
  obtain ⟨vs, H1, I1, r, v, rfl, q⟩ := hh
  refine ⟨I1.kIn, ?_⟩
  obtain ⟨u, rfl, ru⟩ := vals1 r
  show wpAny _ _ (call (.ref C) [u]) _ _ _
  refine wpAny_call (PySem.Er.made1 c i (v := u) I1.kIn I1.nolimit (by have := hr.dp; omega) (by show 1 ≤ sizeLine; rw [sizeLine_eq]; omega) (fun _ ql p1 p2 q1 q2 q3 q4 kv dc pm an cv ct y => .of_eq (hb ql p1 p2 q1 q2 q3 q4 kv dc pm an cv ct y u)) fun h' tk e d t M => ?_)
  obtain ⟨hp, g, dr, tk0, os⟩ := s1
  obtain ⟨G', g1, g2⟩ := restrict h' fun b => decide (b ≠ e)
  have keepG : ∀ b, b ≠ e → G'.get? b = h'.get? b := fun b hb => g1 b (decide_eq_true hb)
  have goneG : G'.get? e = none := g2 e (by simp)
  have old : ∀ b o, hp.get? b = some o → G'.get? b = some o := fun b o z => (keepG b (Nat.ne_of_lt (Nat.lt_of_lt_of_le (Heap.lt_size z) M.be))).trans (M.keep b o z)
  have ob : ObjOk X.prog X.w (upd H1 d (.xd [(f, v)])) G' d (.xd [(f, v)]) := ⟨_, M.ns.at (fun o z => (keepG d M.de).trans z), rel1 ru⟩
  refine ⟨e, _, _, ⟨G', g, dr, tk, os⟩, _, .ref C, some d, rfl, I1.laid (t' := tk) old M.bd ob, fun b o z => ?_, goneG, M.obj, ⟨rfl, rfl, fun vs e => by cases e; rfl⟩, rfl, rfl, ?_, rfl, I1.bare, rs, q d (I1.hok.fresh M.bd)⟩
  · by_cases hb : b = e
    · have z' : G'.get? b = some o := z
      rw [hb, goneG] at z'
      cases z'
    · exact (keepG b hb).symm.trans z
  · rw [upd_ne (Ne.symm M.de)]
    exact I1.hok.fresh M.be
end
end RtL

set_option maxHeartbeats 4000000
/-! repr of a list of own objects whose showing lays objects, within an except suite -/
namespace L2H
open PySem PySem.Spec PyProof.Rows L2 HotX RtL ErL
open PySem.Sem (wp)
open PySem.Builtin PySem.Builtin.List
/-- an item, where the showing may lay objects -/
def ItB (X : Cx) (σ : L2.St) (H : Hp) (A : Around) (a : Addr) (v : V) (t : Str) : Prop := ∀ (rest : List Value) (pins : List (Addr × Obj)) (base : Nat) (E : Value → Shared → Prop) (s : Shared) (Q : Str → Shared → Prop) (u : Value),
  base + t.length ≤ sizeLine → RelV v u → Inv X pins σ H s → (∀ H' s', Same H H' → Inv X pins σ H' s' → Q t s') → wpAny (model X.prog X.w) (A.under (.builtin "list.__repr__.loop" ⟨.ref a :: rest, []⟩)) (pyReprUnder base u) Q E s
/-- an own object in such a list -/
def ShO (C : Addr) (sp : Sp) (H : Hp) (v : V) (t : Str) : Prop := ∃ a dx fs, v = .ref a ∧ H a = some (.ins C dx fs) ∧ ∀ H', Same H H' → ∀ Q : VK, (∀ H'', Same H' H'' → Q (.str t) H'') → sp [.ref a] H' Q E0
section
variable {X : Cx} {k : Nat} {f C : Addr} {fd : FuncData} {sp : Sp} {ps : List Str} {pins : List (Addr × Obj)} {σ : L2.St} {H : Hp} {p : Addr × Obj}
theorem loopB {A : Around} {a P : Addr} {vs : List V} {ts : List Str} {base : Nat} {R : Result → Shared → Prop} (hlen : ts.length = vs.length)
    (hT : ∀ (i : Nat) (v : V), vs[i]? = some v → ∃ t, ts[i]? = some t ∧ ∀ H', Same H H' → ItB X σ H' A a v t) (hsz : base + (listText ts).length ≤ sizeLine)
    (h1 : P ∈ X.ex ∨ X.s_0.heap.objs.size ≤ P) (h2 : ∀ x c, X.env.cells.lookup x = some c → c ≠ P) (h3 : ∀ p ∈ X.pn ++ pins, p.1 ≠ P) (hR : ∀ H' s' u, Same H H' → Inv X pins σ H' s' → R (.ok (.ret (.str (listText ts) u))) s') :
    ∀ (n i : Nat) (H1 : Hp) (s : Shared) (acc : Array Value) (c : Nat) (done : List (Str × Tok)), Same H H1 → H1 a = some (.lst vs) → vs.length - i = n → i ≤ vs.length → Inv X (pL P acc c :: pins) σ H1 s → acc.toList = strValues done → done.map (·.1) = ts.take i →
      codeAny (model X.prog X.w) A (.builtin "list.__repr__.loop" ⟨[.ref a, rawInt i, .ref P, rawInt ((base + piled (ts.take i) : Nat) : Int)], []⟩) R s := by
  have hX : (listText ts).length = (textFrom 0 "[" ts).length + 1 := by
    show (textFrom 0 "[" ts ++ "]").length = _
    rw [strLen_append]; rfl
  have hL := textFrom_len ts 0 "["
  have hsz1 : vs.length ≤ sizeLine := by
    have h1 := hL.1
    rw [if_neg (Nat.lt_irrefl 0)] at h1
    omega
  have hsz2 : ∀ t ∈ ts, t.length ≤ sizeLine := fun t ht => by
    have h2 := hL.2.1 t ht
    omega
  have hsz3 : (listText ts).length ≤ sizeLine := by omega
  have hp3 := piled_le_listText ts
  intro n
  induction n with
  | zero =>
    intro i H1 s acc c done sm ea hk hi I hacc hdone
    obtain ⟨_, its, nn, rv, ho⟩ := (show ObjOk X.prog X.w H1 s.heap a (.lst vs) from I.hok a _ ea)
    have hin : i = its.length := by rw [← rv.length]; omega
    refine codeAny_builtin PySem.F.entry_list_repr_loop ?_
    show wpAny _ _ («list.__repr__.loop» ⟨[.ref a, .int i 0, .ref P, .int ((base + piled (ts.take i) : Nat) : Int) 0], []⟩) _ _ s
    rw [repr_loop_tree]
    refine wpAny_bind (wpAny_listItems ho rfl ?_)
    have hnone : its.toArray[(i : Int).toNat]? = none := by simp [hin]
    simp only [hnone]
    unfold reprEnd
    refine wpAny_bind (wpAny_listItems (ClX.pin_at I) rfl ?_)
    rw [hacc, repr_fold]
    refine wpAny_bind (wpAny_pure ?_)
    have hall : done.map (·.1) = ts := by rw [hdone, hin, ← rv.length, ← hlen, List.take_length]
    rw [hall]
    refine wpAny_bind (wpAny_mkStr (wpAny_pure ?_) hsz3)
    exact hR _ _ _ sm ((ClX.unpin I).tok _)
  | succ n ih =>
    intro i H1 s acc c done sm ea hk hi I hacc hdone
    have hlt : i < vs.length := by omega
    obtain ⟨_, its, nn, rv, ho⟩ := (show ObjOk X.prog X.w H1 s.heap a (.lst vs) from I.hok a _ ea)
    have hlt' : i < its.length := by rw [← rv.length]; exact hlt
    obtain ⟨t, ht, hit⟩ := hT i vs[i] (by simp [hlt])
    obtain ⟨u, hu, ru⟩ := rv.get (i := i) (x := vs[i]) (by simp [hlt])
    have hp1 := piled_take_succ ht
    have hp2 := piled_take_le ts (i + 1)
    refine codeAny_builtin PySem.F.entry_list_repr_loop ?_
    show wpAny _ _ («list.__repr__.loop» ⟨[.ref a, .int i 0, .ref P, .int ((base + piled (ts.take i) : Nat) : Int) 0], []⟩) _ _ s
    rw [repr_loop_tree]
    refine wpAny_bind (wpAny_listItems ho rfl ?_)
    have hsome : its.toArray[(i : Int).toNat]? = some u := by
      rw [Int.toNat_natCast, List.getElem?_toArray]
      exact hu
    simp only [hsome]
    rw [Int.toNat_natCast]
    have go : ∀ H2 s', Same H1 H2 → Inv X (pL P acc c :: pins) σ H2 s' → wpAny (model X.prog X.w) (A.under (.builtin "list.__repr__.loop" ⟨[.ref a, .int i 0, .ref P, .int ((base + piled (ts.take i) : Nat) : Int) 0], []⟩)) (do
        let signs := base + piled (ts.take i) + (t.length + 2)
        let r ← mkStr t
        listUpdate (.ref P) (·.push r)
        again (.builtin "list.__repr__.loop" ⟨[.ref a, rawInt ((i : Int) + 1), .ref P, rawInt signs], []⟩))
        (fun fin s' => match fin with | .done fl => R (.ok fl) s' | .again c' => c'.quiet = true ∧ codeAny (model X.prog X.w) A c' R s') (fun e s' => R (.error e) s') s' := fun H2 s' sm2 I' => by
      refine wpAny_bind (wpAny_mkStr ?_ (hsz2 t (List.mem_of_getElem? ht)))
      refine wpAny_bind ?_
      show wpAny _ _ (updateSeq P _) _ _ _
      have hasz : acc.size ≤ sizeLine := by
        have e1 : acc.toList.length = acc.size := by simp
        have e2 : (strValues done).length = done.length := by simp [strValues]
        have e3 : done.length = (ts.take i).length := by rw [← hdone, List.length_map]
        have e4 : (ts.take i).length ≤ i := by rw [List.length_take]; omega
        rw [hacc] at e1; omega
      refine wpAny_updateSeq (ClX.pin_at I') rfl (wpAny_pure ⟨PySem.F.quiet_list_repr_loop _, ?_⟩) hasz
      have e1 : ((i : Int) + 1) = ((i + 1 : Nat) : Int) := by omega
      have e2 : base + piled (ts.take i) + (t.length + 2) = base + piled (ts.take (i + 1)) := by omega
      rw [e1, e2]
      refine ih (i + 1) H2 _ (acc.push (.str t s'.toks)) _ (done ++ [(t, s'.toks)]) (sm.trans sm2) (sm2 _ _ ea) (by omega) hlt (pin_push (I'.tok (s'.toks + 1)) h1 h2 h3 (fun b o hne e => (Heap.get?_update_other _ _ (fun h : P = b => hne h.symm)).trans e) (Heap.get?_update_self _ (ClX.pin_at I') rfl)) (by simp [hacc, strValues]) (by simp [List.take_add_one, ht, hdone])
    refine wpAny_bind (wpAny_holding (hit H1 sm _ _ _ _ _ _ u (by omega) ru I fun H2 s' sm2 I' => ?_))
    exact go H2 s' sm2 I'
theorem under_ownB (hs : PySem.W.findIn X.K (.ref C) "__repr__" = some (some (.ref f))) (hf : PySem.W.isFn X.K (.ref f) = true) (F : FnH X.prog X.w X.K X.mg X.base CX0 k f fd ps sp) (hb : Binds X.K fd ps []) {A : Around} {s : Shared} {E : Value → Shared → Prop} (hr : RoomH k A) (hot : Hot1 A p) (hp : p ∈ X.pn)
    (e0 : Env0 X.prog X.w X.K X.mg X.base A X.stack s H) (I : Inv X pins σ H s) {a dx : Addr} {fs : List (Str × V)} {t : Str} {base : Nat} {Q : Str → Shared → Prop} (ha : H a = some (.ins C dx fs)) (hq : ∀ Q : VK, (∀ H', Same H H' → Q (.str t) H') → sp [.ref a] H Q E0) (hz : base ≤ sizeLine)
    (h : ∀ H' s', Same H H' → Inv X pins σ H' s' → Q t s') : wpAny (model X.prog X.w) A (pyReprUnder base (.ref a)) Q E s := by
  obtain ⟨mA, oa, _⟩ := ins_get I.hok ha
  obtain ⟨od, J, _⟩ := oa.look
  have q := hq (fun v H' => v = .str t ∧ Same H H') fun H' s' => ⟨rfl, s'⟩
  have hl : ([Value.ref a] ++ []).length = ps.length := by
    rw [← F.len _ _ _ _ q]
    rfl
  have P1 := I.pin p (List.mem_append_left _ hp)
  have hpin : PinOk X.stack H s p := ⟨P1.1, P1.2.1, fun hm => (List.mem_cons.mp (I.stkSub p.1 hm)).elim P1.2.2.1 P1.2.2.2.1, P1.2.2.2.2⟩
  refine wpAny_pyReprUnder_ref hz ?_
  unfold pyReprObjUnder pyReprObjBy
  refine wpAny_bind (wpAny_cRoomFor (by have := hr.un; omega) ?_)
  refine wpAny_bind (wpAny_bind (J.type.here ((PySem.W.looks_findIn I.kIn hs).here ?_)))
  show wpAny _ _ (if (some (Value.ref f)).isNone = true then _ else _) _ _ _
  rw [if_neg (by simp)]
  refine wpAny_bind (ifBoundBy_K I.kIn J hs hf ?_)
  show wpAny _ _ (call (.ref f) [.ref a]) _ _ _
  refine wpAny_call (codeAny_mono (F.run A X.stack s H ⟨[.ref a], []⟩ [.ref a] [.ref a] _ E0 p hr hot hpin e0 (hb s [.ref a] I.kIn hl) (.cons rfl .nil) q) fun r s' hq => ?_)
  match r, hq with
  | .ok (.ret u), hq =>
    obtain ⟨v, H', I3, rv, ev, eH⟩ := I.after hq
    subst ev
    obtain ⟨tk, e⟩ := rv
    subst e
    exact wpAny_bind (wpAny_isInstance (T := "str") (b := true) rfl isSubtype_str_str (wpAny_pure ⟨_, _, rfl, h _ s' eH I3⟩))
  | .ok .next, hq => exact False.elim hq
  | .ok .brk, hq => exact False.elim hq
  | .ok .cont, hq => exact False.elim hq
  | .error e, hq => exact False.elim hq
theorem itB_one (hs : PySem.W.findIn X.K (.ref C) "__repr__" = some (some (.ref f))) (hf : PySem.W.isFn X.K (.ref f) = true) (F : FnH X.prog X.w X.K X.mg X.base CX0 k f fd ps sp) (hb : Binds X.K fd ps []) {A : Around} (hr : RoomH (k + 1) A) (hot : Hot1 A p) (hp : p ∈ X.pn)
    (e0 : ∀ (pins : List (Addr × Obj)) s H', Inv X pins σ H' s → Env0 X.prog X.w X.K X.mg X.base A X.stack s H') {a : Addr} {v : V} {t : Str} (h : ShO C sp H v t) : ∀ H', Same H H' → ItB X σ H' A a v t := by
  intro H1 sm rest pins base E s Q u hz ru I q
  obtain ⟨b, dx, fs, rfl, eb, hq⟩ := h
  obtain rfl : u = Value.ref b := ru
  exact under_ownB hs hf F hb (RoomH.loop hr _) (hot.loop _) hp (Env0.loop (e0 _ s _ I) _) I (sm _ _ eb) (hq H1 sm) (by omega) q
/-- repr(xs), xs a list of whole numbers, truth values, own objects -/
def rReprB (C : Addr) (sp : Sp) : List V → Hp → VK → Prop := fun xs H Q => ∃ a vs ts, xs = [.ref a] ∧ H a = some (.lst vs) ∧ vs ≠ [] ∧ ts.length = vs.length ∧ (∀ (i : Nat) (v : V), vs[i]? = some v → ∃ t, ts[i]? = some t ∧ ShO C sp H v t) ∧
  (listText ts).length ≤ sizeLine ∧ ∀ H', Same H H' → Q (.str (listText ts)) H'
theorem call_reprB (hs : PySem.W.findIn X.K (.ref C) "__repr__" = some (some (.ref f))) (hf : PySem.W.isFn X.K (.ref f) = true) (F : FnH X.prog X.w X.K X.mg X.base CX0 k f fd ps sp) (hb : Binds X.K fd ps []) (hr : RoomH (k + 3) X.A) (hg : X.A.guards = some []) (hc : HotC X) :
    CallR X (.builtin "repr") (rReprB C sp) := by
  intro pins s σ H xs us Q I r h
  obtain ⟨p, hot, hp⟩ := hc
  obtain ⟨a, vs, ts, rfl, ea, hne, hlen, hT, hsz, q⟩ := h
  obtain ⟨u, rfl, rx⟩ := vals1 r
  cases (show u = Value.ref a from rx)
  obtain ⟨_, its, nn, rv, ho⟩ := (show ObjOk X.prog X.w H s.heap a (.lst vs) from I.hok a _ ea)
  cases rv with
  | nil => exact absurd rfl hne
  | cons r1 r2 =>
    rename_i v vs x l
    refine call_repr_slot (by have := hr.un; show X.A.units + 1 < cLine; omega) ⟨_, ho, rfl⟩ PySem.F.slot_list_repr.toG ?_
    refine wpAny_call (codeAny_call_builtin PySem.F.slot_list_repr.plain PySem.F.entry_list_repr (PySem.F.slot_list_repr.check _ _ _ _ _ _ _ _ ⟨_, ho, rfl⟩ (PySem.F.args_list_repr_1 _) ?_))
    refine wpAny_list_repr_head (g := []) hg (fun v rest kw hm => nomatch hm) ho rfl ?_
    refine wpAny_bind (m := newList []) (wpAny_newObj_type ?_)
    refine wpAny_pure ⟨PySem.F.quiet_list_repr_loop _, ?_⟩
    refine loopB (A := X.A.in1) (P := s.heap.objs.size) (base := 0) (H := H) hlen (fun i w hw => ?_) (by omega) (.inr I.sz) (fun x c e z => ?_) (fun p hp z => ?_) (fun H1 s' u sm I' => ?_) _ 0 H _ #[] _ [] (fun _ _ e => e) ea rfl (Nat.zero_le _) (ClX.pin_new I (fun b o e => Heap.get?_push_of_some _ e) (Nat.le_refl _) (Heap.get?_push_size _ rfl) (fun v z => nomatch z)) rfl (by simp)
    · obtain ⟨t', ht', hs'⟩ := hT i w hw
      exact ⟨t', ht', itB_one hs hf F hb (RoomH.mono hr.in1 (by omega)) hot.in1 hp (fun pins s H' I => I.env0.in1) hs'⟩
    · obtain ⟨v, o, hc, _⟩ := I.cell x c e
      rw [z] at hc
      exact absurd (Heap.lt_size hc) (Nat.lt_irrefl _)
    · have e := (I.pin p hp).1
      rw [z] at e
      exact absurd (Heap.lt_size e) (Nat.lt_irrefl _)
    · exact ⟨_, _, rfl, .str _, H1, I', ⟨u, rfl⟩, q H1 sm⟩
end
end L2H

set_option maxHeartbeats 4000000
set_option exponentiation.threshold 3000
namespace K71
open PySem PySem.Spec PyProof.Rows L2 L2H RtL ErL StX
section
variable {P : Program} {w : World} {K : Fr} {mg : Str → Option Value} {base : Heap} {f : Addr} {fd : FuncData}
theorem ok_srXN (F : FunD K "sign_runs" "sign_runs" (defArgs sSr) (defBody sSr) (defScope sSr) [] [] f fd) (T : TT K mg) (G : S1G P w K mg base) (C : CoefG P w K mg base) : FnOk P w K mg base (L2N.CX P w) 6 f fd ["polynomial"] (spSrX K) := by
  obtain ⟨fG, dG, GG⟩ := G
  obtain ⟨dC, oC, bC⟩ := C
  refine F.ok scSr (fun vs H Q E h => ?_) (fun cdv A outer s H vs Q E hr h => ?_)
  · obtain ⟨v, rfl, _⟩ := h
    rfl
  · obtain ⟨v, rfl, ho, r⟩ := h
    obtain ⟨c, ty, kt⟩ := isi_oddP T ho
    refine ⟨_, (pss_cons (ps_if (pt_not (pt_val (pe_callB call_isi (by rfl) T.fre (by decide +kernel) (pa_cons (pv 0) (pa_cons (pe_glob (v := .ref (PC K)) (by rfl) (T.gl "Polynomial" (by decide)) rfl) pa_nil))))) (pss_one (L2N.ps_raise rfl (L2N.takes_of rfl rfl rfl rfl) (pmk_er1N T.ep.cl T.ip1 bd1_value hr (by rfl) (T.gl "InvalidPolynomial" (by decide)) (raises_own T.ep.be T.ep.tc) (pa_cons (pv 0) pa_nil)))) pss_nil)
      (pss_one (ps_ret (pe_gd GG hr (by rfl) (pa_cons (pe_meth0 (pv 0) T.clP T.coef oC (hr.mono (by decide)) bC .nil pass0) pa_nil))))), ?_⟩
    exact ⟨_, rfl, _, _, _, _, false, rfl, .own _, ty, kt, false, rfl, iteT ⟨_, rfl, v, rfl, fun d nd => r d _ (same_new nd) upd_same⟩⟩
abbrev rRepU (K : Fr) : List V → Hp → VK → Prop := fun xs H Q => rRepr0 xs H Q ∨ (rReprW xs H Q ∨ rReprB (PC K) (spTxt K repT) xs H Q)
abbrev RepG (P : Program) (w : World) (K : Fr) (mg : Str → Option Value) (base : Heap) : Prop := ∃ d, FnH P w K mg base CX0 2 (pm K "__repr__") d ["self"] (spTxt K repT) ∧ Binds K d ["self"] []
abbrev SrXG (P : Program) (w : World) (K : Fr) (mg : Str → Option Value) (base : Heap) : Prop := ∃ f d, FnOk P w K mg base (L2N.CX P w) 6 f d ["polynomial"] (spSrX K) ∧ mg "sign_runs" = some (.ref f) ∧ PySem.W.keepIn K (.ref f) = true ∧ Binds K d ["polynomial"] []
/-- v is shown as z -/
def Rp (K : Fr) (H : Hp) (v : V) (z : Str) : Prop := ∀ H' (Q : VK), Same H H' → (∀ H'', Same H' H'' → Q (.str z) H'') → rRepU K [v] H' Q
abbrev sRf : Stmt := top 34
abbrev NRf : List Str := ["_law_value", "e"]
theorem scRf : FnScope NRf ["_law_value"] (defScope sRf) := ⟨rfl, rfl, rfl, by decide +kernel, rfl, by decide +kernel, by decide +kernel⟩
def spRf (K : Fr) : SpG := fun vs H Q => ∃ v z, vs = [v] ∧ OddP H v ∧ Rp K H v z ∧ ∀ H', Same H H' → Q (.bl true) H'
theorem ok_rf (F : FunD K "_law_refused" "_law_refused" (defArgs sRf) (defBody sRf) (defScope sRf) [] [] f fd) (T : TT K mg) (S : SrXG P w K mg base) (R : RepG P w K mg base) : FnG P w K mg base 8 f fd ["_law_value"] (spRf K) := by
  obtain ⟨fS, dS, oS, gS, kS, bS⟩ := S
  obtain ⟨dR, oR, bR⟩ := R
  have gP := T.gl "InvalidPolynomial" (by decide)
  refine fnG_D F scRf (fun vs H Q h => ?_) (fun cdv A outer s H vs Q hr hG h => ?_)
  · obtain ⟨v, z, rfl, _⟩ := h
    rfl
  · obtain ⟨v, z, rfl, ho, hz, q⟩ := h
    have hu : (A.deeper (envOfC "_law_refused" (defScope sRf) s.heap.objs.size f cdv)).units + 70 < cLine := by have := hr.un; omega
    have hrH := roomH_of hr
    refine ⟨_, PSs.nox (pss_cons (L2N.ps_try_as (i := 1) (tb := fun W => tDrop (tCallS (spSrX K) (WE W) (tCons (tVar 0) tNil)))
          (ts := fun a cls d => tRet (tOp rEq (tCB (rRepU K) (tCons (tBy1 (IP K) "value" a cls d (tVar 1)) tNil)) (tCB (rRepU K) (tCons (tVar 0) tNil)))) (Wout := fun _ _ _ _ => False) rfl rfl scRf.nd rfl rfl ⟨rfl, by decide, .inl gP⟩ takes0N
        (fun W pn xe tk _ => pss_one (ps_expr (pe_callS oS (hr.mono (show 6 ≤ 7 by decide)) (by rfl) gS kS bS (fun σ => L2N.passAt tk σ) (pa_cons (pv 0) pa_nil))))
        (fun a oe cls d pn hz hf => ?_))
      (pss_one (ps_ret pe_bl))), ?_⟩
    · obtain ⟨vs0, hf0⟩ := id hf
      have hc : HotC ((cxOf CX0 P w K mg base NRf "_law_refused" (defScope sRf) f cdv A outer s H E0).suite a ((a, oe) :: pn)) := ⟨(a, oe), ⟨rfl, vs0, hf0, hz.2.2 vs0 hf0⟩, List.mem_cons_self⟩
      have hrS : RoomH 5 ((cxOf CX0 P w K mg base NRf "_law_refused" (defScope sRf) f cdv A outer s H E0).suite a ((a, oe) :: pn)).A := ⟨(hrH.mono (show 5 ≤ 7 by decide)).dp, (hrH.mono (show 5 ≤ 7 by decide)).un⟩
      exact pss_one (ps_ret (pe_cmpR op_eq (pe_callB (call_or call_repr0 (call_or (call_reprW hu hG T.sys) (call_reprB T.rep.1 T.rep.2 oR bR hrS hG hc))) (by rfl) T.fre (by decide +kernel) (pa_cons (pe_by1 T.ep.ask T.ep.va hz.zc hf (pv 1)) pa_nil))
          (pe_callB (call_or call_repr0 (call_or (call_reprW hu hG T.sys) (call_reprB T.rep.1 T.rep.2 oR bR hrS hG hc))) (by rfl) T.fre (by decide +kernel) (pa_cons (pv 0) pa_nil)) (nomark _)))
    refine ⟨v, rfl, v, rfl, ho, fun dd H1 s1 e1 => ⟨true, T.ep.ex, fun _ a na => ?_, fun z => nomatch z⟩⟩
    refine ⟨_, rfl, rfl, rfl, dd, v, rfl, e1, hz H1 _ s1 fun H2 s2 => ⟨v, rfl, hz H2 _ (s1.trans s2) fun H3 s3 => ?_⟩⟩
    refine ⟨rfl, ?_⟩
    rw [decide_eq_true rfl]
    exact q H3 ((s1.trans s2).trans s3)
end
end K71

set_option maxHeartbeats 4000000
set_option exponentiation.threshold 3000
namespace K71
open PySem PySem.Spec PyProof.Rows L2 RtL ErL StX
open SgM (wat sg Cov bld IsRuns)
/-! ### factors -/
abbrev Fac := Int × Int × Bool
abbrev fT (f : Fac) : List V := [.int f.1, .int f.2.1, .bl f.2.2]
def FL (H : Hp) : List V → List Fac → Prop
  | [], [] => True
  | v :: vs, p :: ps => (∃ r, v = .ref r ∧ H r = some (.tup (fT p))) ∧ FL H vs ps
  | _, _ => False
theorem FL.imp {H H' : Hp} (k : ∀ r f, H r = some (.tup (fT f)) → H' r = some (.tup (fT f))) : ∀ {vs : List V} {fs : List Fac}, FL H vs fs → FL H' vs fs
  | [], [], _ => trivial
  | _ :: _, _ :: _, ⟨⟨r, e, h⟩, h'⟩ => ⟨⟨r, e, k _ _ h⟩, h'.imp k⟩
theorem FL.same {H H' : Hp} {vs : List V} {fs : List Fac} (h : FL H vs fs) (s : Same H H') : FL H' vs fs := h.imp fun _ _ e => s _ _ e
theorem FL.but {p : Addr} {H H' : Hp} {vs : List V} {fs : List Fac} (h : FL H vs fs) (hp : PotAt H p) (s : But p H H') : FL H' vs fs := h.imp fun _ _ e => s _ _ e (hp.nt e)
theorem FL.updL {H : Hp} {l : Addr} {xs : List V} {o : HO} {vs : List V} {fs : List Fac} (h : FL H vs fs) (hl : H l = some (.lst xs)) : FL (upd H l o) vs fs := h.imp fun r f e => by
  rw [upd_ne (show r ≠ l from fun z => by rw [z, hl] at e; cases e)]
  exact e
theorem FL.len {H : Hp} : ∀ {vs : List V} {fs : List Fac}, FL H vs fs → vs.length = fs.length
  | [], [], _ => rfl
  | _ :: _, _ :: _, ⟨_, h⟩ => congrArg Nat.succ h.len
theorem FL.app {H : Hp} : ∀ {vs ws : List V} {fs gs : List Fac}, FL H vs fs → FL H ws gs → FL H (vs ++ ws) (fs ++ gs)
  | [], _, [], _, _, h => h
  | _ :: _, _, _ :: _, _, ⟨h, h'⟩, g => ⟨h, h'.app g⟩
theorem FL.get {H : Hp} : ∀ {us : List V} {fs : List Fac} {i : Nat} {v : V}, FL H us fs → us[i]? = some v → ∃ r f, v = .ref r ∧ fs[i]? = some f ∧ H r = some (.tup (fT f))
  | _ :: _, f :: _, 0, v, ⟨⟨r, e, h⟩, _⟩, hi => ⟨r, f, by rw [← e]; exact (Option.some.inj hi).symm, rfl, h⟩
  | _ :: _, _ :: _, i + 1, v, ⟨_, h'⟩, hi => FL.get (i := i) h' hi
theorem FL.one {H : Hp} {r : Addr} {f : Fac} (h : H r = some (.tup (fT f))) : FL H [.ref r] [f] := ⟨⟨r, rfl, h⟩, trivial⟩
def FOw (m n : Nat) (f : Fac) : Prop := 1 ≤ f.1 ∧ f.1 ≤ 41 ∧ f.2.1.natAbs ≤ 2 ^ m + 50 * n ∧ (f.2.2 = true → 1 ≤ f.2.1)
abbrev FOk (n : Nat) (f : Fac) : Prop := FOw 67 n f
theorem FOw.up {m m' n n' : Nat} {f : Fac} (h : FOw m n f) (hm : m ≤ m') (hn : n ≤ n') : FOw m' n' f := ⟨h.1, h.2.1, by
  have := h.2.2.1
  have p := Nat.pow_le_pow_right (show 0 < 2 by decide) hm
  omega, h.2.2.2⟩
def GOk (m : Nat) (g : Int) : Prop := (m = 67 ∧ g = 1000000000) ∨ (m = 27 ∧ g = 1000)
section
variable {P : Program} {w : World} {K : Fr} {mg : Str → Option Value} {base : Heap} {f : Addr} {fd : FuncData}
abbrev sFa : Stmt := top 29
abbrev NFa : List Str := ["_law_rng_here", "_law_others", "_law_great", "_law_a", "_law_near", "_law_far", "_law_b", "_law_some", "_law_one"]
theorem scFa : FnScope NFa ["_law_rng_here", "_law_others", "_law_great"] (defScope sFa) := ⟨rfl, rfl, rfl, by decide +kernel, rfl, by decide +kernel, by decide +kernel⟩
def spFa (K : Fr) : Sp := fun vs H Q _ => ∃ (p l : Addr) (g : Int) (us : List V) (fs : List Fac) (m n : Nat), vs = [.ref p, .ref l, .int g] ∧ PotAt H p ∧ H l = some (.lst us) ∧ l ≠ p ∧ FL H us fs ∧ (∀ f ∈ fs, FOw m n f) ∧ fs.length ≤ 5 ∧ GOk m g ∧
  ∀ r f H', PotAt H' p → But p H H' → H' r = some (.tup (fT f)) → FOw m (n + 1) f → Q (.ref r) H'
theorem ok_fa (F : FunD K "_law_factor" "_law_factor" (defArgs sFa) (defBody sFa) (defScope sFa) [] [] f fd) (T : TT K mg) (D : DrawG P w K mg base) (C : PickG P w K mg base) : FnOk P w K mg base CX0 3 f fd ["_law_rng_here", "_law_others", "_law_great"] (spFa K) := by
  obtain ⟨fD, dD, GD⟩ := D
  obtain ⟨fC, dC, GC⟩ := C
  refine F.ok scFa (fun vs H Q E h => ?_) (fun cdv A outer s H vs Q E hr h => ?_)
  · obtain ⟨p, l, g, us, fs, m, n, rfl, _⟩ := h
    rfl
  · obtain ⟨p, l, g, us, fs, m, n, rfl, hp, hl, ne, hF, hO, h5, gO, q⟩ := h
    have g0 : 0 < g := by rcases gO with ⟨_, rfl⟩ | ⟨_, rfl⟩ <;> decide
    have g1 : g ≤ 1000000000 := by rcases gO with ⟨_, rfl⟩ | ⟨_, rfl⟩ <;> decide
    obtain ⟨e, em, hP, he62, hfar⟩ : ∃ e : Nat, m = 6 + e ∧ 2 ^ 26 ≤ 2 ^ m ∧ e ≤ 62 ∧ ∀ d3 d4 : Int, 0 ≤ d3 → d3 < g → 0 ≤ d4 → d4 < 7 → Bd e (d3 * (g + d4)) := by
      rcases gO with ⟨rfl, rfl⟩ | ⟨rfl, rfl⟩
      · refine ⟨61, rfl, by decide, by decide, fun d3 d4 a b c d => ?_⟩
        have f0 : 0 ≤ d3 * (1000000000 + d4) := Int.mul_nonneg a (by omega)
        have f1 : d3 * (1000000000 + d4) ≤ 1000000000 * 1000000007 := Int.mul_le_mul (by omega) (by omega) (by omega) (by decide)
        show (d3 * (1000000000 + d4)).natAbs < 2 ^ 61
        omega
      · refine ⟨21, rfl, by decide, by decide, fun d3 d4 a b c d => ?_⟩
        have f0 : 0 ≤ d3 * (1000 + d4) := Int.mul_nonneg a (by omega)
        have f1 : d3 * (1000 + d4) ≤ 1000 * 1007 := Int.mul_le_mul (by omega) (by omega) (by omega) (by decide)
        show (d3 * (1000 + d4)).natAbs < 2 ^ 21
        omega
    refine ⟨_, PSs.nox (pss_cons (ps_set (i := 3) scFa.nd rfl (Or.inl rfl) (pe_gd GC hr (by rfl) (pa_cons (pv 0) (pa_cons (pe_lst (pa_cons pe_int (pa_cons pe_int (pa_cons pe_int (pa_cons pe_int (pa_cons pe_int (pa_cons (pe_op op_add pe_int (pe_gd GD (hr.mono (by decide)) (by rfl) (pa_cons (pv 0) (pa_cons pe_int pa_nil)))) pa_nil))))))) pa_nil))))
      (pss_cons (ps_par (i := 4) (j := 5) rfl scFa.nd rfl rfl (by decide) rfl rfl (pa_cons (pe_op op_sub (pe_gd GD (hr.mono (by decide)) (by rfl) (pa_cons (pv 0) (pa_cons pe_int pa_nil))) pe_int)
        (pa_cons (pe_op op_mulW (pe_gd GD (hr.mono (by decide)) (by rfl) (pa_cons (pv 0) (pa_cons (pv 2) pa_nil))) (pe_op op_add (pv 2) (pe_gd GD (hr.mono (by decide)) (by rfl) (pa_cons (pv 0) (pa_cons pe_int pa_nil))))) pa_nil)) (by rfl))
      (pss_cons (ps_set (i := 6) scFa.nd rfl (Or.inl rfl) (pe_gd GC hr (by rfl) (pa_cons (pv 0) (pa_cons (pe_lst (pa_cons (pv 4) (pa_cons (pv 4) (pa_cons (pe_op op_mulW (pv 3) (pv 4)) (pa_cons (pv 5) (pa_cons (pe_op op_add (pe_op op_mulW (pv 3) (pv 5)) pe_int) (pa_cons (pe_un un_neg (pv 5)) pa_nil))))))) pa_nil))))
      (pss_cons (ps_set (i := 7) scFa.nd rfl (Or.inl rfl) (pe_lst (pa_cons (pe_tup (pa_cons (pv 3) (pa_cons (pv 6) (pa_cons pe_bl pa_nil)))) (pa_cons (pe_tup (pa_cons (pv 3) (pa_cons (pv 6) (pa_cons pe_bl pa_nil)))) (pa_cons (pe_tup (pa_cons (pv 3) (pa_cons (pv 6) (pa_cons pe_bl pa_nil))))
        (pa_cons (pe_tup (pa_cons (pv 3) (pa_cons (pe_op op_add pe_int (pe_callB call_abs (by rfl) T.fre (by decide +kernel) (pa_cons (pv 4) pa_nil))) (pa_cons pe_bl pa_nil)))) pa_nil))))))
      (pss_cons (ps_for PassesOwn.never rfl (pi_list (pv 1)) (pg_name (i := 8) scFa.nd rfl (Or.inl rfl))
        (pss_one (ps_set (i := 7) scFa.nd rfl (Or.inl rfl) (pe_op op_cat (pv 7) (pe_lst (pa_cons (pv 8)
          (pa_cons (pe_tup (pa_cons (pe_ix ix_tup (pv 8) pe_int (fun _ _ => rfl)) (pa_cons (pe_op op_add (pe_ix ix_tup (pv 8) pe_int (fun _ _ => rfl)) pe_int) (pa_cons (pe_ix ix_tup (pv 8) pe_int (fun _ _ => rfl)) pa_nil))))
          (pa_cons (pe_tup (pa_cons (pe_ix ix_tup (pv 8) pe_int (fun _ _ => rfl)) (pa_cons (pe_op op_add (pe_ix ix_tup (pv 8) pe_int (fun _ _ => rfl)) (pe_ix ix_tup (pv 8) pe_int (fun _ _ => rfl))) (pa_cons (pe_ix ix_tup (pv 8) pe_int (fun _ _ => rfl)) pa_nil)))) pa_nil))))))))
      (pss_one (ps_ret (pe_gd GC hr (by rfl) (pa_cons (pv 0) (pa_cons (pv 7) pa_nil)))))))))), ?_⟩
    have lz : 10000 ≤ sizeLine := by rw [sizeLine_eq]; decide
    refine ⟨_, rfl, _, rfl, p, 40, rfl, hp, by decide, by decide, fun d1 H1 d10 d11 hp1 b1 => ⟨_, _, rfl, rfl, by show 6 ≤ sizeLine; omega, fun la nla => ?_⟩⟩
    refine ⟨p, la, _, rfl, hp1.same (same_new nla), upd_same, hp1.ne nla, Nat.succ_pos _, by show 6 < 1000; decide, fun i v H2 hi hp2 b2 => ?_⟩
    obtain ⟨a, rfl, a0, a1⟩ : ∃ a : Int, v = .int a ∧ 1 ≤ a ∧ a ≤ 41 := by
      match i, hi with
      | 0, hi => cases hi; exact ⟨1, rfl, by decide, by decide⟩
      | 1, hi => cases hi; exact ⟨1, rfl, by decide, by decide⟩
      | 2, hi => cases hi; exact ⟨1, rfl, by decide, by decide⟩
      | 3, hi => cases hi; exact ⟨2, rfl, by decide, by decide⟩
      | 4, hi => cases hi; exact ⟨3, rfl, by decide, by decide⟩
      | 5, hi => cases hi; exact ⟨_, rfl, by omega, by omega⟩
      | n + 6, hi => cases hi
    have bB : But p H H2 := b1.trans ((But.of (same_new nla)).trans b2)
    have gB : Bd 100 g := Nat.lt_trans (show g.natAbs < 2 ^ 30 by omega) (by decide)
    refine ⟨_, rfl, p, 30, rfl, hp2, by decide, by decide, fun d2 H3 d20 d21 hp3 b3 => ⟨_, _, rfl, rfl, _, rfl, _, rfl, p, g, rfl, hp3, g0, gB, fun d3 H4 d30 d31 hp4 b4 => ?_⟩⟩
    refine ⟨_, rfl, _, rfl, p, 7, rfl, hp4, by decide, by decide, fun d4 H5 d40 d41 hp5 b5 => ?_⟩
    have bd3 : Bd 30 d3 := show d3.natAbs < 2 ^ 30 by omega
    have bd4 : Bd 31 (g + d4) := show (g + d4).natAbs < 2 ^ 31 by omega
    refine ⟨_, _, rfl, rfl, _, _, rfl, rfl, cmW bd3 bd4, _, _, rfl, ?_⟩
    have n0 : -6 ≤ d2 - 6 ∧ d2 - 6 ≤ 24 := by omega
    have bn : Bd 6 (d2 - 6) := show (d2 - 6).natAbs < 2 ^ 6 by omega
    have ba : Bd 6 a := show a.natAbs < 2 ^ 6 by omega
    have bf : Bd e (d3 * (g + d4)) := hfar d3 d4 d30 d31 d40 d41
    refine ⟨_, rfl, _, rfl, _, rfl, _, rfl, _, rfl, _, _, rfl, rfl, cmW ba bn, ?_⟩
    refine ⟨_, rfl, _, rfl, _, rfl, _, _, rfl, rfl, cmW ba (bd_up bf he62), _, _, rfl, rfl, _, rfl, _, rfl, by show 6 ≤ sizeLine; omega, fun lb nlb => ?_⟩
    refine ⟨p, lb, _, rfl, hp5.same (same_new nlb), upd_same, hp5.ne nlb, Nat.succ_pos _, by show 6 < 1000; decide, fun i v H6 hi hp6 b6 => ?_⟩
    obtain ⟨b, rfl, bb⟩ : ∃ b : Int, v = .int b ∧ b.natAbs ≤ 2 ^ m := by
      have x1 : (a * (d2 - 6)).natAbs < 2 ^ 12 := bd_mul ba bn
      have x2 : (a * (d3 * (g + d4))).natAbs < 2 ^ m := by rw [em]; exact bd_mul ba bf
      have x3 : (d3 * (g + d4)).natAbs < 2 ^ m := Nat.lt_of_lt_of_le bf (Nat.pow_le_pow_right (by decide) (by omega))
      generalize 2 ^ m = M at *
      match i, hi with
      | 0, hi => cases hi; exact ⟨_, rfl, by omega⟩
      | 1, hi => cases hi; exact ⟨_, rfl, by omega⟩
      | 2, hi => cases hi; exact ⟨_, rfl, by omega⟩
      | 3, hi => cases hi; exact ⟨_, rfl, by omega⟩
      | 4, hi => cases hi; exact ⟨_, rfl, by omega⟩
      | 5, hi => cases hi; exact ⟨_, rfl, by omega⟩
      | n + 6, hi => cases hi
    have bC : But p H H6 := bB.trans (b3.trans (b4.trans (b5.trans ((But.of (same_new nlb)).trans b6))))
    refine ⟨_, rfl, _, rfl, by show 3 ≤ sizeLine; omega, fun t1 nt1 => ?_⟩
    refine ⟨_, rfl, _, rfl, by show 3 ≤ sizeLine; omega, fun t2 nt2 => ?_⟩
    refine ⟨_, rfl, _, rfl, by show 3 ≤ sizeLine; omega, fun t3 nt3 => ?_⟩
    refine ⟨_, rfl, _, rfl, _, rfl, _, _, rfl, rfl, by show 3 ≤ sizeLine; omega, fun t4 nt4 => ⟨by show 4 ≤ sizeLine; omega, fun l1 nl1 => ?_⟩⟩
    obtain ⟨c, hc, c0, c1⟩ : ∃ c : Int, (1 : Int) + (if d2 - 6 < 0 then -(d2 - 6) else d2 - 6) = c ∧ 1 ≤ c ∧ c ≤ 30 := ⟨_, rfl, by split <;> omega, by split <;> omega⟩
    have sA : Same H6 (upd (upd (upd (upd H6 t1 (.tup [.int a, .int b, .bl false])) t2 (.tup [.int a, .int b, .bl false])) t3 (.tup [.int a, .int b, .bl false])) t4 (.tup [.int a, .int c, .bl true])) :=
      (((same_new nt1).trans (same_new nt2)).trans (same_new nt3)).trans (same_new nt4)
    have e4 : (upd (upd (upd (upd H6 t1 (.tup [.int a, .int b, .bl false])) t2 (.tup [.int a, .int b, .bl false])) t3 (.tup [.int a, .int b, .bl false])) t4 (.tup [.int a, .int c, .bl true])) t4 = some (.tup (fT (a, c, true))) := upd_same
    have e1 : (upd (upd (upd (upd H6 t1 (.tup [.int a, .int b, .bl false])) t2 (.tup [.int a, .int b, .bl false])) t3 (.tup [.int a, .int b, .bl false])) t4 (.tup [.int a, .int c, .bl true])) t1 = some (.tup (fT (a, b, false))) := same_new nt4 _ _ (same_new nt3 _ _ (same_new nt2 _ _ upd_same))
    have e2 : (upd (upd (upd (upd H6 t1 (.tup [.int a, .int b, .bl false])) t2 (.tup [.int a, .int b, .bl false])) t3 (.tup [.int a, .int b, .bl false])) t4 (.tup [.int a, .int c, .bl true])) t2 = some (.tup (fT (a, b, false))) := same_new nt4 _ _ (same_new nt3 _ _ upd_same)
    have e3 : (upd (upd (upd (upd H6 t1 (.tup [.int a, .int b, .bl false])) t2 (.tup [.int a, .int b, .bl false])) t3 (.tup [.int a, .int b, .bl false])) t4 (.tup [.int a, .int c, .bl true])) t3 = some (.tup (fT (a, b, false))) := same_new nt4 _ _ upd_same
    have nl1' : (upd (upd (upd (upd H6 t1 (.tup [.int a, .int b, .bl false])) t2 (.tup [.int a, .int b, .bl false])) t3 (.tup [.int a, .int b, .bl false])) t4 (.tup [.int a, .int c, .bl true])) l1 = none := by rw [← hc]; exact nl1
    have hH : upd (upd (upd (upd (upd H6 t1 (.tup [.int a, .int b, .bl false])) t2 (.tup [.int a, .int b, .bl false])) t3 (.tup [.int a, .int b, .bl false])) t4 (.tup [.int a, .int (1 + (if d2 - 6 < 0 then -(d2 - 6) else d2 - 6)), .bl true])) l1 (.lst [.ref t1, .ref t2, .ref t3, .ref t4]) =
      upd (upd (upd (upd (upd H6 t1 (.tup [.int a, .int b, .bl false])) t2 (.tup [.int a, .int b, .bl false])) t3 (.tup [.int a, .int b, .bl false])) t4 (.tup [.int a, .int c, .bl true])) l1 (.lst [.ref t1, .ref t2, .ref t3, .ref t4]) := by rw [hc]
    generalize (upd (upd (upd (upd H6 t1 (.tup [.int a, .int b, .bl false])) t2 (.tup [.int a, .int b, .bl false])) t3 (.tup [.int a, .int b, .bl false])) t4 (.tup [.int a, .int c, .bl true])) = H7 at sA e1 e2 e3 e4 nl1' hH
    have sB := sA.trans (same_new (o := .lst [.ref t1, .ref t2, .ref t3, .ref t4]) nl1')
    have hp8 := hp6.same sB
    have b8 : But p H (upd H7 l1 (.lst [.ref t1, .ref t2, .ref t3, .ref t4])) := bC.trans (But.of sB)
    have hF8 : FL (upd H7 l1 (.lst [.ref t1, .ref t2, .ref t3, .ref t4])) [.ref t1, .ref t2, .ref t3, .ref t4] [(a, b, false), (a, b, false), (a, b, false), (a, c, true)] :=
      FL.same (H := H7) ⟨⟨t1, rfl, e1⟩, ⟨t2, rfl, e2⟩, ⟨t3, rfl, e3⟩, ⟨t4, rfl, e4⟩, trivial⟩ (same_new nl1')
    have nl1p : l1 ≠ p := (hp6.same sA).ne nl1'
    have o8 : ∀ f ∈ [(a, b, false), (a, b, false), (a, b, false), (a, c, true)], FOw m (n + 1) f := fun f hf => by
      simp only [List.mem_cons, List.not_mem_nil, or_false] at hf
      rcases hf with rfl | rfl | rfl | rfl
      · exact ⟨a0, a1, Nat.le_trans bb (Nat.le_add_right _ _), fun z => nomatch z⟩
      · exact ⟨a0, a1, Nat.le_trans bb (Nat.le_add_right _ _), fun z => nomatch z⟩
      · exact ⟨a0, a1, Nat.le_trans bb (Nat.le_add_right _ _), fun z => nomatch z⟩
      · exact ⟨a0, a1, by show c.natAbs ≤ 2 ^ m + 50 * (n + 1); omega, fun _ => c0⟩
    have e8 : (upd H7 l1 (.lst [.ref t1, .ref t2, .ref t3, .ref t4])) l1 = some (.lst [.ref t1, .ref t2, .ref t3, .ref t4]) := upd_same
    have l8 := b8 _ _ hl ne
    have lus := hF.len
    show tSeq _ _ _ _ (upd (upd (upd (upd (upd H6 t1 (.tup [.int a, .int b, .bl false])) t2 (.tup [.int a, .int b, .bl false])) t3 (.tup [.int a, .int b, .bl false])) t4 (.tup [.int a, .int (1 + (if d2 - 6 < 0 then -(d2 - 6) else d2 - 6)), .bl true])) l1 (.lst [.ref t1, .ref t2, .ref t3, .ref t4]))
    rw [hH]
    generalize upd H7 l1 (.lst [.ref t1, .ref t2, .ref t3, .ref t4]) = H8 at hp8 b8 hF8 e8 l8
    refine ⟨_, rfl, l, rfl, ⟨_, SqL.of l8⟩, for_list (xs := us) (fun i σ H' => PotAt H' p ∧ But p H H' ∧ ∃ (ls : Addr) (ws : List V) (gs : List Fac) (u : Option V), σ = [some (.ref p), some (.ref l), some (.int g), some (.int a), some (.int (d2 - 6)), some (.int (d3 * (g + d4))), some (.int b), some (.ref ls), u] ∧
      H' ls = some (.lst ws) ∧ ls ≠ p ∧ FL H' ws gs ∧ (∀ f ∈ gs, FOw m (n + 1) f) ∧ ws.length ≤ 4 + 3 * i ∧ 0 < ws.length) ⟨hp8, b8, l1, _, _, none, rfl, e8, nl1p, hF8, o8, Nat.le_refl _, Nat.succ_pos _⟩ (fun i σ H2 _ pv => SqL.of (pv.2.1 _ _ hl ne)) ?_ ?_⟩
    · rintro i v σ H1 hi ⟨hpx, bx, ls, ws, gs, u, rfl, els, nls, hG, hGO, hGl, hG0⟩
      obtain ⟨r, ⟨x, y, z⟩, rfl, hf, er⟩ := (hF.but hp bx).get hi
      have hi' : i < us.length := (List.getElem?_eq_some_iff.mp hi).1
      have ho := hO _ (List.mem_of_getElem? hf)
      refine ⟨_, rfl, _, rfl, _, rfl, r, _, _, _, rfl, rfl, SqT.of er, atI_nat (j := 0) rfl, ?_⟩
      refine ⟨_, rfl, r, _, _, _, rfl, rfl, SqT.of er, atI_nat (j := 1) rfl, _, _, rfl, rfl, _, rfl, r, _, _, _, rfl, rfl, SqT.of er, atI_nat (j := 2) rfl, by show 3 ≤ sizeLine; omega, fun q1 nq1 => ?_⟩
      have er1 := same_new (o := .tup [.int x, .int (y + 1), .bl z]) nq1 _ _ er
      refine ⟨_, rfl, r, _, _, _, rfl, rfl, SqT.of er1, atI_nat (j := 0) rfl, ?_⟩
      refine ⟨_, rfl, r, _, _, _, rfl, rfl, SqT.of er1, atI_nat (j := 1) rfl, _, rfl, r, _, _, _, rfl, rfl, SqT.of er1, atI_nat (j := 0) rfl, _, _, rfl, rfl, _, rfl, r, _, _, _, rfl, rfl, SqT.of er1, atI_nat (j := 2) rfl, by show 3 ≤ sizeLine; omega, fun q2 nq2 => ⟨by show 3 ≤ sizeLine; omega, fun l2 nl2 => ?_⟩⟩
      have hws := hG.len
      have sC : Same H1 (upd (upd H1 q1 (.tup [.int x, .int (y + 1), .bl z])) q2 (.tup [.int x, .int (y + x), .bl z])) := (same_new nq1).trans (same_new nq2)
      have eq2 : (upd (upd H1 q1 (.tup [.int x, .int (y + 1), .bl z])) q2 (.tup [.int x, .int (y + x), .bl z])) q2 = some (.tup (fT (x, y + x, z))) := upd_same
      have eq1 : (upd (upd H1 q1 (.tup [.int x, .int (y + 1), .bl z])) q2 (.tup [.int x, .int (y + x), .bl z])) q1 = some (.tup (fT (x, y + 1, z))) := same_new nq2 _ _ upd_same
      have er2 := sC _ _ er
      have el2 : (upd (upd (upd H1 q1 (.tup [.int x, .int (y + 1), .bl z])) q2 (.tup [.int x, .int (y + x), .bl z])) l2 (.lst [.ref r, .ref q1, .ref q2])) l2 = some (.lst [.ref r, .ref q1, .ref q2]) := upd_same
      have sD : Same H1 (upd (upd (upd H1 q1 (.tup [.int x, .int (y + 1), .bl z])) q2 (.tup [.int x, .int (y + x), .bl z])) l2 (.lst [.ref r, .ref q1, .ref q2])) := sC.trans (same_new nl2)
      have hG2 : FL (upd (upd (upd H1 q1 (.tup [.int x, .int (y + 1), .bl z])) q2 (.tup [.int x, .int (y + x), .bl z])) l2 (.lst [.ref r, .ref q1, .ref q2])) [.ref r, .ref q1, .ref q2] [(x, y, z), (x, y + 1, z), (x, y + x, z)] :=
        ⟨⟨r, rfl, same_new nl2 _ _ er2⟩, ⟨q1, rfl, same_new nl2 _ _ eq1⟩, ⟨q2, rfl, same_new nl2 _ _ eq2⟩, trivial⟩
      have oG : ∀ f ∈ [(x, y, z), (x, y + 1, z), (x, y + x, z)], FOw m (n + 1) f := fun f hf => by
        obtain ⟨h1, h2, h3, h4⟩ := ho
        have h1 : 1 ≤ x := h1
        have h2 : x ≤ 41 := h2
        have h3 : y.natAbs ≤ 2 ^ m + 50 * n := h3
        have h4 : z = true → 1 ≤ y := h4
        simp only [List.mem_cons, List.not_mem_nil, or_false] at hf
        rcases hf with rfl | rfl | rfl
        · exact ⟨h1, h2, by show y.natAbs ≤ 2 ^ m + 50 * (n + 1); omega, h4⟩
        · exact ⟨h1, h2, by show (y + 1).natAbs ≤ 2 ^ m + 50 * (n + 1); omega, fun e => by have := h4 e; show 1 ≤ y + 1; omega⟩
        · exact ⟨h1, h2, by show (y + x).natAbs ≤ 2 ^ m + 50 * (n + 1); omega, fun e => by have := h4 e; show 1 ≤ y + x; omega⟩
      refine ⟨ls, l2, ws, _, rfl, rfl, sD _ _ els, el2, by show ws.length + 3 ≤ sizeLine; omega, fun l3 nl3 => ?_⟩
      have sE := sD.trans (same_new (o := .lst (ws ++ [.ref r, .ref q1, .ref q2])) nl3)
      refine ⟨hpx.same sE, bx.trans (But.of sE), l3, _, gs ++ [(x, y, z), (x, y + 1, z), (x, y + x, z)], _, rfl, upd_same, (hpx.same sD).ne nl3, ((hG.same sD).app hG2).same (same_new nl3), fun f hf => ?_, ?_, ?_⟩
      · rcases List.mem_append.mp hf with z | z
        · exact hGO f z
        · exact oG f z
      · rw [List.length_append]
        show ws.length + 3 ≤ _
        omega
      · rw [List.length_append]
        omega
    · rintro σ H1 ⟨hpx, bx, ls, ws, gs, u, rfl, els, nls, hG, hGO, hGl, hG0⟩
      refine ⟨_, rfl, _, rfl, p, ls, ws, rfl, hpx, els, nls, hG0, by omega, fun i v H2 hi hp2 b2 => ?_⟩
      obtain ⟨r, f, rfl, hf, er⟩ := hG.get hi
      exact q r f H2 hp2 (bx.trans b2) (b2 _ _ er (hpx.nt er)) (hGO _ (List.mem_of_getElem? hf))
abbrev FaG (P : Program) (w : World) (K : Fr) (mg : Str → Option Value) (base : Heap) : Prop := ∃ f d, Gd P w K mg base 3 "_law_factor" f d ["_law_rng_here", "_law_others", "_law_great"] (spFa K)
end
end K71

set_option maxHeartbeats 4000000
/-! set(l), l a list of whole numbers; then sorted can tell its members -/
namespace RtL
open PySem PySem.Spec PyProof.Rows L2
abbrev noneIn (w : World) : Obj := { cls := .type "set", dict := none, data := .set #[] 0 (.fresh 0 0 (!w.params.followText "set-order")) }
section
variable {P : Program} {w : World} {A : Around} {E : Value → Shared → Prop} {s : Shared}
theorem set_of_list {l : Addr} {items : Array Value} (ns : List Int) {Q : Value → Shared → Prop} (hh : A.handled = none) (hl : s.heap.IsList l items) (hi : IntsAre items.toList ns) (hb : ns.length + 1 < scanBound)
    (h : ∀ (h' : Heap) (tk c : Nat), SetR w h' s.heap.objs.size (fun j => decide (j ∈ ns)) c → c ≤ ns.length → (∀ b o, s.heap.get? b = some o → h'.get? b = some o) → Q (.ref s.heap.objs.size) { s with heap := h', toks := tk }) :
    wpAny (model P w) A (call (.type "set") [.ref l]) Q E s := by
  have sz : items.size = ns.length := by rw [← Array.length_toList]; exact IntsAre.length hi
  have ls : l < s.heap.objs.size := by
    obtain ⟨o, e, _⟩ := hl
    exact Heap.lt_size e
  obtain ⟨c, tl, hmro⟩ := PySem.F.called_set.mro
  have hmade := PySem.F.called_set.made
  have hsub := PySem.F.called_set.sub
  have h1 := PySem.F.called_set.notType
  have h2 := PySem.F.called_set.canCreate
  have hct := PySem.F.typeCall_set_1 (.ref l)
  have hli := PySem.F.called_set.init.lookup
  refine wpAny_call (codeAny_of_tree ?_)
  refine wpAny_pure ⟨Code.quiet_builtin _ (by decide +kernel), codeAny_builtin PySem.F.entry_type_call ?_⟩
  rw [Around.under_plain (weight_type_call_type "set" [.ref l] []) rfl]
  repeat (any_goals (first | assumption | wp_step))
  refine codeAny_mono (code_set_led1 (.ref l) (E := E) (Q₁ := fun obj s₁ => obj = .ref s.heap.objs.size ∧ s₁ = { s with heap := s.heap.push (noneIn w) }) ⟨rfl, rfl⟩) fun r s₁ hr => ?_
  match r, hr with
  | .error e, hr => exact hr
  | .ok .next, hr => exact hr.elim
  | .ok .brk, hr => exact hr.elim
  | .ok .cont, hr => exact hr.elim
  | .ok (.ret obj), hr =>
    obtain ⟨rfl, rfl⟩ := hr
    have hS : (s.heap.push (noneIn w)).get? s.heap.objs.size = some (noneIn w) := Heap.get?_push_size _ rfl
    have hT : Shared.TypeIs { s with heap := s.heap.push (noneIn w) } (.ref s.heap.objs.size) "set" := ⟨_, hS, rfl⟩
    have hbi := PySem.F.called_set.init.bind (.ref s.heap.objs.size)
    have z1 : (s.heap.push (noneIn w)).objs.size = s.heap.objs.size + 1 := Heap.size_push ..
    repeat (any_goals (first | assumption | wp_step))
    refine codeAny_mono (codeAny_call_builtin (R := wants (fun r s₂ => r = .none ∧ ∃ h' tk c, s₂ = { s with heap := h', toks := tk } ∧ SetR w h' s.heap.objs.size (fun j => decide (j ∈ ns)) c ∧ c ≤ ns.length ∧
      (∀ b o, s.heap.get? b = some o → h'.get? b = some o)) E) PySem.F.called_set.init.plain PySem.F.entry_set_init (check_set_init_1 hT ?_)) fun r₂ s₂ hr₂ => ?_
    · obtain ⟨⟨oc, od, odt, osl⟩, hol, hcl, nl, hdl⟩ := hl
      simp only at hcl hdl
      subst hcl hdl
      have hol' := Heap.get?_push_of_some (noneIn w) hol
      have hsls := PySem.F.sub_list_set
      have hslf := PySem.F.sub_list_frozenset
      have hne : (Value.type "list" == Value.type "dict") = false := by decide
      have hl1 : (s.heap.push (noneIn w)).IsList l items := ⟨_, hol', rfl, nl, rfl⟩
      unfold Builtin.«set.__init__» noKeywords Builtin.Frozenset.updateFrom
      generalize hPI : pyIter = PI
      wp_walk
      subst hPI
      refine wpAny_pyIter_list hl1 (wpAny_bind (wpAny_runValue ?_))
      have hh3 : A.in1.in1.in1.handled = none := by simp [hh]
      have nI : l ≠ (s.heap.push (noneIn w)).objs.size := by rw [z1]; exact Nat.ne_of_lt (Nat.lt_succ_of_lt ls)
      have nS : s.heap.objs.size ∉ [(s.heap.push (noneIn w)).objs.size, l] := by
        rw [z1]
        simp only [List.mem_cons, List.mem_singleton, List.not_mem_nil, or_false, not_or]
        exact ⟨Nat.ne_of_lt (Nat.lt_succ_self _), Nat.ne_of_gt ls⟩
      have hval : ∀ (i : Nat) (v : Value), items[i]? = some v → ∃ k t, ns[i]? = some k ∧ v = .int k t := fun i v hv => by
        have hlt : i < ns.length := by rw [← sz]; exact (Array.getElem?_eq_some_iff.mp hv).1
        obtain ⟨t, e⟩ := IntsAre.int_at hi i v (by rw [Array.getElem?_toList]; exact hv)
        exact ⟨ns[i], t, List.getElem?_eq_getElem hlt, by rw [e, List.getD_eq_getElem?_getD, List.getElem?_eq_getElem hlt] <;> rfl⟩
      refine set_update_ints ((Walks.list hh3 _ l nI items).toS) s.heap.objs.size nS ns sz hb hval (items.size - 0) 0 _ (by omega) (Nat.zero_le _) ⟨⟨_, Heap.get?_push_size _ rfl, rfl, rfl⟩, hl1.push _⟩
        ⟨0, Nat.le_refl 0, setR_new_at (Heap.get?_push_of_some _ hS)⟩ fun s' c' hm hc' hS' => ?_
      obtain ⟨h', g2, d', tk', os'⟩ := s'
      cases (show g2 = s.gens from hm.gens)
      cases (show d' = s.drawn from hm.drawn)
      cases (show os' = s.os from hm.os)
      rw [sz] at hc'
      show wpAny _ _ _ _ _ _
      refine wpAny_pure ?_
      show wpAny _ _ (ret Value.none) _ _ _
      refine wpAny_pure ⟨rfl, h', tk', c', rfl, hS', hc', fun b o e => ?_⟩
      have hb0 : b < s.heap.objs.size := Heap.lt_size e
      refine hm.heap b o ?_ (Heap.get?_push_of_some _ (Heap.get?_push_of_some _ e))
      rw [z1]
      simp only [List.mem_cons, List.mem_singleton, List.not_mem_nil, or_false, not_or]
      exact ⟨Nat.ne_of_lt hb0, Nat.ne_of_lt (Nat.lt_succ_of_lt hb0)⟩
    · match r₂, hr₂ with
      | .error e, hr₂ => exact hr₂
      | .ok .next, hr₂ => exact hr₂.elim
      | .ok .brk, hr₂ => exact hr₂.elim
      | .ok .cont, hr₂ => exact hr₂.elim
      | .ok (.ret r), hr₂ =>
        obtain ⟨rfl, h', tk, c', rfl, hS', hc', hk'⟩ := hr₂
        repeat (any_goals (first | assumption | wp_step))
        exact h _ _ _ hS' hc' hk'
end
end RtL

set_option maxHeartbeats 4000000
namespace RtL
open PySem PySem.Spec PyProof.Rows L2
section
variable {X : Cx}
/-- set(l) -/
def rSetL (K : PySem.W.Frag) (w : World) : List V → Hp → VK → Prop := fun vs H Q => ∃ (l : Addr) (ns : List Int), vs = [.ref l] ∧ SqL K H l (ns.map V.int) ∧ ns.length + 1 < scanBound ∧
  ∀ (a : Addr) (c : Nat), H a = none → c ≤ ns.length → Q (.ref a) (upd H a (SetO w a (fun j => decide (j ∈ ns)) c))
theorem call_setL (hc : X.calm = true) : CallR X (.type "set") (rSetL X.K X.w) := by
  intro pins s σ H vs us Q I r h
  obtain ⟨l, ns, rfl, hl, hb, q⟩ := h
  rw [Vals.ref1 r]
  obtain ⟨its, rv, ⟨o, n, ho, hcl, hdn, hd⟩, _⟩ := I.list hl
  have hL : s.heap.IsList l its.toArray := ⟨o, ho, hcl, n, hd⟩
  have hi := ints_of_vals rv
  refine set_of_list ns (I.ok.hd hc) hL (by simpa using hi) hb fun h' tk c R hle keep => ?_
  have J : Inv X pins σ (upd H s.heap.objs.size (SetO X.w s.heap.objs.size (fun j => decide (j ∈ ns)) c)) { s with heap := h', toks := tk } :=
    I.laid (t' := tk) keep (Nat.le_refl _) (setO_new R)
  exact ⟨.ref _, _, J, rfl, q _ c (I.hok.fresh (Nat.le_refl _)) hle⟩
end
end RtL

set_option maxHeartbeats 4000000
namespace K71
open PySem
open SgM (wat sg Cov bld IsRuns)
/-! ### the signs of products -/
def facS (f : Fac) (d : Int) : Int := if f.2.2 = true then 1 else sg (f.1 * d - f.2.1)
def fsg (n : Int) (fs : List Fac) (d : Int) : Int := fs.foldl (fun s f => s * facS f d) (sg n)
def plf (f : Fac) : List Int := if f.2.2 = true then [] else [f.2.1 / f.1, f.2.1 / f.1 + 1, f.2.1 / f.1 + 2]
def plcs (fs : List Fac) : List Int := 1 :: fs.flatMap plf
theorem sg_bd (d : Int) : (sg d).natAbs ≤ 1 := by
  rcases Int.lt_trichotomy d 0 with z | z | z
  · rw [SgM.sg_neg z]; decide
  · rw [z]; decide
  · rw [SgM.sg_pos z]; decide
theorem facS_bd (f : Fac) (d : Int) : (facS f d).natAbs ≤ 1 := by
  unfold facS
  split
  · decide
  · exact sg_bd _
theorem fold_bd (d : Int) : ∀ (fs : List Fac) (s : Int), s.natAbs ≤ 1 → (fs.foldl (fun s f => s * facS f d) s).natAbs ≤ 1
  | [], s, h => h
  | f :: fs, s, h => by
    refine fold_bd d fs _ ?_
    rw [Int.natAbs_mul]
    exact Nat.mul_le_mul h (facS_bd f d)
theorem fsg_bd (n : Int) (fs : List Fac) (d : Int) : (fsg n fs d).natAbs ≤ 1 := fold_bd d fs _ (sg_bd n)
theorem fsg_take {n : Int} {fs : List Fac} {i : Nat} {f : Fac} (d : Int) (h : fs[i]? = some f) : fsg n (fs.take (i + 1)) d = fsg n (fs.take i) d * facS f d := by
  unfold fsg
  rw [List.take_add_one, h, List.foldl_append]
  rfl
theorem facS_same {f : Fac} {d : Int} (h : 1 ≤ f.1) (hd : d ∉ plf f) : facS f d = facS f (d - 1) := by
  obtain ⟨a, b, z⟩ := f
  have h : 1 ≤ a := h
  unfold facS
  unfold plf at hd
  cases z with
  | true => rfl
  | false =>
    show sg (a * d - b) = sg (a * (d - 1) - b)
    have hd : d ∉ [b / a, b / a + 1, b / a + 2] := hd
    have e1 := Int.mul_ediv_add_emod b a
    have e2 := Int.emod_nonneg b (show a ≠ 0 by omega)
    have e3 := Int.emod_lt_of_pos b (show 0 < a by omega)
    generalize b / a = q at *
    generalize b % a = r at *
    have n1 : d ≠ q := fun y => hd (by rw [y]; simp)
    have n2 : d ≠ q + 1 := fun y => hd (by rw [y]; simp)
    rcases Int.lt_or_le d q with k | k
    · have m1 : a * d ≤ a * (q - 1) := Int.mul_le_mul_of_nonneg_left (by omega) (by omega)
      have m2 : a * (d - 1) ≤ a * (q - 1) := Int.mul_le_mul_of_nonneg_left (by omega) (by omega)
      rw [Int.mul_sub, Int.mul_one] at m1
      rw [Int.mul_sub a q 1, Int.mul_one] at m2
      rw [SgM.sg_neg (by omega), SgM.sg_neg (by omega)]
    · have m1 : a * (q + 1) ≤ a * d := Int.mul_le_mul_of_nonneg_left (by omega) (by omega)
      have m2 : a * (q + 1) ≤ a * (d - 1) := Int.mul_le_mul_of_nonneg_left (by omega) (by omega)
      rw [Int.mul_add, Int.mul_one] at m1 m2
      rw [SgM.sg_pos (by omega), SgM.sg_pos (by omega)]
theorem fold_same {d e : Int} : ∀ (fs : List Fac) (s : Int), (∀ f ∈ fs, facS f d = facS f e) → fs.foldl (fun s f => s * facS f d) s = fs.foldl (fun s f => s * facS f e) s
  | [], s, h => rfl
  | f :: fs, s, h => by
    rw [List.foldl_cons, List.foldl_cons, h f List.mem_cons_self]
    exact fold_same fs _ fun g hg => h g (List.mem_cons_of_mem _ hg)
theorem fsg_same {n : Int} {fs : List Fac} {d : Int} (h : ∀ f ∈ fs, 1 ≤ f.1) (hd : d ∉ plcs fs) : fsg n fs d = fsg n fs (d - 1) := fold_same fs _ fun f hf => facS_same (h f hf) fun z => hd (List.mem_cons_of_mem _ (List.mem_flatMap.mpr ⟨f, hf, z⟩))
theorem const_of {F : Int → Int} {a b : Int} (h : ∀ d, a < d → d < b → F d = F (d - 1)) : ∀ (n : Nat) (d : Int), (d - a).toNat = n → a ≤ d → d < b → F d = F a
  | 0, d, e, h1, _ => by rw [show d = a by omega]
  | n + 1, d, e, h1, h2 => by rw [h d (by omega) h2, const_of h n (d - 1) (by omega) (by omega) (by omega)]
theorem cov_of {F : Int → Int} : ∀ (ms : List Int) (a : Int), (a :: ms).Pairwise (· < ·) → (∀ d, a < d → d ∉ ms → F d = F (d - 1)) → Cov F a ms
  | [], a, _, h => fun d hd => const_of (b := d + 1) (fun e h1 _ => h e h1 List.not_mem_nil) _ d rfl hd (by omega)
  | m :: ms, a, hp, h => by
    obtain ⟨h1, h2⟩ := List.pairwise_cons.mp hp
    obtain ⟨h3, _⟩ := List.pairwise_cons.mp h2
    have am := h1 m List.mem_cons_self
    refine ⟨Int.le_of_lt am, fun d d1 d2 => const_of (b := m) (fun e e1 e2 => h e e1 fun z => ?_) _ d rfl d1 d2, cov_of ms m h2 fun d hd hn => h d (by omega) fun z => ?_⟩
    · rcases List.mem_cons.mp z with z | z
      · omega
      · have := h3 e z
        omega
    · rcases List.mem_cons.mp z with z | z
      · omega
      · exact hn z
theorem head_one {ps : List Int} (hp : ps.Pairwise (· < ·)) (h1 : (1 : Int) ∈ ps) (h0 : ∀ x ∈ ps, 0 < x) : ∃ ms, ps = 1 :: ms := by
  cases ps with
  | nil => cases h1
  | cons p ms =>
    have := h0 p List.mem_cons_self
    rcases List.mem_cons.mp h1 with z | z
    · exact ⟨ms, by rw [z]⟩
    · have := (List.pairwise_cons.mp hp).1 1 z
      omega
theorem runs_places {n : Int} {fs : List Fac} {ps : List Int} (h : ∀ f ∈ fs, 1 ≤ f.1) (hp : ps.Pairwise (· < ·)) (hm : ∀ k, k ∈ ps ↔ (k ∈ plcs fs ∧ 0 < k)) : IsRuns (fsg n fs) 1 (ps.foldl (bl2 (fsg n fs)) []) := by
  obtain ⟨ms, rfl⟩ := head_one hp ((hm 1).mpr ⟨List.mem_cons_self, by decide⟩) fun x hx => ((hm x).mp hx).2
  rw [List.foldl_cons]
  show IsRuns _ 1 (ms.foldl _ ([] ++ [(1, fsg n fs 1)]))
  rw [bl2_fold]
  exact SgM.runs_of (F := fsg n fs) (a := 1) (cov_of ms 1 hp fun d hd hn => fsg_same h fun z => by
    rcases List.mem_cons.mp ((hm d).mpr ⟨z, by omega⟩) with y | y
    · omega
    · exact hn y)
/-! ### a factor as a polynomial -/
def facP (f : Fac) : List Int := if f.2.2 = true then [f.2.1, 0, f.1] else [-f.2.1, f.1]
theorem wat_facP {n : Nat} {f : Fac} (h : FOk n f) (d : Int) : sg (wat (facP f) d) = facS f d := by
  obtain ⟨a, b, z⟩ := f
  obtain ⟨h1, _, _, h4⟩ := h
  have h1 : 1 ≤ a := h1
  unfold facP facS
  cases z with
  | true =>
    have h4 : 1 ≤ b := h4 rfl
    show sg (((0 * d + a) * d + 0) * d + b) = 1
    have : 0 ≤ a * (d * d) := Int.mul_nonneg (by omega) (by
      rcases Int.lt_or_le d 0 with z | z
      · exact Int.le_of_lt (Int.mul_pos_of_neg_of_neg z z)
      · exact Int.mul_nonneg z z)
    rw [show ((0 * d + a) * d + 0) * d + b = a * (d * d) + b by rw [Int.zero_mul, Int.zero_add, Int.add_zero, Int.mul_assoc]]
    exact SgM.sg_pos (by omega)
  | false =>
    show sg ((0 * d + a) * d + -b) = sg (a * d - b)
    rw [Int.zero_mul, Int.zero_add]
    rfl
end K71

set_option maxHeartbeats 4000000
set_option exponentiation.threshold 3000
namespace K71
open PySem PySem.Spec PyProof.Rows L2 RtL ErL StX
open SgM (wat sg Cov bld IsRuns)
theorem madeP_at {K : Fr} {H1 : Hp} {R : VK} {x dx : Addr} {cs : List Int} (nx : H1 x = none) (nd : H1 dx = none) (ne : dx ≠ x) (hl : cs.length ≤ 1000) (c : ∀ H', Same H1 H' → PolAt K H' x (pl cs) → R .non H') : spInit K (.ref x :: cs.map V.int) (upd (upd H1 dx (.own x)) x (.ins (PC K) dx [])) R E0 := by
  refine ⟨x, dx, cs, rfl, hl, upd_same, fun t H' s' e' => ?_⟩
  have hx : H' x = some (.ins (PC K) dx []) := s' _ _ upd_same
  have tx : t ≠ x := fun z => by
    rw [z, hx] at e'
    cases e'
  refine c _ (fun b o e => ?_) ⟨dx, t, upd_same, ?_⟩
  · have bx := ne_of_none e nx
    rw [upd_ne bx]
    refine s' _ _ ?_
    rw [upd_ne bx, upd_ne (ne_of_none e nd)]
    exact e
  · rw [upd_ne tx]
    exact e'
section
variable {P : Program} {w : World} {K : Fr} {mg : Str → Option Value} {base : Heap} {f : Addr} {fd : FuncData}
/-! ### a factor's polynomial -/
abbrev sFp : Stmt := top 30
abbrev NFp : List Str := ["_law_factor_here", "_law_a", "_law_b", "_law_is_square"]
theorem scFp : FnScope NFp ["_law_factor_here"] (defScope sFp) := ⟨rfl, rfl, rfl, by decide +kernel, rfl, by decide +kernel, by decide +kernel⟩
def spFp (K : Fr) : Sp := fun vs H Q _ => ∃ (r : Addr) (f : Fac), vs = [.ref r] ∧ H r = some (.tup (fT f)) ∧ ∀ x H', Same H H' → H x = none → PolAt K H' x (pl (facP f)) → Q (.ref x) H'
theorem ok_fp (F : FunD K "_law_polynomial" "_law_polynomial" (defArgs sFp) (defBody sFp) (defScope sFp) [] [] f fd) (T : TT K mg) (I : PId P w K mg base) : FnOk P w K mg base CX0 5 f fd ["_law_factor_here"] (spFp K) := by
  refine F.ok scFp (fun vs H Q E h => ?_) (fun cdv A outer s H vs Q E hr h => ?_)
  · obtain ⟨r, f, rfl, _⟩ := h
    rfl
  · obtain ⟨r, ⟨a, b, z⟩, rfl, er, q⟩ := h
    refine ⟨_, PSs.nox (pss_cons (ps_asg (pv 0) (pg_tup (by rfl) (pgs_cons (pg_name (i := 1) scFp.nd rfl (.inl rfl)) (pgs_cons (pg_name (i := 2) scFp.nd rfl (.inl rfl)) (pgs_cons (pg_name (i := 3) scFp.nd rfl (.inl rfl)) pgs_nil)))))
      (pss_one (ps_ret (pe_ifExp (pt_val (pv 3)) (pe_makeR T.mkp I (hr.mono (by decide)) (by rfl) (T.gl "Polynomial" (by decide)) pass0 (pa_cons (pv 2) (pa_cons pe_int (pa_cons (pv 1) pa_nil))))
        (pe_makeR T.mkp I (hr.mono (by decide)) (by rfl) (T.gl "Polynomial" (by decide)) pass0 (pa_cons (pe_un un_neg (pv 2)) (pa_cons (pv 1) pa_nil))))))), ?_⟩
    refine ⟨_, rfl, r, _, rfl, SqT.of er, rfl, _, _, rfl, _, _, rfl, _, _, rfl, rfl, _, rfl, z, rfl, ite2 (fun h => ?_) (fun h => ?_)⟩
    · refine ⟨_, rfl, _, rfl, fun x dx nx nd_ ne_ => madeP_at (cs := [b, 0, a]) nx nd_ ne_ (by show 3 ≤ 1000; decide) fun H1 s1 r1 => ⟨rfl, q x H1 s1 nx ?_⟩⟩
      have e : facP (a, b, z) = [b, 0, a] := if_pos h
      rw [e]
      exact r1
    · refine ⟨_, rfl, _, rfl, _, rfl, fun x dx nx nd_ ne_ => madeP_at (cs := [-b, a]) nx nd_ ne_ (by show 2 ≤ 1000; decide) fun H1 s1 r1 => ⟨rfl, q x H1 s1 nx ?_⟩⟩
      have e : facP (a, b, z) = [-b, a] := if_neg h
      rw [e]
      exact r1
abbrev FpG (P : Program) (w : World) (K : Fr) (mg : Str → Option Value) (base : Heap) : Prop := ∃ f d, Gd P w K mg base 5 "_law_polynomial" f d ["_law_factor_here"] (spFp K)
/-! ### the sign at a place -/
abbrev sSL : Stmt := top 31
abbrev NSaL : List Str := ["_law_number", "_law_factors", "_law_place", "_law_found", "_law_a", "_law_b", "_law_is_square"]
theorem scSaL : FnScope NSaL ["_law_number", "_law_factors", "_law_place"] (defScope sSL) := ⟨rfl, rfl, rfl, by decide +kernel, rfl, by decide +kernel, by decide +kernel⟩
def spSaL (K : Fr) : Sp := fun vs H Q _ => ∃ (n d : Int) (l : Addr) (us : List V) (fs : List Fac), vs = [.int n, .ref l, .int d] ∧ H l = some (.lst us) ∧ FL H us fs ∧ (∀ f ∈ fs, FOk 5 f) ∧ Bd 100 d ∧ Q (.int (fsg n fs d)) H
theorem ok_saL (F : FunD K "_law_sign_at" "_law_sign_at" (defArgs sSL) (defBody sSL) (defScope sSL) [] [] f fd) (T : TT K mg) (S : SgG P w K mg base) : FnOk P w K mg base CX0 2 f fd ["_law_number", "_law_factors", "_law_place"] (spSaL K) := by
  obtain ⟨fS, dS, GS⟩ := S
  refine F.ok scSaL (fun vs H Q E h => ?_) (fun cdv A outer s H vs Q E hr h => ?_)
  · obtain ⟨n, d, l, us, fs, rfl, _⟩ := h
    rfl
  · obtain ⟨n, d, l, us, fs, rfl, el, hF, hO, hd, q⟩ := h
    refine ⟨_, PSs.nox (pss_cons (ps_set (i := 3) scSaL.nd rfl (Or.inl rfl) (pe_gd GS hr (by rfl) (pa_cons (pv 0) pa_nil)))
      (pss_cons (ps_for PassesOwn.never rfl (pi_list (pv 1)) (pg_tup (by rfl) (pgs_cons (pg_name (i := 4) scSaL.nd rfl (.inl rfl)) (pgs_cons (pg_name (i := 5) scSaL.nd rfl (.inl rfl)) (pgs_cons (pg_name (i := 6) scSaL.nd rfl (.inl rfl)) pgs_nil))))
        (pss_one (ps_set (i := 3) scSaL.nd rfl (Or.inl rfl) (pe_op op_mul (pv 3) (pe_ifExp (pt_val (pv 6)) pe_int (pe_gd GS hr (by rfl) (pa_cons (pe_op op_sub (pe_op op_mulW (pv 4) (pv 2)) (pv 5)) pa_nil)))))))
      (pss_one (ps_ret (pv 3))))), ?_⟩
    refine ⟨_, rfl, n, rfl, ?_⟩
    refine ⟨_, rfl, l, rfl, ⟨_, SqL.of el⟩, for_list (xs := us) (fun i σ H' => H' = H ∧ ∃ u1 u2 u3 : Option V, σ = [some (.int n), some (.ref l), some (.int d), some (.int (fsg n (fs.take i) d)), u1, u2, u3]) ⟨rfl, none, none, none, rfl⟩ (fun i σ H2 _ pv => by rw [pv.1]; exact SqL.of el) ?_ ?_⟩
    · rintro i v σ H1 hi ⟨rfl, u1, u2, u3, rfl⟩
      obtain ⟨r, ⟨x, y, z⟩, rfl, hf, er⟩ := hF.get hi
      have ho := hO _ (List.mem_of_getElem? hf)
      have h1 : 1 ≤ x := ho.1
      have h2 : x ≤ 41 := ho.2.1
      have bx : Bd 6 x := show x.natAbs < 2 ^ 6 by omega
      have fb := fsg_bd n (fs.take i) d
      have ft := fsg_take (n := n) d hf
      refine ⟨r, _, rfl, SqT.of er, rfl, _, _, rfl, _, _, rfl, _, _, rfl, rfl, _, rfl, _, rfl, z, rfl, ite2 (fun h => ?_) (fun h => ?_)⟩
      · rw [show facS (x, y, z) d = 1 from if_pos h] at ft
        rw [ft]
        exact ⟨_, _, rfl, rfl, .inl ⟨by omega, by omega⟩, rfl, _, _, _, rfl⟩
      · rw [show facS (x, y, z) d = sg (x * d - y) from if_neg h] at ft
        rw [ft]
        exact ⟨_, rfl, _, rfl, _, _, rfl, rfl, cmW bx hd, _, rfl, _, _, rfl, rfl, _, rfl, _, _, rfl, rfl, .inl ⟨by omega, by omega⟩, rfl, _, _, _, rfl⟩
    · rintro σ H1 ⟨rfl, u1, u2, u3, rfl⟩
      refine ⟨_, rfl, ?_⟩
      rw [hF.len, List.take_length]
      exact q
abbrev SaLG (P : Program) (w : World) (K : Fr) (mg : Str → Option Value) (base : Heap) : Prop := ∃ f d, Gd P w K mg base 2 "_law_sign_at" f d ["_law_number", "_law_factors", "_law_place"] (spSaL K)
end
end K71

set_option maxHeartbeats 4000000
set_option exponentiation.threshold 3000
namespace K71
open PySem PySem.Spec PyProof.Rows L2 RtL ErL StX
open SgM (wat sg Cov bld IsRuns)
section
variable {P : Program} {w : World} {K : Fr} {mg : Str → Option Value} {base : Heap} {f : Addr} {fd : FuncData}
/-! ### the places -/
abbrev sPl : Stmt := top 32
abbrev NPl : List Str := ["_law_factors", "_law_found", "_law_a", "_law_b", "_law_is_square", "_law_place"]
theorem scPl : FnScope NPl ["_law_factors"] (defScope sPl) := ⟨rfl, rfl, rfl, by decide +kernel, rfl, by decide +kernel, by decide +kernel⟩
def spPl (K : Fr) : Sp := fun vs H Q _ => ∃ (l : Addr) (us : List V) (fs : List Fac), vs = [.ref l] ∧ H l = some (.lst us) ∧ FL H us fs ∧ (∀ f ∈ fs, FOk 5 f) ∧ fs.length ≤ 5 ∧
  ∀ (lp : Addr) (ps : List Int) (H' : Hp), Same H H' → H lp = none → H' lp = some (.lst (ps.map V.int)) → ps.Pairwise (· < ·) → (∀ k : Int, k ∈ ps ↔ (k ∈ plcs fs ∧ 0 < k)) → ps.length ≤ 16 → Q (.ref lp) H'
theorem plf_len (f : Fac) : (plf f).length ≤ 3 := by
  unfold plf
  split
  · exact Nat.zero_le _
  · exact Nat.le_refl _
theorem flat_take {fs : List Fac} {i : Nat} {f : Fac} (h : fs[i]? = some f) : (fs.take (i + 1)).flatMap plf = (fs.take i).flatMap plf ++ plf f := by
  rw [List.take_add_one, h, List.flatMap_append]
  simp
theorem flat_len : ∀ fs : List Fac, (fs.flatMap plf).length ≤ 3 * fs.length
  | [] => Nat.zero_le _
  | f :: fs => by
    have h1 := flat_len fs
    have h2 := plf_len f
    rw [List.flatMap_cons, List.length_append, List.length_cons]
    omega
theorem ok_pl (F : FunD K "_law_places" "_law_places" (defArgs sPl) (defBody sPl) (defScope sPl) [] [] f fd) (T : TT K mg) : FnOk P w K mg base CX0 1 f fd ["_law_factors"] (spPl K) := by
  refine F.ok scPl (fun vs H Q E h => ?_) (fun cdv A outer s H vs Q E hr h => ?_)
  · obtain ⟨l, us, fs, rfl, _⟩ := h
    rfl
  · obtain ⟨l, us, fs, rfl, el, hF, hO, h5, q⟩ := h
    refine ⟨_, PSs.nox (pss_cons (ps_set (i := 1) scPl.nd rfl (Or.inl rfl) (pe_lst (pa_cons pe_int pa_nil)))
      (pss_cons (ps_for PassesOwn.never rfl (pi_list (pv 0)) (pg_tup (by rfl) (pgs_cons (pg_name (i := 2) scPl.nd rfl (.inl rfl)) (pgs_cons (pg_name (i := 3) scPl.nd rfl (.inl rfl)) (pgs_cons (pg_name (i := 4) scPl.nd rfl (.inl rfl)) pgs_nil))))
        (pss_one (ps_if (pt_not (pt_val (pv 4))) (pss_one (ps_set (i := 1) scPl.nd rfl (Or.inl rfl) (pe_op op_cat (pv 1) (pe_lst (pa_cons (pe_op op_fdiv (pv 3) (pv 2)) (pa_cons (pe_op op_add (pe_op op_fdiv (pv 3) (pv 2)) pe_int) (pa_cons (pe_op op_add (pe_op op_fdiv (pv 3) (pv 2)) pe_int) pa_nil))))))) pss_nil)))
      (pss_one (ps_ret (pe_callB (cr_sortedSet rfl) (by rfl) T.fre (by decide +kernel) (pa_cons (pe_callTy (call_setL rfl) (by rfl) T.fre (by decide +kernel) (pa_cons
        (pe_lc (own := [("_law_place", 5)]) (g := gName 5) (by rfl) scPl.nd (pi_list (pv 1)) (blkOk_by (N := NPl) (sc := defScope sPl) (by decide +kernel)) (fun _ _ _ _ _ => pg_name (i := 5) scPl.nd rfl (Or.inl rfl)) (fun _ _ _ _ _ => pts_one (pt_cmpR op_gt (pv 5) pe_int (nomark _))) (fun _ _ _ _ _ => pv 5)) pa_nil)) pa_nil)))))), ?_⟩
    have lz : 10000 ≤ sizeLine := by rw [sizeLine_eq]; decide
    refine ⟨by show 1 ≤ sizeLine; omega, fun l0 n0 => ?_⟩
    have s0 : Same H (upd H l0 (.lst [.int 1])) := same_new n0
    refine ⟨_, rfl, l, rfl, ⟨_, SqL.of (s0 _ _ el)⟩, for_list (xs := us) (fun i σ H' => Same H H' ∧ ∃ (lf : Addr) (u2 u3 u4 : Option V), σ = [some (.ref l), some (.ref lf), u2, u3, u4, none] ∧ H lf = none ∧ H' lf = some (.lst ((1 :: (fs.take i).flatMap plf).map V.int)))
      ⟨s0, l0, none, none, none, rfl, n0, upd_same⟩ (fun i σ H2 _ pv => SqL.of (pv.1 _ _ el)) ?_ ?_⟩
    · rintro i v σ H1 hi ⟨s1, lf, u2, u3, u4, rfl, nlf, elf⟩
      obtain ⟨r, ⟨x, y, z⟩, rfl, hf, er⟩ := (hF.same s1).get hi
      have ho := hO _ (List.mem_of_getElem? hf)
      have h1 : 1 ≤ x := ho.1
      have h2 : x ≤ 41 := ho.2.1
      have ft := flat_take hf
      have lt : ((fs.take i).flatMap plf).length ≤ 15 := by
        have a1 := flat_len (fs.take i)
        have a2 : (fs.take i).length ≤ fs.length := by rw [List.length_take]; omega
        omega
      refine ⟨r, _, rfl, SqT.of er, rfl, _, _, rfl, _, _, rfl, _, _, rfl, rfl, _, rfl, z, rfl, ite2 (fun h => ?_) (fun h => ?_)⟩
      · have hz : ¬ z = true := fun y => by rw [y] at h; exact absurd h (by decide)
        rw [show plf (x, y, z) = [y / x, y / x + 1, y / x + 2] from if_neg hz] at ft
        have cd : CDiv y x := ⟨by omega, by omega⟩
        refine ⟨_, rfl, _, rfl, _, rfl, _, _, rfl, rfl, cd, _, rfl, _, rfl, _, _, rfl, rfl, cd, _, _, rfl, rfl, _, rfl, _, rfl, _, _, rfl, rfl, cd, _, _, rfl, rfl, by show 3 ≤ sizeLine; omega, fun l2 nl2 => ?_⟩
        have e2 := same_new (o := .lst [.int (y / x), .int (y / x + 1), .int (y / x + 2)]) nl2 _ _ elf
        refine ⟨lf, l2, _, _, rfl, rfl, e2, upd_same, ?_, fun l3 nl3 => ?_⟩
        · rw [List.length_map, List.length_cons]
          show _ + 3 ≤ sizeLine
          omega
        · have s3 := s1.trans (same_new (o := .lst [.int (y / x), .int (y / x + 1), .int (y / x + 2)]) nl2)
          refine ⟨s3.trans (same_new nl3), l3, _, _, _, rfl, gone s3 nl3, ?_⟩
          rw [upd_same, ft]
          simp
      · have hz : z = true := Classical.byContradiction fun y => h (by rw [Bool.eq_false_iff.mpr y]; rfl)
        rw [show plf (x, y, z) = [] from if_pos hz, List.append_nil] at ft
        rw [ft]
        exact ⟨s1, lf, _, _, _, rfl, nlf, elf⟩
    · rintro σ H1 ⟨s1, lf, u2, u3, u4, rfl, nlf, elf⟩
      rw [hF.len, List.take_length] at elf
      have lt := flat_len fs
      have ll : (plcs fs).length ≤ 16 := by
        show ((fs.flatMap plf).length + 1) ≤ 16
        omega
      have elf : H1 lf = some (.lst ((plcs fs).map V.int)) := elf
      generalize plcs fs = xs at *
      refine ⟨_, rfl, lf, rfl, ⟨_, SqL.of elf⟩, fun D nD => ?_⟩
      refine lc_it (walk_list (xs := xs.map V.int)) (fun i H' => Same H1 H' ∧ H' D = some (.lst (((xs.take i).filter fun k => decide (0 < k)).map V.int))) ⟨same_new nD, upd_same⟩ (fun i H' _ pv => SqL.of (pv.1 _ _ elf)) ?_ ?_
      · rintro i v H7 H8 hi ⟨s7, e7⟩ ⟨rfl, hx⟩
        obtain ⟨x, hx', rfl⟩ := getm hx
        have tk : (xs.take (i + 1)).filter (fun k => decide (0 < k)) = (xs.take i).filter (fun k => decide (0 < k)) ++ if 0 < x then [x] else [] := by
          rw [take_succ' hx', List.filter_append]
          by_cases z : 0 < x
          · rw [if_pos z, List.filter_cons_of_pos (by simpa using z)]
            rfl
          · rw [if_neg z, List.filter_cons_of_neg (by simpa using z)]
            rfl
        refine ⟨rfl, _, rfl, x, 0, rfl, rfl, _, rfl, ite2 (fun h => ?_) (fun h => ?_)⟩
        · have z : 0 < x := of_decide_eq_true h
          rw [if_pos z] at tk
          refine ⟨_, rfl, _, e7, ?_, ?_, ?_⟩
          · have : ((xs.take i).filter fun k => decide (0 < k)).length ≤ xs.length := Nat.le_trans (List.length_filter_le _ _) (by rw [List.length_take]; omega)
            rw [List.length_map]
            omega
          · intro b' o' e'
            rw [upd_ne (ne_of_none e' nD)]
            exact s7 _ _ e'
          · rw [upd_same, tk, List.map_append]
            rfl
        · have z : ¬ 0 < x := fun y => h (decide_eq_true y)
          rw [if_neg z, List.append_nil] at tk
          rw [tk]
          exact ⟨s7, e7⟩
      · rintro H7 ⟨s7, e7⟩
        rw [List.length_map, List.take_length] at e7
        have lf2 : (xs.filter fun k => decide (0 < k)).length ≤ 16 := Nat.le_trans (List.length_filter_le _ _) ll
        refine ⟨D, _, rfl, SqL.of e7, Nat.lt_of_le_of_lt (Nat.succ_le_succ lf2) (by decide), fun a c na hc => ?_⟩
        refine ⟨a, _, c, rfl, upd_same, by omega, fun ns p hp hm hn np => ?_⟩
        have s8 := ((s1.trans s7).trans (same_new na)).trans (same_new (o := .lst (ns.map V.int)) np)
        refine q p ns _ s8 (gone ((s1.trans s7).trans (same_new na)) np) upd_same hp (fun k => ?_) (by omega)
        rw [hm k, decide_eq_true_iff, List.mem_filter, decide_eq_true_iff]
abbrev PlG (P : Program) (w : World) (K : Fr) (mg : Str → Option Value) (base : Heap) : Prop := ∃ f d, Gd P w K mg base 1 "_law_places" f d ["_law_factors"] (spPl K)
end
end K71

set_option maxHeartbeats 4000000
set_option exponentiation.threshold 3000
namespace K71
open PySem PySem.Spec PyProof.Rows L2 RtL ErL StX
open SgM (wat sg Cov bld IsRuns)
/-! ### lists of pairs as data -/
def pd (p : Int × Int) : PyData := .tuple [.int p.1, .int p.2]
theorem PL.dp {K : Fr} {H : Hp} : ∀ {us : List V} {ps : List (Int × Int)}, PL H us ps → DpAll K H us (ps.map pd)
  | [], [], _ => .nil
  | _ :: _, _ :: _, ⟨⟨r, e, h⟩, h'⟩ => by
    rw [e]
    exact .cons (.tup (SqT.of h) (.cons (.int _) (.cons (.int _) .nil))) h'.dp
theorem eqv_pd : ∀ ps : List (Int × Int), PyData.eqvAll (ps.map pd) (ps.map pd) = true
  | [] => rfl
  | p :: ps => by
    rw [List.map_cons, PyData.eqvAll, eqv_pd ps]
    simp [pd, PyData.eqv, PyData.eqvAll]
theorem eqv_same (ps : List (Int × Int)) : (!PyData.eqv (.list (ps.map pd)) (.list (ps.map pd))) = false := by
  rw [PyData.eqv, eqv_pd]
  rfl
theorem lay_pd : ∀ ps : List (Int × Int), PyData.canLayAll0 (ps.map pd) = true
  | [] => rfl
  | p :: ps => by
    show (true && PyData.canLayAll0 (ps.map pd)) = true
    rw [lay_pd ps, Bool.and_self]
theorem dep_pd : ∀ ps : List (Int × Int), PyData.depthAll (ps.map pd) ≤ 1
  | [] => Nat.zero_le _
  | p :: ps => Nat.max_le.mpr ⟨Nat.le_refl 1, dep_pd ps⟩
theorem shp_pd (ps : List (Int × Int)) : SeqAt.shaped (.list (ps.map pd)) = true := by
  unfold SeqAt.shaped
  refine Bool.and_eq_true_iff.mpr ⟨lay_pd ps, decide_eq_true ?_⟩
  have := dep_pd ps
  show PyData.depthAll (ps.map pd) + 1 ≤ 64
  omega
theorem PL.get {H : Hp} : ∀ {us : List V} {ps : List (Int × Int)} {i : Nat} {v : V}, PL H us ps → us[i]? = some v → ∃ r a b, v = .ref r ∧ ps[i]? = some (a, b) ∧ H r = some (.tup [.int a, .int b])
  | [], [], i, v, _, h => by cases h
  | u :: us, (a, b) :: ps, 0, v, ⟨⟨r, e, h'⟩, _⟩, h => by
    cases h
    exact ⟨r, a, b, e, rfl, h'⟩
  | u :: us, p :: ps, i + 1, v, ⟨_, h'⟩, h => h'.get (i := i) h
theorem IsRuns.congr {F G : Int → Int} {a : Int} {l : List (Int × Int)} (h : IsRuns F a l) (k : ∀ d, a ≤ d → F d = G d) : IsRuns G a l := by
  induction h with
  | last h =>
    rename_i a
    rw [k a (Int.le_refl a)]
    exact .last fun d hd => by rw [← k d hd, ← k a (Int.le_refl a), h d hd]
  | more lt h ne r ih =>
    rename_i a b l
    rw [k a (Int.le_refl a)]
    refine .more lt (fun d h1 h2 => by rw [← k d h1, ← k a (Int.le_refl a), h d h1 h2]) ?_ (ih fun d hd => k d (by omega))
    rw [← k b (by omega), ← k a (Int.le_refl a)]
    exact ne
theorem IsRuns.neg {F : Int → Int} {a : Int} {l : List (Int × Int)} (h : IsRuns F a l) : IsRuns (fun d => 0 - F d) a (l.map fun p => (p.1, 0 - p.2)) := by
  induction h with
  | last h => exact .last (F := fun d => 0 - F d) fun d hd => by show 0 - F d = 0 - F _; rw [h d hd]
  | more lt h ne r ih => exact .more (F := fun d => 0 - F d) lt (fun d h1 h2 => by show 0 - F d = 0 - F _; rw [h d h1 h2]) (fun z => ne (by have z : 0 - F _ = 0 - F _ := z; omega)) ih
theorem wat_times (t d : Int) : ∀ cs : List Int, wat (cs.map (t * ·)) d = t * wat cs d
  | [] => by show (0 : Int) = t * 0; omega
  | c :: cs => by
    show wat (cs.map (t * ·)) d * d + t * c = t * (wat cs d * d + c)
    rw [wat_times t d cs]
    grind
/-- the same runs, told of another list -/
theorem RunsAt.norm {H : Hp} {l : Addr} {G F : Int → Int} {ps : List (Int × Int)} (h : RunsAt H l G) (k : ∀ d, 1 ≤ d → G d = F d) (r : IsRuns F 1 ps) : ∃ us, H l = some (.lst us) ∧ us.length ≤ 90000 ∧ PL H us ps := by
  obtain ⟨us, ps', e, ll, p, r'⟩ := h
  have := SgM.IsRuns.uniq (IsRuns.congr r' k) r
  rw [this] at p
  exact ⟨us, e, ll, p⟩
theorem eqv_nil : ∀ ps : List (Int × Int), PyData.eqv (.list (ps.map pd)) (.list []) = decide (ps = [])
  | [] => by simp [PyData.eqv, PyData.eqvAll]
  | p :: ps => by simp [PyData.eqv, PyData.eqvAll]
theorem shp_nil : SeqAt.shaped (.list []) = true := by decide
theorem ediv_bd {a b : Int} (h : 1 ≤ a) : (b / a).natAbs ≤ b.natAbs + 1 := by
  have e1 := Int.mul_ediv_add_emod b a
  have e2 := Int.emod_nonneg b (show a ≠ 0 by omega)
  have e3 := Int.emod_lt_of_pos b (show 0 < a by omega)
  generalize b / a = q at *
  generalize b % a = r at *
  rcases Int.lt_or_le q 0 with z | z
  · have : a * (q + 1) ≤ 1 * (q + 1) := Int.mul_le_mul_of_nonpos_right h (by omega)
    rw [Int.mul_add, Int.mul_one] at this
    omega
  · have : 1 * q ≤ a * q := Int.mul_le_mul_of_nonneg_right h z
    omega
theorem place_bd {fs : List Fac} (hO : ∀ f ∈ fs, FOk 5 f) {k : Int} (h : k ∈ plcs fs) : Bd 100 k := by
  rcases List.mem_cons.mp h with z | z
  · rw [z]; decide
  · obtain ⟨⟨a, b, q⟩, hf, hk⟩ := List.mem_flatMap.mp z
    obtain ⟨h1, h2, h3, _⟩ := hO _ hf
    have h1 : 1 ≤ a := h1
    have h3 : b.natAbs ≤ 2 ^ 67 + 50 * 5 := h3
    have e := ediv_bd (b := b) h1
    unfold plf at hk
    split at hk
    · cases hk
    · have hk : k ∈ [b / a, b / a + 1, b / a + 2] := hk
      simp only [List.mem_cons, List.not_mem_nil, or_false] at hk
      show k.natAbs < 2 ^ 100
      generalize b / a = q at *
      omega
theorem bl2_mem (F : Int → Int) : ∀ (xs : List Int) (qs : List (Int × Int)), ∀ p ∈ xs.foldl (bl2 F) qs, p ∈ qs ∨ (p.1 ∈ xs ∧ p.2 = F p.1)
  | [], qs, p, h => .inl h
  | x :: xs, qs, p, h => by
    rcases bl2_mem F xs (bl2 F qs x) p h with z | ⟨z1, z2⟩
    · have go : ∀ qs', p ∈ qs' ++ [(x, F x)] → p ∈ qs' ∨ (p.1 ∈ x :: xs ∧ p.2 = F p.1) := fun qs' z => by
        rcases List.mem_append.mp z with y | y
        · exact .inl y
        · rw [List.mem_singleton.mp y]
          exact .inr ⟨List.mem_cons_self, rfl⟩
      unfold bl2 at z
      split at z
      · exact go qs z
      · split at z
        · exact .inl z
        · exact go qs z
    · exact .inr ⟨List.mem_cons_of_mem _ z1, z2⟩
/-- the runs, with bounds -/
def RunsB (H : Hp) (l : Addr) (F : Int → Int) : Prop := ∃ us ps, H l = some (.lst us) ∧ us.length ≤ 16 ∧ PL H us ps ∧ IsRuns F 1 ps ∧ ∀ p ∈ ps, Bd 100 p.1 ∧ Bd 100 p.2
section
variable {P : Program} {w : World} {K : Fr} {mg : Str → Option Value} {base : Heap} {f : Addr} {fd : FuncData}
abbrev sDu : Stmt := top 33
abbrev NDu : List Str := ["_law_number", "_law_factors", "_law_found", "_law_place", "_law_sign_here"]
theorem scDu : FnScope NDu ["_law_number", "_law_factors"] (defScope sDu) := ⟨rfl, rfl, rfl, by decide +kernel, rfl, by decide +kernel, by decide +kernel⟩
def spDu (K : Fr) : Sp := fun vs H Q _ => ∃ (n : Int) (l : Addr) (us : List V) (fs : List Fac), vs = [.int n, .ref l] ∧ H l = some (.lst us) ∧ FL H us fs ∧ (∀ f ∈ fs, FOk 5 f) ∧ fs.length ≤ 5 ∧
  ∀ l' H', Same H H' → H l' = none → RunsB H' l' (fsg n fs) → Q (.ref l') H'
theorem ok_du (F : FunD K "_law_due" "_law_due" (defArgs sDu) (defBody sDu) (defScope sDu) [] [] f fd) (T : TT K mg) (C : PlG P w K mg base) (S : SaLG P w K mg base) : FnOk P w K mg base CX0 3 f fd ["_law_number", "_law_factors"] (spDu K) := by
  obtain ⟨fC, dC, GC⟩ := C
  obtain ⟨fS, dS, GS⟩ := S
  refine F.ok scDu (fun vs H Q E h => ?_) (fun cdv A outer s H vs Q E hr h => ?_)
  · obtain ⟨n, l, us, fs, rfl, _⟩ := h
    rfl
  · obtain ⟨n, l, us, fs, rfl, el, hF, hO, h5, q⟩ := h
    have hu : (A.deeper (envOfC "_law_due" (defScope sDu) s.heap.objs.size f cdv)).units + 64 < cLine := by have := hr.un; omega
    refine ⟨_, PSs.nox (pss_cons (ps_set (i := 2) scDu.nd rfl (Or.inl rfl) (pe_lst pa_nil))
      (pss_cons (ps_for PassesOwn.never rfl (pi_list (pe_gd GC (hr.mono (by decide)) (by rfl) (pa_cons (pv 1) pa_nil))) (pg_name (i := 3) scDu.nd rfl (Or.inl rfl))
        (pss_cons (ps_set (i := 4) scDu.nd rfl (Or.inl rfl) (pe_gd GS hr (by rfl) (pa_cons (pv 0) (pa_cons (pv 1) (pa_cons (pv 3) pa_nil)))))
        (pss_one (ps_if (PW.pt (pw_or (pt_cmpR (op_eqD hu) (pv 2) (pe_lst pa_nil) (nomark _))
          (pw_or1 (pt_cmpR op_ne (pe_ix ix_tup (pe_ix ix_list (pv 2) (pe_un un_neg pe_int) (fun _ _ => rfl)) pe_int (fun _ _ => rfl)) (pv 4) (nomark _)))))
          (pss_one (ps_expr (pe_bm PySem.F.plainAttrs_list PySem.F.slot_list_append PySem.F.type_list_append mt_append (pv 2) (pa_cons (pe_tup (pa_cons (pv 3) (pa_cons (pv 4) pa_nil))) pa_nil)))) pss_nil))))
      (pss_one (ps_ret (pv 2))))), ?_⟩
    have lz : 10000 ≤ sizeLine := by rw [sizeLine_eq]; decide
    refine ⟨by show 0 ≤ sizeLine; omega, fun lf nlf => ?_⟩
    have s0 : Same H (upd H lf (.lst [])) := same_new nlf
    refine ⟨_, rfl, l, us, fs, rfl, s0 _ _ el, hF.same s0, hO, h5, fun lp ps H1 s1 np ep hp hm ll => ⟨lp, rfl, ⟨_, SqL.of ep⟩, ?_⟩⟩
    have nfp : lp ≠ lf := fun z => by
      rw [z, upd_same] at np
      cases np
    refine for_list (xs := ps.map V.int) (fun i σ H' => Same H H' ∧ H' lp = some (.lst (ps.map V.int)) ∧ ∃ (us' : List V) (u3 u4 : Option V), σ = [some (.int n), some (.ref l), some (.ref lf), u3, u4] ∧ H' lf = some (.lst us') ∧ PL H' us' ((ps.take i).foldl (bl2 (fsg n fs)) []))
      ⟨s0.trans s1, ep, [], none, none, rfl, s1 _ _ upd_same, trivial⟩ (fun i σ H2 _ pv => SqL.of pv.2.1) ?_ ?_
    · rintro i v σ H2 hi ⟨s2, ep2, us', u3, u4, rfl, elf, hP⟩
      obtain ⟨k, hk, rfl⟩ := getm hi
      have hkm := (hm k).mp (List.mem_of_getElem? hk)
      have hi' : i < ps.length := (List.getElem?_eq_some_iff.mp hk).1
      rw [take_succ' hk, List.foldl_append, List.foldl_cons, List.foldl_nil]
      have lb := bl2_len (fsg n fs) (ps.take i) []
      rw [← hP.len, List.length_take] at lb
      have lb : us'.length ≤ 16 := by
        have : ([] : List (Int × Int)).length = 0 := rfl
        omega
      generalize (ps.take i).foldl (bl2 (fsg n fs)) [] = qs at *
      refine ⟨_, rfl, _, rfl, _, rfl, n, k, l, us, fs, rfl, s2 _ _ el, hF.same s2, hO, place_bd hO hkm.1, ?_⟩
      have fin : ∀ (qs' : List (Int × Int)) (us2 : List V) (H3 : Hp), (Same H H3 ∧ H3 lp = some (.lst (ps.map V.int)) ∧ H3 lf = some (.lst us2) ∧ PL H3 us2 qs') →
          ∀ u3 u4 : Option V, (Same H H3 ∧ H3 lp = some (.lst (ps.map V.int)) ∧ ∃ (us' : List V) (v3 v4 : Option V), [some (V.int n), some (.ref l), some (.ref lf), u3, u4] = [some (.int n), some (.ref l), some (.ref lf), v3, v4] ∧ H3 lf = some (.lst us') ∧ PL H3 us' qs') :=
        fun qs' us2 H3 h u3 u4 => ⟨h.1, h.2.1, us2, u3, u4, rfl, h.2.2.1, h.2.2.2⟩
      have app : ∀ (H3 : Hp) (tn : Addr), Same H2 H3 → H3 tn = none → (Same H (upd (upd H3 tn (.tup [.int k, .int (fsg n fs k)])) lf (.lst (us' ++ [.ref tn]))) ∧ (upd (upd H3 tn (.tup [.int k, .int (fsg n fs k)])) lf (.lst (us' ++ [.ref tn]))) lp = some (.lst (ps.map V.int)) ∧
          (upd (upd H3 tn (.tup [.int k, .int (fsg n fs k)])) lf (.lst (us' ++ [.ref tn]))) lf = some (.lst (us' ++ [.ref tn])) ∧ PL (upd (upd H3 tn (.tup [.int k, .int (fsg n fs k)])) lf (.lst (us' ++ [.ref tn]))) (us' ++ [.ref tn]) (qs ++ [(k, fsg n fs k)])) := fun H3 tn s3 ntn => by
        have e3 := same_new (o := .tup [.int k, .int (fsg n fs k)]) ntn _ _ (s3 _ _ elf)
        refine ⟨fun b' o e' => ?_, ?_, upd_same, (((hP.same s3).same (same_new ntn)).snoc upd_same).updL e3⟩
        · rw [upd_ne (ne_of_none e' nlf)]
          exact same_new ntn _ _ (s3 _ _ (s2 _ _ e'))
        · rw [upd_ne nfp]
          exact same_new ntn _ _ (s3 _ _ ep2)
      refine ⟨_, rfl, by show 0 ≤ sizeLine; omega, fun l0 n0 => ?_⟩
      have s3 : Same H2 (upd H2 l0 (.lst [])) := same_new n0
      refine ⟨_, _, .lst (SqL.of (s3 _ _ elf)) (hP.same s3).dp, .lst (SqL.of upd_same) .nil, shp_pd _, shp_nil, ?_⟩
      rw [eqv_nil]
      rcases List.eq_nil_or_concat qs with z | ⟨qs', ⟨x, sx⟩, z⟩
      · subst z
        refine ⟨true, congrArg V.bl (decide_eq_true rfl), iteT (iteT ?_)⟩
        refine ⟨_, rfl, .inl ⟨rfl, _, SqL.of (s3 _ _ elf)⟩, _, rfl, _, rfl, by show 2 ≤ sizeLine; omega, fun tn ntn => ?_⟩
        exact ⟨lf, _, _, rfl, rfl, same_new ntn _ _ (s3 _ _ elf), by omega, fin _ _ _ (app _ tn s3 ntn) _ _⟩
      · rw [List.concat_eq_append] at z
        subst z
        obtain ⟨us2, r, rfl, er, p10⟩ := hP.unsnoc
        refine ⟨false, congrArg V.bl (decide_eq_false (by simp)), iteF ?_⟩
        refine ⟨_, rfl, 1, rfl, lf, _, _, _, rfl, rfl, SqL.of (s3 _ _ elf), atI_last _ _, r, _, _, _, rfl, rfl, SqT.of (s3 _ _ er), rfl, _, rfl, rfl, _, rfl, ite2 (fun h => ?_) (fun h => ?_)⟩
        · have ne : sx ≠ fsg n fs k := fun z => by
            rw [z] at h
            simp at h
          rw [bl2_snoc, if_neg ne]
          refine ⟨_, rfl, .inl ⟨rfl, _, SqL.of (s3 _ _ elf)⟩, _, rfl, _, rfl, by show 2 ≤ sizeLine; omega, fun tn ntn => ?_⟩
          exact ⟨lf, _, _, rfl, rfl, same_new ntn _ _ (s3 _ _ elf), by omega, fin _ _ _ (app _ tn s3 ntn) _ _⟩
        · have e : sx = fsg n fs k := Classical.byContradiction fun z => h (by
            show (!decide (V.int sx = V.int (fsg n fs k))) = true
            rw [decide_eq_false fun y => z (by injection y)]
            rfl)
          rw [bl2_snoc, if_pos e]
          exact fin _ _ _ ⟨s2.trans s3, s3 _ _ ep2, s3 _ _ elf, hP.same s3⟩ _ _
    · rintro σ H2 ⟨s2, ep2, us', u3, u4, rfl, elf, hP⟩
      rw [List.length_map, List.take_length] at hP
      refine ⟨_, rfl, q lf H2 s2 nlf ⟨us', _, elf, ?_, hP, runs_places (fun f hf => (hO f hf).1) hp hm, fun p hp' => ?_⟩⟩
      rotate_left
      · rcases bl2_mem _ _ _ p hp' with z | ⟨z1, z2⟩
        · cases z
        · refine ⟨place_bd hO ((hm _).mp z1).1, ?_⟩
          rw [z2]
          exact Nat.lt_of_le_of_lt (fsg_bd _ _ _) (by decide)
      have lb := bl2_len (fsg n fs) ps []
      rw [← hP.len] at lb
      have : ([] : List (Int × Int)).length = 0 := rfl
      omega
abbrev DuG (P : Program) (w : World) (K : Fr) (mg : Str → Option Value) (base : Heap) : Prop := ∃ f d, Gd P w K mg base 3 "_law_due" f d ["_law_number", "_law_factors"] (spDu K)
end
end K71

set_option maxHeartbeats 4000000
namespace RtL
open PySem PySem.Spec PyProof.Rows L2 ErL
section
variable {K : PySem.W.Frag} {x qual : Str} {params : Arguments} {body : List Stmt} {scope : Scope} {kws : List (Str × V)} {f : Addr} {fd : FuncData} {ps : List Str}
theorem kbindsN (F : FunD K x qual params body scope [] kws f fd) (n : Nat) (ks : List Str) (g : {α : Type} → List α → List α → List α)
    (hrel : ∀ {vs zs : List V} {us ws : List Value}, Vals vs us → Vals zs ws → Vals (g vs zs) (g us ws))
    (h : ∀ (kV doc pm : Value) (an : Option Addr) (cdv ct : Value) (us ws : List Value), us.length = n → ws.length = ks.length →
      bindArgs (PySem.W.fnOf x qual params body scope .none kV doc pm an cdv ct) ⟨us, ks.zip ws⟩ = pure (ps.zip (g us ws))) :
    KBn K fd ps n ks (fun us ws => g us ws) (fun vs zs => g vs zs) := by
  obtain ⟨oc, od, dV, kV, doc, pm, an, cdv, ct, osl, rfl, lk, hcd, hD, hK⟩ := F.ex
  rcases hD with ⟨_, rfl⟩ | ⟨e, _⟩
  · exact ⟨fun s us ws X l1 l2 => .of_eq (h kV doc pm an cdv ct us ws l1 l2), fun r1 r2 => hrel r1 r2⟩
  · exact absurd rfl e
end
/-- o.m(k = v, ..) -/
def tMethK0 (C : Addr) (m : Str) (n : Nat) (sp : Sp) (gV : List V → List V → List V) (E : XK) (ta : TE) (tk : TA) : TE := fun σ H Q => ta σ H fun x H1 => ∃ a dx fs, x = .ref a ∧ H1 a = some (.ins C dx fs) ∧ fs.lookup m = none ∧ tk σ H1 fun zs H2 => zs.length = n ∧ sp (gV [.ref a] zs) H2 Q E
section
variable {X : Cx} {CX : CXT} {k : Nat} {f C : Addr} {fd : FuncData} {ps ks : List Str} {sp : Sp} {E : XK} {m : Str} {pos apos : Pos} {o : Expr} {kws : List Keyword} {ta : TE} {tk : TA} {g : List Value → List Value → List Value} {gV : List V → List V → List V}
theorem pe_methK0 {pl : Sem Bool} (he : PE X o ta) (c : Cls X.K C) (hm : Meth X.K C m f) (F : FnOk X.prog X.w X.K X.mg X.base CX k f fd ps sp) (hr : Room k X.A) (hb : KBn X.K fd ps 1 ks g gV) (hx : Passes CX X E) (hkw : PK X kws tk)
    (hall : (backToKw pos (keywordEach kws X.env)).all (·.1.isSome) = true := by rfl) (hks : (backToKw pos (keywordEach kws X.env)).filterMap (·.1) = ks := by rfl)
    (hpl : ((backTo pos (starEach [] X.env)).any (·.1) || (backToKw pos (keywordEach kws X.env)).any (·.1.isNone)) = false := by rfl)
    (ht : eval (.Call (.Attribute o m apos) [] kws pos) X.env = (do
      let ov ← eval o X.env
      standAt apos.atName
      let (f, first) ← holding [ov] (getMethod ov m pl)
      callWith pos f first (backTo pos (starEach [] X.env)) (backToKw pos (keywordEach kws X.env))) := by rfl) :
    PE X (.Call (.Attribute o m apos) [] kws pos) (tMethK0 C m ks.length sp gV E ta tk) := by
  refine ⟨fun pins s σ H Q I h => ?_⟩
  refine PySem.W.methodCall_KW (pl := pl) (thn (he.run pins s σ H _ I h) fun u s1 ⟨x, H1, I1, rx, a, dx, fs, ex, ea, l, q⟩ => ?_) ht
  subst ex
  obtain rfl : u = Value.ref a := rx
  refine getmeth_ok I1 ea c hm l ?_
  refine PySem.W.callWith_KW0 (h₀ := X.base) I.ok.mod.kin hm.kp hall (thn (hkw.run pos pins s1 σ H1 _ I1 q) fun ws s2 ⟨zs, H2, I2, rz, lz, q2⟩ => ⟨I2.kIn, ?_⟩) hpl
  rw [hks]
  exact run_fnN (us := [.ref a]) (vs := [.ref a]) F hr hb hx I2 (.cons rfl .nil) rz rfl lz q2
end
end RtL

set_option maxHeartbeats 4000000
set_option exponentiation.threshold 3000
namespace RtL
open PySem PySem.Spec PyProof.Rows L2 ErL
def tCallN0 (n : Nat) (sp : Sp) (gV : List V → List V → List V) (E : XK) (tk : TA) : TE := fun σ H Q => tk σ H fun zs H2 => zs.length = n ∧ sp (gV [] zs) H2 Q E
section
variable {X : Cx} {CX : CXT} {k : Nat} {f : Addr} {fd : FuncData} {ps ks : List Str} {sp : Sp} {E : XK} {x : Str} {p pos : Pos} {kws : List Keyword} {tk : TA} {g : List Value → List Value → List Value} {gV : List V → List V → List V}
/-- f(k = v, ..) -/
theorem pe_callN0 (F : FnOk X.prog X.w X.K X.mg X.base CX k f fd ps sp) (hr : Room k X.A) (hg : Gl X x) (hm : X.mg x = some (.ref f)) (hk : PySem.W.keepIn X.K (.ref f) = true) (hb : KBn X.K fd ps 0 ks g gV) (hx : Passes CX X E) (hkw : PK X kws tk)
    (hall : (backToKw pos (keywordEach kws X.env)).all (·.1.isSome) = true := by rfl) (hks : (backToKw pos (keywordEach kws X.env)).filterMap (·.1) = ks := by rfl) (hdb : (x == ("__debug__" : Str)) = false := by decide)
    (hpl : ((backTo pos (starEach [] X.env)).any (·.1) || (backToKw pos (keywordEach kws X.env)).any (·.1.isNone)) = false := by rfl) :
    PE X (.Call (.Name x p) [] kws pos) (tCallN0 ks.length sp gV E tk) := by
  refine ⟨fun pins s σ H Q I h => ?_⟩
  refine wpAny_Call_Name_kw (ld_glob I hg hm ?_ hdb)
  refine PySem.W.callWith_KW0 (h₀ := X.base) I.ok.mod.kin hk hall (thn (hkw.run pos pins s σ H _ I h) fun ws s2 ⟨zs, H2, I2, rz, lz, q2⟩ => ⟨I2.kIn, ?_⟩) hpl
  rw [hks]
  exact run_fnN (us := []) (vs := []) F hr hb hx I2 .nil rz rfl lz q2
end
end RtL
namespace K71
open PySem PySem.Spec PyProof.Rows L2 RtL ErL StX
open SgM (wat sg Cov bld IsRuns)
theorem PL.dq {H : Hp} : ∀ {us : List V} {ps : List (Int × Int)}, PL H us ps → DqAll H us (ps.map pd)
  | [], [], _ => .nil
  | _ :: _, _ :: _, ⟨⟨r, e, h⟩, h'⟩ => by
    rw [e]
    exact .cons (.tup h (.cons (.int _) (.cons (.int _) .nil))) h'.dq
def PB (ps : List (Int × Int)) : Prop := ∀ p ∈ ps, Bd 100 p.1 ∧ Bd 100 p.2
theorem shown_i {i : Int} (h : Bd 1000 i) : (PyData.int i).showable = true ∧ (PyData.int i).shown.length ≤ 1001 := ⟨decide_eq_true (log_of h), t_len h⟩
theorem shown_pd {p : Int × Int} (h : Bd 100 p.1 ∧ Bd 100 p.2) : (pd p).showable = true ∧ (pd p).shown.length ≤ 2010 := by
  obtain ⟨a1, a2⟩ := shown_i (bd_up h.1 (show 100 ≤ 1000 by decide))
  obtain ⟨b1, b2⟩ := shown_i (bd_up h.2 (show 100 ≤ 1000 by decide))
  refine ⟨?_, ?_⟩
  · show ((PyData.int p.1).showable && ((PyData.int p.2).showable && true)) = true
    rw [a1, b1]
    rfl
  · have l := tupleText_len_le [(PyData.int p.1).shown, (PyData.int p.2).shown]
    show (tupleText [(PyData.int p.1).shown, (PyData.int p.2).shown]).length ≤ _
    simp only [List.map_cons, List.map_nil, List.sum_cons, List.sum_nil, List.length_cons, List.length_nil] at l
    omega
theorem sh_pds : ∀ ps : List (Int × Int), PB ps → PyData.showableAll (ps.map pd) = true ∧ ((PyData.shownAll (ps.map pd)).map (·.length)).sum ≤ ps.length * 2010 ∧ (PyData.shownAll (ps.map pd)).length = ps.length
  | [], _ => ⟨rfl, Nat.zero_le _, rfl⟩
  | c :: cs, h => by
    obtain ⟨h1, h2⟩ := shown_pd (h c List.mem_cons_self)
    obtain ⟨a, b, d⟩ := sh_pds cs fun x hx => h x (List.mem_cons_of_mem _ hx)
    refine ⟨?_, ?_, ?_⟩
    · show (_ && _) = true
      rw [h1]
      exact a
    · show (pd c).shown.length + ((PyData.shownAll (cs.map pd)).map (·.length)).sum ≤ _
      rw [List.length_cons]
      omega
    · show (PyData.shownAll (cs.map pd)).length + 1 = _
      rw [d]
      rfl
theorem len_pdl {ps : List (Int × Int)} (h : PB ps) (hl : ps.length ≤ 16) : (PyData.list (ps.map pd)).shown.length ≤ 33000 := by
  obtain ⟨a, b, d⟩ := sh_pds ps h
  have := listText_len_le (PyData.shownAll (ps.map pd))
  show (listText (PyData.shownAll (ps.map pd))).length ≤ _
  omega
theorem okw_ps {ps : List (Int × Int)} (h : PB ps) (hl : ps.length ≤ 16) : OkW (.list (ps.map pd)) := by
  obtain ⟨a, b, d⟩ := sh_pds ps h
  refine ⟨a, ?_, ?_⟩
  · have := dep_pd ps
    show PyData.depthAll (ps.map pd) + 1 ≤ 20
    omega
  · have := len_pdl h hl
    rw [sizeLine_eq]
    omega
theorem okw_two {ps qs : List (Int × Int)} (h : PB ps) (hl : ps.length ≤ 16) (h' : PB qs) (hl' : qs.length ≤ 16) : OkW (.list [.list (ps.map pd), .list (qs.map pd)]) := by
  obtain ⟨a, b, d⟩ := sh_pds ps h
  obtain ⟨a', b', d'⟩ := sh_pds qs h'
  refine ⟨?_, ?_, ?_⟩
  · show (PyData.showableAll (ps.map pd) && (PyData.showableAll (qs.map pd) && true)) = true
    rw [a, a']
    rfl
  · have e1 := dep_pd ps
    have e2 := dep_pd qs
    show max (PyData.depthAll (ps.map pd) + 1) (max (PyData.depthAll (qs.map pd) + 1) 0) + 1 ≤ 20
    omega
  · have e1 := len_pdl h hl
    have e2 := len_pdl h' hl'
    have l := listText_len_le [(PyData.list (ps.map pd)).shown, (PyData.list (qs.map pd)).shown]
    show (listText [(PyData.list (ps.map pd)).shown, (PyData.list (qs.map pd)).shown]).length ≤ _
    simp only [List.map_cons, List.map_nil, List.sum_cons, List.sum_nil, List.length_cons, List.length_nil] at l
    rw [sizeLine_eq]
    omega
theorem one_shown : (PyData.list ([(1, 1)].map pd)).shown = "[(1, 1)]" := by decide +kernel
theorem IsRuns.neg' {F : Int → Int} {a : Int} {l : List (Int × Int)} (h : IsRuns F a l) : IsRuns (fun d => -F d) a (l.map fun p => (p.1, -p.2)) := by
  induction h with
  | last h => exact .last (F := fun d => -F d) fun d hd => by show -F d = -F _; rw [h d hd]
  | more lt h ne r ih => exact .more (F := fun d => -F d) lt (fun d h1 h2 => by show -F d = -F _; rw [h d h1 h2]) (fun z => ne (by have z : -F _ = -F _ := z; omega)) ih
/-! ### sizes of products -/
theorem fill_bd {n m : Nat} {xs : List Int} (h : ∀ c ∈ xs, Bd n c) : ∀ c ∈ fill xs m, Bd n c := fun c hc => by
  rcases List.mem_append.mp hc with z | z
  · exact h c z
  · rw [List.eq_of_mem_replicate z]
    exact Nat.two_pow_pos _
theorem zw_bd {g : Int → Int → Int} {n m : Nat} (hg : ∀ a b, Bd n a → Bd n b → Bd m (g a b)) : ∀ (xs ys : List Int), (∀ c ∈ xs, Bd n c) → (∀ c ∈ ys, Bd n c) → ∀ c ∈ List.zipWith g xs ys, Bd m c
  | [], _, _, _, c, hc => by cases hc
  | _ :: _, [], _, _, c, hc => by cases hc
  | x :: xs, y :: ys, h1, h2, c, hc => by
    rcases List.mem_cons.mp hc with z | z
    · rw [z]
      exact hg _ _ (h1 _ List.mem_cons_self) (h2 _ List.mem_cons_self)
    · exact zw_bd hg xs ys (fun c hc => h1 c (List.mem_cons_of_mem _ hc)) (fun c hc => h2 c (List.mem_cons_of_mem _ hc)) c z
theorem addl_bd {g : Int → Int → Int} {n m : Nat} (hg : ∀ a b, Bd n a → Bd n b → Bd m (g a b)) {as bs : List Int} (h1 : ∀ c ∈ as, Bd n c) (h2 : ∀ c ∈ bs, Bd n c) : ∀ c ∈ addl g as bs, Bd m c := fun c hc => zw_bd hg _ _ (fill_bd h1) (fill_bd h2) c (pl_mem hc)
theorem addl_len {g : Int → Int → Int} (as bs : List Int) : (addl g as bs).length ≤ max as.length bs.length := by
  refine Nat.le_trans (pl_length _) ?_
  rw [List.length_zipWith, fill_len _ (Nat.le_max_left _ _), fill_len _ (Nat.le_max_right _ _)]
  omega
theorem mul_bd {n k : Nat} {as bs : List Int} (h1 : ∀ c ∈ as, Bd n c) (h2 : ∀ c ∈ bs, Bd k c) (l : as.length * bs.length ≤ 63) : ∀ c ∈ mull as bs, Bd (n + k + 6) c := fun c hc => by
  have z := lim_out (as := as) (bs := bs) (B := 2 ^ (n + k)) (fun a ha b hb => Nat.le_of_lt (bd_mul (h1 a ha) (h2 b hb))) (Nat.le_refl _) c (pl_mem hc)
  have m : as.length * bs.length * 2 ^ (n + k) ≤ 63 * 2 ^ (n + k) := Nat.mul_le_mul_right _ l
  have p : 0 < 2 ^ (n + k) := Nat.two_pow_pos _
  show c.natAbs < 2 ^ (n + k + 6)
  have e : 2 ^ (n + k + 6) = 2 ^ (n + k) * 64 := Nat.pow_add 2 (n + k) 6
  omega
theorem gd_addAt_ne (xs : List Int) {i t : Nat} (v : Int) (h : t ≠ i) : (addAt xs i v).getD t 0 = xs.getD t 0 := by
  unfold addAt
  rw [List.getD_eq_getElem?_getD, List.getElem?_set_ne (Ne.symm h), ← List.getD_eq_getElem?_getD]
theorem gd_mulIn (a : Int) (i t : Nat) (bs : List Int) : ∀ (j : Nat) (xs : List Int), i + j ≤ t → (mulIn a i bs j xs).getD t 0 = xs.getD t 0
  | 0, _, _ => rfl
  | j + 1, xs, h => by
    show (addAt (mulIn a i bs j xs) (i + j) (a * bs.getD j 0)).getD t 0 = _
    rw [gd_addAt_ne _ _ (by omega), gd_mulIn a i t bs j xs (by omega)]
theorem gd_mulOut (as bs : List Int) {t : Nat} : ∀ i : Nat, i + bs.length ≤ t + 1 → (mulOut as bs i).getD t 0 = 0
  | 0, _ => by
    show (List.replicate _ (0 : Int)).getD t 0 = 0
    rw [List.getD_eq_getElem?_getD, List.getElem?_replicate]
    split <;> rfl
  | i + 1, h => by
    show (mulIn (as.getD i 0) i bs bs.length (mulOut as bs i)).getD t 0 = 0
    rw [gd_mulIn _ _ _ _ _ _ (by omega), gd_mulOut as bs i (by omega)]
theorem pl_last0 {xs : List Int} {n : Nat} (h : xs.length = n + 1) (z : xs.getD n 0 = 0) : (pl xs).length ≤ n := by
  rcases List.eq_nil_or_concat xs with e | ⟨ys, y, e⟩
  · rw [e] at h
    cases h
  · rw [List.concat_eq_append] at e
    subst e
    have hy : ys.length = n := by
      rw [List.length_append] at h
      exact Nat.succ.inj h
    have z0 : y = 0 := by
      rw [List.getD_eq_getElem?_getD, List.getElem?_append_right (by omega), hy, Nat.sub_self] at z
      exact z
    have e : pl (ys ++ [y]) = pl ys := pl_uniq fun d _ => by
      rw [wat_app, z0]
      show _ + _ * (0 * d + 0) = _
      rw [Int.zero_mul, Int.zero_add, Int.mul_zero, Int.add_zero]
    rw [e]
    exact Nat.le_trans (pl_length ys) (by omega)
/-- times a row of at most three -/
theorem mul_len {as bs : List Int} (h : bs.length ≤ 3) : (mull as bs).length ≤ max as.length 1 + 2 := by
  by_cases z : as.length + bs.length ≤ max as.length 1 + 2
  · refine Nat.le_trans (pl_length _) ?_
    rw [mulOut_len]
    exact z
  · obtain ⟨n, hn⟩ : ∃ n, as.length + bs.length = n + 1 := ⟨as.length + bs.length - 1, by omega⟩
    have := pl_last0 (xs := mulOut as bs as.length) (n := n) (by rw [mulOut_len]; exact hn) (gd_mulOut as bs as.length (by omega))
    show (pl (mulOut as bs as.length)).length ≤ _
    omega
theorem sub_wat (d : Int) : ∀ {as bs : List Int}, as.length = bs.length → wat (List.zipWith (· - ·) as bs) d = wat as d - wat bs d
  | [], [], _ => rfl
  | a :: as, b :: bs, h => by
    have ih := sub_wat d (as := as) (bs := bs) (by simpa using h)
    show wat (List.zipWith (· - ·) as bs) d * d + (a - b) = (wat as d * d + a) - (wat bs d * d + b)
    rw [ih]
    grind
theorem wat_subl (d : Int) (as bs : List Int) : wat (addl (· - ·) as bs) d = wat as d - wat bs d := by
  unfold addl
  rw [wat_pl, sub_wat _ (by rw [fill_len _ (Nat.le_max_left _ _), fill_len _ (Nat.le_max_right _ _)]), wat_fill, wat_fill]
end K71

set_option maxHeartbeats 4000000
set_option exponentiation.threshold 3000
namespace K71
open PySem PySem.Spec PyProof.Rows L2 RtL ErL StX
open SgM (wat sg Cov bld IsRuns)
section
variable {P : Program} {w : World} {K : Fr} {mg : Str → Option Value} {base : Heap} {f : Addr} {fd : FuncData}
/-- a method of the class -/
def MdG (P : Program) (w : World) (K : Fr) (mg : Str → Option Value) (base : Heap) (k : Nat) (m : Str) (ps : List Str) (sp : Sp) : Prop := ∃ d, FnOk P w K mg base CX0 k (pm K m) d ps sp ∧ Binds K d ps []
abbrev AddG (P : Program) (w : World) (K : Fr) (mg : Str → Option Value) (base : Heap) : Prop := MdG P w K mg base 4 "__add__" ["self", "other"] (spBin K (addl (· + ·)))
abbrev SubG (P : Program) (w : World) (K : Fr) (mg : Str → Option Value) (base : Heap) : Prop := MdG P w K mg base 4 "__sub__" ["self", "other"] (spBin K (addl (· - ·)))
abbrev MulG (P : Program) (w : World) (K : Fr) (mg : Str → Option Value) (base : Heap) : Prop := MdG P w K mg base 4 "__mul__" ["self", "other"] (spBin K mull)
abbrev NegG (P : Program) (w : World) (K : Fr) (mg : Str → Option Value) (base : Heap) : Prop := MdG P w K mg base 4 "__neg__" ["self"] (spNeg K)
abbrev SrG2 (P : Program) (w : World) (K : Fr) (mg : Str → Option Value) (base : Heap) : Prop := ∃ f d, Gd P w K mg base 6 "sign_runs" f d ["polynomial"] (spSr K) ∧ KBn K d ["polynomial"] 0 ["polynomial"] (fun us ws => us ++ ws) (fun vs zs => vs ++ zs)
abbrev sPr : Stmt := top 35
abbrev NPr : List Str := ["_law_rng_here", "_law_number", "_law_factors", "_law_many", "_law_turn", "_law_whole", "_law_due_here", "_law_factor_here", "_law_told", "_law_flipped", "_law_further", "_law_place", "_law_sign_here"]
theorem scPr : FnScope NPr ["_law_rng_here"] (defScope sPr) := ⟨rfl, rfl, rfl, by decide +kernel, rfl, by decide +kernel, by decide +kernel⟩
def spPr : SpG := fun vs H Q => ∃ p, vs = [.ref p] ∧ PotAt H p ∧ ∀ H', PotAt H' p → But p H H' → Q (.bl true) H'
theorem pl_pl2 (as bs : List Int) : pl (mull as bs) = mull as bs := pl_pl _
theorem ok_pr (F : FunD K "_law_product_right" "_law_product_right" (defArgs sPr) (defBody sPr) (defScope sPr) [] [] f fd) (T : TT K mg) (I : PId P w K mg base) (D : DrawG P w K mg base) (C : PickG P w K mg base) (Fa : FaG P w K mg base) (Fp : FpG P w K mg base) (U : DuG P w K mg base)
    (S : SrG2 P w K mg base) (A_ : AddG P w K mg base) (B_ : SubG P w K mg base) (M : MulG P w K mg base) (N : NegG P w K mg base) : FnG P w K mg base 7 f fd ["_law_rng_here"] spPr := by
  obtain ⟨fD, dD, GD⟩ := D
  obtain ⟨fC, dC, GC⟩ := C
  obtain ⟨fF, dF, GF⟩ := Fa
  obtain ⟨fP, dP, GP⟩ := Fp
  obtain ⟨fU, dU, GU⟩ := U
  obtain ⟨fS, dS, GS, KS⟩ := S
  obtain ⟨dA, oA, bA⟩ := A_
  obtain ⟨dB, oB, bB⟩ := B_
  obtain ⟨dM, oM, bM⟩ := M
  obtain ⟨dN, oN, bN⟩ := N
  refine fnG_D F scPr (fun vs H Q h => ?_) (fun cdv A outer s H vs Q hr hG h => ?_)
  · obtain ⟨p, rfl, _⟩ := h
    rfl
  · obtain ⟨p, rfl, hp, q⟩ := h
    have hu : (A.deeper (envOfC "_law_product_right" (defScope sPr) s.heap.objs.size f cdv)).units + 70 < cLine := by have := hr.un; omega
    refine ⟨_, PSs.nox (pss_cons (ps_set (i := 1) scPr.nd rfl (Or.inl rfl) (pe_gd GC (hr.mono (by decide)) (by rfl) (pa_cons (pv 0) (pa_cons (pe_lst (pa_cons pe_int (pa_cons (pe_un un_neg pe_int) (pa_cons pe_int (pa_cons pe_int (pa_cons (pe_un un_neg pe_int) (pa_cons (pe_op op_pow pe_int pe_int)
        (pa_cons (pe_op op_sub (pe_un un_neg pe_int) (pe_gd GD (hr.mono (by decide)) (by rfl) (pa_cons (pv 0) (pa_cons (pe_op op_pow pe_int pe_int) pa_nil)))) pa_nil)))))))) pa_nil))))
      (pss_cons (ps_par (i := 2) (j := 3) rfl scPr.nd rfl rfl (by decide) rfl rfl (pa_cons (pe_lst pa_nil) (pa_cons (pe_gd GD (hr.mono (by decide)) (by rfl) (pa_cons (pv 0) (pa_cons pe_int pa_nil))) pa_nil)) (by rfl))
      (pss_cons (ps_for PassesOwn.never rfl (pi_range1 (by rfl) T.fre (pa_cons (pv 3) pa_nil)) (pg_name (i := 4) scPr.nd rfl (Or.inl rfl))
        (pss_one (ps_expr (pe_bm PySem.F.plainAttrs_list PySem.F.slot_list_append PySem.F.type_list_append mt_append (pv 2) (pa_cons (pe_gd GF (hr.mono (by decide)) (by rfl) (pa_cons (pv 0) (pa_cons (pv 2) (pa_cons (pe_ifExp (pt_cmpR op_lt (pv 3) pe_int (nomark _)) (pe_op op_pow pe_int pe_int) pe_int) pa_nil)))) pa_nil)))))
      (pss_cons (ps_par (i := 5) (j := 6) rfl scPr.nd rfl rfl (by decide) rfl rfl (pa_cons (pe_makeR T.mkp I (hr.mono (by decide)) (by rfl) (T.gl "Polynomial" (by decide)) pass0 (pa_cons (pv 1) pa_nil)) (pa_cons (pe_gd GU (hr.mono (by decide)) (by rfl) (pa_cons (pv 1) (pa_cons (pv 2) pa_nil))) pa_nil)) (by rfl))
      (pss_cons (ps_for PassesOwn.never rfl (pi_list (pv 2)) (pg_name (i := 7) scPr.nd rfl (Or.inl rfl))
        (pss_one (ps_set (i := 5) scPr.nd rfl (Or.inl rfl) (pe_op (op_ownBin (op := .Mult) (T.bin "__mul__" "__rmul__" (by decide)) rfl rfl oM (hr.mono (by decide)) bM pass0) (pv 5) (pe_gd GP (hr.mono (by decide)) (by rfl) (pa_cons (pv 7) pa_nil))))))
      (pss_cons (ps_set (i := 8) scPr.nd rfl (Or.inl rfl) (pe_gd GS (hr.mono (by decide)) (by rfl) (pa_cons (pv 5) pa_nil)))
      (pss_cons (ps_if (PW.pt (pw_or (pt_cmpR op_ne (pe_callB (call_reprW hu hG T.sys) (by rfl) T.fre (by decide +kernel) (pa_cons (pv 8) pa_nil)) (pe_callB (call_reprW hu hG T.sys) (by rfl) T.fre (by decide +kernel) (pa_cons (pv 6) pa_nil)) (nomark _))
        (pw_or1 (pt_not (pt_val (pe_callB call_isi (by rfl) T.fre (by decide +kernel) (pa_cons (pv 8) (pa_cons (pe_bltn (v := .ty "list") (u := .type "list") (by rfl) T.fre (by decide +kernel) rfl) pa_nil)))))))) (pss_one (ps_ret pe_bl)) pss_nil)
      (pss_cons (ps_expr (pe_bm PySem.F.plainAttrs_list PySem.F.slot_list_append PySem.F.type_list_append mt_append (pv 8) (pa_cons (pe_tup (pa_cons pe_int (pa_cons pe_int pa_nil))) pa_nil)))
      (pss_cons (ps_setLc (i := 9) (own := [("_law_place", 11), ("_law_sign_here", 12)]) (g := gTup K 2 (gCons (gName 11) (gCons (gName 12) gNil))) (tt := tYes) (by rfl) scPr.nd rfl rfl (sw_true rfl rfl rfl (by decide +kernel)) (pi_list (pv 6)) (blkOk_by (N := NPr) (sc := defScope sPr) (by decide +kernel))
        (fun _ _ _ _ _ => pg_tup (by rfl) (pgs_cons (pg_name (i := 11) scPr.nd rfl (Or.inl rfl)) (pgs_cons (pg_name (i := 12) scPr.nd rfl (Or.inl rfl)) pgs_nil))) (fun _ _ _ _ _ => pts_nil) (fun _ _ _ _ _ => pe_tup (pa_cons (pv 11) (pa_cons (pe_un un_neg (pv 12)) pa_nil))))
      (pss_cons (ps_if (pt_cmpR op_ne (pe_callB (call_reprW hu hG T.sys) (by rfl) T.fre (by decide +kernel) (pa_cons (pe_lst (pa_cons (pe_callN0 GS.ok (hr.mono (by decide)) (by rfl) GS.gl GS.kp KS pass0 (pk_cons (pv 5) pk_nil)) (pa_cons (pe_gd GS (hr.mono (by decide)) (by rfl) (pa_cons (pe_un (un_own T.neg.1 T.neg.2 oN (hr.mono (by decide)) bN pass0) (pv 5)) pa_nil)) pa_nil))) pa_nil))
          (pe_callB (call_reprW hu hG T.sys) (by rfl) T.fre (by decide +kernel) (pa_cons (pe_lst (pa_cons (pv 6) (pa_cons (pv 9) pa_nil))) pa_nil)) (nomark _)) (pss_one (ps_ret pe_bl)) pss_nil)
      (pss_cons (ps_set (i := 10) scPr.nd rfl (Or.inl rfl) (pe_makeR T.mkp I (hr.mono (by decide)) (by rfl) (T.gl "Polynomial" (by decide)) pass0 (pa_cons (pe_gd GD (hr.mono (by decide)) (by rfl) (pa_cons (pv 0) (pa_cons pe_int pa_nil))) (pa_cons pe_int (pa_cons (pe_gd GD (hr.mono (by decide)) (by rfl) (pa_cons (pv 0) (pa_cons pe_int pa_nil))) pa_nil)))))
      (pss_one (ps_ret (pe_and (pe_cmpR op_eq (pe_callB (call_reprW hu hG T.sys) (by rfl) T.fre (by decide +kernel) (pa_cons (pe_gd GS (hr.mono (by decide)) (by rfl) (pa_cons (pe_op (op_ownBin (op := .Sub) (T.bin "__sub__" "__rsub__" (by decide)) rfl rfl oB (hr.mono (by decide)) bB pass0)
            (pe_op (op_ownBin (op := .Add) (T.bin "__add__" "__radd__" (by decide)) rfl rfl oA (hr.mono (by decide)) bA pass0) (pv 5) (pv 10)) (pv 10)) pa_nil)) pa_nil)) (pe_callB (call_reprW hu hG T.sys) (by rfl) T.fre (by decide +kernel) (pa_cons (pv 6) pa_nil)) (nomark _))
          (pe_one (pe_cmpR op_eq (pe_callB (call_reprW hu hG T.sys) (by rfl) T.fre (by decide +kernel) (pa_cons (pe_gd GS (hr.mono (by decide)) (by rfl) (pa_cons (pv 10) pa_nil)) pa_nil)) pe_str (nomark _))))))))))))))))), ?_⟩
    have lz : 100000 ≤ sizeLine := by rw [sizeLine_eq]; decide
    refine ⟨_, rfl, 1, rfl, 3, rfl, _, _, rfl, rfl, ⟨by decide, by decide, by decide⟩, 1, rfl, _, rfl, _, _, rfl, rfl, ⟨by decide, by decide, by decide⟩, p, _, rfl, hp, by decide, by decide, fun d1 H1 d10 d11 hp1 b1 => ⟨_, _, rfl, rfl, by show 7 ≤ sizeLine; omega, fun la nla => ?_⟩⟩
    refine ⟨p, la, _, rfl, hp1.same (same_new nla), upd_same, hp1.ne nla, Nat.succ_pos _, by show 7 < 1000; decide, fun i v H2 hi hp2 b2 => ?_⟩
    have d11 : d1 < 1000000000 := d11
    obtain ⟨n, rfl, bn⟩ : ∃ n : Int, v = .int n ∧ Bd 51 n := by
      match i, hi with
      | 0, hi => cases hi; exact ⟨1, rfl, by decide⟩
      | 1, hi => cases hi; exact ⟨-1, rfl, by decide⟩
      | 2, hi => cases hi; exact ⟨0, rfl, by decide⟩
      | 3, hi => cases hi; exact ⟨2, rfl, by decide⟩
      | 4, hi => cases hi; exact ⟨-3, rfl, by decide⟩
      | 5, hi => cases hi; exact ⟨_, rfl, by decide⟩
      | 6, hi => cases hi; exact ⟨-1 - d1, rfl, by show (-1 - d1).natAbs < 2 ^ 51; omega⟩
      | n + 7, hi => cases hi
    have bA2 : But p H H2 := b1.trans ((But.of (same_new nla)).trans b2)
    refine ⟨by show 0 ≤ sizeLine; omega, fun lf nlf => ?_⟩
    have nlfp : lf ≠ p := hp2.ne nlf
    have nlf0 : H lf = none := bA2.gone nlf nlfp
    refine ⟨_, rfl, p, 6, rfl, hp2.same (same_new nlf), by decide, by decide, fun kk H3 k0 k1 hp3 b3 => ⟨_, _, rfl, ?_⟩⟩
    obtain ⟨k, rfl⟩ : ∃ k : Nat, kk = (k : Int) := ⟨kk.toNat, by omega⟩
    have e3 : H3 lf = some (.lst []) := b3 _ _ upd_same nlfp
    have bA3 : But p H H3 := bA2.trans ((But.of (same_new nlf)).trans b3)
    obtain ⟨m, hm, m27, mk⟩ : ∃ m : Nat, ((k < 3 ∧ m = 67) ∨ (3 ≤ k ∧ m = 27)) ∧ 27 ≤ m ∧ m ≤ 67 := by
      rcases Nat.lt_or_ge k 3 with z | z
      · exact ⟨67, .inl ⟨z, rfl⟩, by decide, by decide⟩
      · exact ⟨27, .inr ⟨z, rfl⟩, by decide, by decide⟩
    have mk2 : (m + 7) * k ≤ 170 := by
      rcases hm with ⟨z, rfl⟩ | ⟨z, rfl⟩ <;> omega
    refine ⟨_, rfl, k, rfl, by omega, by omega, ?_⟩
    rw [Int.toNat_natCast]
    refine for_it walk_range (fun i σ H' => PotAt H' p ∧ But p H H' ∧ ∃ (us : List V) (fs : List Fac) (u4 : Option V), σ = [some (.ref p), some (.int n), some (.ref lf), some (.int (k : Nat)), u4, none, none, none, none, none, none, none, none] ∧ H' lf = some (.lst us) ∧ FL H' us fs ∧ (∀ f ∈ fs, FOw m i f) ∧ fs.length = i)
      ⟨hp3, bA3, [], [], none, rfl, e3, trivial, fun f hf => absurd hf List.not_mem_nil, rfl⟩ (fun _ _ _ _ _ => trivial) ?_ ?_
    · rintro i v σ Hx4 H4 hi ⟨hp4, b4, us, fs, u4, rfl, e4, hF, hO, hl⟩ ⟨rfl, rfl⟩
      have hi' : i < k := hi
      have lus := hF.len
      have fin : ∀ g : Int, GOk m g → spFa K [.ref p, .ref lf, .int g] H4 (fun v H' => rAppend (.ref lf) [v] H' fun _ H' => PotAt H' p ∧ But p H H' ∧ ∃ (us : List V) (fs : List Fac) (u4 : Option V), [some (V.ref p), some (V.int n), some (V.ref lf), some (V.int (k : Nat)), some (.int (0 + (i : Int))), none, none, none, none, none, none, none, none] = [some (.ref p), some (.int n), some (.ref lf), some (.int (k : Nat)), u4, none, none, none, none, none, none, none, none] ∧ H' lf = some (.lst us) ∧ FL H' us fs ∧ (∀ f ∈ fs, FOw m (i + 1) f) ∧ fs.length = i + 1) E0 := fun g hg => by
        refine ⟨p, lf, g, us, fs, m, i, rfl, hp4, e4, nlfp, hF, hO, by omega, hg, fun r f H5 hp5 b5 er ho => ?_⟩
        have e5 := b5 _ _ e4 nlfp
        refine ⟨lf, us, _, rfl, rfl, e5, by omega, ?_, ?_, us ++ [.ref r], fs ++ [f], _, rfl, upd_same, ((hF.but hp4 b5).app (FL.one er)).updL e5, fun f' hf' => ?_, ?_⟩
        · obtain ⟨x, y, e, rr⟩ := hp5
          exact ⟨x, y, by rw [upd_ne (Ne.symm nlfp)]; exact e, rr⟩
        · intro b' o' e' n'
          rw [upd_ne (ne_of_none e' nlf0)]
          exact b5 _ _ (b4 _ _ e' n') n'
        · rcases List.mem_append.mp hf' with z | z
          · exact (hO f' z).up (Nat.le_refl _) (Nat.le_succ _)
          · rw [List.mem_singleton.mp z]
            exact ho
        · rw [List.length_append, hl]
          rfl
      refine ⟨_, rfl, .inl ⟨rfl, _, SqL.of e4⟩, _, rfl, _, rfl, _, rfl, _, _, rfl, rfl, _, rfl, ite2 (fun h => ?_) (fun h => ?_)⟩
      · refine ⟨_, _, rfl, rfl, ⟨by decide, by decide, by decide⟩, ?_⟩
        have z : (k : Int) < 3 := of_decide_eq_true h
        exact fin 1000000000 (.inl ⟨by rcases hm with ⟨_, e⟩ | ⟨e, _⟩ <;> omega, rfl⟩)
      · have z : ¬ (k : Int) < 3 := fun z => h (decide_eq_true z)
        exact fin 1000 (.inr ⟨by rcases hm with ⟨e, _⟩ | ⟨_, e⟩ <;> omega, rfl⟩)
    rintro σ H4 ⟨hp4, b4, us, fs, u4, rfl, e4, hF, hO, hl⟩
    have lus := hF.len
    have hO5 : ∀ f ∈ fs, FOk 5 f := fun f hf => (hO f hf).up mk (by omega)
    refine ⟨_, rfl, fun x0 dx0 nx nd_ ne_ => madeP_at (cs := [n]) nx nd_ ne_ (by show 1 ≤ 1000; decide) fun H5 s5 r5 => ⟨rfl, ?_⟩⟩
    refine ⟨_, rfl, _, rfl, n, lf, us, fs, rfl, s5 _ _ e4, hF.same s5, hO5, by omega, fun ld H6 s6 n6 runs => ⟨_, _, rfl, ?_⟩⟩
    obtain ⟨us0, ps0, ed, ll0, pd0, rd0, bd0⟩ := runs
    have ll0' : ps0.length ≤ 16 := by rw [← pd0.len]; exact ll0
    have e6 := s6 _ _ (s5 _ _ e4)
    have hF6 := (hF.same s5).same s6
    have hp6 := (hp4.same s5).same s6
    have b6 : But p H H6 := b4.trans (But.of (s5.trans s6))
    refine ⟨_, rfl, lf, rfl, ⟨_, SqL.of e6⟩, for_list (xs := us) (fun i σ H' => Same H6 H' ∧ ∃ (x : Addr) (cs : List Int) (u7 : Option V), σ = [some (.ref p), some (.int n), some (.ref lf), some (.int (k : Nat)), u4, some (.ref x), some (.ref ld), u7, none, none, none, none, none] ∧ PolAt K H' x (pl cs) ∧ (∀ d, sg (wat cs d) = fsg n (fs.take i) d) ∧ (∀ c ∈ pl cs, Bd (51 + (m + 7) * i) c) ∧ (pl cs).length ≤ 1 + 2 * i)
      ⟨fun _ _ e => e, x0, [n], none, rfl, r5.same s6, fun d => ?_, fun c hc => ?_, pl_length [n]⟩ (fun i σ H2 _ pv => SqL.of (pv.1 _ _ e6)) ?_ ?_⟩
    · show sg (0 * d + n) = sg n
      rw [Int.zero_mul, Int.zero_add]
    · have : c ∈ [n] := pl_mem hc
      rw [List.mem_singleton.mp this]
      exact bn
    · rintro i v σ H7 hi ⟨s7, x, cs, u7, rfl, hx, hs, hb, hle⟩
      obtain ⟨r, f, rfl, hf, er⟩ := (hF6.same s7).get hi
      have hi' : i < k := by
        have := (List.getElem?_eq_some_iff.mp hi).1
        omega
      obtain ⟨o1, o2, o3, o4⟩ := hO f (List.mem_of_getElem? hf)
      refine ⟨_, rfl, _, rfl, r, f, rfl, er, fun y H8 s8 n8 r8 => ?_⟩
      obtain ⟨dx, tx, ex, etx⟩ := _root_.id (hx.same s8)
      obtain ⟨dy, ty, ey, ety⟩ := _root_.id r8
      have lf3 : (pl (facP f)).length ≤ 3 := Nat.le_trans (pl_length _) (by unfold facP; split <;> exact Nat.le_of_ble_eq_true rfl)
      have bf : ∀ c ∈ pl (facP f), Bd (m + 1) c := fun c hc => by
        have hc := pl_mem hc
        have p27 : 2 ^ 27 ≤ 2 ^ m := Nat.pow_le_pow_right (by decide) m27
        have e : 2 ^ (m + 1) = 2 ^ m * 2 := Nat.pow_succ 2 m
        show c.natAbs < 2 ^ (m + 1)
        unfold facP at hc
        split at hc
        · simp only [List.mem_cons, List.not_mem_nil, or_false] at hc
          rcases hc with rfl | rfl | rfl <;> omega
        · simp only [List.mem_cons, List.not_mem_nil, or_false] at hc
          rcases hc with rfl | rfl <;> omega
      have mi : (m + 7) * i ≤ (m + 7) * k := Nat.mul_le_mul_left _ (by omega)
      refine ⟨x, dx, _, rfl, ex, .inr ⟨y, dy, _, rfl, ey⟩, x, y, _, _, rfl, hx.same s8, r8, by omega, by omega, fun c hc => bd_up (hb c hc) (by omega), fun c hc => bd_up (bf c hc) (by omega), fun z H9 s9 n9 r9 => ?_⟩
      refine ⟨(s7.trans s8).trans s9, z, mull (pl cs) (pl (facP f)), _, rfl, by rw [pl_pl2]; exact r9, fun d => ?_, fun c hc => ?_, ?_⟩
      · rw [wat_mull, wat_pl, wat_pl, sg_mul, hs, wat_facP (hO5 f (List.mem_of_getElem? hf)), fsg_take d hf]
      · rw [pl_pl2] at hc
        refine bd_up (mul_bd hb bf ?_ c hc) ?_
        · have : (pl cs).length * (pl (facP f)).length ≤ 11 * 3 := Nat.mul_le_mul (by omega) lf3
          omega
        · rw [Nat.mul_succ]
          omega
      · rw [pl_pl2]
        have := mul_len (as := pl cs) lf3
        omega
    rintro σ H7 ⟨s7, x, cs, u7, rfl, hx, hs, hb, hle⟩
    rw [lus, List.take_length] at hs
    have bk : (m + 7) * us.length ≤ 170 := by rw [lus, hl]; exact mk2
    have b300 : ∀ c ∈ pl cs, Bd 300 c := fun c hc => bd_up (hb c hc) (by omega)
    have b400 : ∀ c ∈ pl cs, Bd 400 c := fun c hc => bd_up (b300 c hc) (by decide)
    have b1000 : ∀ c ∈ pl cs, Bd 1000 c := fun c hc => bd_up (b400 c hc) (by decide)
    have lcs : (pl cs).length ≤ 11 := by omega
    have hs1 : ∀ d : Int, 1 ≤ d → sg (wat cs d) = fsg n fs d := fun d _ => hs d
    have ed7 := s7 _ _ ed
    have pd7 := pd0.same s7
    refine ⟨_, rfl, x, cs, rfl, hx, b1000, by omega, fun lt H8 s8 n8 runs1 => ?_⟩
    obtain ⟨us1, e1, ll1, p1⟩ := runs1.norm (F := fsg n fs) hs1 rd0
    have okp := okw_ps bd0 ll0'
    refine ⟨_, rfl, lt, _, rfl, .lst e1 p1.dq, okp, _, rfl, ld, _, rfl, .lst (s8 _ _ ed7) (pd7.same s8).dq, okp, rfl, false, congrArg V.bl (by simp), iteF ?_⟩
    refine ⟨_, rfl, _, _, _, _, true, rfl, .ty "list", .base (.lst e1), kit_ty rfl, true, rfl, iteF ?_⟩
    refine ⟨_, rfl, .inl ⟨rfl, _, SqL.of e1⟩, by show 2 ≤ sizeLine; omega, fun tn ntn => ?_⟩
    refine ⟨lt, us1, _, rfl, rfl, same_new ntn _ _ e1, by omega, ?_⟩
    have s9 : Same H7 (upd (upd H8 tn (.tup [.int 0, .int 0])) lt (.lst (us1 ++ [.ref tn]))) := fun b' o' e' => by
      rw [upd_ne (ne_of_none e' n8)]
      exact same_new ntn _ _ (s8 _ _ e')
    generalize upd (upd H8 tn (.tup [.int 0, .int 0])) lt (.lst (us1 ++ [.ref tn])) = H9 at s9
    have ed9 := s9 _ _ ed7
    have pd9 := pd7.same s9
    refine ⟨_, rfl, ld, rfl, ⟨_, SqL.of ed9⟩, fun D3 nD3 => ?_⟩
    refine lc_it (walk_list (xs := us0)) (fun i H' => Same H9 H' ∧ ∃ us, H' D3 = some (.lst us) ∧ PL H' us ((ps0.map fun p => (p.1, -p.2)).take i)) ⟨same_new nD3, [], upd_same, trivial⟩ (fun i H' _ pv => SqL.of (pv.1 _ _ ed9)) ?_ ?_
    · rintro i v Ha Hb hi ⟨sa, us, ea, pa⟩ ⟨rfl, hx⟩
      obtain ⟨r, a, sb, rfl, hps, er⟩ := pd9.get hx
      have tk : (ps0.map fun p => (p.1, -p.2)).take (i + 1) = (ps0.map fun p => (p.1, -p.2)).take i ++ [(a, -sb)] := by
        rw [List.take_add_one, List.getElem?_map, hps]
        rfl
      have lus : us.length ≤ us0.length := by
        rw [pa.len, List.length_take, List.length_map, pd0.len]
        omega
      refine ⟨r, _, rfl, SqT.of (sa _ _ er), rfl, _, _, rfl, _, _, rfl, rfl, rfl, _, rfl, _, rfl, _, rfl, by show 2 ≤ sizeLine; omega, fun tn ntn => ?_⟩
      have ea2 := same_new (o := .tup [.int a, .int (-sb)]) ntn _ _ ea
      refine ⟨_, ea2, ?_, ?_, us ++ [.ref tn], upd_same, ?_⟩
      · omega
      · intro b' o' e'
        rw [upd_ne (ne_of_none e' nD3)]
        exact same_new ntn _ _ (sa _ _ e')
      · rw [tk]
        exact ((pa.same (same_new ntn)).snoc upd_same).updL ea2
    rintro H10 ⟨s10, us3, e3', p3'⟩
    have tk0 : (ps0.map fun p => (p.1, -p.2)).take us0.length = ps0.map fun p => (p.1, -p.2) := List.take_of_length_le (by rw [List.length_map, pd0.len]; exact Nat.le_refl _)
    rw [tk0] at p3'
    have bdn : PB (ps0.map fun p => (p.1, -p.2)) := fun q hq => by
      obtain ⟨y, hy, rfl⟩ := List.mem_map.mp hq
      exact ⟨(bd0 y hy).1, bd_neg (bd0 y hy).2⟩
    have lln : (ps0.map fun p => (p.1, -p.2)).length ≤ 16 := by rw [List.length_map]; exact ll0'
    have rdn : IsRuns (fun d => -fsg n fs d) 1 (ps0.map fun p => (p.1, -p.2)) := IsRuns.neg' rd0
    generalize (ps0.map fun p => (p.1, -p.2)) = psn at *
    have s710 := s9.trans s10
    refine ⟨_, rfl, rfl, x, cs, rfl, hx.same s710, b1000, by omega, fun l2 H11 s11 n11 runs2 => ?_⟩
    obtain ⟨us2, e2, ll2, p2⟩ := runs2.norm (F := fsg n fs) hs1 rd0
    obtain ⟨dx, tx, ex, etx⟩ := _root_.id (hx.same (s710.trans s11))
    refine ⟨_, rfl, x, dx, _, rfl, ex, x, pl cs, rfl, hx.same (s710.trans s11), by omega, fun y H12 s12 n12 r12 => ?_⟩
    have bneg : ∀ c ∈ pl ((pl cs).map (- ·)), Bd 1000 c := fun c hc => by
      obtain ⟨z, hz, rfl⟩ := List.mem_map.mp (pl_mem hc)
      exact bd_neg (b1000 z hz)
    have lneg : (pl ((pl cs).map (- ·))).length ≤ 11 := Nat.le_trans (pl_length _) (by rw [List.length_map]; exact lcs)
    refine ⟨y, (pl cs).map (- ·), rfl, r12, bneg, by omega, fun l3 H13 s13 n13 runs3 => ?_⟩
    have hN : ∀ d, 1 ≤ d → sg (wat ((pl cs).map (- ·)) d) = -fsg n fs d := fun d hd => by
      rw [SgM.wat_neg, wat_pl, ← hs d]
      have := sg_mul (-1) (wat cs d)
      rw [show -1 * wat cs d = - wat cs d by omega] at this
      rw [this]
      show -1 * sg (wat cs d) = _
      omega
    obtain ⟨us4, e4', ll4, p4⟩ := runs3.norm (F := fun d => -fsg n fs d) hN rdn
    refine ⟨by show 2 ≤ sizeLine; omega, fun l6 n6' => ?_⟩
    have s14 : Same H13 (upd H13 l6 (.lst [.ref l2, .ref l3])) := same_new n6'
    have q2 : Dq (upd H13 l6 (.lst [.ref l2, .ref l3])) (.ref l6) (.list [.list (ps0.map pd), .list (psn.map pd)]) :=
      .lst upd_same (.cons (.lst (((s12.trans s13).trans s14) _ _ e2) (p2.same ((s12.trans s13).trans s14)).dq) (.cons (.lst (s14 _ _ e4') (p4.same s14).dq) .nil))
    have ok2 := okw_two bd0 ll0' bdn lln
    generalize upd H13 l6 (.lst [.ref l2, .ref l3]) = H14 at s14 q2
    have s1014 := ((s11.trans s12).trans s13).trans s14
    have s714 := s710.trans s1014
    refine ⟨l6, _, rfl, q2, ok2, _, rfl, _, rfl, by show 2 ≤ sizeLine; omega, fun l7 n7 => ?_⟩
    have s15 : Same H14 (upd H14 l7 (.lst [.ref ld, .ref D3])) := same_new n7
    have q3 : Dq (upd H14 l7 (.lst [.ref ld, .ref D3])) (.ref l7) (.list [.list (ps0.map pd), .list (psn.map pd)]) :=
      .lst upd_same (.cons (.lst ((s714.trans s15) _ _ ed7) (pd7.same (s714.trans s15)).dq) (.cons (.lst ((s1014.trans s15) _ _ e3') (p3'.same (s1014.trans s15)).dq) .nil))
    have s715 := s714.trans s15
    generalize upd H14 l7 (.lst [.ref ld, .ref D3]) = H15 at s15 q3 s715
    refine ⟨l7, _, rfl, q3, ok2, rfl, false, congrArg V.bl (by simp), iteF ?_⟩
    have hp15 := (hp6.same s7).same s715
    have b15 : But p H H15 := b6.trans (But.of (s7.trans s715))
    have nld : ld ≠ p := (hp4.same s5).ne n6
    refine ⟨_, rfl, p, 9, rfl, hp15, by decide, by decide, fun da H16 da0 da1 hp16 b16 => ?_⟩
    refine ⟨_, rfl, p, 9, rfl, hp16, by decide, by decide, fun db H17 db0 db1 hp17 b17 => ?_⟩
    have hx17 : PolAt K H17 x (pl cs) := PolAt.but (hx.same s715) hp15 (b16.trans b17)
    have ed17 : H17 ld = some (.lst us0) := (b16.trans b17) _ _ (s715 _ _ ed7) nld
    have pd17 : PL H17 us0 ps0 := (pd7.same s715).imp fun r a b e => (b16.trans b17) _ _ e (hp15.nt e)
    refine fun x1 dx1 nx1 nd1 ne1 => madeP_at (cs := [da, 5, db]) nx1 nd1 ne1 (by show 3 ≤ 1000; decide) fun H18 s18 r18 => ⟨rfl, ?_⟩
    obtain ⟨dx, tx, ex, etx⟩ := _root_.id (hx17.same s18)
    obtain ⟨dx2, tx2, ex2, etx2⟩ := _root_.id r18
    have bfu : ∀ c ∈ pl [da, 5, db], Bd 300 c := fun c hc => by
      have hc := pl_mem hc
      simp only [List.mem_cons, List.not_mem_nil, or_false] at hc
      refine bd_up (n := 4) ?_ (by decide)
      show c.natAbs < 2 ^ 4
      rcases hc with rfl | rfl | rfl <;> omega
    have lfu : (pl [da, 5, db]).length ≤ 3 := pl_length _
    have wfu : ∀ d : Int, 1 ≤ d → sg (wat [da, 5, db] d) = 1 := fun d hd => by
      show sg (((0 * d + db) * d + 5) * d + da) = 1
      refine SgM.sg_pos ?_
      rw [Int.zero_mul, Int.zero_add]
      have h1 : 0 ≤ db * d := Int.mul_nonneg db0 (by omega)
      have h2 : 0 < (db * d + 5) * d := Int.mul_pos (by omega) (by omega)
      omega
    generalize hfu : [da, 5, db] = fu at *
    refine ⟨_, rfl, _, rfl, x, dx, _, rfl, ex, .inr ⟨x1, dx2, _, rfl, ex2⟩, x, x1, _, _, rfl, hx17.same s18, r18, by omega, by omega, b400, fun c hc => bd_up (bfu c hc) (by decide), fun y1 H19 s19 n19 r19 => ?_⟩
    have l19 := addl_len (g := (· + ·)) (pl cs) (pl fu)
    have b19 : ∀ c ∈ addl (· + ·) (pl cs) (pl fu), Bd 301 c := addl_bd (fun a b h1 h2 => bd_add h1 h2) b300 bfu
    obtain ⟨dy, ty, ey, ety⟩ := _root_.id r19
    refine ⟨_, rfl, y1, dy, _, rfl, ey, .inr ⟨x1, dx2, _, rfl, s19 _ _ ex2⟩, y1, x1, _, _, rfl, r19, r18.same s19, by omega, by omega, fun c hc => bd_up (b19 c hc) (by decide), fun c hc => bd_up (bfu c hc) (by decide), fun z1 H20 s20 n20 r20 => ?_⟩
    have l20 := addl_len (g := (· - ·)) (addl (· + ·) (pl cs) (pl fu)) (pl fu)
    have b20 : ∀ c ∈ addl (· - ·) (addl (· + ·) (pl cs) (pl fu)) (pl fu), Bd 302 c := addl_bd (fun a b h1 h2 => bd_sub h1 h2) b19 (fun c hc => bd_up (bfu c hc) (by decide))
    have w20 : ∀ d : Int, 1 ≤ d → sg (wat (addl (· - ·) (addl (· + ·) (pl cs) (pl fu)) (pl fu)) d) = fsg n fs d := fun d _ => by
      rw [wat_subl, wat_addl, wat_pl, wat_pl, Int.add_sub_cancel, hs]
    have r20' : PolAt K H20 z1 (pl (addl (· - ·) (addl (· + ·) (pl cs) (pl fu)) (pl fu))) := by
      rw [show pl (addl (· - ·) (addl (· + ·) (pl cs) (pl fu)) (pl fu)) = addl (· - ·) (addl (· + ·) (pl cs) (pl fu)) (pl fu) from pl_pl _]
      exact r20
    have b20' : ∀ c ∈ pl (addl (· - ·) (addl (· + ·) (pl cs) (pl fu)) (pl fu)), Bd 1000 c := fun c hc => bd_up (b20 c (pl_mem hc)) (by decide)
    have l20' := pl_length (addl (· - ·) (addl (· + ·) (pl cs) (pl fu)) (pl fu))
    generalize addl (· - ·) (addl (· + ·) (pl cs) (pl fu)) (pl fu) = ws at *
    have s1720 := (s18.trans s19).trans s20
    refine ⟨z1, ws, rfl, r20', b20', by omega, fun l8 H21 s21 n21 runs5 => ?_⟩
    obtain ⟨us5, e5, ll5, p5⟩ := runs5.norm (F := fsg n fs) w20 rd0
    have s1721 := s1720.trans s21
    refine ⟨l8, _, rfl, .lst e5 p5.dq, okp, _, rfl, ld, _, rfl, .lst (s1721 _ _ ed17) (pd17.same s1721).dq, okp, rfl, ?_⟩
    refine ⟨true, congrArg V.bl (decide_eq_true rfl), iteT ?_⟩
    refine ⟨_, rfl, x1, fu, rfl, r18.same ((s19.trans s20).trans s21), fun c hc => bd_up (bfu c hc) (by decide), by omega, fun l9 H22 s22 n22 runs6 => ?_⟩
    obtain ⟨us6, e6', ll6, p6⟩ := runs6.norm (F := fun _ => 1) (ps := [(1, 1)]) wfu (IsRuns.last (F := fun _ => 1) fun _ _ => rfl)
    refine ⟨l9, _, rfl, .lst e6' p6.dq, okw_ps (fun q hq => by rw [List.mem_singleton.mp hq]; exact ⟨by decide, by decide⟩) (by decide), rfl, ?_⟩
    have e : decide (V.str (PyData.list ([(1, 1)].map pd)).shown = V.str "[(1, 1)]") = true := decide_eq_true (congrArg V.str one_shown)
    rw [e]
    exact q H22 (hp17.same (s1721.trans s22)) (b15.trans (b16.trans (b17.trans (But.of (s1721.trans s22)))))
abbrev PrG (P : Program) (w : World) (K : Fr) (mg : Str → Option Value) (base : Heap) : Prop := ∃ f d, GdG P w K mg base 7 "_law_product_right" f d ["_law_rng_here"] spPr
end
end K71

set_option maxHeartbeats 4000000
/-! the end of a law: a def of one parameter, called on the script -/
namespace RtL
open PySem PySem.Spec PyProof.Rows L2 ErL
/-- the script as an object of the heap -/
abbrev scO (us : List Value) : Obj := { cls := .type "list", data := .seq us.toArray }
/-- a def of one parameter, called on a script where nothing is being shown -/
theorem lawG {P : Program} {w : World} {K : Fr} {mg mb : Str → Option Value} {k : Nat} {fl sc : Addr} {fd : FuncData} {x : Str} {sp : SpG} {st : Shared} {us : List Value} {zs : List Int}
    (kin : K.In st.heap) (n1 : st.heap.Ns mainGlobals mg) (n2 : st.heap.Ns builtinsNs mb) (n3 : ∀ y : Str, y ≠ "__name__" → mb y = bootBuiltins y) (nl : st.heap.NoLimit) (ng : st.gens = #[])
    (here : st.heap.get? sc = some (scO us)) (iz : IntsAre us zs) (lz : zs.length ≤ sizeLine) (rm : Room k callerA) (F : ∀ b : Heap, K.In b → b.Ns mainGlobals mg → FnG P w K mg b k fl fd [x] sp) (bd : Binds K fd [x] [])
    (pr : ∀ H : Hp, SqL K H sc (zs.map V.int) → sp [.ref sc] H (fun v _ => v = .bl true)) :
    codeAny (model P w) callerA (.call (.ref fl) ⟨[.ref sc], []⟩) (fun r s' => r = .ok (.ret (.bool true)) ∧ OldK st.heap s'.heap ∧ s'.os = st.os ∧ AllBare s'.gens) st := by
  have vz := vals_ints iz
  have lu : (zs.map V.int).length ≤ sizeLine := by
    rw [List.length_map]
    exact lz
  -- nothing is tracked but the script, and that only if it is no object of the written part
  obtain ⟨H, on, sq⟩ : ∃ H : Hp, (∀ b y, H b = some y → b = sc ∧ K.lookup sc = none ∧ y = .frz (scO us) (.lst (zs.map V.int))) ∧ SqL K H sc (zs.map V.int) := by
    cases own : K.lookup sc with
    | some y =>
      have e := kin sc y own
      rw [here] at e
      cases e
      refine ⟨fun _ => none, fun b y z => (nomatch (show (none : Option HO) = some y from z)), .inr ⟨_, us.toArray, _, own, rfl, rfl, rfl, ?_, by simpa using vz⟩⟩
      rw [List.size_toArray, iz.length]
      exact lz
    | none =>
      refine ⟨fun b => if b = sc then some (.frz (scO us) (.lst (zs.map V.int))) else none, fun b y z => ?_, .inl (.inr ⟨_, if_pos rfl⟩)⟩
      by_cases hb : b = sc
      · exact ⟨hb, rfl, Option.some.inj (z.symm.trans (if_pos hb))⟩
      · exact (nomatch (show (none : Option HO) = some y from (if_neg hb).symm.trans z))
  have ok : HOk P w H st.heap := fun b y z => by
    obtain ⟨rfl, _, rfl⟩ := on b y z
    exact ⟨here, lu, us, _, vz, here⟩
  have out : ∀ {b : Addr} {o : Obj} {es : Array DictEntry} {ep : Nat}, st.heap.get? b = some o → o.data = .dict es ep → H b = none := fun {b o es ep} e d => by
    cases q : H b with
    | none => rfl
    | some y =>
      obtain ⟨rfl, _, _⟩ := on b y q
      rw [here] at e
      cases e
      exact (nomatch (show Data.seq us.toArray _ = Data.dict es ep from d))
  have ns : ∀ {b : Addr} {m : Str → Option Value}, st.heap.Ns b m → (hidT st.heap H).Ns b m := by
    rintro b m ⟨o, es, ep, e, d, r⟩
    exact ⟨o, es, ep, hidT_get e (out e d), d, r⟩
  have kb : K.In (hidT st.heap H) := fun b o e => hidT_get (kin b o e) (by
    cases q : H b with
    | none => rfl
    | some y =>
      obtain ⟨rfl, z, _⟩ := on b y q
      rw [z] at e
      cases e)
  obtain ⟨ml, l1, l2⟩ := nl
  have env : Env0 P w K mg (hidT st.heap H) callerA [] st H :=
    { frames := rfl, mod := { kin := kb, glob := ns n1, blt := ⟨mb, ns n2, n3⟩, nolimit := ⟨ml, ns l1, l2⟩ }, bs := fun b o e => of_hidT e, bsz := Nat.le_of_eq (hidT_size _ _), funs := trivial, frf := fun b hb => (nomatch (show b ∈ ([] : List Addr) from hb)), hok := ok, bare := .of_eq ng }
  refine codeAny_mono ((F _ kb (ns n1)).run callerA [] st H ⟨[.ref sc], []⟩ [.ref sc] [.ref sc] _ rm rfl env (bd st [.ref sc] kin rfl) (.cons rfl .nil) (pr H sq)) ?_
  intro r s' h
  match r, h with
  | .ok (.ret u), h =>
    obtain ⟨v, H', os, ba, un, ok', rv, q⟩ := h
    cases (show v = .bl true from q)
    cases (show u = Value.bool true from rv)
    refine ⟨rfl, OldK.of_keep fun b o e => ?_, os, ba⟩
    cases q : H b with
    | none => exact un.keep b o e q (fun z => (nomatch (show b ∈ ([] : List Addr) from z))) (by simp)
    | some y =>
      obtain ⟨rfl, _, rfl⟩ := on b y q
      rw [here] at e
      cases e
      exact (ok' _ _ (un.frzs _ _ _ q)).1
  | .ok .next, h => exact False.elim h
  | .ok .brk, h => exact False.elim h
  | .ok .cont, h => exact False.elim h
  | .error e, h => exact False.elim h
end RtL

set_option maxHeartbeats 4000000
set_option exponentiation.threshold 3000
namespace K71
open PySem PySem.Spec PyProof.Rows L2 L2H RtL ErL StX
/-! ### what is handed to sign_runs that it refuses -/
theorem rp_dat {K : Fr} {H : Hp} {a : Addr} {d : PyData} (ok : OkW d) (k : ∀ H', Same H H' → Dq H' (.ref a) d) : Rp K H (.ref a) d.shown := fun H' Q s q => .inr (.inl ⟨a, d, rfl, k H' s, ok, q H' (Same.refl _)⟩)
theorem rp_pol {K : Fr} {H : Hp} {l x : Addr} (e : H l = some (.lst [.ref x])) (r : PolAt K H x (pl [1])) : Rp K H (.ref l) (listText [repT (pl [1])]) := fun H' Q s q => by
  have hb : ∀ c ∈ pl [1], Bd 1000 c := fun c hc => by
    rw [List.mem_singleton.mp (show c ∈ [1] from pl_mem hc)]
    decide
  have hl : (pl [1]).length ≤ 40 := Nat.le_trans (pl_length _) (by decide)
  obtain ⟨dx, t, ex, et⟩ := _root_.id (r.same s)
  refine .inr (.inr ⟨l, [.ref x], [repT (pl [1])], rfl, s _ _ e, by simp, rfl, fun i v hv => ?_, ?_, ?_⟩)
  · cases i with
    | zero =>
      cases hv
      exact ⟨_, rfl, x, dx, _, rfl, ex, fun H2 s2 Q2 q2 => ⟨x, pl [1], rfl, (r.same s).same s2, hb, hl, fun H3 s3 => q2 H3 s3⟩⟩
    | succ i => cases hv
  · have := listT_len hb hl
    have l1 := listText_len_le [repT (pl [1])]
    have l2 : (repT (pl [1])).length ≤ 50012 := by
      show (("Polynomial(" : Str) ++ listT (pl [1]) ++ ")").length ≤ _
      rw [strLen_append, strLen_append, show ("Polynomial(" : Str).length = 11 from rfl, show (")" : Str).length = 1 from rfl]
      omega
    simp only [List.map_cons, List.map_nil, List.sum_cons, List.sum_nil, List.length_cons, List.length_nil] at l1
    rw [sizeLine_eq]
    omega
  · exact q
abbrev RfG (P : Program) (w : World) (K : Fr) (mg : Str → Option Value) (base : Heap) : Prop := ∃ f d, GdG P w K mg base 8 "_law_refused" f d ["_law_value"] (spRf K)
section
variable {P : Program} {w : World} {K : Fr} {mg : Str → Option Value} {base : Heap} {f : Addr} {fd : FuncData}
abbrev sRi : Stmt := top 36
abbrev NRi : List Str := ["_law_rng_here", "_law_turn"]
theorem scRi : FnScope NRi ["_law_rng_here"] (defScope sRi) := ⟨rfl, rfl, rfl, by decide +kernel, rfl, by decide +kernel, by decide +kernel⟩
theorem ok_ri (F : FunD K "_law_right" "_law_right" (defArgs sRi) (defBody sRi) (defScope sRi) [] [] f fd) (T : TT K mg) (I : PId P w K mg base) (C : PickG P w K mg base) (Pr : PrG P w K mg base) (R : RfG P w K mg base) : FnG P w K mg base 9 f fd ["_law_rng_here"] spPr := by
  obtain ⟨fC, dC, GC⟩ := C
  obtain ⟨fP, dP, GP⟩ := Pr
  obtain ⟨fR, dR, GR⟩ := R
  refine fnG_D F scRi (fun vs H Q h => ?_) (fun cdv A outer s H vs Q hr hG h => ?_)
  · obtain ⟨p, rfl, _⟩ := h
    rfl
  · obtain ⟨p, rfl, hp, q⟩ := h
    refine ⟨_, PSs.nox (pss_cons (ps_for PassesOwn.never rfl (pi_range1 (by rfl) T.fre (pa_cons pe_int pa_nil)) (pg_name (i := 1) scRi.nd rfl (Or.inl rfl))
        (pss_one (ps_if (pt_not (pt_val (pe_gg GP (hr.mono (by decide)) hG (by rfl) (pa_cons (pv 0) pa_nil)))) (pss_one (ps_ret pe_bl)) pss_nil)))
      (pss_one (ps_ret (pe_gg GR hr hG (by rfl) (pa_cons (pe_gd GC (hr.mono (by decide)) (by rfl) (pa_cons (pv 0) (pa_cons (pe_lst (pa_cons pe_non (pa_cons pe_int (pa_cons pe_bl (pa_cons pe_str (pa_cons (pe_lst pa_nil) (pa_cons (pe_tup (pa_cons pe_int (pa_cons pe_int pa_nil))) (pa_cons pe_dnewK
        (pa_cons (pe_lst (pa_cons (pe_makeR T.mkp I (hr.mono (by decide)) (by rfl) (T.gl "Polynomial" (by decide)) pass0 (pa_cons pe_int pa_nil)) pa_nil)) pa_nil))))))))) pa_nil))) pa_nil))))), ?_⟩
    have lz : 10000 ≤ sizeLine := by rw [sizeLine_eq]; decide
    refine ⟨3, rfl, by decide, by decide, for_it walk_range (fun i σ H' => PotAt H' p ∧ But p H H' ∧ ∃ u, σ = [some (.ref p), u]) ⟨hp, fun _ _ e _ => e, none, rfl⟩ (fun _ _ _ _ _ => trivial) ?_ ?_⟩
    · rintro i v σ Hx H1 hi ⟨hp1, b1, u, rfl⟩ ⟨rfl, rfl⟩
      exact ⟨_, rfl, p, rfl, hp1, fun H2 hp2 b2 => ⟨true, rfl, iteF ⟨hp2, b1.trans b2, _, rfl⟩⟩⟩
    rintro σ H1 ⟨hp1, b1, u, rfl⟩
    refine ⟨_, rfl, by show 0 ≤ sizeLine; omega, fun l5 n5 => ⟨by show 2 ≤ sizeLine; omega, fun t6 n6 => fun d7 n7 => ?_⟩⟩
    have s0 : Same H1 (upd (upd (upd H1 l5 (.lst [])) t6 (.tup [.int 1, .int 2])) d7 (.dK [])) := ((same_new n5).trans (same_new n6)).trans (same_new n7)
    have e5 : (upd (upd (upd H1 l5 (.lst [])) t6 (.tup [.int 1, .int 2])) d7 (.dK [])) l5 = some (.lst []) := same_new n7 _ _ (same_new n6 _ _ upd_same)
    have e6 : (upd (upd (upd H1 l5 (.lst [])) t6 (.tup [.int 1, .int 2])) d7 (.dK [])) t6 = some (.tup [.int 1, .int 2]) := same_new n7 _ _ upd_same
    have e7 : (upd (upd (upd H1 l5 (.lst [])) t6 (.tup [.int 1, .int 2])) d7 (.dK [])) d7 = some (.dK []) := upd_same
    have n5p : l5 ≠ p := hp1.ne n5
    have n6p : t6 ≠ p := (hp1.same (same_new (o := .lst []) n5)).ne n6
    have n7p : d7 ≠ p := (hp1.same ((same_new (o := .lst []) n5).trans (same_new (o := .tup [.int 1, .int 2]) n6))).ne n7
    generalize upd (upd (upd H1 l5 (.lst [])) t6 (.tup [.int 1, .int 2])) d7 (.dK []) = H2 at s0 e5 e6 e7
    refine fun x0 dx0 nx nd_ ne_ => madeP_at (cs := [1]) nx nd_ ne_ (by show 1 ≤ 1000; decide) fun H3 s3 r3 => ⟨rfl, by show 1 ≤ sizeLine; omega, fun l8 n8 => ⟨by show 8 ≤ sizeLine; omega, fun L nL => ?_⟩⟩
    have s8 : Same H3 (upd H3 l8 (.lst [.ref x0])) := same_new n8
    have e8 : (upd H3 l8 (.lst [.ref x0])) l8 = some (.lst [.ref x0]) := upd_same
    have hp3 := (hp1.same s0).same s3
    have n8p : l8 ≠ p := hp3.ne n8
    generalize upd H3 l8 (.lst [.ref x0]) = H4 at s8 e8 nL
    have sL : Same H4 (upd H4 L (.lst [.non, .int 0, .bl true, .str "d", .ref l5, .ref t6, .ref d7, .ref l8])) := same_new nL
    have hp4 := hp3.same s8
    have sall := ((s0.trans s3).trans s8).trans sL
    have s24 := (s3.trans s8).trans sL
    refine ⟨p, L, _, rfl, hp1.same sall, upd_same, hp4.ne nL, Nat.succ_pos _, by show 8 < 1000; decide, fun i v H5 hi hp5 b5 => ?_⟩
    have e5 := b5 _ _ (s24 _ _ e5) n5p
    have e6 := b5 _ _ (s24 _ _ e6) n6p
    have e7 := b5 _ _ (s24 _ _ e7) n7p
    have e8 := b5 _ _ (sL _ _ e8) n8p
    have r5 : PolAt K H5 x0 (pl [1]) := PolAt.but (r3.same (s8.trans sL)) (hp4.same sL) b5
    have bb : But p H H5 := (b1.trans (But.of sall)).trans b5
    have fin : ∀ H', Same H5 H' → Q (.bl true) H' := fun H' s => q H' (hp5.same s) (bb.trans (But.of s))
    match i, hi with
    | 0, hi => cases hi; exact ⟨_, "None", rfl, .inr ⟨_, .non⟩, fun H' Q s q => .inl (.inl ⟨rfl, q H' (Same.refl _)⟩), fin⟩
    | 1, hi => cases hi; exact ⟨_, toString (0 : Int), rfl, .inl ⟨0, rfl⟩, fun H' Q s q => .inl (.inr (.inr (.inl ⟨0, rfl, by decide, q H' (Same.refl _)⟩))), fin⟩
    | 2, hi => cases hi; exact ⟨_, "True", rfl, .inr ⟨_, .bl true⟩, fun H' Q s q => .inl (.inr (.inl ⟨true, rfl, q H' (Same.refl _)⟩)), fin⟩
    | 3, hi => cases hi; exact ⟨_, reprText "d", rfl, .inr ⟨_, .str "d"⟩, fun H' Q s q => .inl (.inr (.inr (.inr ⟨"d", rfl, Nat.le_trans (show (reprText "d").length ≤ 100 by decide +kernel) (by omega), q H' (Same.refl _)⟩))), fin⟩
    | 4, hi => cases hi; exact ⟨_, _, rfl, .inr ⟨_, .lst e5⟩, rp_dat (d := .list []) ⟨rfl, Nat.le_of_ble_eq_true rfl, Nat.le_of_ble_eq_true rfl⟩ fun H' s => .lst (s _ _ e5) .nil, fin⟩
    | 5, hi => cases hi; exact ⟨_, _, rfl, .inr ⟨_, .tup e6⟩, rp_dat (d := .tuple [.int 1, .int 2]) ⟨rfl, Nat.le_of_ble_eq_true rfl, Nat.le_of_ble_eq_true rfl⟩ fun H' s => .tup (s _ _ e6) (.cons (.int 1) (.cons (.int 2) .nil)), fin⟩
    | 6, hi => cases hi; exact ⟨_, _, rfl, .inr ⟨_, .dct e7⟩, rp_dat (d := .dict []) ⟨rfl, Nat.le_of_ble_eq_true rfl, Nat.le_of_ble_eq_true rfl⟩ fun H' s => .dct (s _ _ e7) .nil, fin⟩
    | 7, hi => cases hi; exact ⟨_, _, rfl, .inr ⟨_, .lst e8⟩, rp_pol e8 r5, fin⟩
    | n + 8, hi => cases hi
abbrev RiG (P : Program) (w : World) (K : Fr) (mg : Str → Option Value) (base : Heap) : Prop := ∃ f d, GdG P w K mg base 9 "_law_right" f d ["_law_rng_here"] spPr
end
end K71

set_option maxHeartbeats 4000000
namespace K71
open PySem PySem.Spec PyProof.Rows L2 RtL ErL StX
theorem sq_keep {K : Fr} {H H' : Hp} {a : Addr} {xs : List V} (h : SqL K H a xs) (k : ∀ o, H a = some o → H' a = some o) : SqL K H' a xs := by
  rcases h with h | h
  · rcases h with h | ⟨o, h⟩
    · exact .inl (.inl (k _ h))
    · exact .inl (.inr ⟨o, k _ h⟩)
  · exact .inr h
section
variable {P : Program} {w : World} {K : Fr} {mg : Str → Option Value} {base : Heap} {f : Addr} {fd : FuncData}
abbrev sLaw : Stmt := top 37
abbrev NLw : List Str := ["_law_script", "_law_k"]
theorem scLaw : FnScope NLw ["_law_script"] (defScope sLaw) := ⟨rfl, rfl, rfl, by decide +kernel, rfl, by decide +kernel, by decide +kernel⟩
def spLaw (K : Fr) : SpG := fun vs H Q => ∃ (a : Addr) (ns : List Int), vs = [.ref a] ∧ SqL K H a (ns.map V.int) ∧ ns.length ≤ 63 ∧ ∀ H', Q (.bl true) H'
theorem ok_law (F : FunD K "law" "law" (defArgs sLaw) (defBody sLaw) (defScope sLaw) [] [] f fd) (T : TT K mg) (CR : RiG P w K mg base) (CP : RngG P w K mg base) : FnG P w K mg base 10 f fd ["_law_script"] (spLaw K) := by
  obtain ⟨fR, dR, GR⟩ := CR
  obtain ⟨fP, dP, GP⟩ := CP
  refine fnG_D F scLaw (fun vs H Q h => ?_) (fun cdv A outer s H vs Q hr hG h => ?_)
  · obtain ⟨a, ns, rfl, _⟩ := h
    rfl
  · obtain ⟨a, ns, rfl, hS, hl, q⟩ := h
    refine ⟨_, PSs.nox (pss_one (ps_ret (pe_callB (cr_all (by rfl)) (by rfl) T.fre (by decide +kernel) (pa_cons (pe_lc (own := [("_law_k", 1)]) (g := gName 1) (tt := tYes) (by rfl) scLaw.nd
      (pi_range1 (by rfl) T.fre (pa_cons (pe_callB (call_max2 rfl) (by rfl) T.fre (by decide +kernel) (pa_cons pe_int (pa_cons (pe_callB (call_min2 rfl) (by rfl) T.fre (by decide +kernel) (pa_cons (pe_callB call_len_seq (by rfl) T.fre PySem.boot_len (pa_cons (pv 0) pa_nil)) (pa_cons pe_int pa_nil))) pa_nil))) pa_nil))
      (blkOk_by (N := NLw) (sc := defScope sLaw) (by decide +kernel)) (fun _ _ _ _ _ => pg_name (i := 1) scLaw.nd rfl (Or.inl rfl)) (fun _ _ _ _ _ => pts_nil)
      (fun _ _ _ _ _ => pe_gg GR hr hG (by rfl) (pa_cons (pe_gd GP (hr.mono (by decide)) (by rfl) (pa_cons (pv 0) (pa_cons (pv 1) pa_nil))) pa_nil))) pa_nil)))), ?_⟩
    refine ⟨_, rfl, a, _, rfl, .inl hS, ?_⟩
    refine ⟨_, _, rfl, _, _, rfl, ?_⟩
    obtain ⟨j, hj, j0, j3⟩ : ∃ j : Int, (if (if (4 : Int) < ((ns.map V.int).length : Int) then (4 : Int) else ((ns.map V.int).length : Int)) > 1 then (if (4 : Int) < ((ns.map V.int).length : Int) then (4 : Int) else ((ns.map V.int).length : Int)) else (1 : Int)) = j ∧ 0 ≤ j ∧ j ≤ 4 := ⟨_, rfl, by split <;> split <;> omega, by split <;> split <;> omega⟩
    rw [hj]
    refine ⟨j, rfl, by omega, by omega, fun D hD => ?_⟩
    refine lc_range (lo := 0) (n := j.toNat) (fun i H' => (∀ o, H a = some o → H' a = some o) ∧ H' D = some (.lst ((List.replicate i true).map V.bl))) ⟨fun o e => same_new hD _ _ e, upd_same⟩ (fun i H' hi pv => ?_) (fun H' pv => ?_)
    · obtain ⟨kS, eD⟩ := pv
      refine ⟨rfl, _, rfl, _, rfl, a, ns, i, by rw [Int.zero_add]; rfl, sq_keep hS kS, hl, by omega, fun p H1 np s1 hp => ⟨p, rfl, hp, fun H2 _ b2 => ?_⟩⟩
      have eD2 : H2 D = some (.lst ((List.replicate i true).map V.bl)) := b2 _ _ (s1 _ _ eD) (ne_of_none eD np)
      refine ⟨_, eD2, ?_, fun o e => ?_, ?_⟩
      · rw [List.length_map, List.length_replicate, sizeLine_eq]
        omega
      · rw [upd_ne (ne_of_none e hD)]
        exact b2 _ _ (s1 _ _ (kS o e)) (ne_of_none (kS o e) np)
      · rw [upd_same, List.replicate_succ', List.map_append]
        rfl
    · exact ⟨D, List.replicate j.toNat true, rfl, SqL.of pv.2, by rw [show (List.replicate j.toNat true).all id = true by simp]; exact q _⟩
/-- all defs together -/
theorem law_K (T : TT K mg) : ∃ fd, Binds K fd ["_law_script"] [] ∧ ∀ base : Heap, FnG P w K mg base 10 (He.ga K "law") fd ["_law_script"] (spLaw K) := by
  obtain ⟨d0, F0⟩ := T.df 0
  obtain ⟨d1, F1⟩ := T.df 1
  obtain ⟨d2, F2⟩ := T.df 2
  obtain ⟨d3, F3⟩ := T.df 3
  obtain ⟨d4, F4⟩ := T.df 4
  obtain ⟨d5, F5⟩ := T.df 5
  obtain ⟨d6, F6⟩ := T.df 6
  obtain ⟨d7, F7⟩ := T.df 7
  obtain ⟨d8, F8⟩ := T.df 8
  obtain ⟨d9, F9⟩ := T.df 9
  obtain ⟨d10, F10⟩ := T.df 10
  obtain ⟨d11, F11⟩ := T.df 11
  obtain ⟨d12, F12⟩ := T.df 12
  obtain ⟨d13, F13⟩ := T.df 13
  obtain ⟨d14, F14⟩ := T.df 14
  obtain ⟨d15, F15⟩ := T.df 15
  obtain ⟨d16, F16⟩ := T.df 16
  obtain ⟨d17, F17⟩ := T.df 17
  obtain ⟨d18, F18⟩ := T.df 18
  obtain ⟨d19, F19⟩ := T.df 19
  obtain ⟨d20, F20⟩ := T.df 20
  obtain ⟨d21, F21⟩ := T.df 21
  obtain ⟨d22, F22⟩ := T.df 22
  obtain ⟨d23, F23⟩ := T.df 23
  obtain ⟨d24, F24⟩ := T.df 24
  obtain ⟨d25, F25⟩ := T.df 25
  obtain ⟨d26, F26⟩ := T.df 26
  obtain ⟨d27, F27⟩ := T.df 27
  obtain ⟨d28, F28⟩ := T.df 28
  obtain ⟨d29, F29⟩ := T.df 29
  obtain ⟨d30, F30⟩ := T.df 30
  obtain ⟨d31, F31⟩ := T.df 31
  obtain ⟨d32, F32⟩ := T.df 32
  obtain ⟨d33, F33⟩ := T.df 33
  have bN : ∀ {x q : Str} {ar : Arguments} {bd : List Stmt} {sc : Scope} {f : Addr} {fd : FuncData} {ps : List Str}, FunD K x q ar bd sc [] [] f fd →
      (∀ (kV doc pm : Value) (an : Option Addr) (cdv ct : Value) (us : List Value), us.length = ps.length → bindArgs (PySem.W.fnOf x q ar bd sc .none kV doc pm an cdv ct) ⟨us, []⟩ = pure (ps.zip us)) → Binds K fd ps [] := fun F h => F.bindsN h
  refine ⟨d29, bN F29 fun _ _ _ _ _ _ us hl => match us, hl with | [_], _ => rfl, fun base => ?_⟩
  have gI : IsintG P w K mg base := ⟨_, d0, ok_isint F0 T, T.gl "is_an_integer" (by decide), F0.kp, bN F0 fun _ _ _ _ _ _ us hl => match us, hl with | [_], _ => rfl⟩
  have gW : WorthG P w K mg base := ⟨_, d1, ok_worth F1 T, T.gl "worth_at" (by decide), F1.kp, bN F1 fun _ _ _ _ _ _ us hl => match us, hl with | [_, _], _ => rfl⟩
  have gSa : SaG P w K mg base := ⟨_, d2, ok_sa F2 T gW, T.gl "sign_at" (by decide), F2.kp, bN F2 fun _ _ _ _ _ _ us hl => match us, hl with | [_, _], _ => rfl⟩
  have gMv : MvG P w K mg base := ⟨_, d3, ok_mv F3 T, T.gl "moved" (by decide), F3.kp, bN F3 fun _ _ _ _ _ _ us hl => match us, hl with | [_, _], _ => rfl⟩
  have gSc : ScG P w K mg base := ⟨_, d4, ok_sc F4 T, T.gl "sign_changes" (by decide), F4.kp, bN F4 fun _ _ _ _ _ _ us hl => match us, hl with | [_], _ => rfl⟩
  have gMr : MrG P w K mg base := ⟨_, d5, ok_mr F5 T gMv gSc, T.gl "most_roots" (by decide), F5.kp, bN F5 fun _ _ _ _ _ _ us hl => match us, hl with | [_, _, _], _ => rfl⟩
  have gBr : BrG P w K mg base := ⟨_, d6, ok_br F6 T, T.gl "beyond_roots" (by decide), F6.kp, bN F6 fun _ _ _ _ _ _ us hl => match us, hl with | [_], _ => rfl⟩
  have gFo : FoG P w K mg base := ⟨_, d7, ok_fo F7 T gSa, T.gl "first_other_sign" (by decide), F7.kp, bN F7 fun _ _ _ _ _ _ us hl => match us, hl with | [_, _, _], _ => rfl⟩
  have gMb : MbG P w K mg base := ⟨_, d8, ok_mb F8 T gSa gMr gFo, T.gl "marks_between" (by decide), F8.kp, bN F8 fun _ _ _ _ _ _ us hl => match us, hl with | [_, _, _], _ => rfl⟩
  have gS1 : S1G P w K mg base := ⟨_, d9, ok_s1 F9 T gSa gBr gMb, T.gl "signs_from_one" (by decide), F9.kp, bN F9 fun _ _ _ _ _ _ us hl => match us, hl with | [_], _ => rfl⟩
  have gFi : FillG P w K mg base := ⟨_, d10, ok_fill F10 T, T.gl "filled_up" (by decide), F10.kp, bN F10 fun _ _ _ _ _ _ us hl => match us, hl with | [_, _], _ => rfl⟩
  have gIn : PId P w K mg base := ok_init F11 T gI
  have gCo : CoefG P w K mg base := ⟨d12, ok_coef F12 T, bN F12 fun _ _ _ _ _ _ us hl => match us, hl with | [_], _ => rfl⟩
  have gAd : AddG P w K mg base := ⟨d13, ok_add F13 T gIn gFi, bN F13 fun _ _ _ _ _ _ us hl => match us, hl with | [_, _], _ => rfl⟩
  have gMu : MulG P w K mg base := ⟨d14, ok_mul F14 T gIn, bN F14 fun _ _ _ _ _ _ us hl => match us, hl with | [_, _], _ => rfl⟩
  have gNe : NegG P w K mg base := ⟨d15, ok_neg F15 T gIn, bN F15 fun _ _ _ _ _ _ us hl => match us, hl with | [_], _ => rfl⟩
  have gSu : SubG P w K mg base := ⟨d32, ok_sub F32 T gIn gFi, bN F32 fun _ _ _ _ _ _ us hl => match us, hl with | [_, _], _ => rfl⟩
  have gSr : SrG2 P w K mg base := ⟨_, d16, ⟨ok_sr F16 T gS1 gCo, T.gl "sign_runs" (by decide), F16.kp, bN F16 fun _ _ _ _ _ _ us hl => match us, hl with | [_], _ => rfl⟩, kbindsN (ps := ["polynomial"]) F16 0 ["polynomial"] (fun us ws => us ++ ws) (fun r1 r2 => r1.append r2) fun _ _ _ _ _ _ us ws h1 h2 => match us, ws, h1, h2 with | [], [_], _, _ => rfl⟩
  have gSx : SrXG P w K mg base := ⟨_, d16, ok_srXN F16 T gS1 gCo, T.gl "sign_runs" (by decide), F16.kp, bN F16 fun _ _ _ _ _ _ us hl => match us, hl with | [_], _ => rfl⟩
  have gLs : LstH P w K mg base := ⟨_, d31, ok_lstH F31 T, T.gl "listed_numbers" (by decide), F31.kp, bN F31 fun _ _ _ _ _ _ us hl => match us, hl with | [_], _ => rfl⟩
  have gRe : RepG P w K mg base := ⟨d33, ok_repH F33 T gLs, bN F33 fun _ _ _ _ _ _ us hl => match us, hl with | [_], _ => rfl⟩
  have gPot : RngG P w K mg base := ⟨_, d17, ok_rng F17 T, T.gl "_law_rng" (by decide), F17.kp, bN F17 fun _ _ _ _ _ _ us hl => match us, hl with | [_, _], _ => rfl⟩
  have gDr : DrawG P w K mg base := ⟨_, d18, ok_draw F18 T, T.gl "_law_draw" (by decide), F18.kp, bN F18 fun _ _ _ _ _ _ us hl => match us, hl with | [_, _], _ => rfl⟩
  have gPi : PickG P w K mg base := ⟨_, d19, ok_pick F19 T gDr, T.gl "_law_choice" (by decide), F19.kp, bN F19 fun _ _ _ _ _ _ us hl => match us, hl with | [_, _], _ => rfl⟩
  have gSg : SgG P w K mg base := ⟨_, d20, ok_sg F20 T, T.gl "_law_sign" (by decide), F20.kp, bN F20 fun _ _ _ _ _ _ us hl => match us, hl with | [_], _ => rfl⟩
  have gFa : FaG P w K mg base := ⟨_, d21, ok_fa F21 T gDr gPi, T.gl "_law_factor" (by decide), F21.kp, bN F21 fun _ _ _ _ _ _ us hl => match us, hl with | [_, _, _], _ => rfl⟩
  have gFp : FpG P w K mg base := ⟨_, d22, ok_fp F22 T gIn, T.gl "_law_polynomial" (by decide), F22.kp, bN F22 fun _ _ _ _ _ _ us hl => match us, hl with | [_], _ => rfl⟩
  have gSL : SaLG P w K mg base := ⟨_, d23, ok_saL F23 T gSg, T.gl "_law_sign_at" (by decide), F23.kp, bN F23 fun _ _ _ _ _ _ us hl => match us, hl with | [_, _, _], _ => rfl⟩
  have gPl : PlG P w K mg base := ⟨_, d24, ok_pl F24 T, T.gl "_law_places" (by decide), F24.kp, bN F24 fun _ _ _ _ _ _ us hl => match us, hl with | [_], _ => rfl⟩
  have gDu : DuG P w K mg base := ⟨_, d25, ok_du F25 T gPl gSL, T.gl "_law_due" (by decide), F25.kp, bN F25 fun _ _ _ _ _ _ us hl => match us, hl with | [_, _], _ => rfl⟩
  have gRf : RfG P w K mg base := ⟨_, d26, ⟨ok_rf F26 T gSx gRe, T.gl "_law_refused" (by decide), F26.kp, bN F26 fun _ _ _ _ _ _ us hl => match us, hl with | [_], _ => rfl⟩⟩
  have gPr : PrG P w K mg base := ⟨_, d27, ⟨ok_pr F27 T gIn gDr gPi gFa gFp gDu gSr gAd gSu gMu gNe, T.gl "_law_product_right" (by decide), F27.kp, bN F27 fun _ _ _ _ _ _ us hl => match us, hl with | [_], _ => rfl⟩⟩
  have gRi : RiG P w K mg base := ⟨_, d28, ⟨ok_ri F28 T gIn gPi gPr gRf, T.gl "_law_right" (by decide), F28.kp, bN F28 fun _ _ _ _ _ _ us hl => match us, hl with | [_], _ => rfl⟩⟩
  exact ok_law F29 T gRi gPot
end
end K71

set_option maxHeartbeats 0
namespace K71
open PySem PySem.Spec PyProof.Rows L2 HandSHeadRun PySem.W
noncomputable abbrev endR (w : World) (os : OsState) : Option SharedT := endF (stepQ (denQ tabQ) R.prog w) 20000 R.prog w os
theorem run_obs (w : World) (os : OsState) : (endR w os).map (fun s => ob s) = some (He.valD fn) := by
  kernel_rfl
end K71

set_option maxHeartbeats 0
namespace K71
open PySem PySem.Spec PyProof.Rows L2 HandSHeadRun PySem.W
noncomputable abbrev endR1 (w : World) (os : OsState) : Option SharedT := endF (stepQ (denQ tabQ) R.prog w) 20000 R.prog w os
theorem run_look (w : World) (os : OsState) : (endR1 w os).map (fun s => (looksF R.prog (boot_heap w.params) s.abs, seenQ (view R.prog [37]) names (importedModules R.prog.main.body) (fun s => xlAt (view R.prog [37]) [] s && recOk R.toRowW.records s) s.abs)) = some (true, openGood (view R.prog [37]) names) := by
  kernel_rfl
end K71

set_option maxHeartbeats 0
namespace K71
open PySem PySem.Spec PyProof.Rows L2 RtL ErL HandSHeadRun PySem.W
theorem run (w : World) : RunEq R (view R.prog [37]) hk ob 20000 names w := by
  intro os
  have a := run_look w os
  have b := run_obs w os
  unfold endR1 at a
  unfold endR at b
  cases e : endF (stepQ (denQ tabQ) R.prog w) 20000 R.prog w os with
  | none =>
    rw [e] at a
    cases a
  | some s =>
    rw [e] at a b
    have a' := Option.some.inj a
    have b' : ob s = He.valD fn := Option.some.inj b
    show some (_, _, ob s) = some (true, openGood (view R.prog [37]) names, He.valD fn)
    rw [b']
    have a1 := congrArg Prod.fst a'
    have a2 := congrArg Prod.snd a'
    exact congrArg some (Prod.ext a1 (Prod.ext a2 rfl))
end K71
open PySem PySem.W PySem.Calls PyProof.Rows
theorem PySem.Challenge.cw_slotsums_k71_sign_runs_holds : PySem.Challenge.rw_slotsums_k71_sign_runs.Holds := by
  w_on; o_law
  refine HandSHeadRun.head_any (r := K71.R) (q := view K71.R.prog [37]) (H := K71.hk) (ob := K71.ob) (M := 20000) (loose := K71.names) (d := HandSHeadRun.topDef K71.R.prog 37) (kwd := []) K71.ob_eq
    (by kernel_rfl) (fun s => by kernel_rfl) K71.run (by kernel_rfl) (by kernel_rfl) (by kernel_rfl) (by rfl) (by first | assumption | decide +kernel) (by decide +kernel) ⟨rfl, rfl, rfl, rfl, rfl, by decide +kernel⟩ ?hw ?hc
  case hw => w_witness2
  case hc =>
    refine Att.attach_call (l := PySem.Challenge.rw_slotsums_k71_sign_runs) (n := 63) rfl (by kernel_rfl) fun w s0 st mg mb fl o pm cd doc sc us zs G Y ho hd hcd hmg here iz lz ng => ?_
    obtain ⟨K, kin, c⟩ := Y
    have T := K71.tt_of kin G.T.g c
    obtain ⟨fd, bd, F⟩ := K71.law_K (P := (PySem.Challenge.rw_slotsums_k71_sign_runs).prog) (w := w) T
    have e1 : (HandSHeadRun.topDef K71.R.prog 37).name = ("law" : PySem.Str) := by kernel_rfl
    have e2 := (T.gl "law" (by decide)).symm.trans ((congrArg mg e1).symm.trans hmg)
    cases e2
    exact RtL.lawG (sp := K71.spLaw K) kin G.T.g G.T.b G.T.builtins G.T.nolimit ng here iz (Nat.le_trans lz (by decide)) ⟨rfl, by decide, by decide⟩ (fun b _ _ => F b) bd fun H q => ⟨sc, zs, rfl, q, lz, fun _ => rfl⟩


import PyProof.Rows.All
import Wide.All
import OpenK.AllK
import Wide.FinOn
import KE.KOpsOwn
import HandS.ForMost
import HandS.SlotsOwn
import HandS.Defaults
import HandS.Property
import HandS.ClsMeth
import HandS.Gcd
import HandS.IsInst
import HandS.FStr
import HandS.Head0
import HandS.Head1
import HandS.Head2
import HandS.Head3
import HandS.HeadEnd
import HandS.HeadHook1
import HandS.HeadHook2
import PyProof.EqAt
import PyProof.EqKinds
import PyProof.TupleCall
import KE.KExcInit
import KE.KExcStr
import HandS.Exc
import KE.KExcIs
import HandS.ExcOwn
import KE.KNest
import KE.KNestM
import PyProof.ReprNest
import PyProof.ReprRoads
import HandS.ForExc
import HandS.TryOnly
import HandS.ExcIs
import HandS.Lambda
import HandS.Evl
import HandS.Wide
import HandS.Star
import HandS.TupAny
import HandS.Walk
import HandS.Rev
import HandS.Zip0
import HandS.Comp
import HandS.Iter
import HandS.Text
import HandS.WideBits
import HandS.Style
import HandS.TryMany
import HandS.OwnEq
import HandS.EndTab
import PySem.Challenge.RW_slotsums_k70_polynomials
set_option Elab.async false
set_option linter.all false
set_option maxRecDepth 100000
set_option maxHeartbeats 1000000
/-! operators of an own class over the layer: a method of two operands, a method of one, == -/
namespace RtL
open PySem PySem.Spec PyProof.Rows L2
section
variable {X : Cx} {CX : CXT} {k : Nat} {f C : Addr} {fd : FuncData} {sp : Sp} {E : XK} {ps : List Str}
/-- x op y by the method of x's class, y of the same class or a whole number -/
def rOwnBin (C : Addr) (sp : Sp) (E : XK) : R2 := fun x y H Q => ∃ a dx fs, x = .ref a ∧ H a = some (.ins C dx fs) ∧ ((∃ i, y = .int i) ∨ ∃ b dy gs, y = .ref b ∧ H b = some (.ins C dy gs)) ∧ sp [.ref a, y] H Q E
/-- what is asked of the class -/
structure OpOf (K : PySem.W.Frag) (C f : Addr) (d r : Str) : Prop where
  me : PySem.W.selfFirst K C = true
  at_ : PySem.W.findIn K (.ref C) d = some (some (.ref f))
  fn : PySem.W.isFn K (.ref f) = true
  re : PySem.W.findIn K (.ref C) r = some none
  nt : PySem.W.subIn K (.type "int") (.ref C) = some false
theorem op_ownBin {op : Operator} {fo ro : Option Value} (O : OpOf X.K C f (PySem.dunder op.info.2) (PySem.dunderR op.info.2)) (h1 : PySem.W.findIn X.K (.type "int") (PySem.dunder op.info.2) = some fo) (h2 : PySem.W.findIn X.K (.type "int") (PySem.dunderR op.info.2) = some ro)
    (F : FnOk X.prog X.w X.K X.mg X.base CX k f fd ps sp) (hr : Room k X.A) (hb : Binds X.K fd ps []) (hx : Passes CX X E) : OpR X (binaryOp op) (rOwnBin C sp E) := by
  intro pins s σ H x y v u Q I rx ry h
  obtain ⟨a, dx, fs, rfl, ha, hy, q⟩ := h
  cases (show v = Value.ref a from rx)
  obtain ⟨mA, oa, _⟩ := ins_get I.hok ha
  obtain ⟨od, J, _⟩ := oa.look
  obtain ⟨m, hF⟩ := I.fr
  have go := wpAny_mono (run_fn F hr hb .nil hx I (us := [.ref a, u]) (vs := [.ref a, y]) (.cons rfl (.cons ry .nil)) q) (fun w s' z => (by
    obtain ⟨z', H', I', rz, qz⟩ := z
    exact SlX.cmpback rz ⟨z', H', I', rz, qz⟩ : PySem.W.CmpBack (EP X pins σ Q) w s')) fun _ _ x => x
  rcases hy with ⟨i, rfl⟩ | ⟨b, dy, gs, rfl, hb'⟩
  · obtain ⟨t, e⟩ := (show ∃ t, u = Value.int i t from ry)
    subst e
    exact PySem.W.ksp_binT hF I.ok.mod.kin J rfl O.me O.at_ O.fn O.re (.inl rfl) h1 h2 O.nt go
  · cases (show u = Value.ref b from ry)
    obtain ⟨mB, ob, _⟩ := ins_get I.hok hb'
    obtain ⟨od', J', _⟩ := ob.look
    exact PySem.W.binop_K hF I.ok.mod.kin J J'.type O.me O.at_ O.fn go
/-- - x by the method of x's class -/
def rOwnUn (C : Addr) (sp : Sp) (E : XK) : V → Hp → VK → Prop := fun x H Q => ∃ a dx fs, x = .ref a ∧ H a = some (.ins C dx fs) ∧ sp [.ref a] H Q E
theorem un_own (hs : PySem.W.findIn X.K (.ref C) "__neg__" = some (some (.ref f))) (hf : PySem.W.isFn X.K (.ref f) = true) (F : FnOk X.prog X.w X.K X.mg X.base CX k f fd ps sp) (hr : Room k X.A) (hb : Binds X.K fd ps []) (hx : Passes CX X E) :
    UnR X (unaryOp .USub) (rOwnUn C sp E) := by
  intro pins s σ H x v Q I rx h
  obtain ⟨a, dx, fs, rfl, ha, q⟩ := h
  cases (show v = Value.ref a from rx)
  obtain ⟨mA, oa, _⟩ := ins_get I.hok ha
  obtain ⟨od, J, _⟩ := oa.look
  obtain ⟨m, hF⟩ := I.fr
  exact PySem.W.ksp_neg hF I.ok.mod.kin J hs hf (run_fn F hr hb .nil hx I (us := [.ref a]) (vs := [.ref a]) (.cons rfl .nil) q)
/-- x == y by the method of x's class, y of the same class, a whole number, a text, None or a truth value -/
def rOwnEq (C : Addr) (sp : Sp) (E : XK) : R2 := fun x y H Q => ∃ a dx fs, x = .ref a ∧ H a = some (.ins C dx fs) ∧ ((∃ b dy gs, y = .ref b ∧ H b = some (.ins C dy gs)) ∨ (∃ i, y = .int i) ∨ (∃ z, y = .str z) ∨ y = .non ∨ ∃ c, y = .bl c) ∧ sp [.ref a, y] H Q E
structure EqOf (K : PySem.W.Frag) (C f : Addr) : Prop where
  at_ : PySem.W.findIn K (.ref C) "__eq__" = some (some (.ref f))
  fn : PySem.W.isFn K (.ref f) = true
  nt : ∀ t ∈ ["int", "str", "NoneType", "bool"], PySem.W.subIn K (.type t) (.ref C) = some false
theorem op_ownEq (O : EqOf X.K C f) (F : FnOk X.prog X.w X.K X.mg X.base CX k f fd ps sp) (hr : Room k X.A) (hb : Binds X.K fd ps []) (hx : Passes CX X E) : OpR X (compareOp .Eq) (rOwnEq C sp E) := by
  intro pins s σ H x y v u Q I rx ry h
  obtain ⟨a, dx, fs, rfl, ha, hy, q⟩ := h
  cases (show v = Value.ref a from rx)
  obtain ⟨mA, oa, _⟩ := ins_get I.hok ha
  obtain ⟨od, J, _⟩ := oa.look
  obtain ⟨m, hF⟩ := I.fr
  have go := wpAny_mono (run_fn F hr hb .nil hx I (us := [.ref a, u]) (vs := [.ref a, y]) (.cons rfl (.cons ry .nil)) q) (fun w s' z => (by
    obtain ⟨z', H', I', rz, qz⟩ := z
    exact SlX.cmpback rz ⟨z', H', I', rz, qz⟩ : PySem.W.CmpBack (EP X pins σ Q) w s')) fun _ _ x => x
  have nf : ∀ t ∈ ["int", "str", "NoneType", "bool"], PySem.W.notFirst X.K C (.type t) = true := fun t ht => by
    unfold PySem.W.notFirst
    rw [O.nt t ht]
    simp
  show wpAny _ _ (richCompare .Eq _ _) _ _ _
  rcases hy with ⟨b, dy, gs, rfl, hb'⟩ | ⟨i, rfl⟩ | ⟨z, rfl⟩ | rfl | ⟨c, rfl⟩
  · cases (show u = Value.ref b from ry)
    obtain ⟨mB, ob, _⟩ := ins_get I.hok hb'
    obtain ⟨od', J', _⟩ := ob.look
    exact PySem.W.cmp_K (op := .Eq) (tb := .ref C) hr.units0 hF I.ok.mod.kin J J'.type (by unfold PySem.W.notFirst; simp) O.at_ O.fn go
  · obtain ⟨t, e⟩ := (show ∃ t, u = Value.int i t from ry)
    subst e
    exact PySem.W.cmp_K (op := .Eq) (tb := .type "int") hr.units0 hF I.ok.mod.kin J (PySem.W.Looks.of_pure rfl) (nf _ (by decide)) O.at_ O.fn go
  · obtain ⟨t, e⟩ := (show ∃ t, u = Value.str z t from ry)
    subst e
    exact PySem.W.cmp_K (op := .Eq) (tb := .type "str") hr.units0 hF I.ok.mod.kin J (PySem.W.Looks.of_pure rfl) (nf _ (by decide)) O.at_ O.fn go
  · cases (show u = Value.none from ry)
    exact PySem.W.cmp_K (op := .Eq) (tb := .type "NoneType") hr.units0 hF I.ok.mod.kin J (PySem.W.Looks.of_pure rfl) (nf _ (by decide)) O.at_ O.fn go
  · cases (show u = Value.bool c from ry)
    exact PySem.W.cmp_K (op := .Eq) (tb := .type "bool") hr.units0 hF I.ok.mod.kin J (PySem.W.Looks.of_pure rfl) (nf _ (by decide)) O.at_ O.fn go
end
end RtL

set_option maxHeartbeats 1000000
/-! a def that stands anywhere (a property's getter, a classmethod's def): what the head's look says of it -/
namespace RtL
open PySem PySem.Spec PyProof.Rows L2
abbrev Fr := PySem.W.Frag
def lookA (K : Fr) (a : Addr) : He.FnW := match K.lookup a with
  | some ⟨_, _, .func d, _⟩ => some (d.name, d.qualname, d.params, d.body, d.scope, d.globals, d.closure, d.builtins)
  | _ => none
def wellA (K : Fr) (a : Addr) (q : Str) (ds : List He.Dv) : Bool := PySem.W.keepIn K (.ref a) && match K.lookup a with
  | some ⟨_, _, .func d, _⟩ => PySem.W.codeIn K d.code q && (He.dflB K d.defaults (ds.map (He.Dv.v K)) && He.kwdB K d.kwdefaults [])
  | _ => false
theorem def_at {K : Fr} {a : Addr} {x q : Str} {ps : Arguments} {bd : List Stmt} {sc : Scope} {ds : List He.Dv} (e : lookA K a = some (x, q, ps, .stmts bd, sc, mainGlobals, [], builtinsNs)) (c : wellA K a q ds = true) :
    ∃ fd, FunD K x q ps bd sc (ds.map (He.Dv.v K)) [] a fd := by
  have c1 := (Bool.and_eq_true_iff.mp c).1
  have c2 := (Bool.and_eq_true_iff.mp c).2
  unfold lookA at e
  cases hl : K.lookup a with
  | none => rw [hl] at e; cases e
  | some o =>
    obtain ⟨o1, o2, dt, o3⟩ := o
    rw [hl] at e c2
    cases dt with
    | func d =>
      obtain ⟨m1, m2, m3, m4, m5, m6, m7, m8, m9, m10, m11, m12, m13, m14, m15⟩ := d
      have e' : (some (m1, m2, m3, m4, m5, m6, m7, m15) : He.FnW) = some (x, q, ps, .stmts bd, sc, mainGlobals, [], builtinsNs) := e
      injection e' with e'
      simp only [Prod.mk.injEq] at e'
      obtain ⟨rfl, rfl, rfl, rfl, rfl, rfl, rfl, rfl⟩ := e'
      have c3 : (PySem.W.codeIn K m13 m2 && (He.dflB K m8 (ds.map (He.Dv.v K)) && He.kwdB K m9 [])) = true := c2
      have c4 := (Bool.and_eq_true_iff.mp c3).2
      exact ⟨_, ⟨o1, o2, m8, m9, m10, m11, m12, m13, m14, o3, rfl, hl, (Bool.and_eq_true_iff.mp c3).1, He.dflB_ok (Bool.and_eq_true_iff.mp c4).1, He.kwdB_ok (Bool.and_eq_true_iff.mp c4).2⟩, c1⟩
    | _ => cases c2
/-- the def of a record (a property, a classmethod) that a class has under a name -/
def recA (K : Fr) (C : Addr) (f : Str) (T : String) : Addr := match PySem.W.recIn K (He.ma K C f) T with
  | some (.ref g :: _) => g
  | _ => 0
def propB (K : Fr) (C : Addr) (f : Str) : Bool := He.eqO (PySem.W.findIn K (.ref C) f) (some (some (.ref (He.ma K C f)))) && (He.eqO (PySem.W.specialIn K (.ref (He.ma K C f)) "__get__") (some (some (.builtin "property.__get__"))) &&
  (decide (PySem.W.takesIn K (.ref (He.ma K C f)) = some true) && match PySem.W.recIn K (He.ma K C f) "property" with
    | some (.ref _ :: _) => true
    | _ => false))
theorem prop_ok {K : Fr} {C : Addr} {f : Str} (h : propB K C f = true) : PropOf K C f (He.ma K C f) (recA K C f "property") := by
  have h1 := (Bool.and_eq_true_iff.mp h).1
  have h2 := (Bool.and_eq_true_iff.mp (Bool.and_eq_true_iff.mp h).2).1
  have h3 := (Bool.and_eq_true_iff.mp (Bool.and_eq_true_iff.mp (Bool.and_eq_true_iff.mp h).2).2).1
  have h4 := (Bool.and_eq_true_iff.mp (Bool.and_eq_true_iff.mp (Bool.and_eq_true_iff.mp h).2).2).2
  refine ⟨He.eqO_ok h1, He.eqO_ok h2, of_decide_eq_true h3, ?_⟩
  unfold recA
  split at h4
  · rename_i g r e
    exact ⟨r, by rw [e]⟩
  · cases h4
end RtL

set_option maxHeartbeats 4000000
namespace PySem
namespace Er
open PySem.W PySem.Calls PyProof.Rows PySem.HandSPX
section
variable {M : Model} {A : Around} {E : Value → Shared → Prop} {h : Heap} {g : Array GenState} {d : Drawn} {t : Nat} {os : OsState}
variable {nm q : Str} {C N : Addr} {bs bm bmB : List Value} {hdct : Bool} {sn : List Str} {sub : List Value} {ab : Bool} {col : Option Bool}
variable {dd : Option Addr} {k0 k1 k2 k3 k5 : Option Value} {B newId initId : String}
variable {prog : Program} {w : World} {R : Result → Shared → Prop}

theorem check_newK (FB : ExcBaseFacts B newId initId bmB) (hT : ∀ T : String, bm.contains (.type T) = bmB.contains (.type T)) {rest : List Value}
    {kw : List (Str × Value)} {Q : Unit → Shared → Prop}
    (hC : h.get? C = some (excClassObj nm q C N bs bm hdct sn sub ab col dd k0 k1 k2 k3 k5 newId))
    (hq : Q () ⟨h, g, d, t, os⟩) : wpAny M A (checkBuiltinCall newId ⟨.ref C :: rest, kw⟩) Q E ⟨h, g, d, t, os⟩ := by
  have hcont : (Value.ref C :: bm).contains (.type B) = true := by
    rw [List.contains_cons, hT, FB.hasB, Bool.or_true]
  have hstar := FB.noStar
  simp only [checkBuiltinCall, FB.newKind, FB.newSplit, FB.newRow]
  repeat (first
    | refine wpAny_loadPart_at hC ?_
    | (refine wpAny_isSubtype_exc hC ?_; rw [hcont])
    | refine wpAny_staticBase_exc hC ?_
    | refine wpAny_madeBy_exc hC ?_
    | simp only [bne_self_eq_false, Bool.false_eq_true, if_false]
    | wp_step)
  exact hq

theorem newK (FB : ExcBaseFacts B newId initId bmB) (hT : ∀ T : String, bm.contains (.type T) = bmB.contains (.type T)) {rest : List Value} {kw : List (Str × Value)}
    (hC : h.get? C = some (excClassObj nm q C N bs bm hdct sn sub ab col dd k0 k1 k2 k3 k5 newId))
    (hq : R (.ok (.ret (.ref (h.objs.size + 1)))) ⟨(h.push (kdv_tup rest)).push (excO C h.objs.size), g, d, t, os⟩) (hrest : rest.length ≤ sizeLine) :
    codeAny (model prog w) A (.builtin newId ⟨.ref C :: rest, kw⟩) R ⟨h, g, d, t, os⟩ := by
  have hends := FB.ends
  have hcB : (Value.ref C :: bm).contains (.type B) = true := by
    rw [List.contains_cons, hT, FB.hasB, Bool.or_true]
  have hcA : (Value.ref C :: bm).contains (.type "AttributeError") = false := by
    rw [List.contains_cons, hT, FB.noAttr]
    rfl
  have hcN : (Value.ref C :: bm).contains (.type "NameError") = false := by
    rw [List.contains_cons, hT, FB.noName]
    rfl
  refine codeAny_builtinAt FB.entry ?_
  unfold Builtin.«BaseException.__new__»
  refine wpAt_bind ?_
  show wpAt _ _ _ (stack >>= _) _ _ _
  refine wpAt_bind (wpAt_stack fun p below => wpAt_of_wpAny ?_)
  wp_walk
  refine wpAt_of_wpAny ?_
  rw [FB.owner]
  repeat (first
    | with_reducible refine wpAny_madeHere_exc FB.canon hC ?_
    | with_reducible refine wpAny_loadPart_at hC ?_
    | (with_reducible refine wpAny_isSubtype_exc hC ?_; first | rw [hcB] | rw [hcA] | rw [hcN])
    | wp_step)
  show R _ _
  rw [Heap.size_push]
  exact hq

theorem type_callK (FB : ExcBaseFacts B newId initId bmB) (hT : ∀ T : String, bm.contains (.type T) = bmB.contains (.type T)) {rest : List Value} {kw : List (Str × Value)} {fI : Addr} {Q : Fin → Shared → Prop}
    (hC : h.get? C = some (excClassObj nm q C N bs bm hdct sn sub ab col dd k0 k1 k2 k3 k5 newId))
    (hi : W.Looks (model prog w) h (typeLookup (.ref C) "__init__") (some (.ref fI)))
    (hb : ∀ self, W.Looks (model prog w) h (bindSpecial (.ref fI) self) (.ref fI, [self])) (hrest : rest.length ≤ sizeLine)
    (hq : codeAny (model prog w) A (.call (.ref fI) ⟨.ref (h.objs.size + 1) :: rest, kw⟩)
      (fun r s' => match r with | .ok (.ret v) => v = .none ∧ Q (.done (.ret (.ref (h.objs.size + 1)))) s' | .ok _ => False | .error e => E e s')
      ⟨(h.push (kdv_tup rest)).push (excO C h.objs.size), g, d, t, os⟩) :
    wpAny (model prog w) A (Builtin.«type.__call__» ⟨.ref C :: rest, kw⟩) Q E ⟨h, g, d, t, os⟩ := by
  repeat (first
    | with_reducible refine wpAny_loadPart_at hC ?_
    | with_reducible refine wpAny_madeBy_exc hC ?_
    | wp_step)
  refine codeAny_call_builtin_code (Code.quiet_builtin _ FB.quiet) (check_newK FB hT hC ?_)
  refine newK FB hT hC ?_ hrest
  show wpAny _ _ _ _ _ _
  have k : ∀ b o, h.get? b = some o → ((h.push (kdv_tup rest)).push (excO C h.objs.size)).get? b = some o :=
    fun b o e => Heap.get?_push_of_some _ (Heap.get?_push_of_some _ e)
  have hC1 := k _ _ hC
  have hget : ((h.push (kdv_tup rest)).push (excO C h.objs.size)).get? (h.objs.size + 1) = some (excO C h.objs.size) := by heap_get
  have hcC : (Value.ref C :: bm).contains (.ref C) = true := by simp
  have i1 := hi.keeps k
  have b1 := (hb (.ref (h.objs.size + 1))).keeps k
  unfold isInstance
  repeat (first
    | with_reducible refine wpAny_loadPart_at hget ?_
    | (with_reducible refine wpAny_isSubtype_exc hC1 ?_; rw [hcC])
    | wp_step)
  show wpAny _ _ (typeLookup (.ref C) _) _ _ _
  refine i1.at ?_
  refine wpAny_holding (wpAny_bind (b1.at ?_))
  refine wpAny_bind (wpAny_call (codeAny_mono hq fun r s' z => ?_))
  rcases r with e | (v | _ | _ | _) <;> first | exact z | exact z.elim | skip
  obtain ⟨rfl, z⟩ := z
  first
    | exact wpAny_pure (wpAny_pure z)
    | (wp_walk; exact z)

theorem call_ownK (FB : ExcBaseFacts B newId initId bmB) (hT : ∀ T : String, bm.contains (.type T) = bmB.contains (.type T)) {rest : List Value} {kw : List (Str × Value)} {fI : Addr}
    (hC : h.get? C = some (excClassObj nm q C N bs bm hdct sn sub ab col dd k0 k1 k2 k3 k5 newId))
    (hi : W.Looks (model prog w) h (typeLookup (.ref C) "__init__") (some (.ref fI)))
    (hb : ∀ self, W.Looks (model prog w) h (bindSpecial (.ref fI) self) (.ref fI, [self])) (hrest : rest.length ≤ sizeLine)
    (hq : codeAny (model prog w) (A.under (.builtin "type.__call__" ⟨.ref C :: rest, kw⟩)) (.call (.ref fI) ⟨.ref (h.objs.size + 1) :: rest, kw⟩)
      (W.InitBack (h.objs.size + 1) R) ⟨(h.push (kdv_tup rest)).push (excO C h.objs.size), g, d, t, os⟩) :
    codeAny (model prog w) A (.call (.ref C) ⟨rest, kw⟩) R ⟨h, g, d, t, os⟩ := by
  have f1 := tc_lookup
  have f2 := tc_bind (.ref C)
  have hTy : (⟨h, g, d, t, os⟩ : Shared).TypeIs (.ref C) "type" := ⟨_, hC, rfl⟩
  refine codeAny_of_tree ?_
  show wpAny _ _ (callAny (.ref C) _) _ _ _
  repeat (any_goals (first
    | assumption
    | with_reducible refine wpAny_loadPart_at hC ?_
    | wp_step))
  refine ⟨rfl, ?_⟩
  refine codeAny_call_builtin_at (Code.quiet_builtin _ (by decide +kernel)) entry_typeCall (wpAny_check_type_call_sub hC (type_callK FB hT hC hi hb hrest ?_))
  refine codeAny_mono hq fun r s' z => ?_
  rcases r with e | (v | _ | _ | _) <;> exact z
end
end Er
end PySem

set_option maxHeartbeats 4000000
namespace PySem
namespace Er
open PySem.W PySem.Calls PyProof.Rows Builtin Builtin.ObjectAttr
open PySem.HandSPX (excO)
section
variable {prog : Program} {w : World} {A : Around} {E : Value → Shared → Prop} {R : Result → Shared → Prop} {hp : Heap} {g : Array GenState} {d : Drawn} {t : Nat} {os : OsState}
variable {K : Frag} {C : Addr} {B : String} {bmB : List Value}

/-- the first field of an error -/
theorem put_new {name : Str} {tk : Tok} {v : Value} {x t0 : Addr} (SF : StoreFacts B bmB "object.__setattr__" "object") (X : K.In hp)
    (hx : hp.get? x = some (excO C t0)) (ho : excOver K C bmB = true) (ht : takerIn K C name = some none) (hh : hasDictIn K C = true)
    (hq : ∀ h' tk' dx, (∀ b o, b ≠ x → hp.get? b = some o → h'.get? b = some o) → hp.objs.size ≤ dx → dx ≠ x →
      h'.get? x = some { cls := .ref C, dict := some dx, data := .fields #[.ref t0, .none, .none, .none, .bool false, .none] } →
      h'.Ns1 dx (fun y => if y = name then some v else none) → R (.ok (.ret .none)) ⟨h', g, d, tk', os⟩) :
    codeAny (model prog w) A (.call (.builtin "object.__setattr__") ⟨[.ref x, .str name tk, v], []⟩) R ⟨hp, g, d, t, os⟩ := by
  have hxs : x ≠ hp.objs.size := Nat.ne_of_lt (Heap.lt_size hx)
  refine osa_openX (od := none) SF X ⟨hx, rfl, rfl, trivial⟩ ho ht fun b => ?_
  obtain ⟨cd, hc, hd'⟩ := any_some hh
  have hcls : W.Looks (model prog w) hp (classData C) cd := looks_clsIn X hc
  obtain ⟨nm, bs, mro, ns, qn, hd, sn, sb, ab, col, del⟩ := cd
  dsimp only at hd'
  subst hd'
  unfold storeInOwnDict ownDictForStores
  repeat (first
    | with_reducible refine PX.store_in_new ?_ ?_
    | with_reducible refine wpAny_loadPart_at hx ?_
    | with_reducible refine hcls.at ?_
    | wp_step)
  · exact ⟨_, #[], _, (Heap.get?_update_ne _ _ _ _ hxs.symm).trans (Heap.get?_push_at rfl rfl), rfl, fun e he => absurd he (by simp), fun _ => rfl⟩
  · intro h' tk' hn' hs
    have hx1 : (hp.push { cls := .type "dict", data := .dict #[] }).get? x = some (excO C t0) := Heap.get?_push_of_some _ hx
    refine hq h' tk' hp.objs.size (fun b o hb ho => ?_) (Nat.le_refl _) hxs.symm ?_ hn'
    · exact (hs.2 b (Nat.ne_of_lt (Heap.lt_size ho))).trans ((Heap.get?_update_ne _ _ _ _ hb).trans (Heap.get?_push_of_some _ ho))
    · exact (hs.2 x hxs).trans (Heap.get?_update_self _ hx1 rfl)

/-- a further one -/
theorem put_old {name : Str} {tk : Tok} {v : Value} {x dx : Addr} {fv : Array Value} {m0 : Str → Option Value} {nl : List Str} (SF : StoreFacts B bmB "object.__setattr__" "object") (X : K.In hp)
    (hx : hp.get? x = some { cls := .ref C, dict := some dx, data := .fields fv }) (hns : hp.Ns1 dx m0) (hw : Within m0 nl) (hz : nl.length ≤ 1000)
    (ho : excOver K C bmB = true) (ht : takerIn K C name = some none) (hh : hasDictIn K C = true)
    (hq : ∀ h' tk', (∀ b o, b ≠ dx → hp.get? b = some o → h'.get? b = some o) → h'.Ns1 dx (fun y => if y = name then some v else m0 y) →
      R (.ok (.ret .none)) ⟨h', g, d, tk', os⟩) :
    codeAny (model prog w) A (.call (.builtin "object.__setattr__") ⟨[.ref x, .str name tk, v], []⟩) R ⟨hp, g, d, t, os⟩ := by
  obtain ⟨oD, esD, epD, hoD, hdD, _⟩ := hns.count hw
  refine osa_openX (od := some oD) SF X ⟨hx, rfl, rfl, hoD⟩ ho ht fun b => ?_
  obtain ⟨cd, hc, hd'⟩ := any_some hh
  have hcls : W.Looks (model prog w) hp (classData C) cd := looks_clsIn X hc
  obtain ⟨nm, bs, mro, ns, qn, hd, sn, sb, ab, col, del⟩ := cd
  dsimp only at hd'
  subst hd'
  unfold storeInOwnDict ownDictForStores
  repeat (first
    | with_reducible refine PX.store_in_old hns hw hz ?_
    | with_reducible refine wpAny_loadPart_at hx ?_
    | with_reducible refine hcls.at ?_
    | wp_step)
  intro h' tk' hn' hs
  exact hq h' tk' (fun b o hb ho => (hs.2 b hb).trans ho) hn'
end

/-! ### the texts of the two kinds of __init__ -/
def iA1 (f : Str) (p1 p2 : Pos) : Arguments :=
  { posonlyargs := [], args := [{ arg := "self", annotation := none, pos := p1 }, { arg := f, annotation := none, pos := p2 }], vararg := none, kwonlyargs := [], kw_defaults := [], kwarg := none, defaults := [] }
def iB1 (f : Str) (q1 q2 q3 q4 : Pos) : List Stmt := [.Assign [.Attribute (.Name "self" q1) f q2] (.Name f q3) q4]
def iS1 (f : Str) : Scope := { kind := .function, names := [(PySem.Str.ofString "self", .local), (f, .local)], isGenerator := false, isCoroutine := false, more := [] }
def iA2 (f f' : Str) (p1 p2 p3 : Pos) : Arguments :=
  { posonlyargs := [], args := [{ arg := "self", annotation := none, pos := p1 }, { arg := f, annotation := none, pos := p2 }, { arg := f', annotation := none, pos := p3 }], vararg := none, kwonlyargs := [], kw_defaults := [], kwarg := none, defaults := [] }
def iB2 (f f' : Str) (q1 q2 q3 q4 r1 r2 r3 r4 : Pos) : List Stmt :=
  [.Assign [.Attribute (.Name "self" q1) f q2] (.Name f q3) q4, .Assign [.Attribute (.Name "self" r1) f' r2] (.Name f' r3) r4]
def iS2 (f f' : Str) : Scope := { kind := .function, names := [(PySem.Str.ofString "self", .local), (f, .local), (f', .local)], isGenerator := false, isCoroutine := false, more := [] }

/-- a local name is read -/
theorem ld {M : Model} {s : Shared} {name : Str} {scope : Scope} {L a : Addr} {cd : Value} {m : Str → Option Value} {x : Str} {pos : Pos} {v : Value} {Q : Value → Shared → Prop} {A : Around} {E : Value → Shared → Prop}
    (hn : s.heap.Ns L m) (hv : m x = some v) (h : Q v s) (hk : scope.kind = .function) (hl : (envOfC name scope L a cd).kindOf x = some .local) (hd : (x == ("__debug__" : Str)) = false) :
    wpAny M A (eval (.Name x pos) (envOfC name scope L a cd)) Q E s := wpAny_Name (wpAny_loadName_local hk hl hn hv h) hd

/-- what the class at C says of making and storing -/
structure Cl (K : Frag) (C : Addr) (B newId initId : String) (bmB : List Value) : Prop where
  FB : ExcBaseFacts B newId initId bmB
  SF : StoreFacts B bmB "object.__setattr__" "object"
  ini : excInitIn K C bmB newId = true
  ov : excOver K C bmB = true
  hd : hasDictIn K C = true
  sa : findIn K (.ref C) "__setattr__" = some (some (.builtin "object.__setattr__"))
  kC : keepIn K (.ref C) = true
/-- of its __init__ with one field -/
structure In1 (K : Frag) (C : Addr) (f : Str) : Prop where
  tk : takerIn K C f = some none
  nd : (f == ("__debug__" : Str)) = false
  ns : (f == ("self" : Str)) = false
  fn : ∃ (fI : Addr) (qual : Str) (oc : Value) (od : Option Addr) (kV doc pm : Value) (an : Option Addr) (cdv ct : Value) (osl : Array (Option Value)) (p1 p2 q1 q2 q3 q4 : Pos),
    findIn K (.ref C) "__init__" = some (some (.ref fI)) ∧ typeIn K (.ref fI) = some (.type "function") ∧
    K.lookup fI = some ⟨oc, od, .func (fnOf "__init__" qual (iA1 f p1 p2) (iB1 f q1 q2 q3 q4) (iS1 f) .none kV doc pm an cdv ct), osl⟩ ∧ codeIn K cdv qual = true
/-- of its __init__ with two fields -/
structure In2 (K : Frag) (C : Addr) (f f' : Str) : Prop where
  tk : takerIn K C f = some none
  tk' : takerIn K C f' = some none
  nd : (f == ("__debug__" : Str)) = false
  nd' : (f' == ("__debug__" : Str)) = false
  ns : (f == ("self" : Str)) = false
  ns' : (f' == ("self" : Str)) = false
  nf : (f' == f) = false
  fn : ∃ (fI : Addr) (qual : Str) (oc : Value) (od : Option Addr) (kV doc pm : Value) (an : Option Addr) (cdv ct : Value) (osl : Array (Option Value)) (p1 p2 p3 q1 q2 q3 q4 r1 r2 r3 r4 : Pos),
    findIn K (.ref C) "__init__" = some (some (.ref fI)) ∧ typeIn K (.ref fI) = some (.type "function") ∧
    K.lookup fI = some ⟨oc, od, .func (fnOf "__init__" qual (iA2 f f' p1 p2 p3) (iB2 f f' q1 q2 q3 q4 r1 r2 r3 r4) (iS2 f f') .none kV doc pm an cdv ct), osl⟩ ∧ codeIn K cdv qual = true

/-- a made error: e of the class C, its dict d, its arguments' tuple t -/
structure Made (h h' : Heap) (e C d t : Addr) (args : List Value) (m : Str → Option Value) : Prop where
  keep : ∀ b o, h.get? b = some o → h'.get? b = some o
  be : h.objs.size ≤ e
  bt : h.objs.size ≤ t
  bd : h.objs.size ≤ d
  te : t ≠ e
  de : d ≠ e
  dt : d ≠ t
  obj : h'.get? e = some { cls := .ref C, dict := some d, data := .fields #[.ref t, .none, .none, .none, .bool false, .none] }
  tup : h'.get? t = some (kdv_tup args)
  ns : h'.Ns1 d m
end Er
end PySem

set_option maxHeartbeats 4000000
namespace PySem
namespace Er
open PySem.W PySem.Calls PyProof.Rows Builtin Builtin.ObjectAttr
open PySem.HandSPX (excO)
section
variable {prog : Program} {w : World} {A : Around} {E : Value → Shared → Prop} {R : Result → Shared → Prop} {s : Shared}
variable {K : Frag} {C : Addr} {B newId initId : String} {bmB : List Value} {f f' : Str}

theorem kind1 {f : Str} (ns : (f == ("self" : Str)) = false) : (iS1 f).names.lookup f = some .local := by
  show List.lookup f [(PySem.Str.ofString "self", NameKind.local), (f, NameKind.local)] = some NameKind.local
  have e : (f == PySem.Str.ofString "self") = false := ns
  simp [List.lookup, e]
theorem kind2 {f f' : Str} (ns : (f == ("self" : Str)) = false) : (iS2 f f').names.lookup f = some .local := by
  show List.lookup f [(PySem.Str.ofString "self", NameKind.local), (f, NameKind.local), (f', NameKind.local)] = some NameKind.local
  have e : (f == PySem.Str.ofString "self") = false := ns
  simp [List.lookup, e]
theorem kind2' {f f' : Str} (ns : (f' == ("self" : Str)) = false) (nf : (f' == f) = false) : (iS2 f f').names.lookup f' = some .local := by
  show List.lookup f' [(PySem.Str.ofString "self", NameKind.local), (f, NameKind.local), (f', NameKind.local)] = some NameKind.local
  have e : (f' == PySem.Str.ofString "self") = false := ns
  simp [List.lookup, e, nf]

theorem ne_of_beq {a b : Str} (h : (a == b) = false) : a ≠ b := fun e => by
  subst e
  simp at h

/-- the body of an __init__ with one field -/
theorem body1 (c : Cl K C B newId initId bmB) (i : In1 K C f) {x t0 L a : Addr} {cd v : Value} {qual : Str} {q1 q2 q3 q4 : Pos} {m : Str → Option Value} (X : K.In s.heap)
    (hx : s.heap.get? x = some (excO C t0)) (hn : s.heap.Ns L m) (m1 : m "self" = some (.ref x)) (m2 : m f = some v) {Q : Flow → Shared → Prop}
    (hq : ∀ h' tk' dx, (∀ b o, b ≠ x → s.heap.get? b = some o → h'.get? b = some o) → s.heap.objs.size ≤ dx → dx ≠ x →
      h'.get? x = some { cls := .ref C, dict := some dx, data := .fields #[.ref t0, .none, .none, .none, .bool false, .none] } →
      h'.Ns1 dx (fun y => if y = f then some v else none) → Q .next { s with heap := h', toks := tk' }) :
    wpAny (model prog w) A (execs (iB1 f q1 q2 q3 q4) (envOfC qual (iS1 f) L a cd)) Q E s := by
  show wpAny _ _ (execs _ _) _ _ _
  refine wpAny_execs_cons (plainObj_wpAny_Assign_Attribute ?_)
  refine ld (v := v) hn m2 (ld (v := .ref x) hn m1 ?_ rfl rfl (by decide)) rfl (kind1 i.ns) i.nd
  refine set_plain X (ox := excO C t0) (od := none) ⟨hx, rfl, rfl, trivial⟩ c.sa ?_
  refine put_new c.SF X hx c.ov i.tk c.hd (fun h' tk' dx k dn dne hx' hns => ?_)
  show wpAny _ _ (execs _ _) _ _ _
  exact wpAny_execs_nil (hq h' tk' dx k dn dne hx' hns)
/-- .. with two -/
theorem body2 (c : Cl K C B newId initId bmB) (i : In2 K C f f') {x t0 L a : Addr} {cd v v' : Value} {qual : Str} {q1 q2 q3 q4 r1 r2 r3 r4 : Pos} {m : Str → Option Value} (X : K.In s.heap)
    (hx : s.heap.get? x = some (excO C t0)) (hLx : L ≠ x) (hKx : K.lookup x = none) (hn : s.heap.Ns L m) (m1 : m "self" = some (.ref x)) (m2 : m f = some v) (m3 : m f' = some v') {Q : Flow → Shared → Prop}
    (hq : ∀ h' tk' dx, (∀ b o, b ≠ x → s.heap.get? b = some o → h'.get? b = some o) → s.heap.objs.size ≤ dx → dx ≠ x →
      h'.get? x = some { cls := .ref C, dict := some dx, data := .fields #[.ref t0, .none, .none, .none, .bool false, .none] } →
      h'.Ns1 dx (fun y => if y = f' then some v' else if y = f then some v else none) → Q .next { s with heap := h', toks := tk' }) :
    wpAny (model prog w) A (execs (iB2 f f' q1 q2 q3 q4 r1 r2 r3 r4) (envOfC qual (iS2 f f') L a cd)) Q E s := by
  show wpAny _ _ (execs _ _) _ _ _
  refine wpAny_execs_cons (plainObj_wpAny_Assign_Attribute ?_)
  refine ld (v := v) hn m2 (ld (v := .ref x) hn m1 ?_ rfl rfl (by decide)) rfl (kind2 i.ns) i.nd
  refine set_plain X (ox := excO C t0) (od := none) ⟨hx, rfl, rfl, trivial⟩ c.sa ?_
  refine put_new c.SF X hx c.ov i.tk c.hd (fun h' tk' dx k dn dne hx' hns => ?_)
  have X' : K.In h' := fun b o e => k b o (fun z => by rw [z, hKx] at e; cases e) (X b o e)
  have hn' : h'.Ns L m := by
    obtain ⟨o, es, ep, ho, r⟩ := hn
    exact ⟨o, es, ep, k _ _ hLx ho, r⟩
  show wpAny _ _ (execs _ _) _ _ _
  refine wpAny_execs_cons (plainObj_wpAny_Assign_Attribute ?_)
  refine ld (v := v') hn' m3 (ld (v := .ref x) hn' m1 ?_ rfl rfl (by decide)) rfl (kind2' i.ns' i.nf) i.nd'
  obtain ⟨oD, esD, epD, hoD, hdD, _⟩ := hns.count (Within.cons f v Within.nil)
  refine set_plain X' (ox := { cls := .ref C, dict := some dx, data := .fields #[.ref t0, .none, .none, .none, .bool false, .none] }) (od := some oD) ⟨hx', rfl, rfl, hoD⟩ c.sa ?_
  refine put_old c.SF X' hx' hns (Within.cons f v Within.nil) (by simp) c.ov i.tk' c.hd (fun h2 tk2 k2 hns2 => ?_)
  show wpAny _ _ (execs _ _) _ _ _
  exact wpAny_execs_nil (hq h2 tk2 dx (fun b o hb e => k2 b o (fun z => absurd (Heap.lt_size e) (by rw [z]; exact Nat.not_lt.mpr dn)) (k b o hb e)) dn dne (k2 x _ (Ne.symm dne) hx') hns2)

theorem map1 {kindOf : Str → Option NameKind} {x v : Value} {f : Str} (e0 : kindOf "self" = some .local) (e1 : kindOf f = some .local) (ns : (f == ("self" : Str)) = false) :
    bindL kindOf [("self", x), (f, v)] (fun _ => none) "self" = some x ∧ bindL kindOf [("self", x), (f, v)] (fun _ => none) f = some v := by
  have n1 : ¬ (("self" : Str) = f) := fun e => ne_of_beq ns e.symm
  constructor
  · show (if kindOf f = some .local then fun y => if y = f then some v else (if kindOf "self" = some .local then fun y => if y = ("self" : Str) then some x else none else fun _ => none) y else _) ("self" : Str) = some x
    rw [if_pos e1, if_pos e0]
    simp [n1]
  · show (if kindOf f = some .local then fun y => if y = f then some v else (if kindOf "self" = some .local then fun y => if y = ("self" : Str) then some x else none else fun _ => none) y else _) f = some v
    rw [if_pos e1]
    simp
theorem map2 {kindOf : Str → Option NameKind} {x v v' : Value} {f f' : Str} (e0 : kindOf "self" = some .local) (e1 : kindOf f = some .local) (e2 : kindOf f' = some .local) (ns : (f == ("self" : Str)) = false) (ns' : (f' == ("self" : Str)) = false) (nf : (f' == f) = false) :
    bindL kindOf [("self", x), (f, v), (f', v')] (fun _ => none) "self" = some x ∧ bindL kindOf [("self", x), (f, v), (f', v')] (fun _ => none) f = some v ∧ bindL kindOf [("self", x), (f, v), (f', v')] (fun _ => none) f' = some v' := by
  have n1 : ¬ (("self" : Str) = f) := fun e => ne_of_beq ns e.symm
  have n2 : ¬ (("self" : Str) = f') := fun e => ne_of_beq ns' e.symm
  have n3 : ¬ (f = f') := fun e => ne_of_beq nf e.symm
  refine ⟨?_, ?_, ?_⟩
  all_goals simp [bindL, e0, e1, e2, n1, n2, n3]

/-- a call of the class, one field -/
theorem made1 (c : Cl K C B newId initId bmB) (i : In1 K C f) {rest : List Value} {kw : List (Str × Value)} {v : Value} (X : K.In s.heap) (hlim : s.heap.NoLimit) (hroom : A.depth + 1 < recursionLimit) (hz : rest.length ≤ sizeLine)
    (hb : ∀ (s : Shared) (qual : Str) (p1 p2 q1 q2 q3 q4 : Pos) (kV doc pm : Value) (an : Option Addr) (cdv ct x : Value),
      BindsTo s (fnOf "__init__" qual (iA1 f p1 p2) (iB1 f q1 q2 q3 q4) (iS1 f) .none kV doc pm an cdv ct) ⟨x :: rest, kw⟩ [("self", x), (f, v)])
    (hq : ∀ h' tk e d t, Made s.heap h' e C d t rest (fun y => if y = f then some v else none) → R (.ok (.ret (.ref e))) { s with heap := h', toks := tk }) :
    codeAny (model prog w) A (.call (.ref C) ⟨rest, kw⟩) R s := by
  obtain ⟨fI, qual, oc, od, kV, doc, pm, an, cdv, ct, osl, p1, p2, q1, q2, q3, q4, hi, ht, ho, hcd⟩ := i.fn
  obtain ⟨nm, N, qn, bs, bm, hdct, sn, sub, ab, col, dd, k0, k1, k2, k3, k5, hC, hT⟩ := excInit_of X c.ini
  obtain ⟨hp, g, dr, tk, os⟩ := s
  have k : ∀ b o, hp.get? b = some o → ((hp.push (kdv_tup rest)).push (excO C hp.objs.size)).get? b = some o := fun b o e => Heap.get?_push_of_some _ (Heap.get?_push_of_some _ e)
  have hget : ((hp.push (kdv_tup rest)).push (excO C hp.objs.size)).get? (hp.objs.size + 1) = some (excO C hp.objs.size) := by heap_get
  have hget0 : ((hp.push (kdv_tup rest)).push (excO C hp.objs.size)).get? hp.objs.size = some (kdv_tup rest) := by heap_get
  have hsz : ((hp.push (kdv_tup rest)).push (excO C hp.objs.size)).objs.size = hp.objs.size + 1 + 1 := by rw [Heap.size_push, Heap.size_push]
  refine call_ownK c.FB hT hC (looks_findIn X hi) (fun self => bind_fn X self ht) hz ?_
  refine Att.call_fn (s := ⟨(hp.push (kdv_tup rest)).push (excO C hp.objs.size), g, dr, tk, os⟩) (binds := [("self", .ref (hp.objs.size + 1)), (f, v)]) (X.keeps k) (hlim.keeps k) ho hcd ?_ (hb _ _ _ _ _ _ _ _ _ _ _ _ _ _ _) ?_ (fun s1 IC => ?_) rfl rfl rfl
  · show A.depth + 1 < recursionLimit
    exact hroom
  · have e1 : (iS1 f).names.lookup f = some .local := kind1 i.ns
    have e0 : (iS1 f).names.lookup ("self" : Str) = some NameKind.local := rfl
    simp [List.all, e1, e0]
  obtain ⟨h1, tk1, rfl⟩ := IC.toInCall.same
  have ks : ∀ b o, ((hp.push (kdv_tup rest)).push (excO C hp.objs.size)).get? b = some o → h1.get? b = some o := IC.toInCall.keep
  have hn := IC.toInCall.ns
  obtain ⟨m1, m2⟩ := map1 (kindOf := (envOfC qual (iS1 f) ((hp.push (kdv_tup rest)).push (excO C hp.objs.size)).objs.size fI cdv).kindOf) (x := .ref (hp.objs.size + 1)) (v := v) rfl (kind1 i.ns) i.ns
  refine wpAny_mono (body1 c i ((X.keeps k).keeps ks) (ks _ _ hget) hn m1 m2 (Q := fun fl s' => fl = .next ∧ ∃ h' tk' dx, s' = ⟨h', g, dr, tk', os⟩ ∧ Made hp h' (hp.objs.size + 1) C dx hp.objs.size rest (fun y => if y = f then some v else none)) (fun h' tk' dx k' dn dne hx hns => ⟨rfl, h', tk', dx, rfl, ?_⟩)) (fun fl s' hh => ?_) (fun e s' hh => hh)
  · have lt1 : hp.objs.size + 1 < h1.objs.size := Heap.lt_size (ks _ _ hget)
    have z2 : h1.objs.size ≤ dx := dn
    have z3 : hp.objs.size < dx := by omega
    exact ⟨fun b o e => k' b o (Nat.ne_of_lt (Nat.lt_succ_of_lt (Heap.lt_size e))) (ks _ _ (k _ _ e)), Nat.le_succ _, Nat.le_refl _, Nat.le_of_lt z3, Nat.ne_of_lt (Nat.lt_succ_self _), dne, Nat.ne_of_gt z3, hx, k' _ _ (Nat.ne_of_lt (Nat.lt_succ_self _)) (ks _ _ hget0), hns⟩
  · obtain ⟨rfl, h', tk', dx, rfl, M⟩ := hh
    exact ⟨rfl, hq h' tk' (hp.objs.size + 1) dx hp.objs.size M⟩
/-- .. two -/
theorem made2 (c : Cl K C B newId initId bmB) (i : In2 K C f f') {rest : List Value} {kw : List (Str × Value)} {v v' : Value} (X : K.In s.heap) (hlim : s.heap.NoLimit) (hroom : A.depth + 1 < recursionLimit) (hz : rest.length ≤ sizeLine)
    (hb : ∀ (s : Shared) (qual : Str) (p1 p2 p3 q1 q2 q3 q4 r1 r2 r3 r4 : Pos) (kV doc pm : Value) (an : Option Addr) (cdv ct x : Value),
      BindsTo s (fnOf "__init__" qual (iA2 f f' p1 p2 p3) (iB2 f f' q1 q2 q3 q4 r1 r2 r3 r4) (iS2 f f') .none kV doc pm an cdv ct) ⟨x :: rest, kw⟩ [("self", x), (f, v), (f', v')])
    (hq : ∀ h' tk e d t, Made s.heap h' e C d t rest (fun y => if y = f' then some v' else if y = f then some v else none) → R (.ok (.ret (.ref e))) { s with heap := h', toks := tk }) :
    codeAny (model prog w) A (.call (.ref C) ⟨rest, kw⟩) R s := by
  obtain ⟨fI, qual, oc, od, kV, doc, pm, an, cdv, ct, osl, p1, p2, p3, q1, q2, q3, q4, r1, r2, r3, r4, hi, ht, ho, hcd⟩ := i.fn
  obtain ⟨nm, N, qn, bs, bm, hdct, sn, sub, ab, col, dd, k0, k1, k2, k3, k5, hC, hT⟩ := excInit_of X c.ini
  obtain ⟨hp, g, dr, tk, os⟩ := s
  have k : ∀ b o, hp.get? b = some o → ((hp.push (kdv_tup rest)).push (excO C hp.objs.size)).get? b = some o := fun b o e => Heap.get?_push_of_some _ (Heap.get?_push_of_some _ e)
  have hget : ((hp.push (kdv_tup rest)).push (excO C hp.objs.size)).get? (hp.objs.size + 1) = some (excO C hp.objs.size) := by heap_get
  have hget0 : ((hp.push (kdv_tup rest)).push (excO C hp.objs.size)).get? hp.objs.size = some (kdv_tup rest) := by heap_get
  have hsz : ((hp.push (kdv_tup rest)).push (excO C hp.objs.size)).objs.size = hp.objs.size + 1 + 1 := by rw [Heap.size_push, Heap.size_push]
  have hKx : K.lookup (hp.objs.size + 1) = none := by
    cases e : K.lookup (hp.objs.size + 1) with
    | none => rfl
    | some o =>
      have z : hp.get? (hp.objs.size + 1) = some o := X _ _ e
      exact absurd (Nat.lt_of_succ_lt (Heap.lt_size z)) (Nat.lt_irrefl _)
  refine call_ownK c.FB hT hC (looks_findIn X hi) (fun self => bind_fn X self ht) hz ?_
  refine Att.call_fn (s := ⟨(hp.push (kdv_tup rest)).push (excO C hp.objs.size), g, dr, tk, os⟩) (binds := [("self", .ref (hp.objs.size + 1)), (f, v), (f', v')]) (X.keeps k) (hlim.keeps k) ho hcd ?_ (hb _ _ _ _ _ _ _ _ _ _ _ _ _ _ _ _ _ _ _ _) ?_ (fun s1 IC => ?_) rfl rfl rfl
  · show A.depth + 1 < recursionLimit
    exact hroom
  · have e1 : (iS2 f f').names.lookup f = some .local := kind2 i.ns
    have e2 : (iS2 f f').names.lookup f' = some .local := kind2' i.ns' i.nf
    have e0 : (iS2 f f').names.lookup ("self" : Str) = some NameKind.local := rfl
    simp [List.all, e1, e2, e0]
  obtain ⟨h1, tk1, rfl⟩ := IC.toInCall.same
  have ks : ∀ b o, ((hp.push (kdv_tup rest)).push (excO C hp.objs.size)).get? b = some o → h1.get? b = some o := IC.toInCall.keep
  have hn := IC.toInCall.ns
  obtain ⟨m1, m2, m3⟩ := map2 (kindOf := (envOfC qual (iS2 f f') ((hp.push (kdv_tup rest)).push (excO C hp.objs.size)).objs.size fI cdv).kindOf) (x := .ref (hp.objs.size + 1)) (v := v) (v' := v') rfl (kind2 i.ns) (kind2' i.ns' i.nf) i.ns i.ns' i.nf
  have hLx : ((hp.push (kdv_tup rest)).push (excO C hp.objs.size)).objs.size ≠ hp.objs.size + 1 := by omega
  refine wpAny_mono (body2 c i ((X.keeps k).keeps ks) (ks _ _ hget) hLx hKx hn m1 m2 m3 (Q := fun fl s' => fl = .next ∧ ∃ h' tk' dx, s' = ⟨h', g, dr, tk', os⟩ ∧ Made hp h' (hp.objs.size + 1) C dx hp.objs.size rest (fun y => if y = f' then some v' else if y = f then some v else none)) (fun h' tk' dx k' dn dne hx hns => ⟨rfl, h', tk', dx, rfl, ?_⟩)) (fun fl s' hh => ?_) (fun e s' hh => hh)
  · have lt1 : hp.objs.size + 1 < h1.objs.size := Heap.lt_size (ks _ _ hget)
    have z2 : h1.objs.size ≤ dx := dn
    have z3 : hp.objs.size < dx := by omega
    exact ⟨fun b o e => k' b o (Nat.ne_of_lt (Nat.lt_succ_of_lt (Heap.lt_size e))) (ks _ _ (k _ _ e)), Nat.le_succ _, Nat.le_refl _, Nat.le_of_lt z3, Nat.ne_of_lt (Nat.lt_succ_self _), dne, Nat.ne_of_gt z3, hx, k' _ _ (Nat.ne_of_lt (Nat.lt_succ_self _)) (ks _ _ hget0), hns⟩
  · obtain ⟨rfl, h', tk', dx, rfl, M⟩ := hh
    exact ⟨rfl, hq h' tk' (hp.objs.size + 1) dx hp.objs.size M⟩
end
end Er
end PySem

set_option maxHeartbeats 4000000
namespace ErL
open PySem PySem.Spec PyProof.Rows L2
open PySem.Er (Made Cl In1 In2)
/-- an error object at e: its class, its dict (or none), its arguments' tuple -/
def erO (e C : Addr) (d : Option Addr) (t : Addr) : HO := .ext fun h =>
  h.get? e = some ({ cls := .ref C, dict := d, data := .fields #[.ref t, .none, .none, .none, .bool false, .none] } : Obj)
/-- an error of the class at C with these fields, made with these arguments -/
def ErAt (H : Hp) (e C : Addr) (fs : List (Str × V)) (args : List V) : Prop :=
  ∃ (d : Option Addr) (t : Addr), H e = some (erO e C d t) ∧ H t = some (.tup args) ∧ match d with
    | some dx => H dx = some (.xd fs)
    | none => fs = []
theorem ErAt.same {H H' : Hp} {e C : Addr} {fs : List (Str × V)} {args : List V} (x : ErAt H e C fs args) (s : Same H H') : ErAt H' e C fs args := by
  obtain ⟨d, t, h1, h2, h3⟩ := x
  refine ⟨d, t, s _ _ h1, s _ _ h2, ?_⟩
  cases d with
  | none => exact h3
  | some dx => exact s _ _ h3

theorem erO_ok {P : Program} {w : World} {H : Hp} {h : Heap} {e C t : Addr} {d : Option Addr} (he : h.get? e = some ({ cls := .ref C, dict := d, data := .fields #[.ref t, .none, .none, .none, .bool false, .none] } : Obj)) :
    ObjOk P w H h e (erO e C d t) := ⟨he, ⟨_, he⟩, fun _ _ z k => k _ z⟩

section
variable {X : Cx} {pins : List (Addr × Obj)} {σ : L2.St} {H : Hp} {s : Shared} {h' : Heap} {t' : Nat}
/-- several objects laid at once, all of them new -/
theorem laidMany {H' : Hp} (I : Inv X pins σ H s) (k : ∀ b o, s.heap.get? b = some o → h'.get? b = some o) (sm : Same H H') (fr : ∀ b, b < s.heap.objs.size → H b = none → H' b = none)
    (new : ∀ b o, H' b = some o → H b = none → ObjOk X.prog X.w H' h' b o) : Inv X pins σ H' { s with heap := h', toks := t' } := by
  refine I.un ⟨fun b o q _ _ _ => k b o q, fun b o q _ _ _ => ⟨o.slots, k b o q⟩, fun b o q n _ => fr b (Heap.lt_size q) n, fun b o q _ => ⟨o, k b o q⟩, fun b xs q => sm _ _ q, fun b o u q => sm _ _ q, fun b ps q => ⟨#[], by rw [sm _ _ q]; simp⟩⟩ ?_
  intro b o q
  cases e : H b with
  | none => exact new b o q e
  | some o' =>
    have q2 := sm _ _ e
    rw [q] at q2
    cases q2
    exact (I.hok b o e).stay (fun c v _ z => k c v z) (fun c z => sm _ _ z) fun c xs z => sm _ _ z

/-- a made error is tracked -/
theorem made_inv {e C d t : Addr} {args : List Value} {vs : List V} {m : Str → Option Value} {fs : List (Str × V)} {Q : VK} (I : Inv X pins σ H s) (M : Made s.heap h' e C d t args m) (r : Vals vs args) (hz : vs.length ≤ sizeLine)
    (hf : ∀ f, RelO (fs.lookup f) (m f)) (q : ∀ H', ErAt H' e C fs vs → Same H H' → H e = none → Q (.ref e) H') : EP X pins σ Q (.ref e) { s with heap := h', toks := t' } := by
  have ne : H e = none := I.hok.fresh M.be
  have nt : H t = none := I.hok.fresh M.bt
  have nd : H d = none := I.hok.fresh M.bd
  have sm : Same H (upd (upd (upd H t (.tup vs)) d (.xd fs)) e (erO e C (some d) t)) := fun b o z => by
    rw [upd_ne (ne_of_none z ne), upd_ne (ne_of_none z nd), upd_ne (ne_of_none z nt)]
    exact z
  have at_e : (upd (upd (upd H t (.tup vs)) d (.xd fs)) e (erO e C (some d) t)) e = some (erO e C (some d) t) := upd_same
  have at_d : (upd (upd (upd H t (.tup vs)) d (.xd fs)) e (erO e C (some d) t)) d = some (.xd fs) := by rw [upd_ne M.de, upd_same]
  have at_t : (upd (upd (upd H t (.tup vs)) d (.xd fs)) e (erO e C (some d) t)) t = some (.tup vs) := by rw [upd_ne M.te, upd_ne (Ne.symm M.dt), upd_same]
  refine ⟨.ref e, _, laidMany (H' := upd (upd (upd H t (.tup vs)) d (.xd fs)) e (erO e C (some d) t)) I M.keep sm (fun b lt n => ?_) (fun b o z n => ?_), rfl, q _ ⟨some d, t, at_e, at_t, at_d⟩ sm ne⟩
  · rw [upd_ne (Nat.ne_of_lt (Nat.lt_of_lt_of_le lt M.be)), upd_ne (Nat.ne_of_lt (Nat.lt_of_lt_of_le lt M.bd)), upd_ne (Nat.ne_of_lt (Nat.lt_of_lt_of_le lt M.bt))]
    exact n
  · by_cases be : b = e
    · subst be
      rw [at_e] at z
      cases z
      exact erO_ok M.obj
    · by_cases bd : b = d
      · subst bd
        rw [at_d] at z
        cases z
        exact ⟨m, M.ns, hf⟩
      · by_cases bt : b = t
        · subst bt
          rw [at_t] at z
          cases z
          exact ⟨hz, args, r, ⟨_, M.tup, rfl, _, rfl⟩⟩
        · rw [upd_ne be, upd_ne bd, upd_ne bt, n] at z
          cases z
end
theorem rel1 {f : Str} {v : V} {u : Value} (r : RelV v u) (y : Str) : RelO (List.lookup y [(f, v)]) (if y = f then some u else none) := by
  by_cases e : y = f
  · subst e
    simp [List.lookup]
    exact r
  · have e2 : (y == f) = false := by simpa using e
    simp [List.lookup, e, e2]
    trivial
theorem rel2 {f f' : Str} {v v' : V} {u u' : Value} (nf : (f' == f) = false) (r : RelV v u) (r' : RelV v' u') (y : Str) : RelO (List.lookup y [(f, v), (f', v')]) (if y = f' then some u' else if y = f then some u else none) := by
  have n1 : f' ≠ f := PySem.Er.ne_of_beq nf
  by_cases e : y = f
  · subst e
    have n2 : ¬ (y = f') := fun z => n1 z.symm
    simp [List.lookup, n2]
    exact r
  · have e2 : (y == f) = false := by simpa using e
    by_cases e' : y = f'
    · subst e'
      simp [List.lookup, e2]
      exact r'
    · have e3 : (y == f') = false := by simpa using e'
      simp [List.lookup, e, e2, e', e3]
      trivial

section
variable {X : Cx} {C : Addr} {B newId initId : String} {bmB : List Value} {f f' : Str} {x : Str} {p pos : Pos} {a b : Expr} {ta tb : TE}
/-- how the parameters of the two kinds of __init__ are bound -/
abbrev Bd1 (f : Str) (g : Value → List Value × List (Str × Value)) : Prop := ∀ (qual : Str) (p1 p2 q1 q2 q3 q4 : Pos) (kV doc pm : Value) (an : Option Addr) (cdv ct x u : Value),
  bindArgs (PySem.W.fnOf "__init__" qual (PySem.Er.iA1 f p1 p2) (PySem.Er.iB1 f q1 q2 q3 q4) (PySem.Er.iS1 f) .none kV doc pm an cdv ct) ⟨x :: (g u).1, (g u).2⟩ = pure [(("self" : Str), x), (f, u)]
abbrev Bd2 (f f' : Str) (g : Value → Value → List Value × List (Str × Value)) : Prop := ∀ (qual : Str) (p1 p2 p3 q1 q2 q3 q4 r1 r2 r3 r4 : Pos) (kV doc pm : Value) (an : Option Addr) (cdv ct x u u' : Value),
  bindArgs (PySem.W.fnOf "__init__" qual (PySem.Er.iA2 f f' p1 p2 p3) (PySem.Er.iB2 f f' q1 q2 q3 q4 r1 r2 r3 r4) (PySem.Er.iS2 f f') .none kV doc pm an cdv ct) ⟨x :: (g u u').1, (g u u').2⟩ = pure [(("self" : Str), x), (f, u), (f', u')]
abbrev gP1 : Value → List Value × List (Str × Value) := fun u => ([u], [])
abbrev gK1 (f : Str) : Value → List Value × List (Str × Value) := fun u => ([], [(f, u)])
abbrev gP2 : Value → Value → List Value × List (Str × Value) := fun u u' => ([u, u'], [])
abbrev gK2 (f f' : Str) : Value → Value → List Value × List (Str × Value) := fun u u' => ([], [(f', u'), (f, u)])
theorem bd1_value : Bd1 "value" gP1 := by first | (unfold Bd1; intros; first | rfl | with_unfolding_all rfl) | (unfold Bd2; intros; first | rfl | with_unfolding_all rfl)
theorem bd1_position : Bd1 "position" gP1 := by first | (unfold Bd1; intros; first | rfl | with_unfolding_all rfl) | (unfold Bd2; intros; first | rfl | with_unfolding_all rfl)
theorem bd1_name : Bd1 "name" gP1 := by first | (unfold Bd1; intros; first | rfl | with_unfolding_all rfl) | (unfold Bd2; intros; first | rfl | with_unfolding_all rfl)
theorem bd1_line : Bd1 "line" gP1 := by first | (unfold Bd1; intros; first | rfl | with_unfolding_all rfl) | (unfold Bd2; intros; first | rfl | with_unfolding_all rfl)
theorem bk1_value : Bd1 "value" (gK1 "value") := by first | (unfold Bd1; intros; first | rfl | with_unfolding_all rfl) | (unfold Bd2; intros; first | rfl | with_unfolding_all rfl)
theorem bk1_position : Bd1 "position" (gK1 "position") := by first | (unfold Bd1; intros; first | rfl | with_unfolding_all rfl) | (unfold Bd2; intros; first | rfl | with_unfolding_all rfl)
theorem bk1_name : Bd1 "name" (gK1 "name") := by first | (unfold Bd1; intros; first | rfl | with_unfolding_all rfl) | (unfold Bd2; intros; first | rfl | with_unfolding_all rfl)
theorem bk1_line : Bd1 "line" (gK1 "line") := by first | (unfold Bd1; intros; first | rfl | with_unfolding_all rfl) | (unfold Bd2; intros; first | rfl | with_unfolding_all rfl)
theorem bd2_places : Bd2 "position" "places" gP2 := by first | (unfold Bd1; intros; first | rfl | with_unfolding_all rfl) | (unfold Bd2; intros; first | rfl | with_unfolding_all rfl)
theorem bd2_kind : Bd2 "kind" "limit" gP2 := by first | (unfold Bd1; intros; first | rfl | with_unfolding_all rfl) | (unfold Bd2; intros; first | rfl | with_unfolding_all rfl)
theorem bk2_places : Bd2 "position" "places" (gK2 "position" "places") := by first | (unfold Bd1; intros; first | rfl | with_unfolding_all rfl) | (unfold Bd2; intros; first | rfl | with_unfolding_all rfl)
theorem bk2_kind : Bd2 "kind" "limit" (gK2 "kind" "limit") := by first | (unfold Bd1; intros; first | rfl | with_unfolding_all rfl) | (unfold Bd2; intros; first | rfl | with_unfolding_all rfl)
/-- C(a) -/
def tEr1 (C : Addr) (f : Str) (t : TA) : TE := fun σ H Q => t σ H fun vs H1 => ∃ v, vs = [v] ∧ ∀ e H', ErAt H' e C [(f, v)] [v] → Same H1 H' → H1 e = none → Q (.ref e) H'
/-- C(a, b) -/
def tEr2 (C : Addr) (f f' : Str) (t : TA) : TE := fun σ H Q => t σ H fun vs H1 => ∃ v v', vs = [v, v'] ∧ ∀ e H', ErAt H' e C [(f, v), (f', v')] [v, v'] → Same H1 H' → H1 e = none → Q (.ref e) H'
theorem pe_er1 {k : Nat} (c : Cl X.K C B newId initId bmB) (i : In1 X.K C f) (hb : Bd1 f gP1) (hr : Room k X.A) (hg : Gl X x) (hm : X.mg x = some (.ref C)) (ha : PA X [a] (tCons ta tNil))
    (hdb : (x == ("__debug__" : Str)) = false := by decide) (he : starEach [a] X.env = (false, eval a X.env) :: starEach [] X.env := by rfl) (hpl : (backTo pos (starEach [] X.env)).any (·.1) = false := by rfl) :
    PE X (.Call (.Name x p) [a] [] pos) (tEr1 C f (tCons ta tNil)) := by
  refine ⟨fun pins s σ H Q I h => ?_⟩
  refine wpAny_Call_Name_kw (ld_glob I hg hm ?_ hdb)
  refine PySem.W.callWith_K (h₀ := X.base) I.ok.mod.kin c.kC (thn (ha.run pos pins s σ H _ I h) fun us s1 ⟨vs, H1, I1, r, v, ev, q⟩ => ⟨I1.kIn, ?_⟩) he hpl
  subst ev
  obtain ⟨u, rfl, ru⟩ := vals1 r
  show wpAny _ _ (call (.ref C) [u]) _ _ _
  exact wpAny_call (PySem.Er.made1 c i (v := u) I1.kIn I1.nolimit (by have := hr.dp; omega) (by show 1 ≤ sizeLine; rw [sizeLine_eq]; omega) (fun _ ql p1 p2 q1 q2 q3 q4 kv dc pm an cv ct y => .of_eq (hb ql p1 p2 q1 q2 q3 q4 kv dc pm an cv ct y u))
    fun h' tk e d t M => made_inv I1 M r (by show 1 ≤ sizeLine; rw [sizeLine_eq]; omega) (rel1 ru) fun H' z1 z2 z3 => q e H' z1 z2 z3)
theorem pe_er2 {k : Nat} (c : Cl X.K C B newId initId bmB) (i : In2 X.K C f f') (hb : Bd2 f f' gP2) (hr : Room k X.A) (hg : Gl X x) (hm : X.mg x = some (.ref C)) (ha : PA X [a, b] (tCons ta (tCons tb tNil)))
    (hdb : (x == ("__debug__" : Str)) = false := by decide) (he : starEach [a, b] X.env = (false, eval a X.env) :: starEach [b] X.env := by rfl) (hpl : (backTo pos (starEach [b] X.env)).any (·.1) = false := by rfl) :
    PE X (.Call (.Name x p) [a, b] [] pos) (tEr2 C f f' (tCons ta (tCons tb tNil))) := by
  refine ⟨fun pins s σ H Q I h => ?_⟩
  refine wpAny_Call_Name_kw (ld_glob I hg hm ?_ hdb)
  refine PySem.W.callWith_K (h₀ := X.base) I.ok.mod.kin c.kC (thn (ha.run pos pins s σ H _ I h) fun us s1 ⟨vs, H1, I1, r, v, v', ev, q⟩ => ⟨I1.kIn, ?_⟩) he hpl
  subst ev
  obtain ⟨u, u', rfl, ru, ru'⟩ := vals2 r
  show wpAny _ _ (call (.ref C) [u, u']) _ _ _
  exact wpAny_call (PySem.Er.made2 c i (v := u) (v' := u') I1.kIn I1.nolimit (by have := hr.dp; omega) (by show 2 ≤ sizeLine; rw [sizeLine_eq]; omega) (fun _ ql p1 p2 p3 q1 q2 q3 q4 r1 r2 r3 r4 kv dc pm an cv ct y => .of_eq (hb ql p1 p2 p3 q1 q2 q3 q4 r1 r2 r3 r4 kv dc pm an cv ct y u u'))
    fun h' tk e d t M => made_inv I1 M r (by show 2 ≤ sizeLine; rw [sizeLine_eq]; omega) (rel2 i.nf ru ru') fun H' z1 z2 z3 => q e H' z1 z2 z3)
end
end ErL

set_option maxHeartbeats 4000000
namespace PySem
namespace Er
open Sem (wp)
open Builtin Builtin.Str Builtin.BaseException Builtin.Exceptions
open PySem.W (Looks Frag findIn subIn looks_findIn looks_subIn)
theorem text_eq (x : Value) : bexcText "__str__" x = pyStrObj x := by
  cases x <;> rfl
section
variable {prog : Program} {w : World} {M : Model} {A : Around} {E : Value → Shared → Prop} {s : Shared} {K : Frag} {C e t0 : Addr}
theorem bstr_two {u u' : Value} {rest : List Value} {Q : Fin → Shared → Prop} (x : ExcC K C e t0 s.heap) (ht : s.heap.TupAt t0 (u :: u' :: rest))
    (hq : wpAny (model prog w) A (pyStrObj (.ref t0)) (fun v s' => Q (.done (.ret v)) s') E s) :
    wpAny (model prog w) A (Builtin.«BaseException.__str__» ⟨[.ref e], []⟩) Q E s := by
  unfold Builtin.«BaseException.__str__»
  refine wpAny_bind (wpAny_of_eq (a := ((Value.ref e : Value), ([] : List Value))) (by first | rfl | (simp only [slotArgs]; rfl)) ?_)
  refine wpAny_bind (bexcArgs_C x ht ?_)
  show wpAny (model prog w) A (bexcText "__str__" (.ref t0) >>= fun r => ret r) _ _ _
  rw [text_eq]
  refine wpAny_bind (wpAny_mono hq (fun v s' z => ?_) fun _ _ z => z)
  exact wpAny_pure z
theorem bstr_one {u : Value} {Q : Fin → Shared → Prop} (x : ExcC K C e t0 s.heap) (ht : s.heap.TupAt t0 [u])
    (hq : wpAny (model prog w) A (pyStrObj u) (fun v s' => Q (.done (.ret v)) s') E s) :
    wpAny (model prog w) A (Builtin.«BaseException.__str__» ⟨[.ref e], []⟩) Q E s := by
  unfold Builtin.«BaseException.__str__»
  repeat (first
    | with_reducible refine bexcArgs_C x ht ?_
    | (rw [text_eq]; refine wpAny_bind (wpAny_mono hq (fun v s' z => ?_) fun _ _ z => z))
    | wp_step)
  exact z
end
end Er
end PySem
namespace PySem
namespace Er
open Sem (wp)
open Builtin Builtin.Str Builtin.BaseException Builtin.Exceptions
open PySem.W (Looks Frag findIn subIn looks_findIn looks_subIn)
section
variable {prog : Program} {w : World} {M : Model} {A : Around} {E : Value → Shared → Prop} {s : Shared} {K : Frag} {C e t0 : Addr}
/-- a value whose text is told -/
structure Shw (h : Heap) (u : Value) (d : PyData) : Prop where
  rd : ∃ as, Reads h u d as ∧ sysModules ∉ as
  sh : d.showable = true
  dp : d.depth ≤ 20
  sz : d.shown.length ≤ 5000
theorem Shw.keeps {h h' : Heap} {u : Value} {d : PyData} (x : Shw h u d) (k : ∀ b o, h.get? b = some o → h'.get? b = some o) : Shw h' u d := by
  obtain ⟨as, r, n⟩ := x.rd
  exact ⟨⟨as, PyProof.Rows.Reads.keeps k r, n⟩, x.sh, x.dp, x.sz⟩
/-- str of it is some text -/
theorem text_of {u : Value} {d : PyData} {Q : Value → Shared → Prop} (x : Shw s.heap u d) (hg : A.guards = some []) (hu : A.units + 60 < cLine)
    (hq : ∀ y t h' tk, (∀ b o, s.heap.get? b = some o → h'.get? b = some o) → Q (.str y t) { s with heap := h', toks := tk }) : wpAny (model prog w) A (pyStrObj u) Q E s := by
  obtain ⟨⟨as, r, n⟩, sh, dp, sz⟩ := x
  have lz : (5000 : Nat) ≤ sizeLine := by rw [sizeLine_eq]; omega
  cases d with
  | none =>
    cases r
    exact PySem.pyStrObj_none (hq _ _ _ _ fun _ _ z => z)
  | bool b =>
    cases r
    exact PySem.pyStrObj_bool (hq _ _ _ _ fun _ _ z => z)
  | int i =>
    cases r
    exact PySem.pyStrObj_int (of_decide_eq_true sh) (hq _ _ _ _ fun _ _ z => z)
  | str x =>
    cases r
    exact wpAny_pure (hq _ _ _ _ fun _ _ z => z)
  | list xs =>
    obtain ⟨a, rfl⟩ : ∃ a, u = .ref a := by cases r; exact ⟨_, rfl⟩
    exact pyStrObj_of_reads r sh (fun _ => n) hg (by omega) (fun _ _ z => z) (fun h' y tk k => hq _ _ _ _ k) (Nat.le_trans sz lz)
  | tuple xs =>
    obtain ⟨a, rfl⟩ : ∃ a, u = .ref a := by cases r; exact ⟨_, rfl⟩
    exact pyStrObj_of_reads r sh (fun _ => n) hg (by omega) (fun _ _ z => z) (fun h' y tk k => hq _ _ _ _ k) (Nat.le_trans sz lz)
  | dict xs =>
    obtain ⟨a, rfl⟩ : ∃ a, u = .ref a := by cases r; exact ⟨_, rfl⟩
    exact pyStrObj_of_reads r sh (fun _ => n) hg (by omega) (fun _ _ z => z) (fun h' y tk k => hq _ _ _ _ k) (Nat.le_trans sz lz)
end
end Er
end PySem

set_option maxHeartbeats 400000
namespace PySem
namespace Er
open Sem (wp)
open Builtin Builtin.Str Builtin.BaseException Builtin.Exceptions
open PySem.W (Looks Frag findIn subIn looks_findIn looks_subIn)
section
variable {prog : Program} {w : World} {M : Model} {A : Around} {E : Value → Shared → Prop} {s : Shared} {K : Frag} {C e t0 : Addr}
/-- what str(error) leans on -/
structure Str0 (K : Frag) (C e t0 : Addr) (args : List Value) (ds : List PyData) (h : Heap) : Prop where
  at_ : ExcC K C e t0 h
  tup : h.TupAt t0 args
  all : args = [] ∨ (∃ u d, args = [u] ∧ Shw h u d) ∨ ∃ d, 2 ≤ args.length ∧ Shw h (.ref t0) d
theorem strOf_er {args : List Value} {ds : List PyData} (hg : A.guards = some []) (hu : A.units + 62 < cLine) (x : Str0 K C e t0 args ds s.heap)
    (hs : findIn K (.ref C) "__str__" = some (some (.builtin "BaseException.__str__"))) (hB : subIn K (.ref C) (.type "BaseException") = some true) {Q : Value → Shared → Prop}
    (hq : ∀ y t h' tk, (∀ b o, s.heap.get? b = some o → h'.get? b = some o) → Q (.str y t) { s with heap := h', toks := tk }) : wpAny (model prog w) A (strOf (.ref e)) Q E s := by
  have hf : Looks (model prog w) s.heap (typeLookup (.ref C) "__str__") (some (.builtin "BaseException.__str__")) := looks_findIn x.at_.1 hs
  have hb : wpAny (model prog w) A.in1 (Builtin.«BaseException.__str__» ⟨[.ref e], []⟩) (fun fin s' => ∃ v, fin = .done (.ret v) ∧ ∃ y t h' tk, v = .str y t ∧ s' = { s with heap := h', toks := tk } ∧ ∀ b o, s.heap.get? b = some o → h'.get? b = some o) E s := by
    rcases x.all with rfl | ⟨u, d, rfl, z⟩ | ⟨d, l, z⟩
    · exact bexcStr_C_none x.at_ x.tup ⟨_, rfl, _, _, _, _, rfl, rfl, fun _ _ z => z⟩
    · exact bstr_one x.at_ x.tup (text_of (A := A.in1) z hg (by show A.units + 1 + 60 < cLine; omega) fun y t h' tk k => ⟨_, rfl, y, t, h', tk, rfl, rfl, k⟩)
    · obtain ⟨u, u', rest, rfl⟩ : ∃ u u' rest, args = u :: u' :: rest := by
        cases args with
        | nil => exact absurd l (Nat.not_succ_le_zero 1)
        | cons u r =>
          cases r with
          | nil => exact absurd (Nat.le_of_succ_le_succ l) (Nat.not_succ_le_zero 0)
          | cons u' rest => exact ⟨u, u', rest, rfl⟩
      exact bstr_two x.at_ x.tup (text_of (A := A.in1) z hg (by show A.units + 1 + 60 < cLine; omega) fun y t h' tk k => ⟨_, rfl, y, t, h', tk, rfl, rfl, k⟩)
  have hu0 : A.units < cLine := by omega
  have hc : wpAny (model prog w) A (call (.builtin "BaseException.__str__") [.ref e]) (fun v s' => ∃ y t h' tk, v = .str y t ∧ s' = { s with heap := h', toks := tk } ∧ ∀ b o, s.heap.get? b = some o → h'.get? b = some o) E s := by
    refine call_bexcStr_C x.at_ hB (wpAny_mono hb (fun fin s' z => ?_) fun _ _ z => z)
    exact z
  clear hb
  unfold strOf
  rw [show isExactStr (.ref e) = false from rfl]
  refine wpAny_bind (m := cRoomFor _ _) (wpAny_cRoomFor hu0 ?_)
  refine wpAny_bind (m := callSpecial? (.ref e) (Str.ofString "__str__")) (callSpecial_C x.at_.LT hf (F.excStr_Exception.str.bind _) (wpAny_mono hc (fun v s' z => ?_) fun _ _ z => z))
  obtain ⟨y, t, h', tk, rfl, rfl, k⟩ := z
  exact wpAny_pure (hq y t h' tk k)
theorem str_of_er {args : List Value} {ds : List PyData} (hg : A.guards = some []) (hu : A.units + 64 < cLine) (x : Str0 K C e t0 args ds s.heap)
    (hs : findIn K (.ref C) "__str__" = some (some (.builtin "BaseException.__str__"))) (hB : subIn K (.ref C) (.type "BaseException") = some true) {Q : Value → Shared → Prop}
    (hq : ∀ y t h' tk, (∀ b o, s.heap.get? b = some o → h'.get? b = some o) → Q (.str y t) { s with heap := h', toks := tk }) : wpAny (model prog w) A (call (.type "str") [.ref e]) Q E s :=
  callType_new F.called_str (by decide) (F.typeCall_str_1 _) (F.newCall_str_1 _) (fun obj => F.args_object_init_2 obj _) F.entry_str_new
    (meets_str_new (S := fun A' R s' => A'.guards = some [] ∧ A'.units + 63 < cLine ∧ Str0 K C e t0 args ds s'.heap ∧
        ∀ y t h' tk, (∀ b o, s'.heap.get? b = some o → h'.get? b = some o) → R (.ok (.ret (.str y t))) { s' with heap := h', toks := tk })
      fun _ _ A' _ _ h => strOf_er (A := A'.in1) h.1 (by show A'.units + 1 + 62 < cLine; have := h.2.1; omega) h.2.2.1 hs hB h.2.2.2)
    ⟨hg, (show A.units + 1 + 63 < cLine by omega), x, fun y t h' tk k => ⟨typeIs_str _ _ _, hq y t h' tk k⟩⟩
end
end Er
end PySem

set_option maxHeartbeats 1000000
namespace ErL
open PySem PySem.Spec PyProof.Rows L2
open PySem.Er (Made Cl In1 In2 Shw)
/-! ### data that stand in the abstract heap -/
mutual
inductive Dq (H : Hp) : V → PyData → Prop
  | non : Dq H .non .none
  | bl (b : Bool) : Dq H (.bl b) (.bool b)
  | int (i : Int) : Dq H (.int i) (.int i)
  | str (x : Str) : Dq H (.str x) (.str x)
  | lst {a : Addr} {xs : List V} {ds : List PyData} : H a = some (.lst xs) → DqAll H xs ds → Dq H (.ref a) (.list ds)
  | tup {a : Addr} {xs : List V} {ds : List PyData} : H a = some (.tup xs) → DqAll H xs ds → Dq H (.ref a) (.tuple ds)
  | dct {a : Addr} {kvs : List (Key × V)} {ps : List (PyData × PyData)} : H a = some (.dK kvs) → DqKv H kvs ps → Dq H (.ref a) (.dict ps)
inductive DqAll (H : Hp) : List V → List PyData → Prop
  | nil : DqAll H [] []
  | cons {v : V} {vs : List V} {d : PyData} {ds : List PyData} : Dq H v d → DqAll H vs ds → DqAll H (v :: vs) (d :: ds)
inductive DqKv (H : Hp) : List (Key × V) → List (PyData × PyData) → Prop
  | nil : DqKv H [] []
  | cons {x : Str} {v : V} {kvs : List (Key × V)} {d : PyData} {ps : List (PyData × PyData)} : Dq H v d → DqKv H kvs ps → DqKv H ((.inr x, v) :: kvs) ((.str x, d) :: ps)
end
mutual
theorem Dq.same {H H' : Hp} (s : Same H H') : ∀ {v : V} {d : PyData}, Dq H v d → Dq H' v d
  | _, _, .non => .non
  | _, _, .bl b => .bl b
  | _, _, .int i => .int i
  | _, _, .str x => .str x
  | _, _, .lst e a => .lst (s _ _ e) (DqAll.same s a)
  | _, _, .tup e a => .tup (s _ _ e) (DqAll.same s a)
  | _, _, .dct e a => .dct (s _ _ e) (DqKv.same s a)
theorem DqAll.same {H H' : Hp} (s : Same H H') : ∀ {vs : List V} {ds : List PyData}, DqAll H vs ds → DqAll H' vs ds
  | _, _, .nil => .nil
  | _, _, .cons a b => .cons (Dq.same s a) (DqAll.same s b)
theorem DqKv.same {H H' : Hp} (s : Same H H') : ∀ {kvs : List (Key × V)} {ps : List (PyData × PyData)}, DqKv H kvs ps → DqKv H' kvs ps
  | _, _, .nil => .nil
  | _, _, .cons a b => .cons (Dq.same s a) (DqKv.same s b)
end
section
variable {X : Cx} {pins : List (Addr × Obj)} {σ : L2.St} {H : Hp} {s : Shared}
/-- read at the heap; the addresses are tracked -/
def Rds (H : Hp) (h : Heap) (u : Value) (d : PyData) : Prop := ∃ as, Reads h u d as ∧ ∀ b ∈ as, ∃ o, H b = some o
def RdsAll (H : Hp) (h : Heap) (us : List Value) (ds : List PyData) : Prop := ∃ as, ReadsAll h us ds as ∧ ∀ b ∈ as, ∃ o, H b = some o
mutual
theorem Dq.reads (I : Inv X pins σ H s) : ∀ {v : V} {d : PyData} {u : Value}, Dq H v d → RelV v u → Rds H s.heap u d
  | _, _, _, .non, r => by
    cases r
    exact ⟨_, Reads.none, fun b z => nomatch z⟩
  | _, _, _, .bl b, r => by
    cases r
    exact ⟨_, Reads.bool b, fun b z => nomatch z⟩
  | _, _, _, .int i, r => by
    obtain ⟨t, rfl⟩ := r
    exact ⟨_, Reads.int i t, fun b z => nomatch z⟩
  | _, _, _, .str x, r => by
    obtain ⟨t, rfl⟩ := r
    exact ⟨_, Reads.str x t, fun b z => nomatch z⟩
  | _, _, _, .lst (a := a) (xs := xs) e q, r => by
    cases r
    obtain ⟨_, its, n, rv, ho⟩ := (show ObjOk X.prog X.w H s.heap a (.lst xs) from I.hok a _ e)
    obtain ⟨as, ra, ta⟩ := DqAll.reads I q rv
    refine ⟨_, Reads.list ho rfl rfl ra, fun b z => ?_⟩
    rcases List.mem_cons.mp z with rfl | z
    · exact ⟨_, e⟩
    · exact ta b z
  | _, _, _, .tup (a := a) (xs := xs) e q, r => by
    cases r
    obtain ⟨_, its, rv, o, ho, hc, n, hd⟩ := (show ObjOk X.prog X.w H s.heap a (.tup xs) from I.hok a _ e)
    obtain ⟨as, ra, ta⟩ := DqAll.reads I q rv
    exact ⟨_, Reads.tuple ho hc hd ra, ta⟩
  | _, _, _, .dct (a := a) (kvs := kvs) e q, r => by
    cases r
    obtain ⟨_, _, vs, rv, o, es, ep, ho, hx, hd, _, hp, _⟩ := (show ObjOk X.prog X.w H s.heap a (.dK kvs) from I.hok a _ e)
    obtain ⟨⟨as, ra, ta⟩, ⟨bs, rb, tb⟩⟩ := DqKv.reads I q rv hp
    refine ⟨_, Reads.dict ho hx.1 hd ra rb, fun b z => ?_⟩
    rcases List.mem_append.mp z with z | z
    · rcases List.mem_cons.mp z with rfl | z
      · exact ⟨_, e⟩
      · exact ta b z
    · exact tb b z
theorem DqAll.reads (I : Inv X pins σ H s) : ∀ {vs : List V} {ds : List PyData} {us : List Value}, DqAll H vs ds → Vals vs us → RdsAll H s.heap us ds
  | _, _, _, .nil, r => by
    cases r
    exact ⟨_, ReadsAll.nil, fun b z => nomatch z⟩
  | _, _, _, .cons a b, r => by
    cases r with
    | cons r1 r2 =>
      obtain ⟨as, x1, t1⟩ := Dq.reads I a r1
      obtain ⟨bs, x2, t2⟩ := DqAll.reads I b r2
      exact ⟨_, ReadsAll.cons x1 x2, fun c z => (List.mem_append.mp z).elim (t1 c) (t2 c)⟩
theorem DqKv.reads (I : Inv X pins σ H s) : ∀ {kvs : List (Key × V)} {ps : List (PyData × PyData)} {vs : List (Key × Value)} {es : List DictEntry}, DqKv H kvs ps → KV kvs vs → Pairs (mixKind X.prog X.w) es vs →
    RdsAll H s.heap (es.map (·.key)) (ps.map (·.1)) ∧ RdsAll H s.heap (es.map (·.val)) (ps.map (·.2))
  | _, _, _, _, .nil, r, p => by
    cases r
    cases p
    exact ⟨⟨_, ReadsAll.nil, fun b z => nomatch z⟩, ⟨_, ReadsAll.nil, fun b z => nomatch z⟩⟩
  | _, _, _, _, .cons (x := x) a b, r, p => by
    cases r with
    | cons r1 r2 =>
      cases p with
      | cons p1 p2 p3 =>
        rename_i kv0 vs0 en es0
        obtain ⟨k0, v0⟩ := kv0
        obtain ⟨ek, ev⟩ := r1
        dsimp only at ek ev p1 p2
        subst ek
        obtain ⟨⟨as, x1, t1⟩, ⟨bs, x2, t2⟩⟩ := DqKv.reads I b r2 p3
        obtain ⟨cs, x3, t3⟩ := Dq.reads I a ev
        rcases keyIs_shape (show keyIs (.inr x) en.key = true from p1) with ⟨i, t, z, _⟩ | ⟨y, t, z, ey⟩
        · cases z
        · cases z
          refine ⟨⟨[] ++ as, ?_, fun c z => t1 c (by simpa using z)⟩, ⟨cs ++ bs, ?_, fun c z => (List.mem_append.mp z).elim (t3 c) (t2 c)⟩⟩
          · show ReadsAll s.heap (en.key :: _) (PyData.str x :: _) _
            rw [ey]
            exact ReadsAll.cons (Reads.str x t) x1
          · show ReadsAll s.heap (en.val :: _) (_ :: _) _
            rw [p2]
            exact ReadsAll.cons x3 x2
end
/-- the module of modules stands in the written part -/
def SysIn (K : PySem.W.Frag) : Prop := ∃ o, K.lookup sysModules = some o
/-- small enough to be shown -/
structure Ok (d : PyData) : Prop where
  sh : d.showable = true
  dp : d.depth ≤ 20
  sz : d.shown.length ≤ 5000
theorem Dq.shw (I : Inv X pins σ H s) (y : SysIn X.K) {v : V} {d : PyData} {u : Value} (q : Dq H v d) (r : RelV v u) (k : Ok d) : Shw s.heap u d := by
  obtain ⟨as, ra, ta⟩ := q.reads I r
  obtain ⟨o, ho⟩ := y
  refine ⟨⟨as, ra, fun z => ?_⟩, k.sh, k.dp, k.sz⟩
  obtain ⟨o', e⟩ := ta _ z
  have n := (I.bs _ o (I.ok.mod.kin _ _ ho)).2
  rw [n] at e
  cases e
end
end ErL

set_option maxHeartbeats 1000000
namespace ErL
open PySem PySem.Spec PyProof.Rows L2
open PySem.Er (Made Cl In1 In2 Shw)
/-- what isinstance, a field's reading and str ask of an error's class -/
structure Asks (K : PySem.W.Frag) (C : Addr) : Prop where
  cl : (PySem.W.clsIn K C).isSome = true
  hd : PySem.W.hasDictIn K C = true
  ga : PySem.W.findIn K (.ref C) "__getattribute__" = some (some (.builtin "BaseException.__getattribute__"))
  gg : PySem.W.findIn K (.ref C) "__getattr__" = some none
  ex : PySem.W.subIn K (.ref C) (.type "BaseException") = some true
  cs : PySem.W.findIn K (.ref C) "__class__" = some (some (.builtin "object.__class__"))
  gs : PySem.W.specialIn K (.builtin "object.__class__") "__get__" = some (some (.builtin "getset_descriptor.__get__"))
  tk : PySem.W.takesIn K (.builtin "object.__class__") = some true
  mo : PySem.W.mroIn K C (.type "object") = some true
  st : PySem.W.findIn K (.ref C) "__str__" = some (some (.builtin "BaseException.__str__"))
section
variable {X : Cx} {pins : List (Addr × Obj)} {σ : L2.St} {H : Hp} {s : Shared} {e C : Addr} {fs : List (Str × V)} {args : List V}
theorem er_inst (I : Inv X pins σ H s) (x : ErAt H e C fs args) : ∃ (ox : Obj) (od : Option Obj), PySem.W.InstAt s.heap e ox C od ∧
    ∀ f v, fs.lookup f = some v → ∃ d u, od = some d ∧ PySem.W.lookIn f d = some (some u) ∧ RelV v u := by
  obtain ⟨d, t, h1, h2, h3⟩ := x
  have q : s.heap.get? e = some ({ cls := .ref C, dict := d, data := .fields #[.ref t, .none, .none, .none, .bool false, .none] } : Obj) := (show ObjOk X.prog X.w H s.heap e (erO e C d t) from I.hok e _ h1).1
  cases d with
  | none =>
    refine ⟨_, none, ⟨q, rfl, rfl, trivial⟩, fun f v z => ?_⟩
    have h3' : fs = [] := h3
    rw [h3'] at z
    cases z
  | some dx =>
    obtain ⟨mA, hns, rel⟩ := (show ObjOk X.prog X.w H s.heap dx (.xd fs) from I.hok dx _ h3)
    obtain ⟨od, ho, hl⟩ := lookIn_ns hns
    refine ⟨_, some od, ⟨q, rfl, rfl, ho⟩, fun f v z => ?_⟩
    obtain ⟨u, hu, ru⟩ := RelO.some_of (v := v) (o := mA f) (by rw [← z]; exact rel f)
    exact ⟨od, u, rfl, by rw [hl, hu], ru⟩
theorem er_exc (I : Inv X pins σ H s) (x : ErAt H e C fs args) : ∃ (t : Addr) (us : List Value), H t = some (.tup args) ∧ PySem.ExcC X.K C e t s.heap ∧ s.heap.TupAt t us ∧ Vals args us := by
  obtain ⟨d, t, h1, h2, h3⟩ := x
  have q : s.heap.get? e = some ({ cls := .ref C, dict := d, data := .fields #[.ref t, .none, .none, .none, .bool false, .none] } : Obj) := (show ObjOk X.prog X.w H s.heap e (erO e C d t) from I.hok e _ h1).1
  obtain ⟨_, us, rv, o, ho, hc, n, hd⟩ := (show ObjOk X.prog X.w H s.heap t (.tup args) from I.hok t _ h2)
  exact ⟨t, us, h2, ⟨I.kIn, _, _, q, rfl, rfl, rfl⟩, ⟨o, n, ho, hc, hd⟩, rv⟩
end
section
variable {X : Cx} {f : Str} {te : TE} {pos : Pos} {e : Expr}
/-- e.f of an error -/
def tErF (K : PySem.W.Frag) (f : Str) (te : TE) : TE := fun σ H Q => te σ H fun x H1 => ∃ a C fs args v, x = .ref a ∧ ErAt H1 a C fs args ∧ Asks K C ∧ PySem.W.findIn K (.ref C) f = some none ∧ fs.lookup f = some v ∧ Q v H1
theorem pe_erF (he : PE X e te) (hb : attributeBase e f X.env (eval e X.env) = eval e X.env := by rfl) : PE X (.Attribute e f pos) (tErF X.K f te) := by
  refine ⟨fun pins s σ H Q I h => ?_⟩
  refine attr_of hb (thn (he.run pins s σ H _ I h) fun u s1 hh => ?_)
  obtain ⟨x, H1, I1, rx, a, C, fs, args, v, rfl, hx, A, hn, hl, q⟩ := hh
  obtain rfl : u = Value.ref a := rx
  obtain ⟨ox, od, J, hf⟩ := er_inst I1 hx
  obtain ⟨d, w, rfl, l, rw⟩ := hf f v hl
  exact PySem.PX.exc_get I1.kIn J A.ga A.gg A.ex (PySem.W.findObj_own A.hd hn rfl l) (handed_of rw) ⟨v, H1, I1.tok _, rw, q⟩
/-- isinstance(e, c), e an error -/
def rIsEr (K : PySem.W.Frag) : List V → Hp → VK → Prop := fun xs H Q => ∃ a C fs args c cv b, xs = [.ref a, c] ∧ ErAt H a C fs args ∧ Asks K C ∧ (∀ u, RelV c u → u = cv) ∧ PySem.W.kitOne K (.ref C) cv = some b ∧ Q (.bl b) H
theorem call_isEr : CallR X (.builtin "isinstance") (rIsEr X.K) := by
  intro pins s σ H xs us Q I r h
  obtain ⟨a, C, fs, args, c, cv, b, rfl, hx, A, hc, e, q⟩ := h
  obtain ⟨u, u', rfl, ru, ru'⟩ := vals2 r
  obtain rfl : u = Value.ref a := ru
  obtain rfl := hc _ ru'
  obtain ⟨ox, od, J, _⟩ := er_inst I hx
  exact PySem.W.kia_one (PySem.W.kitx_exc A.cl A.ga A.gg A.ex A.cs A.gs A.tk A.mo) I.kIn J e (fun z => nomatch z) fun tk => ⟨.bl b, H, I.kept (t' := tk) fun _ _ z => z, rfl, q⟩
/-- str(e), e an error -/
def rStrEr (K : PySem.W.Frag) : List V → Hp → VK → Prop := fun xs H Q => ∃ a C fs args ds, xs = [.ref a] ∧ ErAt H a C fs args ∧ Asks K C ∧ DqAll H args ds ∧
    (∀ d ∈ ds, Ok d) ∧ Ok (.tuple ds) ∧ ∀ z, Q (.str z) H
theorem call_strEr (hu : X.A.units + 70 < cLine) (hg : X.A.guards = some []) (y : SysIn X.K) : CallR X (.type "str") (rStrEr X.K) := by
  intro pins s σ H xs us Q I r h
  obtain ⟨a, C, fs, args, ds, rfl, hx, A, hd, ok1, ok2, q⟩ := h
  obtain ⟨u, rfl, ru⟩ := vals1 r
  obtain rfl : u = Value.ref a := ru
  obtain ⟨t, vs, ht, hE, hT, rv⟩ := er_exc I hx
  refine PySem.Er.str_of_er (args := vs) (ds := ds) hg (by omega) ⟨hE, hT, ?_⟩ A.st A.ex fun y t h' tk k => ⟨.str y, H, I.kept k, ⟨t, rfl⟩, q y⟩
  cases hd with
  | nil =>
    cases rv
    exact .inl rfl
  | cons d1 d2 =>
    rename_i v vs' d ds'
    cases d2 with
    | nil =>
      cases rv with
      | cons r1 r2 =>
        cases r2
        exact .inr (.inl ⟨_, d, rfl, d1.shw I y r1 (ok1 d List.mem_cons_self)⟩)
    | cons d3 d4 =>
      cases rv with
      | cons r1 r2 =>
        cases r2 with
        | cons r3 r4 =>
          refine .inr (.inr ⟨_, by show 2 ≤ _; simp, Dq.shw I y (Dq.tup ht (.cons d1 (.cons d3 d4))) rfl ok2⟩)
/-- repr(x), x data -/
def rReprD : List V → Hp → VK → Prop := fun xs H Q => ∃ a d, xs = [.ref a] ∧ Dq H (.ref a) d ∧ Ok d ∧ Q (.str d.shown) H
theorem call_reprD (hu : X.A.units + 70 < cLine) (hg : X.A.guards = some []) (y : SysIn X.K) : CallR X (.builtin "repr") rReprD := by
  intro pins s σ H xs us Q I r h
  obtain ⟨a, d, rfl, hd, ok, q⟩ := h
  obtain ⟨u, rfl, ru⟩ := vals1 r
  obtain rfl : u = Value.ref a := ru
  obtain ⟨⟨as, ra, n⟩, sh, dp, sz⟩ := hd.shw I y (u := .ref a) rfl ok
  exact repr_of_reads' ra sh (fun _ => n) hg (by omega) (fun _ _ z => z) (fun h' t tk k => ⟨.str d.shown, H, I.kept k, ⟨t, rfl⟩, q⟩) (Nat.le_trans sz (by rw [sizeLine_eq]; omega))
end
end ErL

set_option maxHeartbeats 1000000
namespace ErL
open PySem PySem.Spec PyProof.Rows L2
open PySem.Er (Made Cl In1 In2 Shw)
section
variable {X : Cx} {pins : List (Addr × Obj)} {σ : L2.St} {H : Hp} {s : Shared} {h' : Heap} {t' : Nat}
theorem laidMany2 {H' : Hp} (I : Inv X pins σ H s) (k : ∀ b o, s.heap.get? b = some o → h'.get? b = some o) (sm : Same H H') (fr : ∀ b o, s.heap.get? b = some o → H b = none → H' b = none)
    (new : ∀ b o, H' b = some o → H b = none → ObjOk X.prog X.w H' h' b o) : Inv X pins σ H' { s with heap := h', toks := t' } := by
  refine I.un ⟨fun b o q _ _ _ => k b o q, fun b o q _ _ _ => ⟨o.slots, k b o q⟩, fun b o q n _ => fr b o q n, fun b o q _ => ⟨o, k b o q⟩, fun b xs q => sm _ _ q, fun b o u q => sm _ _ q, fun b ps q => ⟨#[], by rw [sm _ _ q]; simp⟩⟩ ?_
  intro b o q
  cases e : H b with
  | none => exact new b o q e
  | some o' =>
    have q2 := sm _ _ e
    rw [q] at q2
    cases q2
    exact (I.hok b o e).stay (fun c v _ z => k c v z) (fun c z => sm _ _ z) fun c xs z => sm _ _ z
end
section
variable {X : Cx} {C : Addr} {B newId initId : String} {bmB : List Value} {f f' : Str} {x : Str} {p pos : Pos} {a b : Expr} {ta tb : TE} {kp1 kp2 : Pos}
/-- C(), a class without an __init__ of its own -/
def tEr0 (C : Addr) : TE := fun _ H Q => ∀ e H', ErAt H' e C [] [] → Same H H' → H e = none → Q (.ref e) H'
theorem pe_er0 (F : ExcBaseFacts B newId initId bmB) (q : PySem.W.excIn X.K C bmB newId = true) (kC : PySem.W.keepIn X.K (.ref C) = true) (hg : Gl X x) (hm : X.mg x = some (.ref C)) (hdb : (x == ("__debug__" : Str)) = false := by decide) :
    PE X (.Call (.Name x p) [] [] pos) (tEr0 C) := by
  refine ⟨fun pins s σ H Q I h => ?_⟩
  refine wpAny_Call_Name_kw (ld_glob I hg hm ?_ hdb)
  refine PySem.W.callWith_K0 I.kIn kC ?_
  show wpAny _ _ (call (.ref C) []) _ _ _
  obtain ⟨bm, N, nm, qn, bs, hdct, sn, sub, ab, col, dd, k0, k1, k2, k3, k5, mN, hC, hN, hni, T⟩ := exc_obj I.kIn q
  obtain ⟨hp, g, dr, tk, os⟩ := s
  refine wpAny_call_exc_subT F T hC hN hni (fun h' e hm => ?_) (by show 0 ≤ sizeLine; omega)
  obtain ⟨t, ht, nt0, htup⟩ := hm.there
  have ne : H e = none := I.hok.gone hm.new
  have nt : H t = none := I.hok.gone nt0
  have te : t ≠ e := fun z => by
    subst z
    rw [ht] at htup
    cases htup
  have sm : Same H (upd (upd H t (.tup [])) e (erO e C none t)) := fun b o z => by
    rw [upd_ne (ne_of_none z ne), upd_ne (ne_of_none z nt)]
    exact z
  have at_e : (upd (upd H t (.tup [])) e (erO e C none t)) e = some (erO e C none t) := upd_same
  have at_t : (upd (upd H t (.tup [])) e (erO e C none t)) t = some (.tup []) := by rw [upd_ne te, upd_same]
  refine ⟨.ref e, _, laidMany2 (H' := upd (upd H t (.tup [])) e (erO e C none t)) I hm.keeps sm (fun b o z n => ?_) (fun b o z n => ?_), rfl, h e _ ⟨none, t, at_e, at_t, rfl⟩ sm ne⟩
  · rw [upd_ne (fun y => by rw [y, hm.new] at z; cases z), upd_ne (fun y => by rw [y, nt0] at z; cases z)]
    exact n
  · by_cases be : b = e
    · subst be
      rw [at_e] at z
      cases z
      exact erO_ok ht
    · by_cases bt : b = t
      · subst bt
        rw [at_t] at z
        cases z
        exact ⟨by show 0 ≤ sizeLine; omega, [], .nil, ⟨_, htup, rfl, _, rfl⟩⟩
      · rw [upd_ne be, upd_ne bt, n] at z
        cases z
/-- C(f = a) -/
def tErK1 (C : Addr) (f : Str) (t : TA) : TE := fun σ H Q => t σ H fun vs H1 => ∃ v, vs = [v] ∧ ∀ e H', ErAt H' e C [(f, v)] [] → Same H1 H' → H1 e = none → Q (.ref e) H'
theorem pe_erK1 {k : Nat} (c : Cl X.K C B newId initId bmB) (i : In1 X.K C f) (hb : Bd1 f (gK1 f)) (hr : Room k X.A) (hg : Gl X x) (hm : X.mg x = some (.ref C)) (ha : PK X [⟨some f, a, kp1⟩] (tCons ta tNil))
    (hdb : (x == ("__debug__" : Str)) = false := by decide) (hall : (backToKw pos (keywordEach [⟨some f, a, kp1⟩] X.env)).all (·.1.isSome) = true := by rfl) (hks : (backToKw pos (keywordEach [⟨some f, a, kp1⟩] X.env)).filterMap (·.1) = [f] := by rfl)
    (hpl : ((backTo pos (starEach [] X.env)).any (·.1) || (backToKw pos (keywordEach [⟨some f, a, kp1⟩] X.env)).any (·.1.isNone)) = false := by rfl) :
    PE X (.Call (.Name x p) [] [⟨some f, a, kp1⟩] pos) (tErK1 C f (tCons ta tNil)) := by
  refine ⟨fun pins s σ H Q I h => ?_⟩
  refine wpAny_Call_Name_kw (ld_glob I hg hm ?_ hdb)
  refine PySem.W.callWith_KW0 (h₀ := X.base) I.ok.mod.kin c.kC hall ?_ hpl
  refine thn (ha.run pos pins s σ H _ I h) fun ws s1 ⟨zs, H1, I1, rz, v, ev, q⟩ => ⟨I1.kIn, ?_⟩
  subst ev
  obtain ⟨u, rfl, ru⟩ := vals1 rz
  rw [hks]
  show wpAny _ _ (call (.ref C) [] [(f, u)]) _ _ _
  exact wpAny_call (PySem.Er.made1 c i (v := u) I1.kIn I1.nolimit (by have := hr.dp; omega) (by show 0 ≤ sizeLine; omega) (fun _ ql p1 p2 q1 q2 q3 q4 kv dc pm an cv ct y => .of_eq (hb ql p1 p2 q1 q2 q3 q4 kv dc pm an cv ct y u))
    fun h' tk e d t M => made_inv (vs := []) I1 M .nil (by show 0 ≤ sizeLine; omega) (rel1 ru) fun H' z1 z2 z3 => q e H' z1 z2 z3)
/-- C(f' = a, f = b): the second parameter first -/
def tErK2 (C : Addr) (f f' : Str) (t : TA) : TE := fun σ H Q => t σ H fun vs H1 => ∃ v v', vs = [v', v] ∧ ∀ e H', ErAt H' e C [(f, v), (f', v')] [] → Same H1 H' → H1 e = none → Q (.ref e) H'
theorem pe_erK2 {k : Nat} (c : Cl X.K C B newId initId bmB) (i : In2 X.K C f f') (hb : Bd2 f f' (gK2 f f')) (hr : Room k X.A) (hg : Gl X x) (hm : X.mg x = some (.ref C)) (ha : PK X [⟨some f', a, kp1⟩, ⟨some f, b, kp2⟩] (tCons ta (tCons tb tNil)))
    (hdb : (x == ("__debug__" : Str)) = false := by decide) (hall : (backToKw pos (keywordEach [⟨some f', a, kp1⟩, ⟨some f, b, kp2⟩] X.env)).all (·.1.isSome) = true := by rfl)
    (hks : (backToKw pos (keywordEach [⟨some f', a, kp1⟩, ⟨some f, b, kp2⟩] X.env)).filterMap (·.1) = [f', f] := by rfl)
    (hpl : ((backTo pos (starEach [] X.env)).any (·.1) || (backToKw pos (keywordEach [⟨some f', a, kp1⟩, ⟨some f, b, kp2⟩] X.env)).any (·.1.isNone)) = false := by rfl) :
    PE X (.Call (.Name x p) [] [⟨some f', a, kp1⟩, ⟨some f, b, kp2⟩] pos) (tErK2 C f f' (tCons ta (tCons tb tNil))) := by
  refine ⟨fun pins s σ H Q I h => ?_⟩
  refine wpAny_Call_Name_kw (ld_glob I hg hm ?_ hdb)
  refine PySem.W.callWith_KW0 (h₀ := X.base) I.ok.mod.kin c.kC hall ?_ hpl
  refine thn (ha.run pos pins s σ H _ I h) fun ws s1 ⟨zs, H1, I1, rz, v, v', ev, q⟩ => ⟨I1.kIn, ?_⟩
  subst ev
  obtain ⟨u', u, rfl, ru', ru⟩ := vals2 rz
  rw [hks]
  show wpAny _ _ (call (.ref C) [] [(f', u'), (f, u)]) _ _ _
  exact wpAny_call (PySem.Er.made2 c i (v := u) (v' := u') I1.kIn I1.nolimit (by have := hr.dp; omega) (by show 0 ≤ sizeLine; omega) (fun _ ql p1 p2 p3 q1 q2 q3 q4 r1 r2 r3 r4 kv dc pm an cv ct y => .of_eq (hb ql p1 p2 p3 q1 q2 q3 q4 r1 r2 r3 r4 kv dc pm an cv ct y u u'))
    fun h' tk e d t M => made_inv (vs := []) I1 M .nil (by show 0 ≤ sizeLine; omega) (rel2 i.nf ru ru') fun H' z1 z2 z3 => q e H' z1 z2 z3)
end
end ErL

set_option maxHeartbeats 1000000
namespace ErL
open PySem PySem.Spec PyProof.Rows L2
theorem guards_deeper {A : Around} {env : Env} (h : A.guards = some []) : (A.deeper env).guards = some [] := by
  first | exact h | (simpa [Around.deeper, pushGuards] using h)
/-- a promise without exceptions: the arguments, the heap, what follows -/
abbrev SpG := List V → Hp → VK → Prop
/-- a def keeps its promise wherever nothing is being shown -/
structure FnG (P : Program) (w : World) (K : PySem.W.Frag) (mg : Str → Option Value) (base : Heap) (k : Nat) (f : Addr) (fd : FuncData) (ps : List Str) (sp : SpG) : Prop where
  len : ∀ vs H Q, sp vs H Q → vs.length = ps.length
  run : ∀ (A : Around) (outer : List Env) (s : Shared) (H : Hp) (args : Args) (us : List Value) (vs : List V) (Q : VK), Room k A → A.guards = some [] →
    Env0 P w K mg base A outer s H → BindsTo s fd args (ps.zip us) → Vals vs us → sp vs H Q → codeAny (model P w) A (.call (.ref f) args) (CR CX0 outer P w H s Q E0) s

section
variable {P : Program} {w : World} {K : PySem.W.Frag} {mg : Str → Option Value} {base : Heap} {k : Nat} {f : Addr} {ps N : List Str} {sp : SpG}
theorem fnG_mk {x qual : Str} {st : Stmt} {fd : FuncData} (F : Fun K x qual st f fd) (S : FnScope N ps (defScope st)) (len : ∀ vs H Q, sp vs H Q → vs.length = ps.length)
    (hbody : ∀ (cdv : Value) (A : Around) (outer : List Env) (s : Shared) (H : Hp) (vs : List V) (Q : VK), Room k (A.deeper (envOfC qual (defScope st) s.heap.objs.size f cdv)) →
      (A.deeper (envOfC qual (defScope st) s.heap.objs.size f cdv)).guards = some [] → sp vs H Q →
      ∃ t, PSs (cxOf CX0 P w K mg base N qual (defScope st) f cdv A outer s H E0).nox (defBody st) t ∧ t { nx := fun _ H' => Q .non H', rt := Q } (start N vs) H) :
    FnG P w K mg base (k + 1) f fd ps sp := by
  obtain ⟨oc, od, kV, doc, pm, an, cdv, ct, osl, rfl, lk, hcd⟩ := F.ex
  refine ⟨len, fun A outer s H args us vs Q hr hg e0 hb r hsp => ?_⟩
  have hl := len _ _ _ hsp
  have KX : K.In s.heap := e0.mod.kin.keeps fun b o e => (e0.bs b o e).1
  have lim : s.heap.NoLimit := e0.mod.nolimit.keeps fun b o e => (e0.bs b o e).1
  have kinds : ∀ y ∈ ps.zip us, (defScope st).names.lookup y.1 = some .local ∨
      ((defScope st).names.lookup y.1 = some .cell ∧ ((cellsFrom (s.heap.objs.size + 1) (defScope st).names []).lookup y.1).isSome = true) := by
    rintro ⟨n, v⟩ hy
    rcases S.par n (List.of_mem_zip hy).1 with q | q
    · exact .inl q
    · exact .inr ⟨q, PySem.W.cellsFrom_some _ _ _ (.inl q)⟩
  refine codeAny_call_function hr.depth (KX _ _ lk) rfl S.co S.gen rfl (PySem.W.codeRec_of KX hcd) (hb _ _ _ _ ?_)
  refine wpAny_newFunctionEnv_cells S.kind kinds fun env he s1 x => ?_
  subst he
  refine ⟨lim.keeps x.toInCall.keep, codeAny_func ?_⟩
  obtain ⟨t, ht, hq⟩ := hbody cdv A outer s H vs Q (hr.deeper _) (guards_deeper hg) hsp
  have I := inv_start (CX := CX0) (E := E0) (P := P) (w := w) (K := K) (mg := mg) (base := base) S hr.hd e0 hl r x
  refine wpAny_mono (ht.nox.run [] s1 (start N vs) H _ I hq) (fun fl s' hs => ?_) fun e s' hs => hs
  cases fl with
  | ret u =>
    obtain ⟨v, σ', H', J, rv, q⟩ := hs
    exact ⟨v, H', J.os, J.bare, J.base, J.hok, rv, q⟩
  | next =>
    obtain ⟨σ', H', J, q⟩ := hs
    exact ⟨.non, H', J.os, J.bare, J.base, J.hok, rfl, q⟩
  | brk =>
    obtain ⟨_, _, _, q⟩ := hs
    exact q.elim
  | cont =>
    obtain ⟨_, _, _, q⟩ := hs
    exact q.elim
theorem FnG.mono {fd : FuncData} {j : Nat} (F : FnG P w K mg base j f fd ps sp) (h : j ≤ k) : FnG P w K mg base k f fd ps sp :=
  ⟨F.len, fun A outer s H args us vs Q hr => F.run A outer s H args us vs Q (hr.mono h)⟩
/-- what holds wherever, holds here -/
theorem FnG.of {fd : FuncData} {sp0 : Sp} (F : FnOk P w K mg base CX0 k f fd ps sp0) (h : ∀ vs H Q, sp vs H Q → sp0 vs H Q E0) : FnG P w K mg base k f fd ps sp :=
  ⟨fun vs H Q q => F.len vs H Q E0 (h _ _ _ q), fun A outer s H args us vs Q hr _ e0 hb r hsp => F.run A outer s H args us vs Q E0 hr e0 hb r (h _ _ _ hsp)⟩
end
section
variable {X : Cx} {k : Nat} {f : Addr} {fd : FuncData} {ps : List Str} {sp : SpG} {x : Str} {p pos : Pos} {e : Expr} {es : List Expr} {t : TA}
/-- f(..) -/
def tCallG (sp : SpG) (t : TA) : TE := fun σ H Q => t σ H fun vs H1 => sp vs H1 Q
theorem pe_callG (F : FnG X.prog X.w X.K X.mg X.base k f fd ps sp) (hr : Room k X.A) (hG : X.A.guards = some []) (hg : Gl X x) (hm : X.mg x = some (.ref f)) (hk : PySem.W.keepIn X.K (.ref f) = true) (hb : Binds X.K fd ps [])
    (ha : PA X (e :: es) t) (hdb : (x == ("__debug__" : Str)) = false := by decide) (he : starEach (e :: es) X.env = (false, eval e X.env) :: starEach es X.env := by rfl)
    (hpl : (backTo pos (starEach es X.env)).any (·.1) = false := by rfl) : PE X (.Call (.Name x p) (e :: es) [] pos) (tCallG sp t) := by
  refine ⟨fun pins s σ H Q I h => ?_⟩
  refine wpAny_Call_Name_kw (ld_glob I hg hm ?_ hdb)
  refine PySem.W.callWith_K (h₀ := X.base) I.ok.mod.kin hk (thn (ha.run pos pins s σ H _ I h) fun us s1 ⟨vs, H1, I1, r, q⟩ => ⟨I1.kIn, ?_⟩) he hpl
  have hl : (us ++ []).length = ps.length := by
    rw [List.append_nil, ← r.length]
    exact F.len _ _ _ q
  have hb1 := hb s1 us I1.kIn hl
  rw [List.append_nil] at hb1
  show wpAny _ _ (call (.ref f) us) _ _ _
  refine wpAny_call (codeAny_mono (F.run X.A X.stack s1 H1 ⟨us, []⟩ us vs Q hr hG I1.env0 hb1 r q) fun r' s' hq => ?_)
  cases r' with
  | error e => exact False.elim hq
  | ok fl =>
    cases fl with
    | ret u => exact I1.after hq
    | next => exact False.elim hq
    | brk => exact False.elim hq
    | cont => exact False.elim hq
end
end ErL

set_option maxHeartbeats 0
namespace K70
open PySem PySem.Spec PyProof.Rows L2 RtL ErL
def top (i : Nat) : Stmt := PySem.Challenge.pw_slotsums_k70_polynomials.main.body.getD i (.Pass ⟨0, 0, 0, 0⟩)
abbrev inP (i : Nat) : Stmt := inClass (top 16) i
abbrev inR (i : Nat) : Stmt := inClass (top 19) i
/-! ### the defs -/
def glD (i : Nat) (x : Str) : He.DefD := ⟨(x, none), x, x, defArgs (top i), defBody (top i), defScope (top i), [], []⟩
def mpD (i : Nat) (m : Str) (d : List He.Dv) : He.DefD := ⟨("Polynomial", some m), m, "Polynomial." ++ m, defArgs (inP i), defBody (inP i), defScope (inP i), d, []⟩
def meD (i : Nat) (m : Str) (d : List He.Dv) : He.DefD := ⟨("Ratio", some m), m, "Ratio." ++ m, defArgs (inR i), defBody (inR i), defScope (inR i), d, []⟩
def ln : List Str := ["_law_rng", "_law_draw", "_law_choice", "_law_coefficient", "_law_row", "_law_plain", "_law_sum", "_law_product", "_law_value", "_law_text", "_law_is", "_law_made", "_law_refused", "_law_refusals_right", "_law_values_right", "_law_right", "law"]
def gn : List Str := ["SlotsumsError", "InvalidNumber", "InvalidPolynomial", "is_an_integer", "worth_at", "power_text", "signed_text", "polynomial_text", "listed_numbers", "filled_up", "Polynomial", "Ratio"]
def inD : He.DefD := ⟨("InvalidNumber", some "__init__"), "__init__", "InvalidNumber.__init__", defArgs (inClass (top 4) 0), defBody (inClass (top 4) 0), defScope (inClass (top 4) 0), [], []⟩
def ipD : He.DefD := ⟨("InvalidPolynomial", some "__init__"), "__init__", "InvalidPolynomial.__init__", defArgs (inClass (top 5) 0), defBody (inClass (top 5) 0), defScope (inClass (top 5) 0), [], []⟩
def fn : List He.DefD := [inD, ipD, glD 7 "is_an_integer", glD 9 "worth_at", glD 11 "power_text", glD 12 "signed_text", glD 13 "polynomial_text", glD 14 "listed_numbers", glD 15 "filled_up",
  mpD 0 "__init__" [], mpD 2 "coefficients" [], mpD 3 "at" [], mpD 4 "__add__" [], mpD 5 "__sub__" [], mpD 6 "__mul__" [], mpD 7 "__neg__" [], mpD 8 "__eq__" [], mpD 9 "__str__" [], mpD 10 "__repr__" [], meD 0 "__init__" [.int 1], meD 13 "__repr__" []] ++ (List.range 17).map fun i => glD (21 + i) (ln.getD i "")
/-- the defs of the class's records: the attribute, the record's type, the place in the class's text -/
def rc : List (Str × String × Nat) := [("degree", "property", 1)]
def fr : List Str := ["abs", "len", "max", "int", "divmod", "isinstance", "range", "repr", "str", "bool", "min", "all", "any", "list", "tuple", "reversed", "enumerate", "zip"]
def fa : List He.Fa := (gn ++ ln).map He.Fa.glo ++ (fr.map He.Fa.free ++ [He.Fa.cls "Ratio", He.Fa.mkr "Ratio", He.Fa.noat "Ratio" "_top", He.Fa.noat "Ratio" "_bottom", He.Fa.cls "Polynomial", He.Fa.mkr "Polynomial", He.Fa.noat "Polynomial" "_coefficients", He.Fa.meth "Polynomial" "coefficients", He.Fa.meth "Polynomial" "at"])
def recV (K : Fr) (r : Str × String × Nat) : He.FnW := lookA K (recA K (He.ga K "Polynomial") r.1 r.2.1)
def recW (r : Str × String × Nat) : He.FnW := some (r.1, "Polynomial." ++ r.1, defArgs (inP r.2.2), .stmts (defBody (inP r.2.2)), defScope (inP r.2.2), mainGlobals, [], builtinsNs)
/-! ### what is asked of the class -/
def binB (K : Fr) (m r : Str) : Bool := He.eqO (PySem.W.findIn K (.ref (He.ga K "Polynomial")) m) (some (some (.ref (He.ma K (He.ga K "Polynomial") m)))) && (PySem.W.isFn K (.ref (He.ma K (He.ga K "Polynomial") m)) && (He.eqO (PySem.W.findIn K (.ref (He.ga K "Polynomial")) r) (some none) && He.eqO (PySem.W.findIn K (.ref (He.ga K "Ratio")) r) (some none)))
def spcB (K : Fr) (C : Str) (m : Str) : Bool := He.eqO (PySem.W.findIn K (.ref (He.ga K C)) m) (some (some (.ref (He.ma K (He.ga K C) m)))) && PySem.W.isFn K (.ref (He.ma K (He.ga K C) m))
def claB (K : Fr) (C : Str) : Bool := He.eqO (PySem.W.findIn K (.ref (He.ga K C)) "__class__") (some (some (.builtin "object.__class__"))) && (He.eqO (PySem.W.specialIn K (.builtin "object.__class__") "__get__") (some (some (.builtin "getset_descriptor.__get__"))) &&
  (decide (PySem.W.takesIn K (.builtin "object.__class__") = some true) && (decide (PySem.W.mroIn K (He.ga K C) (.type "object") = some true) && (decide (PySem.W.kitOne K (.ref (He.ga K C)) (.type "int") = some false) && decide (PySem.W.kitOne K (.ref (He.ga K C)) (.type "bool") = some false)))))
def eqB (a b : Option (Option Value)) : Bool := decide (a = b)
def askB (K : Fr) (C : Addr) : Bool := (PySem.W.clsIn K C).isSome && (PySem.W.hasDictIn K C && (eqB (PySem.W.findIn K (.ref C) "__getattribute__") (some (some (.builtin "BaseException.__getattribute__"))) &&
  (eqB (PySem.W.findIn K (.ref C) "__getattr__") (some none) && (decide (PySem.W.subIn K (.ref C) (.type "BaseException") = some true) && (eqB (PySem.W.findIn K (.ref C) "__class__") (some (some (.builtin "object.__class__"))) &&
  (eqB (PySem.W.specialIn K (.builtin "object.__class__") "__get__") (some (some (.builtin "getset_descriptor.__get__"))) && (decide (PySem.W.takesIn K (.builtin "object.__class__") = some true) &&
  (decide (PySem.W.mroIn K C (.type "object") = some true) && eqB (PySem.W.findIn K (.ref C) "__str__") (some (some (.builtin "BaseException.__str__")))))))))))
theorem ask_ok {K : Fr} {C : Addr} (h : askB K C = true) : Asks K C := by
  simp only [askB, eqB, Bool.and_eq_true, decide_eq_true_eq] at h
  obtain ⟨h1, h2, h3, h4, h5, h6, h7, h8, h9, h10⟩ := h
  exact ⟨h1, h2, h3, h4, h5, h6, h7, h8, h9, h10⟩
abbrev bmV : List Value := [.type "ValueError", .type "Exception", .type "BaseException", .type "object"]
def clB (K : Fr) (C : Addr) : Bool := PySem.W.excInitIn K C bmV "ValueError.__new__" && (PySem.W.excOver K C bmV && (PySem.W.hasDictIn K C && (eqB (PySem.W.findIn K (.ref C) "__setattr__") (some (some (.builtin "object.__setattr__"))) && PySem.W.keepIn K (.ref C))))
theorem cl_ok {K : Fr} {C : Addr} (h : clB K C = true) : PySem.Er.Cl K C "ValueError" "ValueError.__new__" "ValueError.__init__" bmV := by
  simp only [clB, eqB, Bool.and_eq_true, decide_eq_true_eq] at h
  obtain ⟨h1, h2, h3, h4, h5⟩ := h
  exact ⟨PySem.F.excBase_ValueError, PySem.F.store_ValueError, h1, h2, h3, h4, h5⟩
/-- of an error of one field -/
def errB (K : Fr) (C : Str) : Bool := askB K (He.ga K C) && (clB K (He.ga K C) && (decide (PySem.W.typeIn K (.ref (He.ma K (He.ga K C) "__init__")) = some (.type "function")) && (eqB (PySem.W.findIn K (.ref (He.ga K C)) "__init__") (some (some (.ref (He.ma K (He.ga K C) "__init__")))) &&
  (decide (PySem.W.takerIn K (He.ga K C) "value" = some none) && (eqB (PySem.W.findIn K (.ref (He.ga K C)) "value") (some none) && (decide (PySem.W.subIn K (.ref (He.ga K C)) (.type "BaseException") = some true) && (decide (PySem.W.typeIn K (.ref (He.ga K C)) = some (.type "type")) &&
  (decide (PySem.W.exmOne K (.ref (He.ga K C)) (.ref (He.ga K C)) = some true) && decide (PySem.W.kitOne K (.ref (He.ga K C)) (.ref (He.ga K "SlotsumsError")) = some true)))))))))
def tys : List String := ["int", "str", "NoneType", "bool", "list", "tuple", "dict"]
def chk (K : Fr) : Bool := PySem.W.selfFirst K (He.ga K "Ratio") && ((["__add__", "__sub__", "__mul__"] : List Str).all (spcB K "Ratio") && ((K.lookup sysModules).isSome && (decide (PySem.W.nsIn K mainGlobals "gcd" = some (some (.builtin "math.gcd"))) && (PySem.W.selfFirst K (He.ga K "Polynomial") && (propB K (He.ga K "Polynomial") "degree" &&
  (binB K "__add__" "__radd__" && (binB K "__sub__" "__rsub__" && (binB K "__mul__" "__rmul__" && ((["__neg__", "__eq__", "__str__", "__repr__"] : List Str).all (spcB K "Polynomial") && (spcB K "Ratio" "__repr__" &&
  (tys.all (fun t => decide (PySem.W.subIn K (.type t) (.ref (He.ga K "Polynomial")) = some false)) && (tys.all (fun t => decide (PySem.W.kitOne K (.type t) (.ref (He.ga K "Polynomial")) = some false)) &&
  (decide (PySem.W.kitOne K (.ref (He.ga K "Polynomial")) (.ref (He.ga K "Polynomial")) = some true) && (decide (PySem.W.kitOne K (.ref (He.ga K "Ratio")) (.ref (He.ga K "Polynomial")) = some false) && (decide (PySem.W.subIn K (.ref (He.ga K "Ratio")) (.ref (He.ga K "Polynomial")) = some false) &&
  (He.eqO (PySem.W.findIn K (.ref (He.ga K "Polynomial")) "__ne__") (some (some (.builtin "object.__ne__"))) && (errB K "InvalidNumber" && (errB K "InvalidPolynomial" && (decide (PySem.W.exmOne K (.ref (He.ga K "InvalidPolynomial")) (.ref (He.ga K "InvalidNumber")) = some false) && (claB K "Polynomial" && (claB K "Ratio" && (rc.all fun r => wellA K (recA K (He.ga K "Polynomial") r.1 r.2.1) ("Polynomial." ++ r.1) []))))))))))))))))))))))
theorem lk : ∀ (l : List (Addr × Obj)) {P a : Addr} {o : Obj}, (l.filter fun e => e.1 != P).lookup a = some o → l.lookup a = some o ∧ a ≠ P
  | [], P, a, o, h => by cases h
  | (k, v) :: t, P, a, o, h => by
    by_cases hk : k = P
    · have e : (((k, v) :: t).filter fun e => e.1 != P) = t.filter fun e => e.1 != P := by simp [hk]
      rw [e] at h
      obtain ⟨e1, n⟩ := lk t h
      refine ⟨?_, n⟩
      rw [List.lookup_cons, beq_false_of_ne (by rw [hk]; exact n)]
      exact e1
    · have e : (((k, v) :: t).filter fun e => e.1 != P) = (k, v) :: t.filter fun e => e.1 != P := by simp [hk]
      rw [e, List.lookup_cons] at h
      rw [List.lookup_cons]
      by_cases ha : a = k
      · subst ha
        rw [beq_self_eq_true] at h ⊢
        exact ⟨h, hk⟩
      · rw [beq_false_of_ne ha] at h ⊢
        exact lk t h
def frY (g : Addr → Option Obj) : Fr := He.frG g (sysModules :: cStatics :: He.asD g 5)
/-- .. without the table of operand_refused's code object -/
def frX (g : Addr → Option Obj) : Fr := match PySem.W.tabIn (frY g) "_law_refusals_right" with
  | some q => (frY g).filter fun e => e.1 != q.2
  | none => frY g
theorem frX_in {h : Heap} : (frX h.get?).In h := by
  unfold frX
  split
  · intro a o e
    exact He.frG_in a o (lk _ e).1
  · exact He.frG_in
/-! ### the Hook -/
/-- of the table of operand_refused's code object -/
def tabB (K : Fr) : Bool := match PySem.W.tabIn K "_law_refusals_right" with
  | some q => PySem.W.codeHdIn K q.1 q.2 && (K.lookup q.2).isNone
  | none => false
abbrev AlX : Type := He.AlD × List He.FnW
def obsX (K : Fr) : AlX := ((((fa.all fun f => f.ok K) && fn.all fun d => d.ok K) && (chk K && tabB K), fn.map fun d => He.fnW K d.at_), rc.map (recV K))
def valX : AlX := (He.valD fn, rc.map recW)
def Says (K : Fr) : Prop := obsX K = valX
def tabT (g : Addr → Option Obj) : Option Obj := match PySem.W.tabIn (frX g) "_law_refusals_right" with
  | some q => g q.2
  | none => none
def hk : PySem.W.Hook where
  α := AlX × Option Obj
  obs := fun s => (obsX (frX s.heap.get?), tabT s.heap.get?)
  val := fun _ => (valX, some (PySem.W.tabObj #[]))
  says := fun _ h => ∃ K : Fr, K.In h ∧ Says K ∧ ∃ c P, PySem.W.tabIn K "_law_refusals_right" = some (c, P) ∧ h.get? P = some (PySem.W.tabObj #[])
  of := fun _ s e => by
    have e1 : obsX (frX s.heap.get?) = valX := congrArg Prod.fst e
    have e2 : tabT s.heap.get? = some (PySem.W.tabObj #[]) := congrArg Prod.snd e
    unfold tabT at e2
    split at e2
    · rename_i q hq
      exact ⟨_, frX_in, e1, q.1, q.2, hq, e2⟩
    · cases e2
  keeps := fun _ _ _ ⟨K, hK, c, q, P, h1, h2⟩ k => ⟨K, PySem.W.Frag.In.keeps hK k, c, q, P, h1, k _ _ h2⟩
def ob (s : PySem.W.SharedT) : AlX × Option Obj := (obsX (frX (HandSHeadRun.getT s)), tabT (HandSHeadRun.getT s))
theorem ob_eq (s : PySem.W.SharedT) : ob s = hk.obs s.abs := by
  have e : HandSHeadRun.getT s = s.abs.heap.get? := funext (HandSHeadRun.getT_eq s)
  show (obsX (frX (HandSHeadRun.getT s)), tabT (HandSHeadRun.getT s)) = (obsX (frX s.abs.heap.get?), tabT s.abs.heap.get?)
  rw [e]
def names : List Str := (["_wall", "as_ratio"] : List Str) ++ gn ++ ln.take 16
abbrev R : PySem.W.OpenRow := PySem.W.OpenLaw.row PySem.Challenge.rw_slotsums_k70_polynomials
end K70

set_option maxHeartbeats 4000000
namespace K70
open PySem PySem.Spec PyProof.Rows L2 RtL ErL
open PySem.Er (Cl In1 iA1 iB1 iS1)
abbrev RC (K : Fr) : Addr := He.ga K "Ratio"
abbrev PC (K : Fr) : Addr := He.ga K "Polynomial"
abbrev rm (K : Fr) (m : Str) : Addr := He.ma K (RC K) m
abbrev pm (K : Fr) (m : Str) : Addr := He.ma K (PC K) m
abbrev IN (K : Fr) : Addr := He.ga K "InvalidNumber"
abbrev IP (K : Fr) : Addr := He.ga K "InvalidPolynomial"
/-- what is known of an error of one field -/
structure ErrT (K : Fr) (C : Addr) : Prop where
  ask : Asks K C
  cl : Cl K C "ValueError" "ValueError.__new__" "ValueError.__init__" bmV
  ty : PySem.W.typeIn K (.ref (He.ma K C "__init__")) = some (.type "function")
  fi : PySem.W.findIn K (.ref C) "__init__" = some (some (.ref (He.ma K C "__init__")))
  tk : PySem.W.takerIn K C "value" = some none
  va : PySem.W.findIn K (.ref C) "value" = some none
  be : PySem.W.subIn K (.ref C) (.type "BaseException") = some true
  tc : PySem.W.typeIn K (.ref C) = some (.type "type")
  ex : PySem.W.exmOne K (.ref C) (.ref C) = some true
  ss : PySem.W.kitOne K (.ref C) (.ref (He.ga K "SlotsumsError")) = some true
structure TT (K : Fr) (mg : Str → Option Value) : Prop where
  sys : ∃ o, K.lookup sysModules = some o
  gcd : mg "gcd" = some (.builtin "math.gcd")
  me : PySem.W.selfFirst K (PC K) = true
  cl : Cls K (RC K)
  mkr : Mk K (RC K) (rm K "__init__")
  nT : NoAttr K (RC K) "_top"
  nB : NoAttr K (RC K) "_bottom"
  clP : Cls K (PC K)
  mkp : Mk K (PC K) (pm K "__init__")
  nC : NoAttr K (PC K) "_coefficients"
  coef : Meth K (PC K) "coefficients" (pm K "coefficients")
  at_ : Meth K (PC K) "at" (pm K "at")
  deg : PropOf K (PC K) "degree" (pm K "degree") (recA K (PC K) "degree" "property")
  bin : ∀ m r : Str, (m, r) ∈ ([("__add__", "__radd__"), ("__sub__", "__rsub__"), ("__mul__", "__rmul__")] : List (Str × Str)) → OpOf K (PC K) (pm K m) m r
  binR : ∀ r ∈ (["__radd__", "__rsub__", "__rmul__"] : List Str), PySem.W.findIn K (.ref (RC K)) r = some none
  spc : ∀ m ∈ (["__neg__", "__eq__", "__str__", "__repr__"] : List Str), PySem.W.findIn K (.ref (PC K)) m = some (some (.ref (pm K m))) ∧ PySem.W.isFn K (.ref (pm K m)) = true
  meR : PySem.W.selfFirst K (RC K) = true
  opR : ∀ m ∈ (["__add__", "__sub__", "__mul__"] : List Str), PySem.W.findIn K (.ref (RC K)) m = some (some (.ref (rm K m))) ∧ PySem.W.isFn K (.ref (rm K m)) = true
  repR : PySem.W.findIn K (.ref (RC K)) "__repr__" = some (some (.ref (rm K "__repr__"))) ∧ PySem.W.isFn K (.ref (rm K "__repr__")) = true
  eq : EqOf K (PC K) (pm K "__eq__")
  kitT : ∀ t ∈ tys, PySem.W.kitOne K (.type t) (.ref (PC K)) = some false
  kitP : PySem.W.kitOne K (.ref (PC K)) (.ref (PC K)) = some true
  kitR : PySem.W.kitOne K (.ref (RC K)) (.ref (PC K)) = some false
  kitI : PySem.W.kitOne K (.ref (RC K)) (.type "int") = some false
  kitB : PySem.W.kitOne K (.ref (RC K)) (.type "bool") = some false
  subR : PySem.W.subIn K (.ref (RC K)) (.ref (PC K)) = some false
  ty : ∀ {H : Hp} {a dx : Addr} {fs : List (Str × V)}, H a = some (.ins (RC K) dx fs) → TyX K H (.ref a) (.ref (RC K))
  tyP : ∀ {H : Hp} {a dx : Addr} {fs : List (Str × V)}, H a = some (.ins (PC K) dx fs) → TyX K H (.ref a) (.ref (PC K))
  nto : ∀ t ∈ tys, PySem.W.subIn K (.type t) (.ref (PC K)) = some false
  en : ErrT K (IN K)
  ep : ErrT K (IP K)
  exn : PySem.W.exmOne K (.ref (IP K)) (.ref (IN K)) = some false
  ne : PySem.W.findIn K (.ref (PC K)) "__ne__" = some (some (.builtin "object.__ne__")) ∧ PySem.W.mroIn K (PC K) (.type "object") = some true
  free : ∀ x ∈ fr, mg x = none
  dfs : ∀ d ∈ fn, ∃ fd, FunD K d.name d.qual d.params d.body d.scope (d.dvs K) (d.kws K) (He.fAd K d.at_) fd
  rcs : ∀ r ∈ rc, ∃ fd, FunD K r.1 ("Polynomial." ++ r.1) (defArgs (inP r.2.2)) (defBody (inP r.2.2)) (defScope (inP r.2.2)) [] [] (recA K (PC K) r.1 r.2.1) fd
  gl : ∀ x ∈ gn ++ ln, mg x = some (.ref (He.ga K x))
theorem err_ok {K : Fr} {C : Str} (h : errB K C = true) : ErrT K (He.ga K C) := by
  unfold errB at h
  simp only [eqB, Bool.and_eq_true, decide_eq_true_eq] at h
  obtain ⟨q1, q2, q3, q4, q5, q6, q7, q8, q9, q10⟩ := h
  exact ⟨ask_ok q1, cl_ok q2, q3, q4, q5, q6, q7, q8, q9, q10⟩
theorem tt_of {K : Fr} {h : Heap} {mg : Str → Option Value} (X : K.In h) (G : h.Ns mainGlobals mg) (c : Says K) : TT K mg := by
  have c1 : (((fa.all fun f => f.ok K) && fn.all fun d => d.ok K) && (chk K && tabB K)) = true := congrArg (fun z : AlX => z.1.1) c
  have c2 : fn.map (fun d => He.fnW K d.at_) = fn.map He.DefD.val := congrArg (fun z : AlX => z.1.2) c
  have c3 : rc.map (recV K) = rc.map recW := congrArg (fun z : AlX => z.2) c
  obtain ⟨c1, k⟩ := He.ba c1
  obtain ⟨k, _⟩ := He.ba k
  obtain ⟨ca, cd⟩ := He.ba c1
  unfold chk at k
  simp only [Bool.and_eq_true] at k
  obtain ⟨kA, kB, k1, k2, k3, k4, k5, k6, k7, k8, k9, k10, k11, k12, k13, k14, k15, k16, k17, k18, k19, k20, k21⟩ := k
  unfold claB at k19 k20
  simp only [Bool.and_eq_true] at k19 k20
  obtain ⟨a1, a2, a3, a4, a5, a6⟩ := k19
  obtain ⟨b1, b2, b3, b4, b5, b6⟩ := k20
  have fac : ∀ f ∈ fa, f.ok K = true := fun f hf => List.all_eq_true.mp ca f hf
  have lst : ∀ f ∈ [He.Fa.cls "Ratio", He.Fa.mkr "Ratio", He.Fa.noat "Ratio" "_top", He.Fa.noat "Ratio" "_bottom", He.Fa.cls "Polynomial", He.Fa.mkr "Polynomial", He.Fa.noat "Polynomial" "_coefficients", He.Fa.meth "Polynomial" "coefficients", He.Fa.meth "Polynomial" "at"], f.ok K = true := fun f hf => fac f (List.mem_append_right _ (List.mem_append_right _ hf))
  have C0 : Cls K (RC K) := He.cls_ok (lst (.cls "Ratio") (by simp))
  have CP : Cls K (PC K) := He.cls_ok (lst (.cls "Polynomial") (by simp))
  have nt : ∀ t ∈ tys, PySem.W.subIn K (.type t) (.ref (PC K)) = some false := fun t ht => of_decide_eq_true (List.all_eq_true.mp k10 t ht)
  have op : ∀ m r : Str, binB K m r = true → OpOf K (PC K) (pm K m) m r ∧ PySem.W.findIn K (.ref (RC K)) r = some none := fun m r h => by
    unfold binB at h
    simp only [Bool.and_eq_true] at h
    exact ⟨⟨k3, He.eqO_ok h.1, h.2.1, He.eqO_ok h.2.2.1, nt "int" (by decide)⟩, He.eqO_ok h.2.2.2⟩
  have sp0 : ∀ (C m : Str), spcB K C m = true → PySem.W.findIn K (.ref (He.ga K C)) m = some (some (.ref (He.ma K (He.ga K C) m))) ∧ PySem.W.isFn K (.ref (He.ma K (He.ga K C) m)) = true := fun C m z => by
    unfold spcB at z
    exact ⟨He.eqO_ok (He.ba z).1, (He.ba z).2⟩
  have sp : ∀ m ∈ (["__neg__", "__eq__", "__str__", "__repr__"] : List Str), PySem.W.findIn K (.ref (PC K)) m = some (some (.ref (pm K m))) ∧ PySem.W.isFn K (.ref (pm K m)) = true := fun m hm => sp0 _ m (List.all_eq_true.mp k8 m hm)
  refine ⟨Option.isSome_iff_exists.mp k1, PySem.W.mg_of X G (of_decide_eq_true k2), k3, C0, He.mkr_ok (lst (.mkr "Ratio") (by simp)), He.noat_ok (lst (.noat "Ratio" "_top") (by simp)), He.noat_ok (lst (.noat "Ratio" "_bottom") (by simp)),
    CP, He.mkr_ok (lst (.mkr "Polynomial") (by simp)), He.noat_ok (lst (.noat "Polynomial" "_coefficients") (by simp)), He.meth_ok (lst (.meth "Polynomial" "coefficients") (by simp)), He.meth_ok (lst (.meth "Polynomial" "at") (by simp)), prop_ok k4, fun m r hm => ?_, fun r hr => ?_, sp, kA, fun m hm => sp0 "Ratio" m (List.all_eq_true.mp kB m hm), sp0 "Ratio" "__repr__" k9,
    ⟨(sp "__eq__" (by decide)).1, (sp "__eq__" (by decide)).2, fun t ht => nt t (by revert t; decide)⟩, fun t ht => of_decide_eq_true (List.all_eq_true.mp k11 t ht), of_decide_eq_true k12, of_decide_eq_true k13, of_decide_eq_true b5, of_decide_eq_true b6, of_decide_eq_true k14,
    fun ha => .base (.ins ha C0 (He.eqO_ok b1) (He.eqO_ok b2) (of_decide_eq_true b3) (of_decide_eq_true b4)), fun ha => .base (.ins ha CP (He.eqO_ok a1) (He.eqO_ok a2) (of_decide_eq_true a3) (of_decide_eq_true a4)), nt, err_ok k16, err_ok k17, of_decide_eq_true k18, ⟨He.eqO_ok k15, of_decide_eq_true a4⟩,
    fun x hx => He.free_ok X G (fac (.free x) (List.mem_append_right _ (List.mem_append_left _ (List.mem_map.mpr ⟨x, hx, rfl⟩)))), fun d hd => ?_, fun r hr => ?_, fun x hx => He.glo_ok X G (fac (.glo x) (List.mem_append_left _ (List.mem_map.mpr ⟨x, hx, rfl⟩)))⟩
  · simp only [List.mem_cons, Prod.mk.injEq, List.not_mem_nil, or_false] at hm
    rcases hm with ⟨rfl, rfl⟩ | ⟨rfl, rfl⟩ | ⟨rfl, rfl⟩
    · exact (op _ _ k5).1
    · exact (op _ _ k6).1
    · exact (op _ _ k7).1
  · simp only [List.mem_cons, List.not_mem_nil, or_false] at hr
    rcases hr with rfl | rfl | rfl
    · exact (op _ _ k5).2
    · exact (op _ _ k6).2
    · exact (op _ _ k7).2
  · obtain ⟨i, hi⟩ := List.getElem?_of_mem hd
    have e2 : (fn.map fun d => He.fnW K d.at_)[i]? = (fn.map He.DefD.val)[i]? := by rw [c2]
    rw [List.getElem?_map, List.getElem?_map, hi] at e2
    exact He.DefD.funD (Option.some.inj e2) (List.all_eq_true.mp cd d hd)
  · obtain ⟨i, hi⟩ := List.getElem?_of_mem hr
    have e2 : (rc.map (recV K))[i]? = (rc.map recW)[i]? := by rw [c3]
    rw [List.getElem?_map, List.getElem?_map, hi] at e2
    exact def_at (ds := []) (Option.some.inj e2) (List.all_eq_true.mp k21 r hr)
section
variable {K : Fr} {mg : Str → Option Value}
theorem TT.df (T : TT K mg) (i : Nat) (h : i < fn.length := by decide) : ∃ fd, FunD K fn[i].name fn[i].qual fn[i].params fn[i].body fn[i].scope (fn[i].dvs K) (fn[i].kws K) (He.fAd K fn[i].at_) fd := T.dfs _ (List.getElem_mem h)
theorem TT.rd (T : TT K mg) (i : Nat) (h : i < rc.length := by decide) : ∃ fd, FunD K rc[i].1 ("Polynomial." ++ rc[i].1) (defArgs (inP rc[i].2.2)) (defBody (inP rc[i].2.2)) (defScope (inP rc[i].2.2)) [] [] (recA K (PC K) rc[i].1 rc[i].2.1) fd := T.rcs _ (List.getElem_mem h)
theorem in1_of {C : Addr} {q : Str} {st : Stmt} (E : ErrT K C) (hs : ∃ p1 p2 q1 q2 q3 q4, defArgs st = iA1 "value" p1 p2 ∧ defBody st = iB1 "value" q1 q2 q3 q4 ∧ defScope st = iS1 "value") {fd : FuncData}
    (F : FunD K "__init__" q (defArgs st) (defBody st) (defScope st) [] [] (He.ma K C "__init__") fd) : In1 K C "value" := by
  obtain ⟨oc, od, dV, kV, doc, pm, an, cdv, ct, osl, rfl, lk, hcd, hD, _⟩ := F.ex
  obtain rfl : dV = Value.none := hD.elim (fun z => z.2) fun z => absurd rfl z.1
  obtain ⟨p1, p2, q1, q2, q3, q4, e1, e2, e3⟩ := hs
  rw [e1, e2, e3] at lk
  exact ⟨E.tk, by decide, by decide, _, _, oc, od, kV, doc, pm, an, cdv, ct, osl, p1, p2, q1, q2, q3, q4, E.fi, E.ty, lk, hcd⟩
theorem TT.in1 (T : TT K mg) : In1 K (IN K) "value" := by
  obtain ⟨fd, F⟩ := T.dfs inD (by simp [fn])
  exact in1_of (q := "InvalidNumber.__init__") (st := inClass (top 4) 0) T.en ⟨_, _, _, _, _, _, rfl, rfl, rfl⟩ F
theorem TT.ip1 (T : TT K mg) : In1 K (IP K) "value" := by
  obtain ⟨fd, F⟩ := T.dfs ipD (by simp [fn])
  exact in1_of (q := "InvalidPolynomial.__init__") (st := inClass (top 5) 0) T.ep ⟨_, _, _, _, _, _, rfl, rfl, rfl⟩ F
end
end K70

set_option maxHeartbeats 1000000
/-! repr of a list that holds whole numbers and objects of an own class with __repr__ -/
namespace RtL
open PySem PySem.Spec PyProof.Rows L2
open PySem.Sem (wp)
open PySem.Builtin PySem.Builtin.List
section
variable {M : Model} {K : PySem.W.Frag} {A : Around} {E : Value → Shared → Prop} {s : Shared} {x f C : Addr} {ox : Obj} {od : Option Obj}
theorem ifBoundBy_K {last : Value → List Value → Sem Value} {name : Str} {Q : Option Value → Shared → Prop} (X : K.In s.heap) (I : PySem.W.InstAt s.heap x ox C od) (hs : PySem.W.findIn K (.ref C) name = some (some (.ref f))) (hf : PySem.W.isFn K (.ref f) = true)
    (h : wpAny M A (last (.ref f) [.ref x]) (fun v => Q (some v)) E s) : wpAny M A (callSpecialIfBoundBy? last (.ref x) name) Q E s := by
  simp only [callSpecialIfBoundBy?, bindSpecialIfBound?]
  refine wpAny_holding (wpAny_bind (wpAny_bind (wpAny_bind (I.type.here ((PySem.W.looks_findIn X hs).here ?_)))))
  refine wpAny_bind (wpAny_askSetting (wpAny_ite ?_))
  have fin : wpAny M A (last (.ref f) [.ref x] >>= fun v => pure (some v)) Q E s := wpAny_bind (wpAny_mono h (fun v s' h' => wpAny_pure h') fun _ _ h' => h')
  split
  · exact wpAny_bind ((PySem.W.bind_fn X _ (beq_iff_eq.mp hf)).here (wpAny_pure (by exact fin)))
  · exact wpAny_tryCatch (wpAny_bind ((PySem.W.bind_fn X _ (beq_iff_eq.mp hf)).here (wpAny_pure (by exact fin))))
end
theorem loop_depth (A : Around) (args : Args) : (A.under (.builtin "list.__repr__.loop" args)).depth ≤ A.depth + 1 := by
  first
  | exact Nat.le_of_eq rfl
  | (simp [Around.under, Code.weight, Code.isCreation, Code.isGuard, Code.isCaller, Code.frames, Code.isFrame, guardIds]; done)
  | (simp [Around.under, Code.weight, Code.isCreation, Code.isGuard, Code.isCaller, Code.frames, Code.isFrame, guardIds] <;> omega)
theorem Room.loop {k : Nat} {A : Around} (r : Room (k + 1) A) (args : Args) : Room k (A.under (.builtin "list.__repr__.loop" args)) :=
  ⟨r.hd, by have := r.dp; have := loop_depth A args; omega, by have := r.un; rw [units_under_list_loop]; omega⟩
theorem Env0.loop {P : Program} {w : World} {K : PySem.W.Frag} {mg : Str → Option Value} {base : Heap} {A : Around} {outer : List Env} {s : Shared} {H : Hp} (e : Env0 P w K mg base A outer s H) (args : Args) :
    Env0 P w K mg base (A.under (.builtin "list.__repr__.loop" args)) outer s H := ⟨by first | exact e.frames | (simpa [Around.under, Code.envs, Code.isFrame, pushEnvs] using e.frames), e.mod, e.bs, e.bsz, e.funs, e.frf, e.hok, e.bare⟩
/-- an item and its text -/
def ItT (C : Addr) (sp : Sp) (H : Hp) (v : V) (t : Str) : Prop := (∃ i : Int, v = .int i ∧ t = toString i ∧ i.natAbs.log2 < 1920) ∨ ∃ a dx fs, v = .ref a ∧ H a = some (.ins C dx fs) ∧ ∀ Q : VK, Q (.str t) H → sp [.ref a] H Q E0
section
variable {X : Cx} {k : Nat} {f C : Addr} {fd : FuncData} {sp : Sp} {ps : List Str} {pins : List (Addr × Obj)} {σ : L2.St} {H : Hp}
theorem under_own (hs : PySem.W.findIn X.K (.ref C) "__repr__" = some (some (.ref f))) (hf : PySem.W.isFn X.K (.ref f) = true) (F : FnOk X.prog X.w X.K X.mg X.base CX0 k f fd ps sp) (hb : Binds X.K fd ps []) {A : Around} {s : Shared} {E : Value → Shared → Prop} (hr : Room k A)
    (e0 : Env0 X.prog X.w X.K X.mg X.base A X.stack s H) (I : Inv X pins σ H s) {a dx : Addr} {fs : List (Str × V)} {t : Str} {base : Nat} {Q : Str → Shared → Prop} (ha : H a = some (.ins C dx fs)) (hq : ∀ Q : VK, Q (.str t) H → sp [.ref a] H Q E0) (hz : base ≤ sizeLine)
    (h : ∀ s', Inv X pins σ H s' → Q t s') : wpAny (model X.prog X.w) A (pyReprUnder base (.ref a)) Q E s := by
  obtain ⟨mA, oa, _⟩ := ins_get I.hok ha
  obtain ⟨od, J, _⟩ := oa.look
  have q := hq (fun v H' => v = .str t ∧ H' = H) ⟨rfl, rfl⟩
  have hl : ([Value.ref a] ++ []).length = ps.length := by
    rw [← F.len _ _ _ _ q]
    rfl
  refine wpAny_pyReprUnder_ref hz ?_
  unfold pyReprObjUnder pyReprObjBy
  refine wpAny_bind (wpAny_cRoomFor (by have := hr.un; omega) ?_)
  refine wpAny_bind (wpAny_bind (J.type.here ((PySem.W.looks_findIn I.kIn hs).here ?_)))
  show wpAny _ _ (if (some (Value.ref f)).isNone = true then _ else _) _ _ _
  rw [if_neg (by simp)]
  refine wpAny_bind (ifBoundBy_K I.kIn J hs hf ?_)
  show wpAny _ _ (call (.ref f) [.ref a]) _ _ _
  refine wpAny_call (codeAny_mono (F.run A X.stack s H ⟨[.ref a], []⟩ [.ref a] [.ref a] _ E0 hr e0 (hb s [.ref a] I.kIn hl) (.cons rfl .nil) q) fun r s' hq => ?_)
  match r, hq with
  | .ok (.ret u), hq =>
    obtain ⟨v, H', I3, rv, ev, eH⟩ := I.after hq
    subst ev eH
    obtain ⟨tk, e⟩ := rv
    subst e
    exact wpAny_bind (wpAny_isInstance (T := "str") (b := true) rfl isSubtype_str_str (wpAny_pure ⟨_, _, rfl, h s' I3⟩))
  | .ok .next, hq => exact False.elim hq
  | .ok .brk, hq => exact False.elim hq
  | .ok .cont, hq => exact False.elim hq
  | .error e, hq => exact False.elim hq
abbrev pL (P : Addr) (acc : Array Value) (c : Nat) : Addr × Obj := (P, { cls := .type "list", dict := none, data := .seq acc c, slots := #[] })
/-- the list of the parts grows -/
theorem pin_push {P : Addr} {acc acc' : Array Value} {c c' : Nat} {s : Shared} {h' : Heap} {t' : Nat} (I : Inv X (pL P acc c :: pins) σ H s) (h1 : P ∈ X.ex ∨ X.s_0.heap.objs.size ≤ P) (h2 : ∀ x c, X.env.cells.lookup x = some c → c ≠ P) (h3 : ∀ p ∈ X.pn ++ pins, p.1 ≠ P)
    (k : ∀ b o, b ≠ P → s.heap.get? b = some o → h'.get? b = some o) (hP : h'.get? P = some (pL P acc' c').2) : Inv X (pL P acc' c' :: pins) σ H { s with heap := h', toks := t' } := by
  obtain ⟨p1, p2, p3, p4, p5⟩ := I.pin (pL P acc c) (List.mem_append_right _ List.mem_cons_self)
  have J := (ClX.unpin I).turned (t' := t') k p2 p3 h1 h2 h3
  refine J.pins_of fun p hp => ?_
  rcases List.mem_cons.mp hp with e | e
  · subst e
    exact ⟨hP, p2, p3, p4, fun v z => nomatch z⟩
  · exact J.pin p (List.mem_append_right _ e)
theorem loopI (hs : PySem.W.findIn X.K (.ref C) "__repr__" = some (some (.ref f))) (hf : PySem.W.isFn X.K (.ref f) = true) (F : FnOk X.prog X.w X.K X.mg X.base CX0 k f fd ps sp) (hb : Binds X.K fd ps []) {A : Around} (hr : Room (k + 1) A)
    (e0 : ∀ s, Inv X pins σ H s → Env0 X.prog X.w X.K X.mg X.base A X.stack s H) {a P : Addr} {vs : List V} {ts : List Str} {base : Nat} {R : Result → Shared → Prop} (ea : H a = some (.lst vs)) (hlen : ts.length = vs.length)
    (hT : ∀ (i : Nat) (v : V), vs[i]? = some v → ∃ t, ts[i]? = some t ∧ ItT C sp H v t) (hsz : base + (listText ts).length ≤ sizeLine)
    (h1 : P ∈ X.ex ∨ X.s_0.heap.objs.size ≤ P) (h2 : ∀ x c, X.env.cells.lookup x = some c → c ≠ P) (h3 : ∀ p ∈ X.pn ++ pins, p.1 ≠ P) (hR : ∀ s' u, Inv X pins σ H s' → R (.ok (.ret (.str (listText ts) u))) s') :
    ∀ (n i : Nat) (s : Shared) (acc : Array Value) (c : Nat) (done : List (Str × Tok)), vs.length - i = n → i ≤ vs.length → Inv X (pL P acc c :: pins) σ H s → acc.toList = strValues done → done.map (·.1) = ts.take i →
      codeAny (model X.prog X.w) A (.builtin "list.__repr__.loop" ⟨[.ref a, rawInt i, .ref P, rawInt ((base + piled (ts.take i) : Nat) : Int)], []⟩) R s := by
  have hX : (listText ts).length = (textFrom 0 "[" ts).length + 1 := by
    show (textFrom 0 "[" ts ++ "]").length = _
    rw [strLen_append]; rfl
  have hL := textFrom_len ts 0 "["
  have hsz1 : vs.length ≤ sizeLine := by
    have h1 := hL.1
    rw [if_neg (Nat.lt_irrefl 0)] at h1
    omega
  have hsz2 : ∀ t ∈ ts, t.length ≤ sizeLine := fun t ht => by
    have h2 := hL.2.1 t ht
    omega
  have hsz3 : (listText ts).length ≤ sizeLine := by omega
  have hp3 := piled_le_listText ts
  intro n
  induction n with
  | zero =>
    intro i s acc c done hk hi I hacc hdone
    obtain ⟨_, its, nn, rv, ho⟩ := (show ObjOk X.prog X.w H s.heap a (.lst vs) from I.hok a _ ea)
    have hin : i = its.length := by rw [← rv.length]; omega
    refine codeAny_builtin PySem.F.entry_list_repr_loop ?_
    show wpAny _ _ («list.__repr__.loop» ⟨[.ref a, .int i 0, .ref P, .int ((base + piled (ts.take i) : Nat) : Int) 0], []⟩) _ _ s
    rw [repr_loop_tree]
    refine wpAny_bind (wpAny_listItems ho rfl ?_)
    have hnone : its.toArray[(i : Int).toNat]? = none := by simp [hin]
    simp only [hnone]
    unfold reprEnd
    refine wpAny_bind (wpAny_listItems (ClX.pin_at I) rfl ?_)
    rw [hacc, repr_fold]
    refine wpAny_bind (wpAny_pure ?_)
    have hall : done.map (·.1) = ts := by rw [hdone, hin, ← rv.length, ← hlen, List.take_length]
    rw [hall]
    refine wpAny_bind (wpAny_mkStr (wpAny_pure ?_) hsz3)
    exact hR _ _ ((ClX.unpin I).tok _)
  | succ n ih =>
    intro i s acc c done hk hi I hacc hdone
    have hlt : i < vs.length := by omega
    obtain ⟨_, its, nn, rv, ho⟩ := (show ObjOk X.prog X.w H s.heap a (.lst vs) from I.hok a _ ea)
    have hlt' : i < its.length := by rw [← rv.length]; exact hlt
    obtain ⟨t, ht, hit⟩ := hT i vs[i] (by simp [hlt])
    obtain ⟨u, hu, ru⟩ := rv.get (i := i) (x := vs[i]) (by simp [hlt])
    have hp1 := piled_take_succ ht
    have hp2 := piled_take_le ts (i + 1)
    refine codeAny_builtin PySem.F.entry_list_repr_loop ?_
    show wpAny _ _ («list.__repr__.loop» ⟨[.ref a, .int i 0, .ref P, .int ((base + piled (ts.take i) : Nat) : Int) 0], []⟩) _ _ s
    rw [repr_loop_tree]
    refine wpAny_bind (wpAny_listItems ho rfl ?_)
    have hsome : its.toArray[(i : Int).toNat]? = some u := by
      rw [Int.toNat_natCast, List.getElem?_toArray]
      exact hu
    simp only [hsome]
    rw [Int.toNat_natCast]
    have go : ∀ s', Inv X (pL P acc c :: pins) σ H s' → wpAny (model X.prog X.w) (A.under (.builtin "list.__repr__.loop" ⟨[.ref a, .int i 0, .ref P, .int ((base + piled (ts.take i) : Nat) : Int) 0], []⟩)) (do
        let signs := base + piled (ts.take i) + (t.length + 2)
        let r ← mkStr t
        listUpdate (.ref P) (·.push r)
        again (.builtin "list.__repr__.loop" ⟨[.ref a, rawInt ((i : Int) + 1), .ref P, rawInt signs], []⟩))
        (fun fin s' => match fin with | .done fl => R (.ok fl) s' | .again c' => c'.quiet = true ∧ codeAny (model X.prog X.w) A c' R s') (fun e s' => R (.error e) s') s' := fun s' I' => by
      refine wpAny_bind (wpAny_mkStr ?_ (hsz2 t (List.mem_of_getElem? ht)))
      refine wpAny_bind ?_
      show wpAny _ _ (updateSeq P _) _ _ _
      have hasz : acc.size ≤ sizeLine := by
        have e1 : acc.toList.length = acc.size := by simp
        have e2 : (strValues done).length = done.length := by simp [strValues]
        have e3 : done.length = (ts.take i).length := by rw [← hdone, List.length_map]
        have e4 : (ts.take i).length ≤ i := by rw [List.length_take]; omega
        rw [hacc] at e1; omega
      refine wpAny_updateSeq (ClX.pin_at I') rfl (wpAny_pure ⟨PySem.F.quiet_list_repr_loop _, ?_⟩) hasz
      have e1 : ((i : Int) + 1) = ((i + 1 : Nat) : Int) := by omega
      have e2 : base + piled (ts.take i) + (t.length + 2) = base + piled (ts.take (i + 1)) := by omega
      rw [e1, e2]
      refine ih (i + 1) _ (acc.push (.str t s'.toks)) _ (done ++ [(t, s'.toks)]) (by omega) hlt (pin_push (I'.tok (s'.toks + 1)) h1 h2 h3 (fun b o hne e => (Heap.get?_update_other _ _ (fun h : P = b => hne h.symm)).trans e) (Heap.get?_update_self _ (ClX.pin_at I') rfl)) (by simp [hacc, strValues]) (by simp [List.take_add_one, ht, hdone])
    rcases hit with ⟨j, ev, et, hlog⟩ | ⟨b, dx, fs, ev, eb, hq⟩
    · rw [ev] at ru
      obtain ⟨tk, eu⟩ := (show ∃ tk, u = Value.int j tk from ru)
      subst et
      rw [eu]
      refine wpAny_bind (wpAny_holding (ReprIs.int tk hlog (base + piled (ts.take i) + 1) (by omega) _ _ _ _ fun tk' => ?_))
      exact go _ (I.tok tk')
    · rw [ev] at ru
      rw [show u = Value.ref b from ru]
      refine wpAny_bind (wpAny_holding (under_own hs hf F hb (Room.loop hr _) (Env0.loop (e0 s (ClX.unpin I)) _) I eb hq (by omega) fun s' I' => ?_))
      exact go s' I'
/-- repr(xs), xs a list of these -/
def rReprL (C : Addr) (sp : Sp) : List V → Hp → VK → Prop := fun xs H Q => ∃ a vs ts, xs = [.ref a] ∧ H a = some (.lst vs) ∧ vs ≠ [] ∧ ts.length = vs.length ∧ (∀ (i : Nat) (v : V), vs[i]? = some v → ∃ t, ts[i]? = some t ∧ ItT C sp H v t) ∧
  (listText ts).length ≤ sizeLine ∧ Q (.str (listText ts)) H
theorem call_reprL (hs : PySem.W.findIn X.K (.ref C) "__repr__" = some (some (.ref f))) (hf : PySem.W.isFn X.K (.ref f) = true) (F : FnOk X.prog X.w X.K X.mg X.base CX0 k f fd ps sp) (hb : Binds X.K fd ps []) (hr : Room (k + 3) X.A) (hg : X.A.guards = some []) :
    CallR X (.builtin "repr") (rReprL C sp) := by
  intro pins s σ H xs us Q I r h
  obtain ⟨a, vs, ts, rfl, ea, hne, hlen, hT, hsz, q⟩ := h
  obtain ⟨u, rfl, rx⟩ := vals1 r
  cases (show u = Value.ref a from rx)
  obtain ⟨_, its, nn, rv, ho⟩ := (show ObjOk X.prog X.w H s.heap a (.lst vs) from I.hok a _ ea)
  cases rv with
  | nil => exact absurd rfl hne
  | cons r1 r2 =>
    rename_i v vs x l
    refine call_repr_slot (by have := hr.un; show X.A.units + 1 < cLine; omega) ⟨_, ho, rfl⟩ PySem.F.slot_list_repr.toG ?_
    refine wpAny_call (codeAny_call_builtin PySem.F.slot_list_repr.plain PySem.F.entry_list_repr (PySem.F.slot_list_repr.check _ _ _ _ _ _ _ _ ⟨_, ho, rfl⟩ (PySem.F.args_list_repr_1 _) ?_))
    refine wpAny_list_repr_head (g := []) hg (fun v rest kw hm => nomatch hm) ho rfl ?_
    refine wpAny_bind (m := newList []) (wpAny_newObj_type ?_)
    refine wpAny_pure ⟨PySem.F.quiet_list_repr_loop _, ?_⟩
    have I1 := I.lt
    refine loopI (A := X.A.in1) (P := s.heap.objs.size) hs hf F hb (Room.in1 (hr.mono (by omega) : Room (k + 2) X.A)) (fun s' I' => I'.env0.in1) (base := 0) ea hlen hT (by omega) (.inr I.sz) (fun x c e z => ?_) (fun p hp z => ?_) (fun s' u I' => ?_) _ 0 _ #[] _ [] rfl (Nat.zero_le _) (ClX.pin_new I (fun b o e => Heap.get?_push_of_some _ e) (Nat.le_refl _) (Heap.get?_push_size _ rfl) (fun v z => nomatch z)) rfl (by simp)
    · obtain ⟨v, o, hc, _⟩ := I.cell x c e
      rw [z] at hc
      exact absurd (Heap.lt_size hc) (Nat.lt_irrefl _)
    · have e := (I.pin p hp).1
      rw [z] at e
      exact absurd (Heap.lt_size e) (Nat.lt_irrefl _)
    · exact ⟨_, _, rfl, .str _, H, I', ⟨u, rfl⟩, q⟩
end
end RtL

set_option maxHeartbeats 1000000
/-! an own error with one field: raised, caught, its field read -/
namespace RtL
open PySem PySem.Spec PyProof.Rows L2 ErL
open PySem.Er (Made Cl In1 In2 Shw)
section
variable {X : Cx} {B newId initId : String} {bmB : List Value} {C : Addr} {f x : Str} {p pos : Pos} {a : Expr} {ta : TA} {k : Nat}
/-- C(a), raised -/
def tMk1 (C : Addr) (f : Str) (ta : TA) : L2.St → Hp → XK → Prop := fun σ H Q => ta σ H fun vs H1 => ∃ v, vs = [v] ∧ ∀ d, H1 d = none → Q (.ref C) (some d) (upd H1 d (.xd [(f, v)]))
theorem pmk_er1 (c : Cl X.K C B newId initId bmB) (i : In1 X.K C f) (hb : Bd1 f gP1) (hr : Room k X.A) (hg : Gl X x) (hm : X.mg x = some (.ref C)) (rs : Raises X (.ref C)) (ha : PA X [a] ta)
    (hdb : (x == ("__debug__" : Str)) = false := by decide) (he : starEach [a] X.env = (false, eval a X.env) :: starEach [] X.env := by rfl) (hpl : (backTo pos (starEach [] X.env)).any (·.1) = false := by rfl) :
    PMk X (.Call (.Name x p) [a] [] pos) (tMk1 C f ta) := by
  intro pins s σ H Q I h
  refine wpAny_Call_Name_kw (ld_glob I hg hm ?_ hdb)
  refine PySem.W.callWith_K (h₀ := X.base) I.ok.mod.kin c.kC (thn (ha.run pos pins s σ H _ I h) fun us s1 hh => ?_) he hpl
  obtain ⟨vs, H1, I1, r, v, rfl, q⟩ := hh
  refine ⟨I1.kIn, ?_⟩
  obtain ⟨u, rfl, ru⟩ := vals1 r
  show wpAny _ _ (call (.ref C) [u]) _ _ _
  refine wpAny_call (PySem.Er.made1 c i (v := u) I1.kIn I1.nolimit (by have := hr.dp; omega) (by show 1 ≤ sizeLine; rw [sizeLine_eq]; omega) (fun _ ql p1 p2 q1 q2 q3 q4 kv dc pm an cv ct y => .of_eq (hb ql p1 p2 q1 q2 q3 q4 kv dc pm an cv ct y u)) fun h' tk e d t M => ?_)
  obtain ⟨hp, g, dr, tk0, os⟩ := s1
  obtain ⟨G', g1, g2⟩ := restrict h' fun b => decide (b ≠ e)
  have keepG : ∀ b, b ≠ e → G'.get? b = h'.get? b := fun b hb => g1 b (decide_eq_true hb)
  have goneG : G'.get? e = none := g2 e (by simp)
  have old : ∀ b o, hp.get? b = some o → G'.get? b = some o := fun b o z => (keepG b (Nat.ne_of_lt (Nat.lt_of_lt_of_le (Heap.lt_size z) M.be))).trans (M.keep b o z)
  have ob : ObjOk X.prog X.w (upd H1 d (.xd [(f, v)])) G' d (.xd [(f, v)]) := ⟨_, M.ns.at (fun o z => (keepG d M.de).trans z), rel1 ru⟩
  refine ⟨e, _, _, ⟨G', g, dr, tk, os⟩, _, .ref C, some d, rfl, I1.laid (t' := tk) old M.bd ob, fun b o z => ?_, goneG, M.obj, ⟨rfl, rfl⟩, rfl, rfl, ?_, rfl, I1.bare, rs, q d (I1.hok.fresh M.bd)⟩
  · by_cases hb : b = e
    · have z' : G'.get? b = some o := z
      rw [hb, goneG] at z'
      cases z'
    · exact (keepG b hb).symm.trans z
  · rw [upd_ne (Ne.symm M.de)]
    exact I1.hok.fresh M.be
/-- e.f of the error that the suite holds -/
def tBy1 (C : Addr) (f : Str) (a : Addr) (cls : Value) (d : Option Addr) (te : TE) : TE := fun σ H Q => te σ H fun x H1 => x = .ref a ∧ cls = .ref C ∧ ∃ (dd : Addr) (v : V), d = some dd ∧ H1 dd = some (.xd [(f, v)]) ∧ Q v H1
theorem pe_by1 {b : Addr} {oe : Obj} {cls : Value} {d : Option Addr} {pn : List (Addr × Obj)} {te : TE} {e : Expr} (A : Asks X.K C) (hn : PySem.W.findIn X.K (.ref C) f = some none) (hz : Zc cls d oe) (hf : ∃ vs, oe.data = .fields vs) (he : PE (X.suite b ((b, oe) :: pn)) e te)
    (hb : attributeBase e f X.env (eval e X.env) = eval e X.env := by rfl) : PE (X.suite b ((b, oe) :: pn)) (.Attribute e f pos) (tBy1 C f b cls d te) := by
  refine ⟨fun pins s σ H Q I h => ?_⟩
  refine attr_of hb (thn (he.run pins s σ H _ I h) fun u s1 hh => ?_)
  obtain ⟨y, H1, I1, ry, rfl, rfl, dd, v, rfl, ea, q⟩ := hh
  obtain rfl : u = Value.ref b := ry
  obtain ⟨hb1, _⟩ := I1.pin (b, oe) (List.mem_append_left _ List.mem_cons_self)
  obtain ⟨vs, hd⟩ := hf
  obtain ⟨mA, hns, rel⟩ := (show ObjOk X.prog X.w H1 s1.heap dd (.xd [(f, v)]) from I1.hok dd _ ea)
  obtain ⟨od, ho, hl⟩ := lookIn_ns hns
  have l : List.lookup f [(f, v)] = some v := by simp [List.lookup]
  obtain ⟨w, hw, rw'⟩ := RelO.some_of (v := v) (o := mA f) (by rw [← l]; exact rel f)
  have J : PySem.W.InstAt s1.heap b oe C (some od) := ⟨hb1, hz.1, by unfold PySem.W.notCls; rw [hd], by rw [hz.2]; exact ho⟩
  exact PySem.PX.exc_get I1.kIn J A.ga A.gg A.ex (PySem.W.findObj_own A.hd hn rfl (by rw [hl, hw])) (handed_of rw') ⟨v, H1, I1.tok _, rw', q⟩
/-- isinstance(e, c), e the error that the suite holds -/
def rIsS (K : PySem.W.Frag) (C b : Addr) (cls : Value) (d : Option Addr) : List V → Hp → VK → Prop := fun xs H Q => ∃ c cv r, xs = [.ref b, c] ∧ cls = .ref C ∧ (∀ dd, d = some dd → ∃ fs, H dd = some (.xd fs)) ∧ (∀ u, RelV c u → u = cv) ∧ PySem.W.kitOne K (.ref C) cv = some r ∧ Q (.bl r) H
theorem call_isS {b : Addr} {oe : Obj} {cls : Value} {d : Option Addr} {pn : List (Addr × Obj)} (A : Asks X.K C) (hz : Zc cls d oe) (hf : ∃ vs, oe.data = .fields vs) : CallR (X.suite b ((b, oe) :: pn)) (.builtin "isinstance") (rIsS X.K C b cls d) := by
  intro pins s σ H xs us Q I r h
  obtain ⟨c, cv, t, rfl, rfl, hd, hc, e, q⟩ := h
  obtain ⟨u, u', rfl, ru, ru'⟩ := vals2 r
  obtain rfl : u = Value.ref b := ru
  obtain rfl := hc _ ru'
  obtain ⟨hb1, _⟩ := I.pin (b, oe) (List.mem_append_left _ List.mem_cons_self)
  obtain ⟨vs, hdat⟩ := hf
  obtain ⟨od, J⟩ : ∃ od, PySem.W.InstAt s.heap b oe C od := by
    cases d with
    | none => exact ⟨none, hb1, hz.1, by unfold PySem.W.notCls; rw [hdat], by rw [hz.2]; trivial⟩
    | some dd =>
      obtain ⟨fs, ea⟩ := hd dd rfl
      obtain ⟨mA, hns, rel⟩ := (show ObjOk X.prog X.w H s.heap dd (.xd fs) from I.hok dd _ ea)
      obtain ⟨od, ho, hl⟩ := lookIn_ns hns
      exact ⟨some od, hb1, hz.1, by unfold PySem.W.notCls; rw [hdat], by rw [hz.2]; exact ho⟩
  exact PySem.W.kia_one (PySem.W.kitx_exc A.cl A.ga A.gg A.ex A.cs A.gs A.tk A.mo) I.kIn J e (fun z => nomatch z) fun tk => ⟨.bl t, H, I.kept (t' := tk) fun _ _ z => z, rfl, q⟩
end
end RtL

set_option maxHeartbeats 1000000
/-! a lambda without parameters handed to a def of two parameters; what it raises is told by the def's slots -/
namespace RtL
open PySem PySem.Spec PyProof.Rows L2 ErL LamX
section
variable {X : Cx} {pins : List (Addr × Obj)} {σ : L2.St} {H : Hp} {s : Shared}
abbrev lamO (X : Cx) (params : Arguments) (body : Expr) (scope : Scope) (pm : Value) (c' : Addr) (ctv : Value) : Obj := PySem.W.kla_obj "<lambda>" (X.env.qual ++ "<lambda>") params body scope (cloFrom X.env.cells scope.names []) pm c' ctv
theorem pe_act2 {Ng : List Str} {qg : Str} {sg : Scope} {g f c' : Addr} {cdg pm ctv : Value} {params : Arguments} {body : Expr} {scope : Scope} {k i : Nat} {a : Str} {pn : List (Addr × Obj)} {xe : Value → Shared → Prop} {W : WX} {t : XK → TE} {p1 p2 : Pos}
    (I : Inv X pins σ H s) (L : LamS X.env.scope scope) (hf : s.heap.get? f = some (lamO X params body scope pm c' ctv)) (hfn : H f = none) (hfr : f ∉ frs X.stack)
    (hbind : bindArgs (PySem.W.kla_fn "<lambda>" (X.env.qual ++ "<lambda>") params body scope (cloFrom X.env.cells scope.names []) pm (.ref c') ctv) ⟨[], []⟩ = pure [])
    (tk : Takes ((cxOf CX0 X.prog X.w X.K X.mg X.base Ng qg sg g cdg X.A X.stack s H E0).tr pn xe) W) (hr : Room (k + 1) (X.A.deeper (envOfC qg sg s.heap.objs.size g cdg)))
    (hbody : ∀ (A : Around) (outer : List Env) (s : Shared) (H : Hp) (E : XK), Room k (A.deeper (lamEnv X scope s.heap.objs.size f c')) → PE (lamCx X A outer s H E scope f c') body (t E))
    (hN : Ng[i]? = some a) (hv : Vis sg a) (hd : (a == ("__debug__" : Str)) = false) (hcd : (a == ("__classdict__" : Str)) = false) :
    PE ((cxOf CX0 X.prog X.w X.K X.mg X.base Ng qg sg g cdg X.A X.stack s H E0).tr pn xe) (.Call (.Name a p1) [] [] p2)
      (fun σZ HZ Q => σZ[i]? = some (some (.ref f)) ∧ HZ c' = some (CodeO c' (X.env.qual ++ "<lambda>")) ∧ t (WE W σZ) σ HZ Q) := by
  refine ⟨fun pinsZ sZ σZ HZ Q IZ h => ?_⟩
  obtain ⟨hs, hc, ht⟩ := h
  refine wpAny_Call_Name_kw (thn ((pe_var (pos := p1) (i := i) hN hv hd hcd).run pinsZ sZ σZ HZ (fun v H1 => v = .ref f ∧ H1 = HZ) IZ ⟨.ref f, hs, rfl, rfl⟩) fun u s1 hh => ?_)
  obtain ⟨v, H1, I1, r1, rfl, rfl⟩ := hh
  obtain rfl : u = Value.ref f := r1
  have of1 : s1.heap.get? f = some (lamO X params body scope pm c' ctv) := I1.base.keep f _ hf hfn hfr (fun z => nomatch (show f ∈ ([] : List Addr) from z))
  refine PySem.W.callWith_F0 ⟨_, _, _, _, of1⟩ ?_
  have un : Un (frs X.stack) [] H H1 s.heap s1.heap := I1.base
  obtain ⟨⟨oc, vs, tc, hoc, hdc, hvc⟩, _, _⟩ := I1.hok c' _ hc
  have rc : codeAny (model X.prog X.w) (X.A.deeper (envOfC qg sg s.heap.objs.size g cdg)) (.call (.ref f) ⟨[], []⟩) (CR (L2.CX X.prog X.w) (envOfC qg sg s.heap.objs.size g cdg :: X.stack) X.prog X.w H1 s1 Q (WE W σZ)) s1 := by
    refine PySem.W.kla_callFunE hr.depth of1 rfl L.co L.gen rfl ⟨c', oc, vs, tc, rfl, hoc, hdc, hvc⟩ ?_
    rw [hbind]
    refine wpAny_pure (wpAny_newFunctionEnv (fun y hy => (L.own y hy).2) (fun y hy => absurd hy (by simp)) (fun h₁ hns hsb => ⟨I1.nolimit.fresh _ hsb, ?_⟩) L.kind)
    show codeAny _ _ (.expr body (lamEnv X scope s1.heap.objs.size f c')) _ _
    have kp : ∀ b o, s1.heap.get? b = some o → h₁.get? b = some o := fun b o e => hsb.extBut b o (Nat.ne_of_lt (Heap.lt_size e)) (Heap.get?_push_of_some _ e)
    have J := lam_start2 (A := X.A.deeper (envOfC qg sg s.heap.objs.size g cdg)) (outer := envOfC qg sg s.heap.objs.size g cdg :: X.stack) (E := WE W σZ) (f := f) (c' := c') (tk := s1.toks + ([] : List (Str × Value)).length) I L I1.env0 hr.hd un hns kp
    refine PySem.W.kla_codeExpr (wpAny_mono ((hbody _ _ s1 H1 _ (hr.deeper _)).run [] _ _ H1 Q J ht) (fun v s' hq => ?_) fun e s' hq => hq)
    obtain ⟨w', H', J', rv, q⟩ := hq
    exact ⟨w', H', J'.os, J'.bare, J'.base, J'.hok, rv, q⟩
  have hx := passAt tk σZ
  refine wpAny_call (codeAny_mono rc fun r s' hq => ?_)
  cases r with
  | error e => exact hx pinsZ H1 s1 e s' I1 hq
  | ok fl =>
    cases fl with
    | ret u => exact I1.after hq
    | next => exact False.elim hq
    | brk => exact False.elim hq
    | cont => exact False.elim hq
end
/-- the def that calls what it got, a its name; v what it got beside -/
def Gives2 (X : Cx) (k : Nat) (Ng : List Str) (x : Str) (sg : Scope) (g : Addr) (cdg : Value) (bg : List Stmt) (a q : Str) (TT : V → (XK → Hp → VK → Prop) → Hp → VK → Prop) : Prop :=
  ∀ (f c' : Addr) (s : Shared) (H : Hp) (Q : VK) (v : V) (tl : XK → Hp → VK → Prop),
    Room (k + 1) (X.A.deeper (envOfC x sg s.heap.objs.size g cdg)) → (X.A.deeper (envOfC x sg s.heap.objs.size g cdg)).guards = some [] →
    (∀ (W : WX) (pn : List (Addr × Obj)) (xe : Value → Shared → Prop) (p1 p2 : Pos), Takes ((cxOf CX0 X.prog X.w X.K X.mg X.base Ng x sg g cdg X.A X.stack s H E0).tr pn xe) W →
      PE ((cxOf CX0 X.prog X.w X.K X.mg X.base Ng x sg g cdg X.A X.stack s H E0).tr pn xe) (.Call (.Name a p1) [] [] p2) (fun σZ HZ Q => σZ[0]? = some (some (.ref f)) ∧ HZ c' = some (CodeO c' q) ∧ tl (WE W σZ) HZ Q)) →
    H c' = some (CodeO c' q) → TT v tl H Q →
    ∃ t, PSs (cxOf CX0 X.prog X.w X.K X.mg X.base Ng x sg g cdg X.A X.stack s H E0).nox bg t ∧ t { nx := fun _ H' => Q .non H', rt := Q } (L2.start Ng [.ref f, v]) H
def tLam2 (T : List (Addr × Str)) (TT : V → (XK → Hp → VK → Prop) → Hp → VK → Prop) (t : XK → TE) (te : TE) : TE := fun σ H Q => Tabs T H ∧ ∀ H1, ExtN H H1 → Tabs T H1 → te σ H1 fun v H2 => H2 = H1 ∧ TT v (fun E H' Q' => t E σ H' Q') H1 Q
section
variable {X : Cx}
/-- x(lambda: body, e) -/
theorem pe_lamcall2 {T : List (Addr × Str)} {TT : V → (XK → Hp → VK → Prop) → Hp → VK → Prop} {x a a2 : Str} {g c P : Addr} {k : Nat} {pg : Arguments} {bg : List Stmt} {sg : Scope} {dV kV doc pm cdv ct oc : Value} {an od : Option Addr} {osl : Array (Option Value)} {Ng : List Str}
    {params : Arguments} {body e : Expr} {scope : Scope} {t : XK → TE} {te : TE} {p lpos pos : Pos} (hg : Gl X x) (hm : X.mg x = some (.ref g)) (hk : PySem.W.keepIn X.K (.ref g) = true)
    (lk : X.K.lookup g = some ⟨oc, od, .func (PySem.W.fnOf x x pg bg sg dV kV doc pm an cdv ct), osl⟩) (hcg : PySem.W.codeIn X.K cdv x = true) (hb : L2.Binds X.K (PySem.W.fnOf x x pg bg sg dV kV doc pm an cdv ct) [a, a2] []) (Sg : FnScope Ng [a, a2] sg) (hNg : Ng[0]? = some a) (hva : Vis sg a)
    (hG : Gives2 X k Ng x sg g cdv bg a (X.env.qual ++ "<lambda>") TT)
    (TB : TabB X.base X.mg c P) (hcode : X.env.code = .ref c) (hmT : (P, X.env.qual ++ "<lambda>") ∈ T) (hu : ∀ p ∈ T, p.1 = P → p.2 = X.env.qual ++ "<lambda>") (hr : Room (k + 2) X.A) (hgd : X.A.guards = some []) (hst : frs X.stack = X.env.locals :: X.fs) (L : LamS X.env.scope scope) (hdef : defaultsOf params X.env = ([], []))
    (hbind : ∀ (q : Str) (cl : List (Str × Addr)) (pm cv ctv : Value), bindArgs (PySem.W.kla_fn "<lambda>" q params body scope cl pm cv ctv) ⟨[], []⟩ = pure [])
    (hbody : ∀ (A : Around) (outer : List Env) (s : Shared) (H : Hp) (E : XK) (f c' : Addr), Room k (A.deeper (lamEnv X scope s.heap.objs.size f c')) → PE (lamCx X A outer s H E scope f c') body (t E)) (he : PE X e te)
    (hse : starEach [e] X.env = (false, eval e X.env) :: starEach [] X.env := by rfl)
    (hdb : (x == ("__debug__" : Str)) = false := by decide) (hd : (a == ("__debug__" : Str)) = false := by decide) (hcd : (a == ("__classdict__" : Str)) = false := by decide) :
    PE X (.Call (.Name x p) [.Lambda params body scope lpos, e] [] pos) (tLam2 T TT t te) := by
  refine ⟨fun pins s σ H Q I h => ?_⟩
  obtain ⟨hT, h⟩ := h
  refine wpAny_Call_Name_kw (ld_glob I hg hm ?_ hdb)
  refine PySem.W.callWith_K (h₀ := X.base) I.ok.mod.kin hk ?_ (by rfl) (by rw [hse]; rfl)
  show wpAny _ _ (spliced ((false, eval (.Lambda params body scope lpos) X.env) :: backTo pos (starEach [e] X.env))) _ _ s
  refine Calls.spliced_cons (lam_make2 I TB hcode hmT hu hT hdef (L.has I.ok) fun f c' pm' ctv H1 s' I1 eN T1 hf hfn hfr hco => ?_)
  have I2 : Inv X ((f, lamO X params body scope pm' c' ctv) :: pins) σ H1 s' := I1.pins_of fun q hq => by
    rcases List.mem_cons.mp hq with z | z
    · rw [z]
      rw [hst] at hfr
      exact ⟨hf, hfn, fun w => hfr (by rw [show f = _ from w]; exact List.mem_cons_self), fun w => hfr (List.mem_cons_of_mem _ w), fun v w => nomatch w⟩
    · exact I1.pin q (List.mem_append_right _ z)
  rw [hse]
  show wpAny _ _ (spliced ((false, eval e X.env) :: backTo pos (starEach [] X.env))) _ _ s'
  refine Calls.spliced_cons (thn (he.run _ s' σ H1 _ I2 (h H1 eN T1)) fun u s2 hh => ?_)
  obtain ⟨v, H2, I3, rv, rfl, hq⟩ := hh
  refine Calls.spliced_nil ⟨I3.kIn, ?_⟩
  have hf3 := ClX.pin_at I3
  have rc : codeAny (model X.prog X.w) X.A (.call (.ref g) ⟨[.ref f, u], []⟩) (CR CX0 X.stack X.prog X.w H2 s2 Q E0) s2 := by
    refine run_ofS (N := Ng) (ps := [a, a2]) (us := [.ref f, u]) (vs := [.ref f, v]) lk hcg Sg hr I3.env0 (hb s2 [.ref f, u] I3.kIn rfl) (.cons rfl (.cons rv .nil)) rfl fun hr' => ?_
    obtain ⟨t', ht', hq'⟩ := hG f c' s2 H2 Q v (fun E H' Q' => t E σ H' Q') hr' (guards_deeper hgd)
      (fun W pn xe p1 p2 tk => pe_act2 (i := 0) (ClX.unpin I3) L hf3 hfn hfr (hbind _ _ _ _ _) tk hr' (fun A outer s H E hr2 => hbody A outer s H E f c' hr2) hNg hva hd hcd) hco hq
    exact ⟨t', ht'.nox, hq'⟩
  refine wpAny_call (codeAny_mono rc fun r s3 hq => ?_)
  cases r with
  | error e => exact (show False from hq).elim
  | ok fl =>
    cases fl with
    | ret u => exact ClX.unpinE (I3.after hq)
    | next => exact False.elim hq
    | brk => exact False.elim hq
    | cont => exact False.elim hq
end
end RtL

set_option maxHeartbeats 1000000
/-! repr of a list whose items are shown each in its own way: data, objects of an own class, lists of these -/
namespace RtL
open PySem PySem.Spec PyProof.Rows L2 ErL
open PySem.Sem (wp)
open PySem.Builtin PySem.Builtin.List
/-- an item of the list at a, shown within the showing of that list at A -/
def ItA (X : Cx) (σ : L2.St) (H : Hp) (A : Around) (a : Addr) (v : V) (t : Str) : Prop := ∀ (rest : List Value) (pins : List (Addr × Obj)) (base : Nat) (E : Value → Shared → Prop) (s : Shared) (Q : Str → Shared → Prop) (u : Value),
  base + t.length ≤ sizeLine → RelV v u → Inv X pins σ H s → (∀ s', Inv X pins σ H s' → Q t s') → wpAny (model X.prog X.w) (A.under (.builtin "list.__repr__.loop" ⟨.ref a :: rest, []⟩)) (pyReprUnder base u) Q E s
section
variable {X : Cx} {k : Nat} {f C : Addr} {fd : FuncData} {sp : Sp} {ps : List Str} {pins : List (Addr × Obj)} {σ : L2.St} {H : Hp}
theorem loopA {A : Around} {a P : Addr} {vs : List V} {ts : List Str} {base : Nat} {R : Result → Shared → Prop} (ea : H a = some (.lst vs)) (hlen : ts.length = vs.length)
    (hT : ∀ (i : Nat) (v : V), vs[i]? = some v → ∃ t, ts[i]? = some t ∧ ItA X σ H A a v t) (hsz : base + (listText ts).length ≤ sizeLine)
    (h1 : P ∈ X.ex ∨ X.s_0.heap.objs.size ≤ P) (h2 : ∀ x c, X.env.cells.lookup x = some c → c ≠ P) (h3 : ∀ p ∈ X.pn ++ pins, p.1 ≠ P) (hR : ∀ s' u, Inv X pins σ H s' → R (.ok (.ret (.str (listText ts) u))) s') :
    ∀ (n i : Nat) (s : Shared) (acc : Array Value) (c : Nat) (done : List (Str × Tok)), vs.length - i = n → i ≤ vs.length → Inv X (pL P acc c :: pins) σ H s → acc.toList = strValues done → done.map (·.1) = ts.take i →
      codeAny (model X.prog X.w) A (.builtin "list.__repr__.loop" ⟨[.ref a, rawInt i, .ref P, rawInt ((base + piled (ts.take i) : Nat) : Int)], []⟩) R s := by
  have hX : (listText ts).length = (textFrom 0 "[" ts).length + 1 := by
    show (textFrom 0 "[" ts ++ "]").length = _
    rw [strLen_append]; rfl
  have hL := textFrom_len ts 0 "["
  have hsz1 : vs.length ≤ sizeLine := by
    have h1 := hL.1
    rw [if_neg (Nat.lt_irrefl 0)] at h1
    omega
  have hsz2 : ∀ t ∈ ts, t.length ≤ sizeLine := fun t ht => by
    have h2 := hL.2.1 t ht
    omega
  have hsz3 : (listText ts).length ≤ sizeLine := by omega
  have hp3 := piled_le_listText ts
  intro n
  induction n with
  | zero =>
    intro i s acc c done hk hi I hacc hdone
    obtain ⟨_, its, nn, rv, ho⟩ := (show ObjOk X.prog X.w H s.heap a (.lst vs) from I.hok a _ ea)
    have hin : i = its.length := by rw [← rv.length]; omega
    refine codeAny_builtin PySem.F.entry_list_repr_loop ?_
    show wpAny _ _ («list.__repr__.loop» ⟨[.ref a, .int i 0, .ref P, .int ((base + piled (ts.take i) : Nat) : Int) 0], []⟩) _ _ s
    rw [repr_loop_tree]
    refine wpAny_bind (wpAny_listItems ho rfl ?_)
    have hnone : its.toArray[(i : Int).toNat]? = none := by simp [hin]
    simp only [hnone]
    unfold reprEnd
    refine wpAny_bind (wpAny_listItems (ClX.pin_at I) rfl ?_)
    rw [hacc, repr_fold]
    refine wpAny_bind (wpAny_pure ?_)
    have hall : done.map (·.1) = ts := by rw [hdone, hin, ← rv.length, ← hlen, List.take_length]
    rw [hall]
    refine wpAny_bind (wpAny_mkStr (wpAny_pure ?_) hsz3)
    exact hR _ _ ((ClX.unpin I).tok _)
  | succ n ih =>
    intro i s acc c done hk hi I hacc hdone
    have hlt : i < vs.length := by omega
    obtain ⟨_, its, nn, rv, ho⟩ := (show ObjOk X.prog X.w H s.heap a (.lst vs) from I.hok a _ ea)
    have hlt' : i < its.length := by rw [← rv.length]; exact hlt
    obtain ⟨t, ht, hit⟩ := hT i vs[i] (by simp [hlt])
    obtain ⟨u, hu, ru⟩ := rv.get (i := i) (x := vs[i]) (by simp [hlt])
    have hp1 := piled_take_succ ht
    have hp2 := piled_take_le ts (i + 1)
    refine codeAny_builtin PySem.F.entry_list_repr_loop ?_
    show wpAny _ _ («list.__repr__.loop» ⟨[.ref a, .int i 0, .ref P, .int ((base + piled (ts.take i) : Nat) : Int) 0], []⟩) _ _ s
    rw [repr_loop_tree]
    refine wpAny_bind (wpAny_listItems ho rfl ?_)
    have hsome : its.toArray[(i : Int).toNat]? = some u := by
      rw [Int.toNat_natCast, List.getElem?_toArray]
      exact hu
    simp only [hsome]
    rw [Int.toNat_natCast]
    have go : ∀ s', Inv X (pL P acc c :: pins) σ H s' → wpAny (model X.prog X.w) (A.under (.builtin "list.__repr__.loop" ⟨[.ref a, .int i 0, .ref P, .int ((base + piled (ts.take i) : Nat) : Int) 0], []⟩)) (do
        let signs := base + piled (ts.take i) + (t.length + 2)
        let r ← mkStr t
        listUpdate (.ref P) (·.push r)
        again (.builtin "list.__repr__.loop" ⟨[.ref a, rawInt ((i : Int) + 1), .ref P, rawInt signs], []⟩))
        (fun fin s' => match fin with | .done fl => R (.ok fl) s' | .again c' => c'.quiet = true ∧ codeAny (model X.prog X.w) A c' R s') (fun e s' => R (.error e) s') s' := fun s' I' => by
      refine wpAny_bind (wpAny_mkStr ?_ (hsz2 t (List.mem_of_getElem? ht)))
      refine wpAny_bind ?_
      show wpAny _ _ (updateSeq P _) _ _ _
      have hasz : acc.size ≤ sizeLine := by
        have e1 : acc.toList.length = acc.size := by simp
        have e2 : (strValues done).length = done.length := by simp [strValues]
        have e3 : done.length = (ts.take i).length := by rw [← hdone, List.length_map]
        have e4 : (ts.take i).length ≤ i := by rw [List.length_take]; omega
        rw [hacc] at e1; omega
      refine wpAny_updateSeq (ClX.pin_at I') rfl (wpAny_pure ⟨PySem.F.quiet_list_repr_loop _, ?_⟩) hasz
      have e1 : ((i : Int) + 1) = ((i + 1 : Nat) : Int) := by omega
      have e2 : base + piled (ts.take i) + (t.length + 2) = base + piled (ts.take (i + 1)) := by omega
      rw [e1, e2]
      refine ih (i + 1) _ (acc.push (.str t s'.toks)) _ (done ++ [(t, s'.toks)]) (by omega) hlt (pin_push (I'.tok (s'.toks + 1)) h1 h2 h3 (fun b o hne e => (Heap.get?_update_other _ _ (fun h : P = b => hne h.symm)).trans e) (Heap.get?_update_self _ (ClX.pin_at I') rfl)) (by simp [hacc, strValues]) (by simp [List.take_add_one, ht, hdone])
    refine wpAny_bind (wpAny_holding (hit _ _ _ _ _ _ u (by omega) ru I fun s' I' => ?_))
    exact go s' I'
/-- what stands in such a list: a whole number, an own object, a truth value -/
def ShA (C : Addr) (sp : Sp) (H : Hp) (v : V) (t : Str) : Prop := ItT C sp H v t ∨ ∃ b : Bool, v = .bl b ∧ t = (if b = true then Str.ofString "True" else Str.ofString "False")
/-- .. or a list of these -/
def ShB (C : Addr) (sp : Sp) (H : Hp) (a : Addr) (v : V) (t : Str) : Prop := ShA C sp H v t ∨ ∃ l vs ts, v = .ref l ∧ l ≠ a ∧ H l = some (.lst vs) ∧ vs ≠ [] ∧ ts.length = vs.length ∧ (∀ (i : Nat) (w : V), vs[i]? = some w → ∃ t', ts[i]? = some t' ∧ ShA C sp H w t') ∧ t = listText ts
theorem itA_one (hs : PySem.W.findIn X.K (.ref C) "__repr__" = some (some (.ref f))) (hf : PySem.W.isFn X.K (.ref f) = true) (F : FnOk X.prog X.w X.K X.mg X.base CX0 k f fd ps sp) (hb : Binds X.K fd ps []) {A : Around} (hr : Room (k + 1) A)
    (e0 : ∀ (pins : List (Addr × Obj)) s, Inv X pins σ H s → Env0 X.prog X.w X.K X.mg X.base A X.stack s H) {a : Addr} {v : V} {t : Str} (h : ShA C sp H v t) : ItA X σ H A a v t := by
  intro rest pins base E s Q u hz ru I q
  rcases h with (⟨j, rfl, rfl, hlog⟩ | ⟨b, dx, fs, rfl, eb, hq⟩) | ⟨b, rfl, rfl⟩
  · obtain ⟨tk, rfl⟩ := (show ∃ tk, u = Value.int j tk from ru)
    exact ReprIs.int tk hlog base hz _ _ _ _ fun tk' => q _ (I.tok tk')
  · obtain rfl : u = Value.ref b := ru
    exact under_own hs hf F hb (Room.loop hr _) (Env0.loop (e0 _ s I) _) I eb hq (by omega) q
  · obtain rfl : u = Value.bool b := ru
    exact ReprIs.bool b base hz _ _ _ _ fun tk' => q _ (I.tok tk')
theorem itA_two (hs : PySem.W.findIn X.K (.ref C) "__repr__" = some (some (.ref f))) (hf : PySem.W.isFn X.K (.ref f) = true) (F : FnOk X.prog X.w X.K X.mg X.base CX0 k f fd ps sp) (hb : Binds X.K fd ps []) {A : Around} (hr : Room (k + 3) A) (hg : A.guards = some [])
    (e0 : ∀ (pins : List (Addr × Obj)) s, Inv X pins σ H s → Env0 X.prog X.w X.K X.mg X.base A X.stack s H) {a : Addr} {v : V} {t : Str} (h : ShB C sp H a v t) : ItA X σ H A a v t := by
  rcases h with h | ⟨l, vs, ts, rfl, hla, el, hne, hlen, hT, rfl⟩
  · exact itA_one hs hf F hb (hr.mono (by omega)) e0 h
  intro rest pins base E s Q u hz ru I q
  obtain rfl : u = Value.ref l := ru
  obtain ⟨_, its, nn, rv, ho⟩ := (show ObjOk X.prog X.w H s.heap l (.lst vs) from I.hok l _ el)
  have hr1 : Room (k + 2) (A.under (.builtin "list.__repr__.loop" ⟨.ref a :: rest, []⟩)) := Room.loop hr _
  have hg1 : (A.under (.builtin "list.__repr__.loop" ⟨.ref a :: rest, []⟩)).guards = some [.builtin "list.__repr__.loop" ⟨.ref a :: rest, []⟩] := guards_under_guard (isGuard_list_loop _) hg
  cases rv with
  | nil => exact absurd rfl hne
  | cons r1 r2 =>
    rename_i v vs x its
    refine wpAny_pyReprUnder_ref (by omega) ?_
    refine wpAny_pyReprObjUnder_twin (twin := "list.__repr__.under") ⟨_, ho, rfl⟩ PySem.F.slot_list_repr.toG rfl (by have := hr1.un; omega) ?_
    refine call_twin_plain PySem.F.plain_list_repr_under PySem.F.entry_list_repr_under PySem.F.check_list_repr_under ⟨_, ho, rfl⟩ PySem.F.slot_list_repr.toG (PySem.F.args_list_repr_1 _) ?_
    refine wpAny_list_repr_head hg1 (fun v' rest' kw hm => ?_) ho rfl ?_
    · cases List.mem_singleton.mp hm
      exact listSameRef_of_ne fun z => hla (Value.ref.inj z).symm
    refine wpAny_bind (m := newList []) (wpAny_newObj_type ?_)
    refine wpAny_pure ⟨PySem.F.quiet_list_repr_loop _, ?_⟩
    refine loopA (A := (A.under (.builtin "list.__repr__.loop" ⟨.ref a :: rest, []⟩))) (P := s.heap.objs.size) (base := base) el hlen (fun i w hw => ?_) (by omega) (.inr I.sz) (fun x c e z => ?_) (fun p hp z => ?_) (fun s' u I' => ?_) _ 0 _ #[] _ [] rfl (Nat.zero_le _) (ClX.pin_new I (fun b o e => Heap.get?_push_of_some _ e) (Nat.le_refl _) (Heap.get?_push_size _ rfl) (fun v z => nomatch z)) rfl (by simp)
    · obtain ⟨t', ht', hs'⟩ := hT i w hw
      exact ⟨t', ht', itA_one hs hf F hb (hr1.mono (by omega)) (fun pins s I => Env0.loop (e0 pins s I) _) hs'⟩
    · obtain ⟨v, o, hc, _⟩ := I.cell x c e
      rw [z] at hc
      exact absurd (Heap.lt_size hc) (Nat.lt_irrefl _)
    · have e := (I.pin p hp).1
      rw [z] at e
      exact absurd (Heap.lt_size e) (Nat.lt_irrefl _)
    · exact ⟨⟨_, _, rfl⟩, _, _, rfl, q s' I'⟩
/-- repr(xs), xs such a list -/
def rReprA (C : Addr) (sp : Sp) : List V → Hp → VK → Prop := fun xs H Q => ∃ a vs ts, xs = [.ref a] ∧ H a = some (.lst vs) ∧ vs ≠ [] ∧ ts.length = vs.length ∧ (∀ (i : Nat) (v : V), vs[i]? = some v → ∃ t, ts[i]? = some t ∧ ShB C sp H a v t) ∧
  (listText ts).length ≤ sizeLine ∧ Q (.str (listText ts)) H
theorem call_reprA (hs : PySem.W.findIn X.K (.ref C) "__repr__" = some (some (.ref f))) (hf : PySem.W.isFn X.K (.ref f) = true) (F : FnOk X.prog X.w X.K X.mg X.base CX0 k f fd ps sp) (hb : Binds X.K fd ps []) (hr : Room (k + 4) X.A) (hg : X.A.guards = some []) :
    CallR X (.builtin "repr") (rReprA C sp) := by
  intro pins s σ H xs us Q I r h
  obtain ⟨a, vs, ts, rfl, ea, hne, hlen, hT, hsz, q⟩ := h
  obtain ⟨u, rfl, rx⟩ := vals1 r
  cases (show u = Value.ref a from rx)
  obtain ⟨_, its, nn, rv, ho⟩ := (show ObjOk X.prog X.w H s.heap a (.lst vs) from I.hok a _ ea)
  cases rv with
  | nil => exact absurd rfl hne
  | cons r1 r2 =>
    rename_i v vs x l
    refine call_repr_slot (by have := hr.un; show X.A.units + 1 < cLine; omega) ⟨_, ho, rfl⟩ PySem.F.slot_list_repr.toG ?_
    refine wpAny_call (codeAny_call_builtin PySem.F.slot_list_repr.plain PySem.F.entry_list_repr (PySem.F.slot_list_repr.check _ _ _ _ _ _ _ _ ⟨_, ho, rfl⟩ (PySem.F.args_list_repr_1 _) ?_))
    refine wpAny_list_repr_head (g := []) hg (fun v rest kw hm => nomatch hm) ho rfl ?_
    refine wpAny_bind (m := newList []) (wpAny_newObj_type ?_)
    refine wpAny_pure ⟨PySem.F.quiet_list_repr_loop _, ?_⟩
    refine loopA (A := X.A.in1) (P := s.heap.objs.size) (base := 0) ea hlen (fun i w hw => ?_) (by omega) (.inr I.sz) (fun x c e z => ?_) (fun p hp z => ?_) (fun s' u I' => ?_) _ 0 _ #[] _ [] rfl (Nat.zero_le _) (ClX.pin_new I (fun b o e => Heap.get?_push_of_some _ e) (Nat.le_refl _) (Heap.get?_push_size _ rfl) (fun v z => nomatch z)) rfl (by simp)
    · obtain ⟨t', ht', hs'⟩ := hT i w hw
      exact ⟨t', ht', itA_two hs hf F hb hr.in1 hg (fun pins s I => I.env0.in1) hs'⟩
    · obtain ⟨v, o, hc, _⟩ := I.cell x c e
      rw [z] at hc
      exact absurd (Heap.lt_size hc) (Nat.lt_irrefl _)
    · have e := (I.pin p hp).1
      rw [z] at e
      exact absurd (Heap.lt_size e) (Nat.lt_irrefl _)
    · exact ⟨_, _, rfl, .str _, H, I', ⟨u, rfl⟩, q⟩
end
end RtL

set_option maxHeartbeats 1000000
/-! operators and == of an own class where the right operand is of another kind -/
namespace RtL
open PySem PySem.Spec PyProof.Rows L2
/-- None, a truth value, a text, a list, a tuple, a dict, and the name of its type -/
inductive OddV (H : Hp) : V → String → Prop
  | non : OddV H .non "NoneType"
  | bl (b : Bool) : OddV H (.bl b) "bool"
  | str (z : Str) : OddV H (.str z) "str"
  | lst {a : Addr} {xs : List V} (e : H a = some (.lst xs)) : OddV H (.ref a) "list"
  | tup {a : Addr} {xs : List V} (e : H a = some (.tup xs)) : OddV H (.ref a) "tuple"
  | dct {a : Addr} {kvs : List (Key × V)} (e : H a = some (.dK kvs)) : OddV H (.ref a) "dict"
def oddT : List String := ["NoneType", "bool", "str", "list", "tuple", "dict"]
theorem OddV.mem {H : Hp} {v : V} {t : String} (h : OddV H v t) : t ∈ oddT := by cases h <;> decide
theorem OddV.same {H H' : Hp} {v : V} {t : String} (h : OddV H v t) (s : Same H H') : OddV H' v t := by
  cases h with
  | non => exact .non
  | bl b => exact .bl b
  | str z => exact .str z
  | lst e => exact .lst (s _ _ e)
  | tup e => exact .tup (s _ _ e)
  | dct e => exact .dct (s _ _ e)
theorem OddV.ty {K : PySem.W.Frag} {H : Hp} {v : V} {t : String} (h : OddV H v t) : TyX K H v (.type t) := by
  cases h with
  | non => exact .base .non
  | bl b => exact .base (.bl b)
  | str z => exact .base (.str z)
  | lst e => exact .base (.lst e)
  | tup e => exact .base (.tup e)
  | dct e => exact .base (.dK e)
theorem looks_at {M : Model} {h : Heap} {a : Addr} {o : Obj} {c : Value} (e : h.get? a = some o) (hc : o.cls = c) : PySem.W.Looks M h (typeOf (.ref a)) c := fun A Q E s k q => wpAny_typeOf_ref (k _ _ e) (by rw [hc]; exact q)
theorem OddV.looks {X : Cx} {pins : List (Addr × Obj)} {σ : L2.St} {H : Hp} {s : Shared} {M : Model} {v : V} {u : Value} {t : String} (I : Inv X pins σ H s) (h : OddV H v t) (r : RelV v u) : PySem.W.Looks M s.heap (typeOf u) (.type t) := by
  cases h with
  | non => cases (show u = Value.none from r); exact PySem.W.Looks.of_pure rfl
  | bl b => cases (show u = Value.bool b from r); exact PySem.W.Looks.of_pure rfl
  | str z => obtain ⟨tk, rfl⟩ := (show ∃ tk, u = Value.str z tk from r); exact PySem.W.Looks.of_pure rfl
  | @lst a xs e =>
    cases (show u = Value.ref a from r)
    obtain ⟨_, its, n, rv, ho⟩ := (show ObjOk X.prog X.w H s.heap a (.lst xs) from I.hok a _ e)
    exact looks_at ho rfl
  | @tup a xs e =>
    cases (show u = Value.ref a from r)
    obtain ⟨_, its, rv, o, ho, hc, n, hd⟩ := (show ObjOk X.prog X.w H s.heap a (.tup xs) from I.hok a _ e)
    exact looks_at ho hc
  | @dct a kvs e =>
    cases (show u = Value.ref a from r)
    obtain ⟨_, _, vs, rv, o, es, ep, ho, hx, _⟩ := (show ObjOk X.prog X.w H s.heap a (.dK kvs) from I.hok a _ e)
    exact looks_at ho hx.1
section
variable {prog : Program} {w : World} {K : PySem.W.Frag} {A : Around} {E : Value → Shared → Prop} {s : Shared} {x f C L : Addr} {h₀ : Heap} {m : Str → Option Value} {ox : Obj} {od : Option Obj} {T : String}
open PySem.W in
/-- a binary operator by the method of the left one's class, the right one of a built-in type -/
theorem bin_L {op : Operator} {b : Value} {fo ro rc : Option Value} {Q : Value → Shared → Prop} (X : K.In s.heap) (I : InstAt s.heap x ox C od) (tb : Looks (model prog w) s.heap (typeOf b) (.type T)) (hc : selfFirst K C = true)
    (hs : findIn K (.ref C) (PySem.dunder op.info.2) = some (some (.ref f))) (hf : isFn K (.ref f) = true) (hr : findIn K (.ref C) (dunderR op.info.2) = some rc) (hp : rc = none ∨ ∃ g : Addr, rc = some (.ref g))
    (h1 : findIn K (.type T) (PySem.dunder op.info.2) = some fo) (h2 : findIn K (.type T) (dunderR op.info.2) = some ro) (hsub : subIn K (.type T) (.ref C) = some false)
    (h : wpAny (model prog w) A (call (.ref f) [.ref x, b]) (PySem.W.CmpBack Q) E s) : wpAny (model prog w) A (binaryOp op (.ref x) b) Q E s := by
  obtain ⟨cd, rest, hcd, hm⟩ := ksp_first hc
  rcases hi : op.info with ⟨sym, nn⟩
  rw [hi] at hs hr h1 h2
  dsimp only at hs hr h1 h2
  have got := ksp_try X I hs hf h
  obtain ⟨hh, g, d, tt, os⟩ := s
  have t1 : Looks (model prog w) hh (typeOf (.ref x)) (.ref C) := I.type
  have t2 : Looks (model prog w) hh (typeOf b) (.type T) := tb
  have t3 : Looks (model prog w) hh (fillsNumberSlot (.ref C) nn) true := fills_K X hcd hm hs
  have t4 : Looks (model prog w) hh (fillsNumberSlot (.type T) nn) ((fo.isSome && !isSeqSlot fo) || (ro.isSome && !isSeqSlot ro)) := ksp_fillsT X h1 h2
  have t5 : Looks (model prog w) hh (isSubtype (.type T) (.ref C)) false := looks_subIn X hsub
  have t6 : Looks (model prog w) hh (numberSlotInPython (.ref C) nn) true := ksp_inPy X hs hr hp
  have t7 : Looks (model prog w) hh (numberSlotInPython (.type T) nn) false := Looks.of_pure rfl
  have t8 : Looks (model prog w) hh (typeLookup (.type T) (dunderR nn)) ro := looks_findIn X h2
  generalize ((fo.isSome && !isSeqSlot fo) || (ro.isSome && !isSeqSlot ro)) = rt at t4
  have ne : (Value.ref C == Value.type T) = false := Bool.eq_false_iff.mpr fun q => by cases beq_iff_eq.mp q
  simp only [binaryOp, hi]
  refine wpAny_holding (wpAny_bind ?_)
  unfold binaryOp1
  refine wpAny_bind (t1.at (wpAny_bind (t2.at (wpAny_bind (t3.at ?_)))))
  simp only [ne, Bool.false_eq_true, if_false]
  cases rt <;> (
    ksp_lk
    refine wpAny_mono got (fun r s' z => ?_) fun _ _ e => e
    obtain ⟨v, rfl, hq⟩ := z
    ksp_lk
    exact hq)
end
section
variable {X : Cx} {CX : CXT} {k : Nat} {f C : Addr} {fd : FuncData} {sp : Sp} {E : XK} {ps : List Str}
/-- x op y, y one of these -/
def rOddBin (C : Addr) (sp : Sp) (E : XK) : R2 := fun x y H Q => ∃ a dx fs t, x = .ref a ∧ H a = some (.ins C dx fs) ∧ OddV H y t ∧ sp [.ref a, y] H Q E
def opB (K : PySem.W.Frag) (op : Operator) : Bool := oddT.all fun t => (PySem.W.findIn K (.type t) (PySem.dunder op.info.2)).isSome && (PySem.W.findIn K (.type t) (PySem.dunderR op.info.2)).isSome
theorem op_oddBin {op : Operator} (O : OpOf X.K C f (PySem.dunder op.info.2) (PySem.dunderR op.info.2)) (nt : ∀ t ∈ oddT, PySem.W.subIn X.K (.type t) (.ref C) = some false) (hB : opB X.K op = true)
    (F : FnOk X.prog X.w X.K X.mg X.base CX k f fd ps sp) (hr : Room k X.A) (hb : Binds X.K fd ps []) (hx : Passes CX X E) : OpR X (binaryOp op) (rOddBin C sp E) := by
  intro pins s σ H x y v u Q I rx ry h
  obtain ⟨a, dx, fs, t, rfl, ha, hy, q⟩ := h
  cases (show v = Value.ref a from rx)
  obtain ⟨mA, oa, _⟩ := ins_get I.hok ha
  obtain ⟨od, J, _⟩ := oa.look
  obtain ⟨z1, z2⟩ := He.ba (List.all_eq_true.mp hB t hy.mem)
  obtain ⟨fo, e1⟩ := Option.isSome_iff_exists.mp z1
  obtain ⟨ro, e2⟩ := Option.isSome_iff_exists.mp z2
  refine bin_L I.kIn J (hy.looks I ry) O.me O.at_ O.fn O.re (.inl rfl) e1 e2 (nt t hy.mem) ?_
  exact wpAny_mono (run_fn F hr hb .nil hx I (us := [.ref a, u]) (vs := [.ref a, y]) (.cons rfl (.cons ry .nil)) q) (fun w s' z => (by
    obtain ⟨z', H', I', rz, qz⟩ := z
    exact SlX.cmpback rz ⟨z', H', I', rz, qz⟩ : PySem.W.CmpBack (EP X pins σ Q) w s')) fun _ _ x => x
def rAllBin (C : Addr) (sp : Sp) (E : XK) : R2 := fun x y H Q => rOwnBin C sp E x y H Q ∨ rOddBin C sp E x y H Q
theorem op_allBin {op : Operator} {fo ro : Option Value} (O : OpOf X.K C f (PySem.dunder op.info.2) (PySem.dunderR op.info.2)) (h1 : PySem.W.findIn X.K (.type "int") (PySem.dunder op.info.2) = some fo) (h2 : PySem.W.findIn X.K (.type "int") (PySem.dunderR op.info.2) = some ro)
    (nt : ∀ t ∈ oddT, PySem.W.subIn X.K (.type t) (.ref C) = some false) (hB : opB X.K op = true) (F : FnOk X.prog X.w X.K X.mg X.base CX k f fd ps sp) (hr : Room k X.A) (hb : Binds X.K fd ps []) (hx : Passes CX X E) : OpR X (binaryOp op) (rAllBin C sp E) := by
  intro pins s σ H x y v u Q I rx ry h
  rcases h with h | h
  · exact op_ownBin O h1 h2 F hr hb hx pins s σ H x y v u Q I rx ry h
  · exact op_oddBin O nt hB F hr hb hx pins s σ H x y v u Q I rx ry h
/-- x == y, y one of these, a whole number, or of the same class -/
def rEqAll (C : Addr) (sp : Sp) (E : XK) : R2 := fun x y H Q => rOwnEq C sp E x y H Q ∨ ∃ a dx fs t, x = .ref a ∧ H a = some (.ins C dx fs) ∧ OddV H y t ∧ sp [.ref a, y] H Q E
theorem op_eqAll (O : EqOf X.K C f) (nt : ∀ t ∈ oddT, PySem.W.subIn X.K (.type t) (.ref C) = some false) (F : FnOk X.prog X.w X.K X.mg X.base CX k f fd ps sp) (hr : Room k X.A) (hb : Binds X.K fd ps []) (hx : Passes CX X E) : OpR X (compareOp .Eq) (rEqAll C sp E) := by
  intro pins s σ H x y v u Q I rx ry h
  rcases h with h | ⟨a, dx, fs, t, rfl, ha, hy, q⟩
  · exact op_ownEq O F hr hb hx pins s σ H x y v u Q I rx ry h
  cases (show v = Value.ref a from rx)
  obtain ⟨mA, oa, _⟩ := ins_get I.hok ha
  obtain ⟨od, J, _⟩ := oa.look
  obtain ⟨m, hF⟩ := I.fr
  show wpAny _ _ (richCompare .Eq _ _) _ _ _
  refine PySem.W.cmp_K (op := .Eq) (tb := .type t) hr.units0 hF I.ok.mod.kin J (hy.looks I ry) (by unfold PySem.W.notFirst; rw [nt t hy.mem]; simp) O.at_ O.fn ?_
  exact wpAny_mono (run_fn F hr hb .nil hx I (us := [.ref a, u]) (vs := [.ref a, y]) (.cons rfl (.cons ry .nil)) q) (fun w s' z => (by
    obtain ⟨z', H', I', rz, qz⟩ := z
    exact SlX.cmpback rz ⟨z', H', I', rz, qz⟩ : PySem.W.CmpBack (EP X pins σ Q) w s')) fun _ _ x => x
end
end RtL

set_option maxHeartbeats 4000000
namespace RtL
open PySem PySem.Spec PyProof.Rows L2
section
variable {X : Cx} {CX : CXT} {k : Nat} {f C : Addr} {fd : FuncData} {ps : List Str} {sp : Sp} {E : L2.St → XK} {m : Str} {pos apos : Pos} {e o : Expr} {es : List Expr} {ta : TE} {t : TA} {pl : Sem Bool}
/-- o.m(..) of an instance, where what it raises is told by the slots -/
def tMex (C : Addr) (m : Str) (sp : Sp) (E : L2.St → XK) (ta : TE) (t : TA) : TE := fun σ H Q => ta σ H fun y H1 => ∃ b dy gs, y = .ref b ∧ H1 b = some (.ins C dy gs) ∧ gs.lookup m = none ∧ t σ H1 fun ws H2 => sp (.ref b :: ws) H2 Q (E σ)
theorem pe_mex (he : PE X o ta) (c : Cls X.K C) (hm : Meth X.K C m f) (F : FnOk X.prog X.w X.K X.mg X.base CX k f fd ps sp) (hr : Room k X.A) (hb : Binds X.K fd ps []) (hx : ∀ σ, PassesAt CX X σ (E σ)) (ha : PA X (e :: es) t)
    (hst : starEach (e :: es) X.env = (false, eval e X.env) :: starEach es X.env := by rfl) (hpl : (backTo pos (starEach es X.env)).any (·.1) = false := by rfl)
    (ht : eval (.Call (.Attribute o m apos) (e :: es) [] pos) X.env = (do
      let ov ← eval o X.env
      standAt apos.atName
      let (g, first) ← holding [ov] (getMethod ov m pl)
      callWith pos g first (backTo pos (starEach (e :: es) X.env)) (backToKw pos (keywordEach [] X.env))) := by rfl) :
    PE X (.Call (.Attribute o m apos) (e :: es) [] pos) (tMex C m sp E ta t) := by
  refine ⟨fun pins s σ H Q I h => ?_⟩
  refine PySem.W.methodCall_KW (pl := pl) (thn (he.run pins s σ H _ I h) fun u s1 hh => ?_) ht
  obtain ⟨y, H1, I1, ry, b, dy, gs, rfl, eb, l, q⟩ := hh
  obtain rfl : u = Value.ref b := ry
  refine getmeth_ok I1 eb c hm l ?_
  refine PySem.W.callWith_K (first := [.ref b]) (h₀ := X.base) I.ok.mod.kin hm.kp (thn (ha.run pos pins s1 σ H1 _ I1 q) fun us s2 hh2 => ?_) hst hpl
  obtain ⟨ws, H2, I2, r, q2⟩ := hh2
  exact ⟨I2.kIn, run_fnS (us := .ref b :: us) (vs := .ref b :: ws) F hr hb (hx σ) I2 (.cons rfl r) q2⟩
end
end RtL

set_option maxHeartbeats 4000000
namespace K70
open PySem PySem.Spec PyProof.Rows L2 RtL ErL StX
/-! ### the mathematics -/
/-- without the noughts at the end -/
def pl : List Int → List Int
  | [] => []
  | c :: cs => match pl cs with
    | [] => if c = 0 then [] else [c]
    | d :: ds => c :: d :: ds
theorem pl_zero : ∀ xs : List Int, pl (xs ++ [0]) = pl xs
  | [] => by simp [pl]
  | c :: cs => by
    show pl (c :: (cs ++ [0])) = pl (c :: cs)
    unfold pl
    rw [pl_zero cs]
theorem pl_last : ∀ (xs : List Int) {c : Int}, c ≠ 0 → pl (xs ++ [c]) = xs ++ [c]
  | [], c, h => by simp [pl, h]
  | x :: xs, c, h => by
    show pl (x :: (xs ++ [c])) = x :: (xs ++ [c])
    unfold pl
    rw [pl_last xs h]
    cases xs <;> rfl
theorem pl_nil : pl [] = [] := rfl
abbrev Bd (n : Nat) (i : Int) : Prop := i.natAbs < 2 ^ n
theorem take_succ' {cs : List Int} {m : Nat} {x : Int} (h : cs[m]? = some x) : cs.take (m + 1) = cs.take m ++ [x] := by
  rw [List.take_add_one, h]
  rfl
theorem pl_length : ∀ xs : List Int, (pl xs).length ≤ xs.length
  | [] => Nat.le_refl _
  | c :: cs => by
    have h := pl_length cs
    unfold pl
    split
    · split <;> simp
    · rename_i d ds e
      rw [e] at h
      simp only [List.length_cons] at h ⊢
      omega
/-! ### a ratio, a polynomial in the heap -/
def RatAt (K : Fr) (H : Hp) (a : Addr) (t b : Int) : Prop := ∃ dx, H a = some (.ins (RC K) dx [("_top", .int t), ("_bottom", .int b)])
theorem RatAt.same {K : Fr} {H H' : Hp} {a : Addr} {t b : Int} (h : RatAt K H a t b) (s : Same H H') : RatAt K H' a t b := by
  obtain ⟨dx, e⟩ := h
  exact ⟨dx, s _ _ e⟩
def PolAt (K : Fr) (H : Hp) (a : Addr) (cs : List Int) : Prop := ∃ dx t, H a = some (.ins (PC K) dx [("_coefficients", .ref t)]) ∧ H t = some (.tup (cs.map V.int))
theorem PolAt.same {K : Fr} {H H' : Hp} {a : Addr} {cs : List Int} (h : PolAt K H a cs) (s : Same H H') : PolAt K H' a cs := by
  obtain ⟨dx, t, e, e2⟩ := h
  exact ⟨dx, t, s _ _ e, s _ _ e2⟩
theorem same_new {H : Hp} {p : Addr} {o : HO} (hp : H p = none) : Same H (upd H p o) := fun b u e => by
  rw [upd_ne (ne_of_none e hp)]
  exact e
theorem gone {H H1 : Hp} {p : Addr} (s : Same H H1) (h : H1 p = none) : H p = none := by
  cases z : H p with
  | none => rfl
  | some o =>
    rw [s _ _ z] at h
    cases h
section
variable {P : Program} {w : World} {K : Fr} {mg : Str → Option Value} {base : Heap} {f : Addr} {fd : FuncData}
theorem TT.fre (T : TT K mg) {x : Str} (h : x ∈ fr := by decide) : mg x = none := T.free x h
/-- a def that can be called by its name, wherever -/
structure Gd (P : Program) (w : World) (K : Fr) (mg : Str → Option Value) (base : Heap) (k : Nat) (x : Str) (f : Addr) (fd : FuncData) (ps : List Str) (sp : Sp) : Prop where
  ok : FnOk P w K mg base CX0 k f fd ps sp
  gl : mg x = some (.ref f)
  kp : PySem.W.keepIn K (.ref f) = true
  bd : Binds K fd ps []
/-- a method or a getter of the class -/
structure Md (P : Program) (w : World) (K : Fr) (mg : Str → Option Value) (base : Heap) (k : Nat) (f : Addr) (fd : FuncData) (ps : List Str) (sp : Sp) : Prop where
  ok : FnOk P w K mg base CX0 k f fd ps sp
  bd : Binds K fd ps []
section
variable {X : Cx} {k : Nat} {x : Str} {p pos : Pos} {e : Expr} {es : List Expr} {t : TA} {ps : List Str} {sp : Sp}
theorem pe_gd (C : Gd X.prog X.w X.K X.mg X.base k x f fd ps sp) (hr : Room k X.A) (hg : Gl X x) (ha : PA X (e :: es) t) (hdb : (x == ("__debug__" : Str)) = false := by decide) (he : starEach (e :: es) X.env = (false, eval e X.env) :: starEach es X.env := by rfl)
    (hpl : (backTo pos (starEach es X.env)).any (·.1) = false := by rfl) : PE X (.Call (.Name x p) (e :: es) [] pos) (tCall sp [] E0 t) := pe_call C.ok hr hg C.gl C.kp C.bd .nil pass0 ha hdb he hpl
end
/-! ### is_an_integer -/
/-- what is no whole number -/
def Odd (K : Fr) (H : Hp) (v : V) : Prop := (∃ t, OddV H v t) ∨ ∃ a t b, v = .ref a ∧ RatAt K H a t b
theorem Odd.same {H H' : Hp} {v : V} (h : Odd K H v) (s : Same H H') : Odd K H' v := by
  rcases h with ⟨t, o⟩ | ⟨a, t, b, e, r⟩
  · exact .inl ⟨t, o.same s⟩
  · exact .inr ⟨a, t, b, e, r.same s⟩
abbrev s_isint : Stmt := top 7
theorem sc_isint : FnScope ["value"] ["value"] (defScope s_isint) := ⟨rfl, rfl, rfl, by decide +kernel, rfl, by decide +kernel, by decide +kernel⟩
def spIsint (K : Fr) : Sp := fun vs H Q _ => ∃ v, vs = [v] ∧ ((∃ i, v = .int i ∧ Q (.bl true) H) ∨ (Odd K H v ∧ Q (.bl false) H))
theorem ok_isint (F : FunD K "is_an_integer" "is_an_integer" (defArgs s_isint) (defBody s_isint) (defScope s_isint) [] [] f fd) (T : TT K mg) : FnOk P w K mg base CX0 1 f fd ["value"] (spIsint K) := by
  refine F.ok sc_isint (fun vs H Q E h => ?_) (fun cdv A outer s H vs Q E hr h => ?_)
  · obtain ⟨v, rfl, _⟩ := h
    rfl
  · obtain ⟨v, rfl, h⟩ := h
    refine ⟨_, PSs.nox (pss_one (ps_ret (pe_and (pe_callB call_isi (by rfl) T.fre (by decide +kernel) (pa_cons (pv 0) (pa_cons (pe_bltn (v := .ty "int") (u := .type "int") (by rfl) T.fre (by decide +kernel) rfl) pa_nil)))
      (pe_one (pe_not (pe_callB call_isi (by rfl) T.fre (by decide +kernel) (pa_cons (pv 0) (pa_cons (pe_bltn (v := .ty "bool") (u := .type "bool") (by rfl) T.fre (by decide +kernel) rfl) pa_nil)))))))), ?_⟩
    rcases h with ⟨i, rfl, q⟩ | ⟨⟨t, od⟩ | ⟨a, t, b, rfl, dx, ea⟩, q⟩
    · exact ⟨_, rfl, _, _, _, _, true, rfl, .ty "int", .base (.int i), kit_ty rfl, true, rfl, iteT ⟨_, rfl, _, _, _, _, false, rfl, .ty "bool", .base (.int i), kit_ty rfl, false, rfl, q⟩⟩
    · have ty := od.ty (K := K)
      have ht := od.mem
      simp only [RtL.oddT, List.mem_cons, List.not_mem_nil, or_false] at ht
      rcases ht with rfl | rfl | rfl | rfl | rfl | rfl
      · exact ⟨_, rfl, _, _, _, _, false, rfl, .ty "int", ty, kit_ty rfl, false, rfl, iteF q⟩
      · exact ⟨_, rfl, _, _, _, _, true, rfl, .ty "int", ty, kit_ty rfl, true, rfl, iteT ⟨_, rfl, _, _, _, _, true, rfl, .ty "bool", ty, kit_ty rfl, true, rfl, q⟩⟩
      · exact ⟨_, rfl, _, _, _, _, false, rfl, .ty "int", ty, kit_ty rfl, false, rfl, iteF q⟩
      · exact ⟨_, rfl, _, _, _, _, false, rfl, .ty "int", ty, kit_ty rfl, false, rfl, iteF q⟩
      · exact ⟨_, rfl, _, _, _, _, false, rfl, .ty "int", ty, kit_ty rfl, false, rfl, iteF q⟩
      · exact ⟨_, rfl, _, _, _, _, false, rfl, .ty "int", ty, kit_ty rfl, false, rfl, iteF q⟩
    · exact ⟨_, rfl, _, _, _, _, false, rfl, .ty "int", T.ty ea, T.kitI, false, rfl, iteF q⟩
abbrev IsintG (P : Program) (w : World) (K : Fr) (mg : Str → Option Value) (base : Heap) : Prop := ∃ f d, Gd P w K mg base 1 "is_an_integer" f d ["value"] (spIsint K)
/-! ### Polynomial.__init__ -/
abbrev s_init : Stmt := inP 0
theorem sc_init : FnScope ["self", "coefficients", "coefficient", "many"] ["self", "coefficients"] (defScope s_init) := ⟨rfl, rfl, rfl, by decide +kernel, rfl, by decide +kernel, by decide +kernel⟩
/-- behind the binding: self and the tuple -/
def spInit1 (K : Fr) : Sp := fun vs H Q _ => ∃ (a dx p : Addr) (cs : List Int), vs = [.ref a, .ref p] ∧ cs.length ≤ 1000 ∧ H a = some (.ins (PC K) dx []) ∧ H p = some (.tup (cs.map V.int)) ∧
  ∀ t H', Same H H' → H' t = some (.tup ((pl cs).map V.int)) → Q .non (upd H' a (.ins (PC K) dx [("_coefficients", .ref t)]))
def spInit (K : Fr) : Sp := fun vs H Q _ => ∃ (a dx : Addr) (cs : List Int), vs = .ref a :: cs.map V.int ∧ cs.length ≤ 1000 ∧ H a = some (.ins (PC K) dx []) ∧
  ∀ t H', Same H H' → H' t = some (.tup ((pl cs).map V.int)) → Q .non (upd H' a (.ins (PC K) dx [("_coefficients", .ref t)]))
theorem getm {cs : List Int} {i : Nat} {v : V} (h : (cs.map V.int)[i]? = some v) : ∃ c, cs[i]? = some c ∧ v = .int c := by
  rw [List.getElem?_map] at h
  cases e : cs[i]? with
  | none => rw [e] at h; cases h
  | some c =>
    rw [e] at h
    cases h
    exact ⟨c, rfl, rfl⟩
theorem getM {cs : List Int} {i : Nat} {c : Int} (h : cs[i]? = some c) : (cs.map V.int)[i]? = some (V.int c) := by rw [List.getElem?_map, h]; rfl
theorem hbI {kV doc pm cdv ct : Value} {an : Option Addr} {q : Str} : ∀ us rest : List Value, us.length = (["self"] : List Str).length → bindArgs (PySem.W.fnOf "__init__" q (defArgs s_init) (defBody s_init) (defScope s_init) Value.none kV doc pm an cdv ct) ⟨us ++ rest, []⟩ = (newTuple rest >>= fun t => pure ((["self"] : List Str).zip us ++ [(("coefficients" : Str), t)])) :=
  StX.bind_star1 (B := fun vs => bindArgs (PySem.W.fnOf "__init__" q (defArgs s_init) (defBody s_init) (defScope s_init) Value.none kV doc pm an cdv ct) ⟨vs, []⟩) (fun a => by rfl) (fun a r rs => by rfl)
theorem ok_init {q : Str} (F : FunD K "__init__" q (defArgs s_init) (defBody s_init) (defScope s_init) [] [] f fd) (T : TT K mg) (G : IsintG P w K mg base) : FnR P w K mg base CX0 2 f (spInit K) := by
  obtain ⟨fI, dI, GI⟩ := G
  obtain ⟨oc, od, dV, kV, doc, pm', an, cdv, ct, osl, rfl, lk, hcd, hdv, _⟩ := F.ex
  obtain rfl : dV = Value.none := hdv.elim (fun z => z.2) fun z => absurd rfl z.1
  refine FnR.imp (StX.fn_star (P := P) (w := w) (mg := mg) (base := base) (CX := CX0) (k := 1) (sp := spInit1 K) (pv := "coefficients") (ps := ["self"]) lk hcd sc_init StX.cxUp_none hbI (fun A outer s H vs Q E hr h => ?_)) (fun vs H Q E h => ?_)
  rotate_left
  · obtain ⟨a, dx, cs, rfl, hl, ea, q⟩ := h
    refine ⟨[.ref a], cs.map V.int, rfl, rfl, by rw [List.length_map, sizeLine_eq]; omega, fun p hp => ⟨a, dx, p, cs, rfl, hl, ?_, upd_same, fun t H' s' e' => q t H' ((same_new hp).trans s') e'⟩⟩
    rw [upd_ne (ne_of_none ea hp)]
    exact ea
  · obtain ⟨a, dx, p, cs, rfl, hl, ea, ep, q⟩ := h
    refine ⟨_, PSs.nox (pss_cons (ps_for PassesOwn.never rfl (pi_tup (pv 1)) (pg_name (i := 2) sc_init.nd rfl (Or.inl rfl)) (pss_one (ps_if (pt_not (pt_val (pe_gd GI hr (by rfl) (pa_cons (pv 2) pa_nil)))) (pss_one ps_never) pss_nil)))
      (pss_cons (ps_set (i := 3) sc_init.nd rfl (Or.inl rfl) (pe_callB call_len_seq (by rfl) T.fre (by decide +kernel) (pa_cons (pv 1) pa_nil)))
      (pss_cons (ps_while PassesOwn.never (PW.pt (pw_and (pt_cmpR op_gt (pv 3) pe_int (nomark _)) (pw_and1 (pt_cmpR op_eq (pe_ix ix_tup (pv 1) (pe_op op_sub (pv 3) pe_int) (fun _ _ => rfl)) pe_int (nomark _))))) (pss_one (ps_aug (i := 3) sc_init.nd rfl (Or.inl rfl) pe_int ip_sub)))
      (pss_one (ps_fld (pv 0) (pe_slice sl_tupA (pv 1) po_none (po_some (pv 3))) (by rfl)))))), ?_⟩
    refine ⟨_, rfl, p, rfl, ⟨_, SqT.of ep⟩, for_tup (xs := cs.map V.int) (fun i σ H2 => H2 = H ∧ ∃ v, σ = [some (.ref a), some (.ref p), v, none]) ⟨rfl, none, rfl⟩ (fun i σ H2 _ ⟨e, _⟩ => by rw [e]; exact SqT.of ep) ?_ ?_⟩
    · rintro i x σ H2 hi ⟨rfl, v, rfl⟩
      obtain ⟨c, hc, rfl⟩ := getm hi
      exact ⟨_, rfl, _, rfl, .inl ⟨c, rfl, true, rfl, iteF ⟨rfl, _, rfl⟩⟩⟩
    · rintro σ H2 ⟨rfl, v, rfl⟩
      refine ⟨_, rfl, p, _, rfl, .inr (SqT.of ep), ?_⟩
      refine ⟨fun m σ H3 => H3 = H2 ∧ (∃ v, σ = [some (.ref a), some (.ref p), v, some (.int (m : Nat))]) ∧ m ≤ cs.length ∧ pl (cs.take m) = pl cs, ⟨cs.length, rfl, ⟨v, by rw [List.length_map]; rfl⟩, Nat.le_refl _, by rw [List.take_length]⟩, ?_⟩
      rintro m σ H3 ⟨rfl, ⟨v, rfl⟩, hm, hpl⟩
      have fin : pl cs = cs.take m → sFld K (tVar 0) (tSl (rSlA K) (tVar 1) tNoPart (tPart (tVar 3))) "_coefficients" { nx := fun x H' => Q V.non H', rt := Q } [some (.ref a), some (.ref p), v, some (.int (m : Nat))] H3 := fun e => by
        have lo : HT.sIx (cs.map V.int).length 0 none = 0 := rfl
        have hi : HT.sIx (cs.map V.int).length (cs.map V.int).length (some (m : Int)) = m := by
          rw [HT.sIx_nat, List.length_map]
          exact Nat.min_eq_left hm
        refine ⟨_, rfl, _, rfl, (m : Int), rfl, p, _, rfl, SqT.of ep, fun z => ?_, fun z p2 np => ?_⟩
        · have hz : m = cs.length := by
            have := z.2
            rw [hi, List.length_map] at this
            exact this
          refine ⟨_, rfl, a, _, dx, _, rfl, ea, T.clP, T.nC, by show 0 < 1000; decide, ?_⟩
          refine q p _ (Same.refl _) ?_
          rw [e, hz, List.take_length]
          exact ep
        · refine ⟨_, rfl, a, _, dx, _, rfl, same_new np _ _ ea, T.clP, T.nC, by show 0 < 1000; decide, ?_⟩
          refine q p2 _ (same_new np) ?_
          rw [upd_same]
          unfold cutV
          rw [lo, hi, e, List.drop_zero, Nat.sub_zero, List.map_take]
      refine ⟨_, rfl, (m : Int), 0, rfl, rfl, _, rfl, ite2 (fun h => ?_) (fun h => ?_)⟩
      · have h0 : (0 : Int) < m := of_decide_eq_true h
        obtain ⟨k, rfl⟩ : ∃ k, m = k + 1 := ⟨m - 1, by omega⟩
        have hk : k < cs.length := by omega
        have hc : cs[k]? = some cs[k] := by simp [hk]
        have e1 : ((k + 1 : Nat) : Int) - 1 = (k : Int) := by omega
        refine ⟨_, rfl, _, rfl, ((k + 1 : Nat) : Int), 1, rfl, rfl, p, _, _, _, rfl, rfl, SqT.of ep, by rw [e1]; exact atI_nat (getM hc), rfl, _, rfl, ite2 (fun h2 => ?_) (fun h2 => ?_)⟩
        · have z : cs[k] = 0 := by
            have y := of_decide_eq_true h2
            injection y
          refine ⟨_, fun σ' H' z => ⟨k, Nat.lt_succ_self k, z⟩, ?_⟩
          refine ⟨_, rfl, ((k + 1 : Nat) : Int), 1, rfl, rfl, rfl, ⟨v, by show [_, _, _, some (V.int (((k + 1 : Nat) : Int) - 1))] = _; rw [e1]⟩, by omega, ?_⟩
          rw [← hpl, take_succ' hc, z, pl_zero]
        · have z : cs[k] ≠ 0 := fun y => h2 (decide_eq_true (by rw [y]))
          exact fin (by rw [← hpl, take_succ' hc, pl_last _ z])
      · have z : m = 0 := by
          have : ¬ (0 : Int) < m := fun y => h (decide_eq_true y)
          omega
        subst z
        exact fin (by rw [← hpl]; rfl)
end
end K70

set_option maxHeartbeats 4000000
namespace K70
open PySem PySem.Spec PyProof.Rows L2 RtL ErL StX
/-! ### C(*y) -/
section
variable {X : Cx} {CX : CXT} {k : Nat} {f C : Addr} {sp : Sp} {E : XK} {x : Str} {e : Expr} {te : TE} {p sp_ pos : Pos}
/-- C(*y), y a tuple or a list -/
def tMakeS1 (K : PySem.W.Frag) (C : Addr) (sp : Sp) (E : XK) (te : TE) : TE := fun σ H Q => te σ H fun y H1 => ∃ a xs, y = V.ref a ∧ (SqT K H1 a xs ∨ SqL K H1 a xs) ∧ ∀ x dx, H1 x = Option.none → H1 dx = Option.none → dx ≠ x →
  sp (V.ref x :: xs) (upd (upd H1 dx (.own x)) x (.ins C dx [])) (fun v H2 => v = .non ∧ Q (.ref x) H2) E
theorem pe_makeS1 (M : Mk X.K C f) (F : FnR X.prog X.w X.K X.mg X.base CX k f sp) (hr : Room (k + 1) X.A) (hg : Gl X x) (hm : X.mg x = some (.ref C)) (hx : Passes CX X E) (he : PE X e te) (hdb : (x == ("__debug__" : Str)) = false := by decide)
    (hst : starEach [.Starred e sp_] X.env = [(true, eval e X.env)] := by rfl) : PE X (.Call (.Name x p) [.Starred e sp_] [] pos) (tMakeS1 X.K C sp E te) := by
  refine ⟨fun pins s σ H Q I h => ?_⟩
  refine wpAny_Call_Name_kw (ld_glob I hg hm ?_ hdb)
  refine PySem.W.callWith_S (h₀ := X.base) I.ok.mod.kin M.kp (thn (he.run pins s σ H _ I h) fun v s1 ⟨y, H1, I1, ry, a, xs, ey, hxs, q⟩ => ?_) hst
  subst ey
  obtain rfl : v = Value.ref a := ry
  exact star_any I1 hxs fun us s2 I2 rv => ⟨I2.kIn, run_makeR M F hr hx I2 rv q⟩
end
section
variable {K : Fr} {H H1 : Hp} {Q : VK}
/-- what a Polynomial that is made asks of its __init__ -/
theorem madeP {cs : List Int} (hl : cs.length ≤ 1000) (c : ∀ x H', Same H1 H' → PolAt K H' x (pl cs) → H1 x = none → Q (.ref x) H') :
    ∀ x dx, H1 x = none → H1 dx = none → dx ≠ x → spInit K (.ref x :: cs.map V.int) (upd (upd H1 dx (.own x)) x (.ins (PC K) dx [])) (fun v H2 => v = .non ∧ Q (.ref x) H2) E0 := fun x dx nx nd ne => by
  refine ⟨x, dx, cs, rfl, hl, upd_same, fun t H' s' e' => ⟨rfl, ?_⟩⟩
  have hx : H' x = some (.ins (PC K) dx []) := s' _ _ upd_same
  have tx : t ≠ x := fun z => by
    rw [z, hx] at e'
    cases e'
  refine c x _ (fun b o e => ?_) ⟨dx, t, upd_same, ?_⟩ nx
  · have bx := ne_of_none e nx
    rw [upd_ne bx]
    refine s' _ _ ?_
    rw [upd_ne bx, upd_ne (ne_of_none e nd)]
    exact e
  · rw [upd_ne tx]
    exact e'
end
section
variable {P : Program} {w : World} {K : Fr} {mg : Str → Option Value} {base : Heap} {f : Addr} {fd : FuncData}
/-! ### __init__, refused -/
/-- what a refusal tells -/
def Ref (C : Addr) (H : Hp) (v : V) (E : XK) : Prop := ∀ d H', Same H H' → H' d = some (.xd [("value", v)]) → E (.ref C) (some d) H'
theorem Ref.same {C : Addr} {H H1 : Hp} {v : V} {E : XK} (r : Ref C H v E) (s : Same H H1) : Ref C H1 v E := fun d H' s' e => r d H' (s.trans s') e
def spInitX1 (K : Fr) : Sp := fun vs H Q E => ∃ (a p : Addr) (cs : List Int) (v : V) (post : List V), vs = [.ref a, .ref p] ∧ H p = some (.tup (cs.map V.int ++ v :: post)) ∧ Odd K H v ∧ Ref (IN K) H v E
def spInitX (K : Fr) : Sp := fun vs H Q E => ∃ (a : Addr) (cs : List Int) (v : V) (post : List V), vs = .ref a :: (cs.map V.int ++ v :: post) ∧ cs.length + post.length ≤ 1000 ∧ Odd K H v ∧ Ref (IN K) H v E
theorem ok_initX {q : Str} (F : FunD K "__init__" q (defArgs s_init) (defBody s_init) (defScope s_init) [] [] f fd) (T : TT K mg) (G : IsintG P w K mg base) : FnR P w K mg base (L2.CX P w) 2 f (spInitX K) := by
  obtain ⟨fI, dI, GI⟩ := G
  obtain ⟨oc, od, dV, kV, doc, pm', an, cdv, ct, osl, rfl, lk, hcd, hdv, _⟩ := F.ex
  obtain rfl : dV = Value.none := hdv.elim (fun z => z.2) fun z => absurd rfl z.1
  refine FnR.imp (StX.fn_star (P := P) (w := w) (mg := mg) (base := base) (CX := L2.CX P w) (k := 1) (sp := spInitX1 K) (pv := "coefficients") (ps := ["self"]) lk hcd sc_init StX.cxUp hbI (fun A outer s H vs Q E hr h => ?_)) (fun vs H Q E h => ?_)
  rotate_left
  · obtain ⟨a, cs, v, post, rfl, hl, ho, r⟩ := h
    refine ⟨[.ref a], cs.map V.int ++ v :: post, rfl, rfl, by rw [List.length_append, List.length_map, List.length_cons, sizeLine_eq]; omega, fun p hp => ⟨a, p, cs, v, post, rfl, upd_same, ho.same (same_new hp), r.same (same_new hp)⟩⟩
  · obtain ⟨a, p, cs, v, post, rfl, ep, ho, r⟩ := h
    refine ⟨_, pss_cons (ps_for (passes_of rfl) rfl (pi_tup (pv 1)) (pg_name (i := 2) sc_init.nd rfl (Or.inl rfl)) (pss_one (ps_if (pt_not (pt_val (pe_gd GI hr (by rfl) (pa_cons (pv 2) pa_nil)))) (pss_one (ps_raise rfl (takes_of rfl rfl rfl rfl) (pmk_er1 T.en.cl T.in1 bd1_value hr (by rfl) (T.gl "InvalidNumber" (by decide)) (raises_own T.en.be T.en.tc) (pa_cons (pv 2) pa_nil)))) pss_nil)))
      (pss_cons (ps_set (i := 3) sc_init.nd rfl (Or.inl rfl) (pe_callB call_len_seq (by rfl) T.fre (by decide +kernel) (pa_cons (pv 1) pa_nil)))
      (pss_cons (ps_while (passes_of rfl) (PW.pt (pw_and (pt_cmpR op_gt (pv 3) pe_int (nomark _)) (pw_and1 (pt_cmpR op_eq (pe_ix ix_tup (pv 1) (pe_op op_sub (pv 3) pe_int) (fun _ _ => rfl)) pe_int (nomark _))))) (pss_one (ps_aug (i := 3) sc_init.nd rfl (Or.inl rfl) pe_int ip_sub)))
      (pss_one (ps_fld (pv 0) (pe_slice sl_tupA (pv 1) po_none (po_some (pv 3))) (by rfl))))), ?_⟩
    refine ⟨_, rfl, p, rfl, ⟨_, SqT.of ep⟩, for_tup (xs := cs.map V.int ++ v :: post) (fun i σ H2 => H2 = H ∧ i ≤ cs.length ∧ ∃ v, σ = [some (.ref a), some (.ref p), v, none]) ⟨rfl, Nat.zero_le _, none, rfl⟩ (fun i σ H2 _ ⟨e, _⟩ => by rw [e]; exact SqT.of ep) ?_ ?_⟩
    · rintro i x σ H2 hi ⟨rfl, hle, u, rfl⟩
      by_cases hlt : i < cs.length
      · rw [List.getElem?_append_left (by rw [List.length_map]; exact hlt)] at hi
        obtain ⟨c, hc, rfl⟩ := getm hi
        exact ⟨_, rfl, _, rfl, .inl ⟨c, rfl, true, rfl, iteF ⟨rfl, hlt, _, rfl⟩⟩⟩
      · have hi' : x = v := by
          have hc : i = (cs.map V.int).length := by rw [List.length_map]; omega
          subst hc
          rw [List.getElem?_append_right (Nat.le_refl _), Nat.sub_self] at hi
          cases hi
          rfl
        subst hi'
        exact ⟨_, rfl, _, rfl, .inr ⟨ho, false, rfl, iteT ⟨_, rfl, _, rfl, fun d nd => r d _ (same_new nd) upd_same⟩⟩⟩
    · rintro σ H2 ⟨rfl, hle, u, rfl⟩
      rw [List.length_append, List.length_map, List.length_cons] at hle
      omega
/-! ### the getters -/
theorem sc_coef : FnScope ["self"] ["self"] (defScope (inP 2)) := ⟨rfl, rfl, rfl, by decide +kernel, rfl, by decide +kernel, by decide +kernel⟩
theorem sc_deg : FnScope ["self"] ["self"] (defScope (inP 1)) := ⟨rfl, rfl, rfl, by decide +kernel, rfl, by decide +kernel, by decide +kernel⟩
def spCoef (K : Fr) : Sp := fun vs H Q _ => ∃ a cs, vs = [.ref a] ∧ PolAt K H a cs ∧ ∀ t, H t = some (.tup (cs.map V.int)) → Q (.ref t) H
theorem ok_coef {q : Str} (F : FunD K "coefficients" q (defArgs (inP 2)) (defBody (inP 2)) (defScope (inP 2)) [] [] f fd) (T : TT K mg) : FnOk P w K mg base CX0 1 f fd ["self"] (spCoef K) := by
  refine F.ok sc_coef (fun vs H Q E h => ?_) (fun cdv A outer s H vs Q E hr h => ?_)
  · obtain ⟨a, cs, rfl, _⟩ := h
    rfl
  · obtain ⟨a, cs, rfl, ⟨dx, t, ea, et⟩, q⟩ := h
    exact ⟨_, PSs.nox (pss_one (ps_ret (pe_fld (pv 0) rfl))), _, rfl, a, _, dx, _, _, rfl, ea, T.clP, T.nC, rfl, q t et⟩
def spDeg (K : Fr) : Sp := fun vs H Q _ => ∃ a cs, vs = [.ref a] ∧ PolAt K H a cs ∧ Q (.int ((cs.length : Int) - 1)) H
theorem ok_deg {q : Str} (F : FunD K "degree" q (defArgs (inP 1)) (defBody (inP 1)) (defScope (inP 1)) [] [] f fd) (T : TT K mg) : FnOk P w K mg base CX0 1 f fd ["self"] (spDeg K) := by
  refine F.ok sc_deg (fun vs H Q E h => ?_) (fun cdv A outer s H vs Q E hr h => ?_)
  · obtain ⟨a, cs, rfl, _⟩ := h
    rfl
  · obtain ⟨a, cs, rfl, ⟨dx, t, ea, et⟩, q⟩ := h
    refine ⟨_, PSs.nox (pss_one (ps_ret (pe_op op_sub (pe_callB call_len_seq (by rfl) T.fre (by decide +kernel) (pa_cons (pe_fld (pv 0) rfl) pa_nil)) pe_int))), _, rfl, a, _, dx, _, _, rfl, ea, T.clP, T.nC, rfl, t, _, rfl, .inr (SqT.of et), _, _, rfl, rfl, ?_⟩
    rw [List.length_map]
    exact q
/-! ### worth_at -/
abbrev s_worth : Stmt := top 9
theorem sc_worth : FnScope ["coefficients", "d", "found", "coefficient"] ["coefficients", "d"] (defScope s_worth) := ⟨rfl, rfl, rfl, by decide +kernel, rfl, by decide +kernel, by decide +kernel⟩
/-- the value at d, the lowest coefficient first -/
def wat : List Int → Int → Int
  | [], _ => 0
  | c :: cs, d => wat cs d * d + c
/-- bounds: all |c| below 2^n, |d| below 2^m -/
theorem wat_bd {n m : Nat} {d : Int} (hd : Bd m d) : ∀ {cs : List Int}, (∀ c ∈ cs, Bd n c) → Bd (n + cs.length * (m + 1)) (wat cs d)
  | [], _ => by
    show (0 : Int).natAbs < _
    exact Nat.two_pow_pos _
  | c :: cs, h => by
    have h1 := wat_bd (cs := cs) hd fun c hc => h c (List.mem_cons_of_mem _ hc)
    have h2 := h c List.mem_cons_self
    show (wat cs d * d + c).natAbs < _
    have a1 : (wat cs d).natAbs < 2 ^ (n + cs.length * (m + 1)) := h1
    have a2 : d.natAbs < 2 ^ m := hd
    have a3 : c.natAbs < 2 ^ n := h2
    have b1 : (wat cs d * d).natAbs < 2 ^ (n + cs.length * (m + 1) + m) := wide_lt h1 hd
    have b2 : 2 ^ n ≤ 2 ^ (n + cs.length * (m + 1) + m) := Nat.pow_le_pow_right (by decide) (by omega)
    rw [List.length_cons, show n + (cs.length + 1) * (m + 1) = (n + cs.length * (m + 1) + m) + 1 by rw [Nat.succ_mul]; omega, Nat.pow_succ]
    omega
end
end K70

set_option maxHeartbeats 4000000
/-! for k, x in enumerate(t), t a tuple -/
namespace RtL
open PySem PySem.Spec PyProof.Rows L2
open PySem.Sem (wp)
section
variable {prog : Program} {w : World} {A : Around} {E : Value → Shared → Prop} {s : Shared} {e j l : Addr} {n : Nat} {ys : Array Value} {y u : Value}
theorem enumT_next {Q : Value → Shared → Prop} (hE : IsEnum s.heap e j n u) (hJ : s.heap.IsTupleIter j l n) (hL : s.heap.IsTuple l ys) (hy : ys[n]? = some y) (ej : e ≠ j)
    (go : ∀ h', IsEnumOut h' e j ((n : Int) + 1) y s.heap.objs.size → h'.IsTupleIter j l (n + 1) → h'.get? s.heap.objs.size = some { cls := .type "tuple", data := .seq #[.int n s.toks, y] } →
      h'.objs.size = s.heap.objs.size + 1 → (∀ b o, b ≠ e → b ≠ j → s.heap.get? b = some o → h'.get? b = some o) → Q (.ref s.heap.objs.size) { s with heap := h', toks := s.toks + 1 }) :
    wpAny (model prog w) A (Builtin.«enumerate.__next__» ⟨[.ref e], []⟩) (fun fin s' => ∃ v, fin = .done (.ret v) ∧ Q v s') E s := by
  obtain ⟨hp, g, d, tk, os⟩ := s
  show wpAny _ _ (field (.ref e) 2 >>= _) _ _ _
  refine wpAny_bind (wpAny_field hE rfl (x := .ref j) rfl (wpAny_bind (RZ.nextOf_tuple_item hJ hL hy fun g1 J1 S1 => ?_)))
  have S1 : Heap.SameBut j hp g1 := S1
  have E1 : IsEnum g1 e j n u := (S1.2 e ej).trans hE
  show wpAny _ _ (field (.ref e) 3 >>= _) _ _ ⟨g1, g, d, tk, os⟩
  refine wpAny_bind (wpAny_field E1 rfl (x := rawInt n) rfl (?_ : wpAny _ _ (field (.ref e) 4 >>= _) _ _ ⟨g1, g, d, tk, os⟩))
  refine wpAny_bind (wpAny_field E1 rfl (x := .none) rfl (?_ : wpAny _ _ (mkInt n >>= _) _ _ ⟨g1, g, d, tk, os⟩))
  refine wpAny_bind (wpAny_mkInt (?_ : wpAny _ _ (setField (.ref e) 3 (rawInt ((n : Int) + 1)) >>= _) _ _ ⟨g1, g, d, tk + 1, os⟩))
  refine wpAny_bind (wpAny_setField_rec E1 (by simp) fun g2 E2 S2 => (?_ : wpAny _ _ (setField (.ref e) 4 .none >>= _) _ _ ⟨g2, g, d, tk + 1, os⟩))
  have S2 : Heap.SameBut e g1 g2 := S2
  have E2 : IsEnum g2 e j ((n : Int) + 1) u := E2
  refine wpAny_bind (wpAny_setField_rec E2 (by simp) fun g3 E3 S3 => (?_ : wpAny _ _ (newTuple [.int n tk, y] >>= _) _ _ ⟨g3, g, d, tk + 1, os⟩))
  have S3 : Heap.SameBut e g2 g3 := S3
  have E3 : IsEnum g3 e j ((n : Int) + 1) u := E3
  refine wpAny_bind (wpAny_newTuple ?_)
  have z3 : g3.objs.size = hp.objs.size := (S3.1.trans S2.1).trans S1.1
  have le : e < hp.objs.size := Heap.lt_size hE
  have keep : ∀ b o, b ≠ e → b ≠ j → hp.get? b = some o → g3.get? b = some o := fun b o b1 b2 q => S3.extBut b o b1 (S2.extBut b o b1 (S1.extBut b o b2 q))
  have J3 : g3.IsTupleIter j l (n + 1) := (J1.extBut S2.extBut (Ne.symm ej)).extBut S3.extBut (Ne.symm ej)
  obtain ⟨g4, e4⟩ : ∃ g4, g4 = g3.push { cls := .type "tuple", data := .seq #[.int n tk, y] } := ⟨_, rfl⟩
  have E4 : IsEnum g4 e j ((n : Int) + 1) u := by rw [e4]; exact Heap.get?_push_of_some _ E3
  have T4 : g4.get? hp.objs.size = some { cls := .type "tuple", data := .seq #[.int n tk, y] } := by rw [e4, ← z3]; exact Heap.get?_push_size _ rfl
  have z4 : g4.objs.size = hp.objs.size + 1 := by rw [e4, Heap.size_push, z3]
  have k4 : ∀ b o, b ≠ e → b ≠ j → hp.get? b = some o → g4.get? b = some o := fun b o b1 b2 q => by rw [e4]; exact Heap.get?_push_of_some _ (keep b o b1 b2 q)
  have J4 : g4.IsTupleIter j l (n + 1) := by
    obtain ⟨o, q, r⟩ := J3
    exact ⟨o, by rw [e4]; exact Heap.get?_push_of_some _ q, r⟩
  rw [← e4]
  refine wpAny_bind (?_ : wpAny _ _ (Builtin.SmallTypes.ownedTupleIsFree (.ref e)) _ _ ⟨g4, g, d, tk + 1, os⟩)
  rw [z3]
  unfold Builtin.SmallTypes.ownedTupleIsFree
  refine wpAny_bind (wpAny_field E4 rfl (x := .none) rfl (wpAny_pure ?_))
  simp only [if_true]
  refine wpAny_bind (wpAny_rule (wpAny_bind (wpAny_field E4 rfl (x := u) rfl (wpAny_bind (wpAny_setField_rec E4 (by simp) fun g5 E5 S5 => ?_)))))
  have S5 : Heap.SameBut e g4 g5 := S5
  have E5 : IsEnum g5 e j ((n : Int) + 1) y := E5
  refine wpAny_bind (?_ : wpAny _ _ (Builtin.SmallTypes.ownedTupleHandOut (.ref e) (.ref hp.objs.size)) _ _ ⟨g5, g, d, tk + 1, os⟩)
  unfold Builtin.SmallTypes.ownedTupleHandOut
  refine wpAny_bind (wpAny_setField_rec E5 (by simp) fun g6 E6 S6 => ?_)
  have S6 : Heap.SameBut e g5 g6 := S6
  have E6 : IsEnumOut g6 e j ((n : Int) + 1) y hp.objs.size := E6
  refine wpAny_setField_rec E6 (by simp) fun g7 E7 S7 => ?_
  have S7 : Heap.SameBut e g6 g7 := S7
  have E7 : IsEnumOut g7 e j ((n : Int) + 1) y hp.objs.size := E7
  have up : ∀ b o, b ≠ e → g4.get? b = some o → g7.get? b = some o := fun b o b1 q => S7.extBut b o b1 (S6.extBut b o b1 (S5.extBut b o b1 q))
  refine wpAny_bind (wpAny_letGo (wpAny_pure ⟨_, rfl, go g7 E7 ?_ (up _ _ (Nat.ne_of_gt le) T4) ?_ fun b o b1 b2 q => up b o b1 (k4 b o b1 b2 q)⟩))
  · exact ((J4.extBut S5.extBut (Ne.symm ej)).extBut S6.extBut (Ne.symm ej)).extBut S7.extBut (Ne.symm ej)
  · exact ((S7.1.trans S6.1).trans S5.1).trans z4
theorem enumT_item {Q : Option Value → Shared → Prop} (hE : IsEnum s.heap e j n u) (hJ : s.heap.IsTupleIter j l n) (hL : s.heap.IsTuple l ys) (hy : ys[n]? = some y) (ej : e ≠ j)
    (go : ∀ h', IsEnumOut h' e j ((n : Int) + 1) y s.heap.objs.size → h'.IsTupleIter j l (n + 1) → h'.get? s.heap.objs.size = some { cls := .type "tuple", data := .seq #[.int n s.toks, y] } →
      h'.objs.size = s.heap.objs.size + 1 → (∀ b o, b ≠ e → b ≠ j → s.heap.get? b = some o → h'.get? b = some o) → Q (some (.ref s.heap.objs.size)) { s with heap := h', toks := s.toks + 1 }) :
    wpAny (model prog w) A (pyNext (.ref e)) Q E s := by
  have ty : s.TypeIs (.ref e) "enumerate" := ⟨_, hE, rfl⟩
  unfold pyNext
  refine wpAny_bind (wpAny_attempt (wpAny_callSpecial?_slot (name := Str.ofString "__next__") ty F.slot_enumerate_next ?_))
  exact wpAny_call_entry F.slot_enumerate_next ty F.entry_enumerate_next (enumT_next hE hJ hL hy ej fun h' a1 a2 a3 a4 a5 => wpAny_pure (go h' a1 a2 a3 a4 a5)) (F.args_enumerate_next_1 _)
theorem enumT_end {Q : Option Value → Shared → Prop} (calm : A.handled = none) (hE : IsEnum s.heap e j n u) (hJ : s.heap.IsTupleIter j l n) (hL : s.heap.IsTuple l ys) (hy : ys[n]? = none)
    (go : ∀ h', Heap.ExtBut j s.heap h' → Q none { s with heap := h' }) : wpAny (model prog w) A (pyNext (.ref e)) Q E s := by
  have ty : s.TypeIs (.ref e) "enumerate" := ⟨_, hE, rfl⟩
  unfold pyNext
  refine wpAny_bind (wpAny_attempt (wpAny_callSpecial?_slot (name := Str.ofString "__next__") ty F.slot_enumerate_next ?_))
  refine wpAny_call_entry F.slot_enumerate_next ty F.entry_enumerate_next (?_ : wpAny _ _ (field (.ref e) 2 >>= _) _ _ _) (F.args_enumerate_next_1 _)
  refine wpAny_bind (wpAny_field hE rfl (x := .ref j) rfl (wpAny_bind (RZ.nextOf_tuple_end calm hJ hL hy fun h' x a1 a2 => ?_)))
  obtain ⟨o, q, c⟩ := a2
  exact wpAny_bind (wpAny_isInstance (T := "StopIteration") (b := true) ⟨o, q, c⟩ isSubtype_stop (wpAny_pure (go _ a1)))
theorem enumT_new (t : Addr) (ob : Obj) (n : Nat) (hc : ob.cls = .type "tuple") (hd : ob.data = .seq ys n) :
    Meets (Builtin.«enumerate.__new__» ⟨[.type "enumerate", .ref t], []⟩) (fun _ R s => s.heap.get? t = some ob ∧
      R (.ok (.ret (.ref (s.heap.push { cls := .type "tuple_iterator", data := .fields #[.ref t, .int 0 0] }).objs.size)))
        { s with heap := (s.heap.push { cls := .type "tuple_iterator", data := .fields #[.ref t, .int 0 0] }).push { cls := .type "enumerate", data := .fields #[.none, .bool false, .ref s.heap.objs.size, rawInt 0, .none, .none] } }) :=
  .of_wp fun prog w A R s h => by
    obtain ⟨hp, g, d, tk, os⟩ := s
    obtain ⟨ht, h⟩ := h
    have sb := sub_enumerate
    have tp : Heap.IsTuple (Shared.heap ⟨hp, g, d, tk, os⟩) t ys := ⟨_, ht, hc, n, hd⟩
    wp_walk using AutoSeq1.wpAny_loadPart' ht
    refine wpAny_stack_any fun st => wpAny_pure ?_
    split
    · rename_i c _ _ _ _ _
      cases (c == Value.type "enumerate") <;> (wp_walk using AutoSeq1.wpAny_loadPart' ht, wpAny_pyIter_tuple tp; exact ⟨_, rfl, h⟩)
    · wp_walk using AutoSeq1.wpAny_loadPart' ht, wpAny_pyIter_tuple tp
      exact ⟨_, rfl, h⟩
theorem enumT_call {t : Addr} {Q : Value → Shared → Prop} (tp : s.heap.IsTuple t ys)
    (h : ∀ h', IsEnum h' (s.heap.objs.size + 1) s.heap.objs.size 0 .none → h'.IsTupleIter s.heap.objs.size t 0 → h'.objs.size = s.heap.objs.size + 2 → (∀ b o, s.heap.get? b = some o → h'.get? b = some o) → Q (.ref (s.heap.objs.size + 1)) { s with heap := h' }) :
    wpAny (model prog w) A (call (.type "enumerate") [.ref t]) Q E s := by
  obtain ⟨ob, ht, hc, n, hd⟩ := tp
  refine callType_new F.called_enumerate (by decide) (F.typeCall_enumerate_1 _) (F.newCall_enumerate_1 _) (fun obj => F.args_object_init_2 obj _) F.entry_enumerate_new (enumT_new t ob n hc hd) ⟨ht, ?_⟩
  have sz : (s.heap.push { cls := .type "tuple_iterator", data := .fields #[.ref t, .int 0 0] }).objs.size = s.heap.objs.size + 1 := Heap.size_push ..
  rw [sz]
  have he : IsEnum ((s.heap.push { cls := .type "tuple_iterator", data := .fields #[.ref t, .int 0 0] }).push { cls := .type "enumerate", data := .fields #[.none, .bool false, .ref s.heap.objs.size, rawInt 0, .none, .none] }) (s.heap.objs.size + 1) s.heap.objs.size 0 .none := by
    rw [← sz]
    exact Heap.get?_push_size _ rfl
  exact ⟨⟨_, he, rfl⟩, h _ he ⟨_, Heap.get?_push_of_some _ (Heap.get?_push_size _ rfl), rfl, rfl⟩ (by rw [Heap.size_push, sz]) fun b o q => Heap.get?_push_of_some _ (Heap.get?_push_of_some _ q)⟩
end
/-- the tuple at a, its items in new pairs with their places -/
def IteT (K : PySem.W.Frag) (a : Addr) : It :=
  ⟨fun i H => ∃ (xs : List V) (x : V), SqT K H a xs ∧ xs[i]? = some x, fun i H v H' => ∃ T x, v = .ref T ∧ H T = none ∧ H' = upd H T (.tup [.int (i : Nat), x]) ∧ ∀ xs, SqT K H a xs → xs[i]? = some x, fun i H => ∃ xs : List V, SqT K H a xs ∧ xs.length ≤ i⟩
theorem turn_enumT {P : Program} {w : World} {K : PySem.W.Frag} {el : List Expr} {kk : Nat} {tp : Pos} (a e j : Addr) : Turn P w K (.Tuple el kk tp) (IteT K a) [e, j] e fun i h => (∃ u, IsEnum h e j ((i : Nat) : Int) u) ∧ h.IsTupleIter j a i ∧ e ≠ j where
  mem := List.mem_cons_self
  obj := fun i h st b hb => by
    obtain ⟨⟨u, hE⟩, ⟨o, ho, hc, hd⟩, _⟩ := st
    simp only [List.mem_cons, List.not_mem_nil, or_false] at hb
    rcases hb with rfl | rfl
    · exact ⟨_, hE, fun v q => by cases q⟩
    · refine ⟨o, ho, fun v q => ?_⟩
      rw [hd] at q
      cases q
  keep := fun i h h' ⟨⟨u, hE⟩, hJ, ne⟩ k => ⟨⟨u, k e List.mem_cons_self _ hE⟩, hJ.at fun o q => k j (List.mem_cons_of_mem _ List.mem_cons_self) o q, ne⟩
  self := fun A i s Q E ⟨⟨_, hE⟩, _⟩ h => wpAny_pyIter_enum hE h
  done := by
    rintro X rfl rfl rfl cal i pins s σ H E I fp ⟨⟨u, hE⟩, hJ, ne⟩ ⟨xs, hq, hx⟩
    obtain ⟨its, rv, p, hz⟩ := I.tuple hq
    obtain ⟨f0, f1, f2, f3, f4, f5⟩ := fp j (List.mem_cons_of_mem _ List.mem_cons_self)
    have len := rv.length
    exact enumT_end (I.ok.hd cal) hE hJ p (by rw [List.getElem?_toArray]; exact List.getElem?_eq_none (by omega)) fun h' eb => ⟨rfl, I.turned (t' := s.toks) (fun b o b1 q => eb b o b1 q) f0 f1 f3 f4 f5⟩
  item := by
    rintro X rfl rfl rfl cal i pins s σ H E I fp ⟨⟨u, hE⟩, hJ, ne⟩ ⟨xs, x, hq, hx⟩
    obtain ⟨its, rv, p, hz⟩ := I.tuple hq
    obtain ⟨y, hy, ry⟩ := rv.get hx
    have le : e < s.heap.objs.size := Heap.lt_size hE
    have lj : j < s.heap.objs.size := by
      obtain ⟨_, q, _⟩ := hJ
      exact Heap.lt_size q
    refine enumT_item hE hJ p (y := y) (by rw [List.getElem?_toArray]; exact hy) ne fun h1 o1 J1 T1 z1 k1 => ⟨_, rfl, ?_⟩
    refine wpAny_letOwnedTupleGo_enum (s := { s with heap := h1, toks := s.toks + 1 }) o1 fun h2 E2 sb => ?_
    have T2 : h2.get? s.heap.objs.size = some { cls := .type "tuple", data := .seq #[.int i s.toks, y] } := (sb.2 _ (Nat.ne_of_gt le)).trans T1
    have ob : ObjOk X.prog X.w (upd H s.heap.objs.size (.tup [.int (i : Nat), x])) h2 s.heap.objs.size (.tup [.int (i : Nat), x]) := ⟨by show 2 ≤ sizeLine; decide, [.int i s.toks, y], .cons ⟨_, rfl⟩ (.cons ry .nil), ⟨_, T2, rfl, _, rfl⟩⟩
    have old : ∀ b o, b ∉ [e, j] → s.heap.get? b = some o → h2.get? b = some o := fun b o hb q => (sb.2 b fun z => hb (by rw [z]; exact List.mem_cons_self)).trans (k1 b o (fun z => hb (by rw [z]; exact List.mem_cons_self)) (fun z => hb (by rw [z]; exact List.mem_cons_of_mem _ List.mem_cons_self)) q)
    have I1 : Inv X pins σ (upd H s.heap.objs.size (.tup [.int (i : Nat), x])) { s with heap := h2, toks := s.toks + 1 } := I.turnedNew (ch := [e, j]) old fp (Nat.le_refl _) ob
    have nx : ((i + 1 : Nat) : Int) = (i : Int) + 1 := by omega
    refine ⟨.ref s.heap.objs.size, _, I1, rfl, ⟨_, x, rfl, I.hok.fresh (Nat.le_refl _), rfl, fun zs hz => by rw [I.tuple_inj hz hq]; exact hx⟩, ⟨⟨y, by rw [nx]; exact E2⟩, J1.at fun o q => (sb.2 j (Ne.symm ne)).trans q, ne⟩, fun b hb => ?_⟩
    have lb : b < s.heap.objs.size := by
      simp only [List.mem_cons, List.not_mem_nil, or_false] at hb
      rcases hb with rfl | rfl <;> assumption
    rw [upd_ne (Nat.ne_of_lt lb)]
    exact (fp b hb).1
def iEnumT (K : PySem.W.Frag) (ta : TA) : TI := fun σ H R => ta σ H fun vs H1 => ∃ a xs, vs = [.ref a] ∧ SqT K H1 a xs ∧ R (IteT K a) H1
theorem pi_enumT {X : Cx} {e : Expr} {ta : TA} {p pos tp : Pos} {el : List Expr} {kk : Nat} (hg : Gl X "enumerate") (hm : X.mg "enumerate" = none) (ha : PA X [e] ta) (st : starEach [e] X.env = [(false, eval e X.env)] := by rfl) :
    PI X (.Tuple el kk tp) (.Call (.Name "enumerate" p) [e] [] pos) (iEnumT X.K ta) := by
  refine ⟨fun pins s σ H R I h => Call_ (ld_blt I hg hm boot_enumerate (PyProof.Rows.callWith_type1 (thn (ha.run pos pins s σ H _ I h) fun us s1 ⟨vs, H1, I1, r1, a, xs, ex, hq, q⟩ => ?_) st rfl))⟩
  subst ex
  obtain ⟨u, rfl, ru⟩ := vals1 r1
  obtain rfl : u = Value.ref a := ru
  obtain ⟨its, rv, tpl, hz⟩ := I1.tuple hq
  refine enumT_call tpl fun h' hE hJ z k => wpAny_pyIter_enum hE ?_
  refine ⟨s1.heap.objs.size + 1, [s1.heap.objs.size + 1, s1.heap.objs.size], _, _, H1, rfl, I1.kept (t' := s1.toks) k, turn_enumT a (s1.heap.objs.size + 1) s1.heap.objs.size, ⟨⟨.none, hE⟩, hJ, Nat.succ_ne_self _⟩, fun b hb => ?_, q⟩
  have lb : s1.heap.objs.size ≤ b := by
    simp only [List.mem_cons, List.not_mem_nil, or_false] at hb
    rcases hb with rfl | rfl
    · exact Nat.le_succ _
    · exact Nat.le_refl _
  exact I1.fpOk lb (I1.hok.fresh lb)
theorem walk_enumT {K : PySem.W.Frag} {a : Addr} {xs : List V} : Walk (IteT K a) xs.length (fun H => SqT K H a xs) (YPair (fun i => some (.int (i : Nat))) (fun i => xs[i]?)) := by
  refine ⟨fun i _ hi q => ⟨xs, xs[i], q, List.getElem?_eq_getElem hi⟩, fun _ q => ⟨xs, q, Nat.le_refl _⟩, ?_⟩
  rintro i H v H' hi q ⟨T, x, h1, h2, h3, h4⟩
  exact ⟨T, _, x, h1, h2, h3, rfl, h4 xs q⟩
end RtL

set_option maxHeartbeats 4000000
namespace K70
open PySem PySem.Spec PyProof.Rows L2 RtL ErL StX
section
variable {P : Program} {w : World} {K : Fr} {mg : Str → Option Value} {base : Heap} {f : Addr} {fd : FuncData}
theorem bd_up {n m : Nat} {i : Int} (h : Bd n i) (l : n ≤ m) : Bd m i := Nat.lt_of_lt_of_le h (Nat.pow_le_pow_right (by decide) l)
theorem bd_mul {n m : Nat} {i j : Int} (h : Bd n i) (h' : Bd m j) : Bd (n + m) (i * j) := wide_lt h h'
theorem bd_add {n : Nat} {i j : Int} (h : Bd n i) (h' : Bd n j) : Bd (n + 1) (i + j) := by
  show (i + j).natAbs < 2 ^ (n + 1)
  have a : i.natAbs < 2 ^ n := h
  have b : j.natAbs < 2 ^ n := h'
  rw [Nat.pow_succ]
  omega
theorem bd_neg {n : Nat} {i : Int} (h : Bd n i) : Bd n (-i) := by
  show (-i).natAbs < 2 ^ n
  rw [Int.natAbs_neg]
  exact h
theorem bd_sub {n : Nat} {i j : Int} (h : Bd n i) (h' : Bd n j) : Bd (n + 1) (i - j) := by
  rw [Int.sub_eq_add_neg]
  exact bd_add h (bd_neg h')
theorem cmW {n m : Nat} {i j : Int} (h : Bd n i) (h' : Bd m j) (hn : 0 < n := by decide) (hm : 0 < m := by decide) (s : n + m ≤ 1000000 := by decide) : CMulW i j := wide_mul h h' hn hm s
def spWorth (K : Fr) : Sp := fun vs H Q _ => ∃ (t : Addr) (cs : List Int) (d : Int), vs = [.ref t, .int d] ∧ H t = some (.tup (cs.map V.int)) ∧ (∀ c ∈ cs, Bd 200 c) ∧ cs.length ≤ 40 ∧ Bd 100 d ∧ ∀ H', Same H H' → Q (.int (wat cs d)) H'
theorem ok_worth (F : FunD K "worth_at" "worth_at" (defArgs s_worth) (defBody s_worth) (defScope s_worth) [] [] f fd) (T : TT K mg) : FnOk P w K mg base CX0 1 f fd ["coefficients", "d"] (spWorth K) := by
  refine F.ok sc_worth (fun vs H Q E h => ?_) (fun cdv A outer s H vs Q E hr h => ?_)
  · obtain ⟨t, cs, d, rfl, _⟩ := h
    rfl
  · obtain ⟨t, cs, d, rfl, et, hb, hl, hd, q⟩ := h
    refine ⟨_, PSs.nox (pss_cons (ps_set (i := 2) sc_worth.nd rfl (Or.inl rfl) pe_int)
      (pss_cons (ps_for PassesOwn.never rfl (pi_reversed (by rfl) T.fre (pa_cons (pe_callTy call_list_of (by rfl) T.fre (by decide +kernel) (pa_cons (pv 0) pa_nil)) pa_nil)) (pg_name (i := 3) sc_worth.nd rfl (Or.inl rfl))
        (pss_one (ps_set (i := 2) sc_worth.nd rfl (Or.inl rfl) (pe_op op_add (pe_op op_mulW (pv 2) (pv 1)) (pv 3)))))
      (pss_one (ps_ret (pv 2))))), ?_⟩
    refine ⟨_, rfl, t, _, rfl, .inr (SqT.of et), fun l hl' => ⟨l, _, rfl, SqL.of upd_same, ?_⟩⟩
    have hlen : (cs.map V.int).length = cs.length := List.length_map _
    refine for_it (walk_rev (xs := cs.map V.int)) (fun i σ H2 => H2 = upd H l (.lst (cs.map V.int)) ∧ ∃ u, σ = [some (.ref t), some (.int d), some (.int (wat (cs.drop (cs.length - i)) d)), u]) ⟨rfl, none, by rw [Nat.sub_zero, List.drop_length]; rfl⟩ (fun i σ H2 _ ⟨e, _⟩ => by rw [e]; exact SqL.of upd_same) ?_ ?_
    · rintro i x σ H2 H3 hi ⟨rfl, u, rfl⟩ ⟨rfl, hx⟩
      rw [hlen] at hi hx
      obtain ⟨c, hc, rfl⟩ := getm hx
      have hj : cs.length - 1 - i < cs.length := by omega
      have e1 : cs.drop (cs.length - (i + 1)) = c :: cs.drop (cs.length - i) := by
        have e2 : cs.length - (i + 1) = cs.length - 1 - i := by omega
        have e3 : cs.length - i = cs.length - 1 - i + 1 := by omega
        rw [e2, e3, List.drop_eq_getElem_cons hj]
        congr 1
        rw [List.getElem?_eq_getElem hj] at hc
        exact Option.some.inj hc
      have bw : Bd 5000 (wat (cs.drop (cs.length - i)) d) := by
        refine bd_up (wat_bd (n := 200) hd fun c hc => hb c (List.mem_of_mem_drop hc)) ?_
        rw [List.length_drop]
        omega
      refine ⟨_, rfl, _, rfl, _, _, rfl, rfl, cmW bw hd, _, rfl, _, _, rfl, rfl, rfl, some (.int c), ?_⟩
      rw [e1]
      rfl
    · rintro σ H2 ⟨rfl, u, rfl⟩
      rw [hlen, Nat.sub_self, List.drop_zero]
      exact ⟨_, rfl, q _ (same_new hl')⟩
abbrev WorthG (P : Program) (w : World) (K : Fr) (mg : Str → Option Value) (base : Heap) : Prop := ∃ f d, Gd P w K mg base 1 "worth_at" f d ["coefficients", "d"] (spWorth K)
/-! ### at -/
theorem sc_at : FnScope ["self", "d"] ["self", "d"] (defScope (inP 3)) := ⟨rfl, rfl, rfl, by decide +kernel, rfl, by decide +kernel, by decide +kernel⟩
def spAt (K : Fr) : Sp := fun vs H Q _ => ∃ (a : Addr) (cs : List Int) (d : Int), vs = [.ref a, .int d] ∧ PolAt K H a cs ∧ (∀ c ∈ cs, Bd 200 c) ∧ cs.length ≤ 40 ∧ Bd 100 d ∧ ∀ H', Same H H' → Q (.int (wat cs d)) H'
theorem ok_at {q : Str} (F : FunD K "at" q (defArgs (inP 3)) (defBody (inP 3)) (defScope (inP 3)) [] [] f fd) (T : TT K mg) (G : IsintG P w K mg base) (W : WorthG P w K mg base) : FnOk P w K mg base CX0 2 f fd ["self", "d"] (spAt K) := by
  obtain ⟨fI, dI, GI⟩ := G
  obtain ⟨fW, dW, GW⟩ := W
  refine F.ok sc_at (fun vs H Q E h => ?_) (fun cdv A outer s H vs Q E hr h => ?_)
  · obtain ⟨a, cs, d, rfl, _⟩ := h
    rfl
  · obtain ⟨a, cs, d, rfl, ⟨dx, t, ea, et⟩, hb, hl, hd, q⟩ := h
    refine ⟨_, PSs.nox (pss_cons (ps_if (pt_not (pt_val (pe_gd GI hr (by rfl) (pa_cons (pv 1) pa_nil)))) (pss_one ps_never) pss_nil) (pss_one (ps_ret (pe_gd GW hr (by rfl) (pa_cons (pe_fld (pv 0) rfl) (pa_cons (pv 1) pa_nil)))))), ?_⟩
    exact ⟨_, rfl, _, rfl, .inl ⟨d, rfl, true, rfl, iteF ⟨_, rfl, a, _, dx, _, _, rfl, ea, T.clP, T.nC, rfl, _, rfl, t, cs, d, rfl, et, hb, hl, hd, q⟩⟩⟩
def spAtX (K : Fr) : Sp := fun vs H Q E => ∃ (a : Addr) (cs : List Int) (v : V), vs = [.ref a, v] ∧ PolAt K H a cs ∧ Odd K H v ∧ Ref (IN K) H v E
theorem ok_atX {q : Str} (F : FunD K "at" q (defArgs (inP 3)) (defBody (inP 3)) (defScope (inP 3)) [] [] f fd) (T : TT K mg) (G : IsintG P w K mg base) (W : WorthG P w K mg base) : FnOk P w K mg base (L2.CX P w) 2 f fd ["self", "d"] (spAtX K) := by
  obtain ⟨fI, dI, GI⟩ := G
  obtain ⟨fW, dW, GW⟩ := W
  refine F.ok sc_at (fun vs H Q E h => ?_) (fun cdv A outer s H vs Q E hr h => ?_)
  · obtain ⟨a, cs, v, rfl, _⟩ := h
    rfl
  · obtain ⟨a, cs, v, rfl, _, ho, r⟩ := h
    refine ⟨_, pss_cons (ps_if (pt_not (pt_val (pe_gd GI hr (by rfl) (pa_cons (pv 1) pa_nil)))) (pss_one (ps_raise rfl (takes_of rfl rfl rfl rfl) (pmk_er1 T.en.cl T.in1 bd1_value hr (by rfl) (T.gl "InvalidNumber" (by decide)) (raises_own T.en.be T.en.tc) (pa_cons (pv 1) pa_nil)))) pss_nil) (pss_one (ps_ret (pe_gd GW hr (by rfl) (pa_cons (pe_fld (pv 0) rfl) (pa_cons (pv 1) pa_nil))))), ?_⟩
    exact ⟨_, rfl, _, rfl, .inr ⟨ho, false, rfl, iteT ⟨_, rfl, v, rfl, fun d nd => r d _ (same_new nd) upd_same⟩⟩⟩
/-! ### filled_up -/
abbrev s_fill : Stmt := top 15
theorem sc_fill : FnScope ["coefficients", "many"] ["coefficients", "many"] (defScope s_fill) := ⟨rfl, rfl, rfl, by decide +kernel, rfl, by decide +kernel, by decide +kernel⟩
def fill (cs : List Int) (m : Nat) : List Int := cs ++ List.replicate (m - cs.length) 0
theorem rep0 (k : Nat) : (List.replicate k [V.int 0]).flatten = (List.replicate k (0 : Int)).map V.int := by
  induction k with
  | zero => rfl
  | succ n ih => rw [List.replicate_succ, List.flatten_cons, ih]; rfl
def spFill (K : Fr) : Sp := fun vs H Q _ => ∃ (t : Addr) (cs : List Int) (m : Nat), vs = [.ref t, .int m] ∧ H t = some (.tup (cs.map V.int)) ∧ cs.length ≤ 1000 ∧ m ≤ 1000 ∧ ∀ l H', Same H H' → H l = none → H' l = some (.lst ((fill cs m).map V.int)) → Q (.ref l) H'
theorem ok_fill (F : FunD K "filled_up" "filled_up" (defArgs s_fill) (defBody s_fill) (defScope s_fill) [] [] f fd) (T : TT K mg) : FnOk P w K mg base CX0 1 f fd ["coefficients", "many"] (spFill K) := by
  refine F.ok sc_fill (fun vs H Q E h => ?_) (fun cdv A outer s H vs Q E hr h => ?_)
  · obtain ⟨t, cs, m, rfl, _⟩ := h
    rfl
  · obtain ⟨t, cs, m, rfl, et, hl, hm, q⟩ := h
    refine ⟨_, PSs.nox (pss_one (ps_ret (pe_op op_cat (pe_callTy call_list_of (by rfl) T.fre (by decide +kernel) (pa_cons (pv 0) pa_nil)) (pe_op op_rep (pe_lst (pa_cons pe_int pa_nil)) (pe_op op_sub (pv 1) (pe_callB call_len_seq (by rfl) T.fre (by decide +kernel) (pa_cons (pv 0) pa_nil))))))), ?_⟩
    refine ⟨_, rfl, t, _, rfl, .inr (SqT.of et), fun l hl' => ⟨by rw [sizeLine_eq]; decide, fun l2 hl2 => ?_⟩⟩
    have et2 : upd (upd H l (.lst (cs.map V.int))) l2 (.lst [.int 0]) t = some (.tup (cs.map V.int)) := same_new hl2 _ _ (same_new hl' _ _ et)
    have el : upd (upd H l (.lst (cs.map V.int))) l2 (.lst [.int 0]) l = some (.lst (cs.map V.int)) := same_new hl2 _ _ upd_same
    have hlen : (cs.map V.int).length = cs.length := List.length_map _
    refine ⟨_, rfl, _, rfl, t, _, rfl, .inr (SqT.of et2), _, _, rfl, rfl, l2, _, _, rfl, rfl, upd_same, ?_, ?_, ?_, fun l3 hl3 => ⟨l, l3, _, _, rfl, rfl, same_new hl3 _ _ el, upd_same, ?_, fun l4 hl4 => ?_⟩⟩
    · have := hl
      rw [hlen]
      omega
    · rw [hlen]
      omega
    · rw [hlen, show [V.int 0].length = 1 from rfl, Nat.one_mul, sizeLine_eq]
      omega
    · rw [hlen, rep0, List.length_map, List.length_replicate, sizeLine_eq]
      omega
    · have e : ((m : Int) - ((cs.map V.int).length : Nat)).toNat = m - cs.length := by rw [hlen]; omega
      rw [e, rep0] at hl4 ⊢
      rw [← List.map_append]
      have s3 : Same H _ := ((same_new hl').trans (same_new hl2)).trans (same_new (o := .lst ((List.replicate (m - cs.length) (0 : Int)).map V.int)) hl3)
      exact q l4 _ (s3.trans (same_new hl4)) (gone s3 hl4) upd_same
abbrev FillG (P : Program) (w : World) (K : Fr) (mg : Str → Option Value) (base : Heap) : Prop := ∃ f d, Gd P w K mg base 1 "filled_up" f d ["coefficients", "many"] (spFill K)
end
end K70

set_option maxHeartbeats 4000000
namespace K70
open PySem PySem.Spec PyProof.Rows L2 RtL ErL StX
section
variable {P : Program} {w : World} {K : Fr} {mg : Str → Option Value} {base : Heap} {f : Addr} {fd : FuncData}
/-- Polynomial's __init__ -/
abbrev PId (P : Program) (w : World) (K : Fr) (mg : Str → Option Value) (base : Heap) : Prop := FnR P w K mg base CX0 2 (pm K "__init__") (spInit K)
theorem zw_succ {f : Int → Int → Int} {xs ys : List Int} {i : Nat} {x y : Int} (hx : xs[i]? = some x) (hy : ys[i]? = some y) : (List.zipWith f xs ys).take (i + 1) = (List.zipWith f xs ys).take i ++ [f x y] := by
  refine take_succ' ?_
  rw [List.getElem?_zipWith, hx, hy]
theorem fill_len (cs : List Int) {m : Nat} (h : cs.length ≤ m) : (fill cs m).length = m := by
  unfold fill
  rw [List.length_append, List.length_replicate]
  omega
def addl (f : Int → Int → Int) (a b : List Int) : List Int := pl (List.zipWith f (fill a (max a.length b.length)) (fill b (max a.length b.length)))
def NA : List Str := ["self", "other", "many", "ones", "others", "sums", "own", "more"]
theorem sc_add : FnScope NA ["self", "other"] (defScope (inP 4)) := ⟨rfl, rfl, rfl, by decide +kernel, rfl, by decide +kernel, by decide +kernel⟩
def spBin (K : Fr) (g : List Int → List Int → List Int) : Sp := fun vs H Q _ => ∃ a b as bs, vs = [.ref a, .ref b] ∧ PolAt K H a as ∧ PolAt K H b bs ∧ as.length ≤ 40 ∧ bs.length ≤ 40 ∧ (∀ c ∈ as, Bd 200 c) ∧ (∀ c ∈ bs, Bd 200 c) ∧ ∀ x H', Same H H' → H x = none → PolAt K H' x (g as bs) → Q (.ref x) H'
theorem ok_add {q : Str} (F : FunD K "__add__" q (defArgs (inP 4)) (defBody (inP 4)) (defScope (inP 4)) [] [] f fd) (T : TT K mg) (I : PId P w K mg base) (GF : FillG P w K mg base) : FnOk P w K mg base CX0 4 f fd ["self", "other"] (spBin K (addl (· + ·))) := by
  obtain ⟨fF, dF, GF⟩ := GF
  refine F.ok sc_add (fun vs H Q E h => ?_) (fun cdv A outer s H vs Q E hr h => ?_)
  · obtain ⟨a, b, as, bs, rfl, _⟩ := h
    rfl
  · obtain ⟨a, b, as, bs, rfl, ⟨dx, ta, ea, eta⟩, ⟨dy, tb, eb, etb⟩, la, lb, ba, bb, q⟩ := h
    refine ⟨_, PSs.nox (pss_cons (ps_if (pt_not (pt_val (pe_callB call_isi (by rfl) T.fre (by decide +kernel) (pa_cons (pv 1) (pa_cons (pe_glob (v := .ref (PC K)) (by rfl) (T.gl "Polynomial" (by decide)) rfl) pa_nil))))) (pss_one ps_never) pss_nil)
      (pss_cons (ps_set (i := 2) sc_add.nd rfl (Or.inl rfl) (pe_callB (call_max2 rfl) (by rfl) T.fre (by decide +kernel) (pa_cons (pe_callB call_len_seq (by rfl) T.fre (by decide +kernel) (pa_cons (pe_fld (pv 0) rfl) pa_nil)) (pa_cons (pe_callB call_len_seq (by rfl) T.fre (by decide +kernel) (pa_cons (pe_fld (pv 1) rfl) pa_nil)) pa_nil))))
      (pss_cons (ps_par (i := 3) (j := 4) rfl sc_add.nd rfl rfl (by decide) rfl rfl (pa_cons (pe_gd GF (hr.mono (by decide)) (by rfl) (pa_cons (pe_fld (pv 0) rfl) (pa_cons (pv 2) pa_nil))) (pa_cons (pe_gd GF (hr.mono (by decide)) (by rfl) (pa_cons (pe_fld (pv 1) rfl) (pa_cons (pv 2) pa_nil))) pa_nil)) (by rfl))
      (pss_cons (ps_setLc (i := 5) (own := [("own", 6), ("more", 7)]) (g := gTup K 2 (gCons (gName 6) (gCons (gName 7) gNil))) (tt := tYes) (by rfl) sc_add.nd rfl rfl (sw_true rfl rfl rfl (by decide +kernel)) (pi_zip (by rfl) T.fre (pa_cons (pv 3) (pa_cons (pv 4) pa_nil))) (blkOk_by (N := NA) (sc := defScope (inP 4)) (by decide +kernel)) (fun _ _ _ _ _ => pg_tup (by rfl) (pgs_cons (pg_name (i := 6) sc_add.nd rfl (Or.inl rfl)) (pgs_cons (pg_name (i := 7) sc_add.nd rfl (Or.inl rfl)) pgs_nil))) (fun _ _ _ _ _ => pts_nil) (fun _ _ _ _ _ => pe_op op_add (pv 6) (pv 7)))
      (pss_one (ps_ret (pe_makeS1 T.mkp I (hr.mono (by decide)) (by rfl) (T.gl "Polynomial" (by decide)) pass0 (pv 5)))))))), ?_⟩
    have hm : (if (((bs.map V.int).length : Nat) : Int) > ((as.map V.int).length : Nat) then (((bs.map V.int).length : Nat) : Int) else ((as.map V.int).length : Nat)) = ((max as.length bs.length : Nat) : Int) := by
      rw [List.length_map, List.length_map]
      split <;> omega
    refine ⟨_, rfl, _, _, _, _, true, rfl, .own _, T.tyP eb, T.kitP, true, rfl, iteF ?_⟩
    refine ⟨_, rfl, a, _, dx, _, _, rfl, ea, T.clP, T.nC, rfl, ta, _, rfl, .inr (SqT.of eta), _, rfl, b, _, dy, _, _, rfl, eb, T.clP, T.nC, rfl, tb, _, rfl, .inr (SqT.of etb), _, _, rfl, ?_⟩
    refine ⟨_, rfl, a, _, dx, _, _, rfl, ea, T.clP, T.nC, rfl, _, rfl, ta, as, max as.length bs.length, by rw [hm]; rfl, eta, by omega, by omega, fun l1 H1 s1 n1 e1 => ?_⟩
    refine ⟨_, rfl, b, _, dy, _, _, rfl, s1 _ _ eb, T.clP, T.nC, rfl, _, rfl, tb, bs, max as.length bs.length, by rw [hm]; rfl, s1 _ _ etb, by omega, by omega, fun l2 H2 s2 n2 e2 => ⟨_, _, rfl, ?_⟩⟩
    refine ⟨_, rfl, _, rfl, l1, l2, _, _, rfl, SqL.of (s2 _ _ e1), SqL.of e2, fun D nD => ?_⟩
    have l1' := fill_len as (Nat.le_max_left as.length bs.length)
    have l2' := fill_len bs (Nat.le_max_right as.length bs.length)
    generalize he1 : fill as (max as.length bs.length) = xs at e1 l1'
    generalize he2 : fill bs (max as.length bs.length) = ys at e2 l2'
    have hmx : max as.length bs.length ≤ 40 := by omega
    refine lc_it (walk_zip (xs := xs.map V.int) (ys := ys.map V.int) (n := max as.length bs.length) (by rw [List.length_map, List.length_map]; omega)) (fun i H' => Same H2 H' ∧ H' D = some (.lst (((List.zipWith (· + ·) xs ys).take i).map V.int))) ⟨same_new nD, upd_same⟩ (fun i H' _ pv => ⟨SqL.of (pv.1 _ _ (s2 _ _ e1)), SqL.of (pv.1 _ _ e2)⟩) ?_ ?_
    · rintro i v H7 H8 hi ⟨s7, e7⟩ ⟨t, y1, y2, rfl, nt, rfl, hx, hy⟩
      dsimp only at hx hy
      obtain ⟨x, hx', rfl⟩ := getm hx
      obtain ⟨y, hy', rfl⟩ := getm hy
      refine ⟨t, _, rfl, SqT.of upd_same, rfl, _, _, rfl, _, _, rfl, rfl, rfl, _, rfl, _, rfl, _, _, rfl, rfl, _, same_new nt _ _ e7, ?_, ?_, ?_⟩
      · rw [List.length_map, List.length_take, sizeLine_eq]
        omega
      · intro b' o' e'
        rw [upd_ne (ne_of_none e' nD)]
        exact same_new nt _ _ (s7 _ _ e')
      · rw [upd_same, zw_succ hx' hy', List.map_append]
        rfl
    · rintro H7 ⟨s7, e7⟩
      have e8 : (List.zipWith (· + ·) xs ys).take (max as.length bs.length) = List.zipWith (· + ·) xs ys := List.take_of_length_le (by rw [List.length_zipWith]; omega)
      rw [e8] at e7
      refine ⟨_, rfl, D, _, rfl, .inr (SqL.of e7), madeP (by rw [List.length_zipWith]; omega) fun x H9 s9 r9 n9 => ?_⟩
      rw [← he1, ← he2] at r9
      exact q x H9 (((s1.trans s2).trans s7).trans s9) (gone ((s1.trans s2).trans s7) n9) r9
def NS : List Str := ["self", "other", "many", "ones", "others", "rests", "own", "less"]
theorem sc_sub : FnScope NS ["self", "other"] (defScope (inP 5)) := ⟨rfl, rfl, rfl, by decide +kernel, rfl, by decide +kernel, by decide +kernel⟩
theorem ok_sub {q : Str} (F : FunD K "__sub__" q (defArgs (inP 5)) (defBody (inP 5)) (defScope (inP 5)) [] [] f fd) (T : TT K mg) (I : PId P w K mg base) (GF : FillG P w K mg base) : FnOk P w K mg base CX0 4 f fd ["self", "other"] (spBin K (addl (· - ·))) := by
  obtain ⟨fF, dF, GF⟩ := GF
  refine F.ok sc_sub (fun vs H Q E h => ?_) (fun cdv A outer s H vs Q E hr h => ?_)
  · obtain ⟨a, b, as, bs, rfl, _⟩ := h
    rfl
  · obtain ⟨a, b, as, bs, rfl, ⟨dx, ta, ea, eta⟩, ⟨dy, tb, eb, etb⟩, la, lb, ba, bb, q⟩ := h
    refine ⟨_, PSs.nox (pss_cons (ps_if (pt_not (pt_val (pe_callB call_isi (by rfl) T.fre (by decide +kernel) (pa_cons (pv 1) (pa_cons (pe_glob (v := .ref (PC K)) (by rfl) (T.gl "Polynomial" (by decide)) rfl) pa_nil))))) (pss_one ps_never) pss_nil)
      (pss_cons (ps_set (i := 2) sc_sub.nd rfl (Or.inl rfl) (pe_callB (call_max2 rfl) (by rfl) T.fre (by decide +kernel) (pa_cons (pe_callB call_len_seq (by rfl) T.fre (by decide +kernel) (pa_cons (pe_fld (pv 0) rfl) pa_nil)) (pa_cons (pe_callB call_len_seq (by rfl) T.fre (by decide +kernel) (pa_cons (pe_fld (pv 1) rfl) pa_nil)) pa_nil))))
      (pss_cons (ps_par (i := 3) (j := 4) rfl sc_sub.nd rfl rfl (by decide) rfl rfl (pa_cons (pe_gd GF (hr.mono (by decide)) (by rfl) (pa_cons (pe_fld (pv 0) rfl) (pa_cons (pv 2) pa_nil))) (pa_cons (pe_gd GF (hr.mono (by decide)) (by rfl) (pa_cons (pe_fld (pv 1) rfl) (pa_cons (pv 2) pa_nil))) pa_nil)) (by rfl))
      (pss_cons (ps_setLc (i := 5) (own := [("own", 6), ("less", 7)]) (g := gTup K 2 (gCons (gName 6) (gCons (gName 7) gNil))) (tt := tYes) (by rfl) sc_sub.nd rfl rfl (sw_true rfl rfl rfl (by decide +kernel)) (pi_zip (by rfl) T.fre (pa_cons (pv 3) (pa_cons (pv 4) pa_nil))) (blkOk_by (N := NS) (sc := defScope (inP 5)) (by decide +kernel)) (fun _ _ _ _ _ => pg_tup (by rfl) (pgs_cons (pg_name (i := 6) sc_sub.nd rfl (Or.inl rfl)) (pgs_cons (pg_name (i := 7) sc_sub.nd rfl (Or.inl rfl)) pgs_nil))) (fun _ _ _ _ _ => pts_nil) (fun _ _ _ _ _ => pe_op op_sub (pv 6) (pv 7)))
      (pss_one (ps_ret (pe_makeS1 T.mkp I (hr.mono (by decide)) (by rfl) (T.gl "Polynomial" (by decide)) pass0 (pv 5)))))))), ?_⟩
    have hm : (if (((bs.map V.int).length : Nat) : Int) > ((as.map V.int).length : Nat) then (((bs.map V.int).length : Nat) : Int) else ((as.map V.int).length : Nat)) = ((max as.length bs.length : Nat) : Int) := by
      rw [List.length_map, List.length_map]
      split <;> omega
    refine ⟨_, rfl, _, _, _, _, true, rfl, .own _, T.tyP eb, T.kitP, true, rfl, iteF ?_⟩
    refine ⟨_, rfl, a, _, dx, _, _, rfl, ea, T.clP, T.nC, rfl, ta, _, rfl, .inr (SqT.of eta), _, rfl, b, _, dy, _, _, rfl, eb, T.clP, T.nC, rfl, tb, _, rfl, .inr (SqT.of etb), _, _, rfl, ?_⟩
    refine ⟨_, rfl, a, _, dx, _, _, rfl, ea, T.clP, T.nC, rfl, _, rfl, ta, as, max as.length bs.length, by rw [hm]; rfl, eta, by omega, by omega, fun l1 H1 s1 n1 e1 => ?_⟩
    refine ⟨_, rfl, b, _, dy, _, _, rfl, s1 _ _ eb, T.clP, T.nC, rfl, _, rfl, tb, bs, max as.length bs.length, by rw [hm]; rfl, s1 _ _ etb, by omega, by omega, fun l2 H2 s2 n2 e2 => ⟨_, _, rfl, ?_⟩⟩
    refine ⟨_, rfl, _, rfl, l1, l2, _, _, rfl, SqL.of (s2 _ _ e1), SqL.of e2, fun D nD => ?_⟩
    have l1' := fill_len as (Nat.le_max_left as.length bs.length)
    have l2' := fill_len bs (Nat.le_max_right as.length bs.length)
    generalize he1 : fill as (max as.length bs.length) = xs at e1 l1'
    generalize he2 : fill bs (max as.length bs.length) = ys at e2 l2'
    have hmx : max as.length bs.length ≤ 40 := by omega
    refine lc_it (walk_zip (xs := xs.map V.int) (ys := ys.map V.int) (n := max as.length bs.length) (by rw [List.length_map, List.length_map]; omega)) (fun i H' => Same H2 H' ∧ H' D = some (.lst (((List.zipWith (· - ·) xs ys).take i).map V.int))) ⟨same_new nD, upd_same⟩ (fun i H' _ pv => ⟨SqL.of (pv.1 _ _ (s2 _ _ e1)), SqL.of (pv.1 _ _ e2)⟩) ?_ ?_
    · rintro i v H7 H8 hi ⟨s7, e7⟩ ⟨t, y1, y2, rfl, nt, rfl, hx, hy⟩
      dsimp only at hx hy
      obtain ⟨x, hx', rfl⟩ := getm hx
      obtain ⟨y, hy', rfl⟩ := getm hy
      refine ⟨t, _, rfl, SqT.of upd_same, rfl, _, _, rfl, _, _, rfl, rfl, rfl, _, rfl, _, rfl, _, _, rfl, rfl, _, same_new nt _ _ e7, ?_, ?_, ?_⟩
      · rw [List.length_map, List.length_take, sizeLine_eq]
        omega
      · intro b' o' e'
        rw [upd_ne (ne_of_none e' nD)]
        exact same_new nt _ _ (s7 _ _ e')
      · rw [upd_same, zw_succ hx' hy', List.map_append]
        rfl
    · rintro H7 ⟨s7, e7⟩
      have e8 : (List.zipWith (· - ·) xs ys).take (max as.length bs.length) = List.zipWith (· - ·) xs ys := List.take_of_length_le (by rw [List.length_zipWith]; omega)
      rw [e8] at e7
      refine ⟨_, rfl, D, _, rfl, .inr (SqL.of e7), madeP (by rw [List.length_zipWith]; omega) fun x H9 s9 r9 n9 => ?_⟩
      rw [← he1, ← he2] at r9
      exact q x H9 (((s1.trans s2).trans s7).trans s9) (gone ((s1.trans s2).trans s7) n9) r9
end
end K70

set_option maxHeartbeats 4000000
namespace K70
open PySem PySem.Spec PyProof.Rows L2 RtL ErL StX
section
variable {P : Program} {w : World} {K : Fr} {mg : Str → Option Value} {base : Heap} {f : Addr} {fd : FuncData}
/-! ### - p -/
def NN : List Str := ["self", "negatives", "coefficient"]
theorem sc_neg : FnScope NN ["self"] (defScope (inP 7)) := ⟨rfl, rfl, rfl, by decide +kernel, rfl, by decide +kernel, by decide +kernel⟩
def spNeg (K : Fr) : Sp := fun vs H Q _ => ∃ a cs, vs = [.ref a] ∧ PolAt K H a cs ∧ cs.length ≤ 1000 ∧ ∀ x H', Same H H' → H x = none → PolAt K H' x (pl (cs.map (- ·))) → Q (.ref x) H'
theorem ok_neg {q : Str} (F : FunD K "__neg__" q (defArgs (inP 7)) (defBody (inP 7)) (defScope (inP 7)) [] [] f fd) (T : TT K mg) (I : PId P w K mg base) : FnOk P w K mg base CX0 4 f fd ["self"] (spNeg K) := by
  refine F.ok sc_neg (fun vs H Q E h => ?_) (fun cdv A outer s H vs Q E hr h => ?_)
  · obtain ⟨a, cs, rfl, _⟩ := h
    rfl
  · obtain ⟨a, cs, rfl, ⟨dx, ta, ea, eta⟩, la, q⟩ := h
    refine ⟨_, PSs.nox (pss_cons (ps_setLc (i := 1) (own := [("coefficient", 2)]) (g := gName 2) (tt := tYes) (by rfl) sc_neg.nd rfl rfl (sw_true rfl rfl rfl (by decide +kernel)) (pi_tup (pe_fld (pv 0) rfl)) (blkOk_by (N := NN) (sc := defScope (inP 7)) (by decide +kernel)) (fun _ _ _ _ _ => pg_name (i := 2) sc_neg.nd rfl (Or.inl rfl)) (fun _ _ _ _ _ => pts_nil) (fun _ _ _ _ _ => pe_un un_neg (pv 2)))
      (pss_one (ps_ret (pe_makeS1 T.mkp I (hr.mono (by decide)) (by rfl) (T.gl "Polynomial" (by decide)) pass0 (pv 1))))), ?_⟩
    refine ⟨_, rfl, a, _, dx, _, _, rfl, ea, T.clP, T.nC, rfl, ta, rfl, ⟨_, SqT.of eta⟩, fun D nD => ?_⟩
    refine lc_it (walk_tup (xs := cs.map V.int)) (fun i H' => Same H H' ∧ H' D = some (.lst (((cs.map (- ·)).take i).map V.int))) ⟨same_new nD, upd_same⟩ (fun i H' _ pv => SqT.of (pv.1 _ _ eta)) ?_ ?_
    · rintro i v H7 H8 hi ⟨s7, e7⟩ ⟨rfl, hx⟩
      obtain ⟨x, hx', rfl⟩ := getm hx
      refine ⟨rfl, _, rfl, _, rfl, _, e7, ?_, ?_, ?_⟩
      · rw [List.length_map, List.length_take, List.length_map, sizeLine_eq]
        omega
      · intro b' o' e'
        rw [upd_ne (ne_of_none e' nD)]
        exact s7 _ _ e'
      · have hm : (cs.map (- ·))[i]? = some (-x) := by rw [List.getElem?_map, hx']; rfl
        rw [upd_same, take_succ' hm, List.map_append]
        rfl
    · rintro H7 ⟨s7, e7⟩
      have e8 : (cs.map (- ·)).take (cs.map V.int).length = cs.map (- ·) := List.take_of_length_le (by rw [List.length_map, List.length_map]; exact Nat.le_refl _)
      rw [e8] at e7
      exact ⟨_, rfl, D, _, rfl, .inr (SqL.of e7), madeP (by rw [List.length_map]; omega) fun x H9 s9 r9 n9 => q x H9 (s7.trans s9) (gone s7 n9) r9⟩
/-! ### == -/
theorem sc_eq : FnScope ["self", "other"] ["self", "other"] (defScope (inP 8)) := ⟨rfl, rfl, rfl, by decide +kernel, rfl, by decide +kernel, by decide +kernel⟩
/-- None, a whole number, a text, a list, a tuple -/
def spEq (K : Fr) : Sp := fun vs H Q _ => ∃ a v as, vs = [.ref a, v] ∧ PolAt K H a as ∧ ((∃ b bs, v = .ref b ∧ PolAt K H b bs ∧ Q (.bl (decide (as = bs))) H) ∨ (((∃ i, v = .int i) ∨ ∃ t, OddV H v t) ∧ Q (.bl false) H))
theorem dp_ints (K : Fr) (H : Hp) : ∀ xs : List Int, DpAll K H (xs.map V.int) (xs.map PyData.int)
  | [] => .nil
  | x :: xs => .cons (.int x) (dp_ints K H xs)
theorem lay_ints : ∀ xs : List Int, PyData.canLayAll0 (xs.map PyData.int) = true
  | [] => rfl
  | x :: xs => by
    show (true && PyData.canLayAll0 (xs.map PyData.int)) = true
    rw [lay_ints xs, Bool.and_self]
theorem dep_ints : ∀ xs : List Int, PyData.depthAll (xs.map PyData.int) = 0
  | [] => rfl
  | x :: xs => by
    show max 0 (PyData.depthAll (xs.map PyData.int)) = 0
    rw [dep_ints xs]
    rfl
theorem shp_tup (xs : List Int) : SeqAt.shaped (.tuple (xs.map PyData.int)) = true := by
  unfold SeqAt.shaped
  refine Bool.and_eq_true_iff.mpr ⟨lay_ints xs, decide_eq_true ?_⟩
  show PyData.depthAll (xs.map PyData.int) + 1 ≤ 64
  rw [dep_ints]
  decide
theorem shp_lst (xs : List Int) : SeqAt.shaped (.list (xs.map PyData.int)) = true := shp_tup xs
theorem eqv_ints : ∀ xs ys : List Int, PyData.eqvAll (xs.map PyData.int) (ys.map PyData.int) = decide (xs = ys)
  | [], [] => rfl
  | x :: xs, y :: ys => by
    show ((x == y) && PyData.eqvAll (xs.map PyData.int) (ys.map PyData.int)) = _
    rw [eqv_ints xs ys]
    by_cases h : x = y <;> by_cases h2 : xs = ys <;> simp [h, h2]
  | [], _ :: _ => rfl
  | _ :: _, [] => rfl
theorem ok_eq {q : Str} (F : FunD K "__eq__" q (defArgs (inP 8)) (defBody (inP 8)) (defScope (inP 8)) [] [] f fd) (T : TT K mg) : FnOk P w K mg base CX0 1 f fd ["self", "other"] (spEq K) := by
  refine F.ok sc_eq (fun vs H Q E h => ?_) (fun cdv A outer s H vs Q E hr h => ?_)
  · obtain ⟨a, v, as, rfl, _⟩ := h
    rfl
  · obtain ⟨a, v, as, rfl, ⟨dx, ta, ea, eta⟩, h⟩ := h
    refine ⟨_, PSs.nox (pss_one (ps_ret (pe_and (pe_callB call_isi (by rfl) T.fre (by decide +kernel) (pa_cons (pv 1) (pa_cons (pe_glob (v := .ref (PC K)) (by rfl) (T.gl "Polynomial" (by decide)) rfl) pa_nil)))
      (pe_one (pe_cmpR (op_eqD hr.units) (pe_fld (pv 0) rfl) (pe_fld (pv 1) rfl) (nomark _)))))), ?_⟩
    rcases h with ⟨b, bs, rfl, ⟨dy, tb, eb, etb⟩, q⟩ | ⟨h, q⟩
    · rw [← eqv_ints as bs] at q
      exact ⟨_, rfl, _, _, _, _, true, rfl, .own _, T.tyP eb, T.kitP, true, rfl, iteT ⟨_, rfl, a, _, dx, _, _, rfl, ea, T.clP, T.nC, rfl, _, rfl, b, _, dy, _, _, rfl, eb, T.clP, T.nC, rfl, _, _, .tup (SqT.of eta) (dp_ints K H as), .tup (SqT.of etb) (dp_ints K H bs), shp_tup as, shp_tup bs, q⟩⟩
    · rcases h with ⟨i, rfl⟩ | ⟨t, o⟩
      · exact ⟨_, rfl, _, _, _, _, false, rfl, .own _, .base (.int i), T.kitT "int" (by decide), false, rfl, iteF q⟩
      · have ht := o.mem
        exact ⟨_, rfl, _, _, _, _, false, rfl, .own _, o.ty (K := K), T.kitT t (by clear o; revert t; decide), false, rfl, iteF q⟩
/-! ### + - * refused -/
/-- what is no Polynomial -/
def OddP (K : Fr) (H : Hp) (v : V) : Prop := (∃ i, v = .int i) ∨ Odd K H v
theorem OddP.same {H H' : Hp} {v : V} (h : OddP K H v) (s : Same H H') : OddP K H' v := h.imp id fun o => o.same s
def spBinX (K : Fr) : Sp := fun vs H Q E => ∃ a v as, vs = [.ref a, v] ∧ PolAt K H a as ∧ OddP K H v ∧ Ref (IP K) H v E
theorem isi_oddP (T : TT K mg) {H : Hp} {v : V} (h : OddP K H v) : ∃ c, TyX K H v c ∧ PySem.W.kitOne K c (.ref (PC K)) = some false := by
  rcases h with ⟨i, rfl⟩ | ⟨t, o⟩ | ⟨a, t, b, rfl, dx, ea⟩
  · exact ⟨_, .base (.int i), T.kitT "int" (by decide)⟩
  · have ht := o.mem
    exact ⟨_, o.ty (K := K), T.kitT t (by clear o; revert t; decide)⟩
  · exact ⟨_, T.ty ea, T.kitR⟩
end
end K70

set_option maxHeartbeats 4000000
namespace K70
open PySem PySem.Spec PyProof.Rows L2 RtL ErL StX
section
variable {P : Program} {w : World} {K : Fr} {mg : Str → Option Value} {base : Heap} {f : Addr} {fd : FuncData}
theorem ok_addX {q : Str} (F : FunD K "__add__" q (defArgs (inP 4)) (defBody (inP 4)) (defScope (inP 4)) [] [] f fd) (T : TT K mg) (I : PId P w K mg base) (GF : FillG P w K mg base) : FnOk P w K mg base (L2.CX P w) 4 f fd ["self", "other"] (spBinX K) := by
  obtain ⟨fF, dF, GF⟩ := GF
  refine F.ok sc_add (fun vs H Q E h => ?_) (fun cdv A outer s H vs Q E hr h => ?_)
  · obtain ⟨a, v, as, rfl, _⟩ := h
    rfl
  · obtain ⟨a, v, as, rfl, pa, ho, r⟩ := h
    obtain ⟨c, ty, kt⟩ := isi_oddP T ho
    refine ⟨_, (pss_cons (ps_if (pt_not (pt_val (pe_callB call_isi (by rfl) T.fre (by decide +kernel) (pa_cons (pv 1) (pa_cons (pe_glob (v := .ref (PC K)) (by rfl) (T.gl "Polynomial" (by decide)) rfl) pa_nil))))) (pss_one (ps_raise rfl (takes_of rfl rfl rfl rfl) (pmk_er1 T.ep.cl T.ip1 bd1_value hr (by rfl) (T.gl "InvalidPolynomial" (by decide)) (raises_own T.ep.be T.ep.tc) (pa_cons (pv 1) pa_nil)))) pss_nil)
      (pss_cons (ps_set (i := 2) sc_add.nd rfl (Or.inl rfl) (pe_callB (call_max2 rfl) (by rfl) T.fre (by decide +kernel) (pa_cons (pe_callB call_len_seq (by rfl) T.fre (by decide +kernel) (pa_cons (pe_fld (pv 0) rfl) pa_nil)) (pa_cons (pe_callB call_len_seq (by rfl) T.fre (by decide +kernel) (pa_cons (pe_fld (pv 1) rfl) pa_nil)) pa_nil))))
      (pss_cons (ps_par (i := 3) (j := 4) rfl sc_add.nd rfl rfl (by decide) rfl rfl (pa_cons (pe_gd GF (hr.mono (by decide)) (by rfl) (pa_cons (pe_fld (pv 0) rfl) (pa_cons (pv 2) pa_nil))) (pa_cons (pe_gd GF (hr.mono (by decide)) (by rfl) (pa_cons (pe_fld (pv 1) rfl) (pa_cons (pv 2) pa_nil))) pa_nil)) (by rfl))
      (pss_cons (ps_setLc (i := 5) (own := [("own", 6), ("more", 7)]) (g := gTup K 2 (gCons (gName 6) (gCons (gName 7) gNil))) (tt := tYes) (by rfl) sc_add.nd rfl rfl (sw_true rfl rfl rfl (by decide +kernel)) (pi_zip (by rfl) T.fre (pa_cons (pv 3) (pa_cons (pv 4) pa_nil))) (blkOk_by (N := NA) (sc := defScope (inP 4)) (by decide +kernel)) (fun _ _ _ _ _ => pg_tup (by rfl) (pgs_cons (pg_name (i := 6) sc_add.nd rfl (Or.inl rfl)) (pgs_cons (pg_name (i := 7) sc_add.nd rfl (Or.inl rfl)) pgs_nil))) (fun _ _ _ _ _ => pts_nil) (fun _ _ _ _ _ => pe_op op_add (pv 6) (pv 7)))
      (pss_one (ps_ret (pe_makeS1 T.mkp I (hr.mono (by decide)) (by rfl) (T.gl "Polynomial" (by decide)) pass0 (pv 5)))))))), ?_⟩
    exact ⟨_, rfl, _, _, _, _, false, rfl, .own _, ty, kt, false, rfl, iteT ⟨_, rfl, v, rfl, fun d nd => r d _ (same_new nd) upd_same⟩⟩
theorem ok_subX {q : Str} (F : FunD K "__sub__" q (defArgs (inP 5)) (defBody (inP 5)) (defScope (inP 5)) [] [] f fd) (T : TT K mg) (I : PId P w K mg base) (GF : FillG P w K mg base) : FnOk P w K mg base (L2.CX P w) 4 f fd ["self", "other"] (spBinX K) := by
  obtain ⟨fF, dF, GF⟩ := GF
  refine F.ok sc_sub (fun vs H Q E h => ?_) (fun cdv A outer s H vs Q E hr h => ?_)
  · obtain ⟨a, v, as, rfl, _⟩ := h
    rfl
  · obtain ⟨a, v, as, rfl, pa, ho, r⟩ := h
    obtain ⟨c, ty, kt⟩ := isi_oddP T ho
    refine ⟨_, (pss_cons (ps_if (pt_not (pt_val (pe_callB call_isi (by rfl) T.fre (by decide +kernel) (pa_cons (pv 1) (pa_cons (pe_glob (v := .ref (PC K)) (by rfl) (T.gl "Polynomial" (by decide)) rfl) pa_nil))))) (pss_one (ps_raise rfl (takes_of rfl rfl rfl rfl) (pmk_er1 T.ep.cl T.ip1 bd1_value hr (by rfl) (T.gl "InvalidPolynomial" (by decide)) (raises_own T.ep.be T.ep.tc) (pa_cons (pv 1) pa_nil)))) pss_nil)
      (pss_cons (ps_set (i := 2) sc_sub.nd rfl (Or.inl rfl) (pe_callB (call_max2 rfl) (by rfl) T.fre (by decide +kernel) (pa_cons (pe_callB call_len_seq (by rfl) T.fre (by decide +kernel) (pa_cons (pe_fld (pv 0) rfl) pa_nil)) (pa_cons (pe_callB call_len_seq (by rfl) T.fre (by decide +kernel) (pa_cons (pe_fld (pv 1) rfl) pa_nil)) pa_nil))))
      (pss_cons (ps_par (i := 3) (j := 4) rfl sc_sub.nd rfl rfl (by decide) rfl rfl (pa_cons (pe_gd GF (hr.mono (by decide)) (by rfl) (pa_cons (pe_fld (pv 0) rfl) (pa_cons (pv 2) pa_nil))) (pa_cons (pe_gd GF (hr.mono (by decide)) (by rfl) (pa_cons (pe_fld (pv 1) rfl) (pa_cons (pv 2) pa_nil))) pa_nil)) (by rfl))
      (pss_cons (ps_setLc (i := 5) (own := [("own", 6), ("less", 7)]) (g := gTup K 2 (gCons (gName 6) (gCons (gName 7) gNil))) (tt := tYes) (by rfl) sc_sub.nd rfl rfl (sw_true rfl rfl rfl (by decide +kernel)) (pi_zip (by rfl) T.fre (pa_cons (pv 3) (pa_cons (pv 4) pa_nil))) (blkOk_by (N := NS) (sc := defScope (inP 5)) (by decide +kernel)) (fun _ _ _ _ _ => pg_tup (by rfl) (pgs_cons (pg_name (i := 6) sc_sub.nd rfl (Or.inl rfl)) (pgs_cons (pg_name (i := 7) sc_sub.nd rfl (Or.inl rfl)) pgs_nil))) (fun _ _ _ _ _ => pts_nil) (fun _ _ _ _ _ => pe_op op_sub (pv 6) (pv 7)))
      (pss_one (ps_ret (pe_makeS1 T.mkp I (hr.mono (by decide)) (by rfl) (T.gl "Polynomial" (by decide)) pass0 (pv 5)))))))), ?_⟩
    exact ⟨_, rfl, _, _, _, _, false, rfl, .own _, ty, kt, false, rfl, iteT ⟨_, rfl, v, rfl, fun d nd => r d _ (same_new nd) upd_same⟩⟩
end
end K70

set_option maxHeartbeats 4000000
namespace K70
open PySem PySem.Spec PyProof.Rows L2 RtL ErL StX
abbrev T_ (i : Int) : Str := toString i
theorem nil_app (x : Str) : Str.empty ++ x = x := by
  obtain ⟨c⟩ := x
  show (⟨#[] ++ c⟩ : Str) = ⟨c⟩
  rw [Array.empty_append]
theorem t_len {i : Int} (h : Bd 1000 i) : (T_ i).length ≤ 1001 := by
  show (Str.ofString (toString i)).length ≤ _
  rw [PySem.ofString_length]
  by_cases z : i.natAbs = 0
  · exact int_text_length_le (by decide) (by rw [z]; decide)
  · exact int_text_length_le (by decide) ((Nat.log2_lt z).mpr h)
theorem log_of {i : Int} (h : Bd 1000 i) : i.natAbs.log2 < 1920 := Nat.lt_of_lt_of_le (PySem.Flt.log2_lt_of (by decide) h) (by decide)
theorem bd_nat {e : Nat} (h : e ≤ 100) : Bd 1000 (e : Int) := Nat.lt_of_le_of_lt (show (e : Int).natAbs ≤ 100 by omega) (Nat.lt_of_lt_of_le (show 100 < 2 ^ 7 by decide) (Nat.pow_le_pow_right (by decide) (by decide)))
def vtxt (e : Nat) : Str := if e = 1 then "d" else "d^" ++ T_ e
def ptxt (c : Int) (e : Nat) : Str := if e = 0 then T_ c else if c = 1 then vtxt e else T_ c ++ " " ++ vtxt e
theorem vtxt_len {e : Nat} (h : e ≤ 100) : (vtxt e).length ≤ 1003 := by
  have := t_len (bd_nat h)
  unfold vtxt
  split
  · decide
  · rw [strLen_append, show ("d^" : Str).length = 2 from rfl]
    omega
theorem ptxt_len {c : Int} {e : Nat} (h : e ≤ 100) (b : Bd 1000 c) : (ptxt c e).length ≤ 3000 := by
  have h1 := vtxt_len h
  have h2 := t_len b
  unfold ptxt
  split
  · omega
  · split
    · omega
    · rw [strLen_append, strLen_append, show (" " : Str).length = 1 from rfl]
      omega
def stxt (c : Int) (e : Nat) (first : Bool) : Str := match first with
  | true => if c < 0 then "-" ++ ptxt (c.natAbs : Nat) e else ptxt (c.natAbs : Nat) e
  | false => if c < 0 then " - " ++ ptxt (c.natAbs : Nat) e else " + " ++ ptxt (c.natAbs : Nat) e
section
variable {P : Program} {w : World} {K : Fr} {mg : Str → Option Value} {base : Heap} {f : Addr} {fd : FuncData}
abbrev s_pow : Stmt := top 11
theorem sc_pow : FnScope ["coefficient", "exponent", "variable"] ["coefficient", "exponent"] (defScope s_pow) := ⟨rfl, rfl, rfl, by decide +kernel, rfl, by decide +kernel, by decide +kernel⟩
def spPow : Sp := fun vs H Q _ => ∃ (c : Int) (e : Nat), vs = [.int c, .int e] ∧ e ≤ 100 ∧ Bd 1000 c ∧ Q (.str (ptxt c e)) H
theorem ok_pow (F : FunD K "power_text" "power_text" (defArgs s_pow) (defBody s_pow) (defScope s_pow) [] [] f fd) (T : TT K mg) : FnOk P w K mg base CX0 1 f fd ["coefficient", "exponent"] spPow := by
  refine F.ok sc_pow (fun vs H Q E h => ?_) (fun cdv A outer s H vs Q E hr h => ?_)
  · obtain ⟨c, e, rfl, _⟩ := h
    rfl
  · obtain ⟨c, e, rfl, he, hc, q⟩ := h
    refine ⟨_, PSs.nox (pss_cons (ps_if (pt_cmpR op_eq (pv 1) pe_int (nomark _)) (pss_one (ps_ret (pe_callTy call_str_int (by rfl) T.fre (by decide +kernel) (pa_cons (pv 0) pa_nil)))) pss_nil)
      (Evl.pss_cut (ps_set (i := 2) sc_pow.nd rfl (Or.inl rfl) (pe_ifExp (pt_cmpR op_eq (pv 1) pe_int (nomark _)) pe_str (pe_joined (.cons pe_str (.cons (pe_fmt (pv 1)) .nil)))))
      (pss_one (ps_ret (pe_ifExp (pt_cmpR op_eq (pv 0) pe_int (nomark _)) (pv 2) (pe_joined (.cons (pe_fmt (pv 0)) (.cons pe_str (.cons (pe_fmt (pv 2)) .nil))))))))), ?_⟩
    have lv := vtxt_len he
    have lc := t_len hc
    have le := t_len (bd_nat he)
    refine ⟨_, rfl, rfl, _, rfl, ite2 (fun h => ?_) (fun h => ?_)⟩
    · have z : e = 0 := by
        have y := of_decide_eq_true h
        injection y with y
        omega
      rw [show ptxt c e = T_ c from if_pos z] at q
      exact ⟨_, rfl, c, rfl, log_of hc, q⟩
    · have z : ¬ e = 0 := fun y => h (decide_eq_true (by rw [y]; rfl))
      rw [show ptxt c e = _ from if_neg z] at q
      refine ⟨fun σ' H' => H' = H ∧ σ' = [some (.int c), some (.int (e : Nat)), some (.str (vtxt e))], ?_, ?_⟩
      · refine ⟨_, rfl, rfl, _, rfl, ite2 (fun h1 => ?_) (fun h1 => ?_)⟩
        · have z1 : e = 1 := by
            have y := of_decide_eq_true h1
            injection y with y
            omega
          refine ⟨rfl, ?_⟩
          rw [show vtxt e = "d" from if_pos z1]
          rfl
        · have z1 : ¬ e = 1 := fun y => h1 (decide_eq_true (by rw [y]; rfl))
          refine ⟨"d^", rfl, ?_, _, rfl, .inr ⟨(e : Int), rfl, log_of (bd_nat he), T_ e, rfl, ?_, ?_⟩⟩
          · rw [nil_app, sizeLine_eq]
            decide
          · rw [nil_app, strLen_append, sizeLine_eq, show ("d^" : Str).length = 2 from rfl]
            omega
          · rw [nil_app, show vtxt e = "d^" ++ T_ e from if_neg z1]
            exact ⟨rfl, rfl⟩
      · rintro σ' H' ⟨rfl, rfl⟩
        refine ⟨_, rfl, rfl, _, rfl, ite2 (fun h1 => ?_) (fun h1 => ?_)⟩
        · have z1 : c = 1 := by
            have y := of_decide_eq_true h1
            injection y
          rw [if_pos z1] at q
          exact ⟨_, rfl, q⟩
        · have z1 : ¬ c = 1 := fun y => h1 (decide_eq_true (by rw [y]))
          rw [if_neg z1] at q
          refine ⟨_, rfl, .inr ⟨c, rfl, log_of hc, T_ c, rfl, ?_, " ", rfl, ?_, _, rfl, .inl ⟨vtxt e, rfl, ?_, vtxt e, rfl, ?_, ?_⟩⟩⟩
          · rw [nil_app, sizeLine_eq]
            omega
          · rw [nil_app, strLen_append, sizeLine_eq, show (" " : Str).length = 1 from rfl]
            omega
          · rw [sizeLine_eq]
            omega
          · rw [nil_app, strLen_append, strLen_append, sizeLine_eq, show (" " : Str).length = 1 from rfl]
            omega
          · rw [nil_app]
            exact q
abbrev PowG (P : Program) (w : World) (K : Fr) (mg : Str → Option Value) (base : Heap) : Prop := ∃ f d, Gd P w K mg base 1 "power_text" f d ["coefficient", "exponent"] spPow
/-! ### signed_text -/
abbrev s_sgt : Stmt := top 12
theorem sc_sgt : FnScope ["coefficient", "exponent", "is_first", "own"] ["coefficient", "exponent", "is_first"] (defScope s_sgt) := ⟨rfl, rfl, rfl, by decide +kernel, rfl, by decide +kernel, by decide +kernel⟩
def spSgt : Sp := fun vs H Q _ => ∃ (c : Int) (e : Nat) (b : Bool), vs = [.int c, .int e, .bl b] ∧ e ≤ 100 ∧ Bd 1000 c ∧ Q (.str (stxt c e b)) H
theorem bd_abs {n : Nat} {c : Int} (h : Bd n c) : Bd n (c.natAbs : Nat) := by
  show ((c.natAbs : Nat) : Int).natAbs < _
  rw [Int.natAbs_natCast]
  exact h
theorem ok_sgt (F : FunD K "signed_text" "signed_text" (defArgs s_sgt) (defBody s_sgt) (defScope s_sgt) [] [] f fd) (T : TT K mg) (G : PowG P w K mg base) : FnOk P w K mg base CX0 2 f fd ["coefficient", "exponent", "is_first"] spSgt := by
  obtain ⟨fP, dP, GP⟩ := G
  refine F.ok sc_sgt (fun vs H Q E h => ?_) (fun cdv A outer s H vs Q E hr h => ?_)
  · obtain ⟨c, e, b, rfl, _⟩ := h
    rfl
  · obtain ⟨c, e, b, rfl, he, hc, q⟩ := h
    refine ⟨_, PSs.nox (pss_cons (ps_set (i := 3) sc_sgt.nd rfl (Or.inl rfl) (pe_gd GP hr (by rfl) (pa_cons (pe_callB call_abs (by rfl) T.fre (by decide +kernel) (pa_cons (pv 0) pa_nil)) (pa_cons (pv 1) pa_nil))))
      (pss_cons (ps_if (pt_val (pv 2)) (pss_one (ps_ret (pe_ifExp (pt_cmpR op_lt (pv 0) pe_int (nomark _)) (pe_joined (.cons pe_str (.cons (pe_fmt (pv 3)) .nil))) (pv 3)))) pss_nil)
      (pss_one (ps_ret (pe_ifExp (pt_cmpR op_lt (pv 0) pe_int (nomark _)) (pe_joined (.cons pe_str (.cons (pe_fmt (pv 3)) .nil))) (pe_joined (.cons pe_str (.cons (pe_fmt (pv 3)) .nil)))))))), ?_⟩
    have ea : (if c < 0 then -c else c) = ((c.natAbs : Nat) : Int) := by split <;> omega
    have lp := ptxt_len he (bd_abs hc)
    have lz : 10000 ≤ sizeLine := by rw [sizeLine_eq]; decide
    refine ⟨_, rfl, _, rfl, _, rfl, _, e, rfl, he, by rw [ea]; exact bd_abs hc, ?_⟩
    rw [ea]
    have js : ∀ (y : Str), y.length ≤ 10 → ∀ {H1 : Hp} {R : VK} {σ : L2.St}, σ[3]? = some (some (V.str (ptxt ((c.natAbs : Nat) : Int) e))) → R (.str (y ++ ptxt ((c.natAbs : Nat) : Int) e)) H1 → tJs [tC (V.str y), tFmt (tVar 3)] Str.empty σ H1 fun out H2 => R (V.str out) H2 := fun y ly H1 R σ h3 r => by
      refine ⟨y, rfl, by rw [nil_app]; omega, _, h3, .inl ⟨_, rfl, by omega, _, rfl, ?_, ?_⟩⟩
      · rw [nil_app, strLen_append]
        omega
      · rw [nil_app]
        exact r
    refine ⟨_, rfl, b, rfl, ?_⟩
    cases b with
    | true =>
      refine iteT ⟨_, rfl, c, 0, rfl, rfl, _, rfl, ite2 (fun h => ?_) (fun h => ?_)⟩
      · have z : c < 0 := of_decide_eq_true h
        refine js "-" (by decide) rfl ?_
        rw [show stxt c e true = _ from if_pos z] at q
        exact q
      · have z : ¬ c < 0 := fun y => h (decide_eq_true y)
        rw [show stxt c e true = _ from if_neg z] at q
        exact ⟨_, rfl, q⟩
    | false =>
      refine iteF ⟨_, rfl, c, 0, rfl, rfl, _, rfl, ite2 (fun h => ?_) (fun h => ?_)⟩
      · have z : c < 0 := of_decide_eq_true h
        refine js " - " (by decide) rfl ?_
        rw [show stxt c e false = _ from if_pos z] at q
        exact q
      · have z : ¬ c < 0 := fun y => h (decide_eq_true y)
        refine js " + " (by decide) rfl ?_
        rw [show stxt c e false = _ from if_neg z] at q
        exact q
abbrev SgtG (P : Program) (w : World) (K : Fr) (mg : Str → Option Value) (base : Heap) : Prop := ∃ f d, Gd P w K mg base 2 "signed_text" f d ["coefficient", "exponent", "is_first"] spSgt
/-! ### polynomial_text -/
abbrev s_ptx : Stmt := top 13
def NP : List Str := ["coefficients", "degree", "pieces", "exponent"]
theorem sc_ptx : FnScope NP ["coefficients"] (defScope s_ptx) := ⟨rfl, rfl, rfl, by decide +kernel, rfl, by decide +kernel, by decide +kernel⟩
/-- the terms of the exponents below n, the greatest first; m: the exponent of the first one -/
theorem join_len (y : Str) : ∀ ps : List Str, (Txt.join y ps).length ≤ (ps.map (·.length)).sum + ps.length * y.length
  | [] => by rw [TL.join_eq]; exact Nat.zero_le _
  | [p] => by
    rw [TL.join_eq]
    show p.length ≤ (p.length + 0) + _
    omega
  | p :: q :: r => by
    have ih := join_len y (q :: r)
    rw [TL.join_eq] at ih ⊢
    show (p ++ y ++ Str.join y (q :: r)).length ≤ _
    rw [strLen_append, strLen_append, List.map_cons, List.sum_cons, List.length_cons, Nat.succ_mul]
    omega
def terms (cs : List Int) (m : Nat) : Nat → List Str
  | 0 => []
  | n + 1 => (if cs.getD n 0 = 0 then [] else [stxt (cs.getD n 0) n (decide (n + 1 = m))]) ++ terms cs m n
theorem stxt_len {c : Int} {e : Nat} {b : Bool} (h : e ≤ 100) (hc : Bd 1000 c) : (stxt c e b).length ≤ 4000 := by
  have l := ptxt_len h (show Bd 1000 ((c.natAbs : Nat) : Int) from by show ((c.natAbs : Nat) : Int).natAbs < _; rw [Int.natAbs_natCast]; exact hc)
  cases b <;> (unfold stxt; dsimp only; split)
  · rw [strLen_append, show (" - " : Str).length = 3 from rfl]; omega
  · rw [strLen_append, show (" + " : Str).length = 3 from rfl]; omega
  · rw [strLen_append, show ("-" : Str).length = 1 from rfl]; omega
  · omega
theorem terms_bd {cs : List Int} {m : Nat} (h : ∀ e, Bd 1000 (cs.getD e 0)) : ∀ n, n ≤ 100 → ((terms cs m n).map (·.length)).sum ≤ n * 4000
  | 0, _ => Nat.zero_le _
  | n + 1, hn => by
    have ih := terms_bd (m := m) h n (by omega)
    unfold terms
    rw [List.map_append, List.sum_append]
    split
    · show 0 + _ ≤ _
      omega
    · have := stxt_len (b := decide (n + 1 = m)) (show n ≤ 100 by omega) (h n)
      show ((stxt _ _ _).length + 0) + _ ≤ _
      omega
def polyT (cs : List Int) : Str := if terms cs cs.length cs.length = [] then "0" else Txt.join "" (terms cs cs.length cs.length)
theorem terms_len {cs : List Int} {m : Nat} : ∀ n, (terms cs m n).length ≤ n
  | 0 => Nat.le_refl _
  | n + 1 => by
    have ih := terms_len (cs := cs) (m := m) n
    unfold terms
    rw [List.length_append]
    split <;> simp only [List.length_nil, List.length_cons] <;> omega
theorem bd_get {cs : List Int} {n : Nat} (hb : ∀ c ∈ cs, Bd n c) (e : Nat) : Bd n (cs.getD e 0) := by
  rw [List.getD_eq_getElem?_getD]
  cases z : cs[e]? with
  | none => exact Nat.two_pow_pos _
  | some c => exact hb c (List.mem_of_getElem? z)
theorem polyT_len {cs : List Int} (hb : ∀ c ∈ cs, Bd 1000 c) (hl : cs.length ≤ 40) : (polyT cs).length ≤ 200000 := by
  unfold polyT
  split
  · decide
  · have h1 := terms_bd (m := cs.length) (bd_get hb) cs.length (by omega)
    have h2 := join_len "" (terms cs cs.length cs.length)
    rw [show ("" : Str).length = 0 from rfl, Nat.mul_zero] at h2
    omega
def spPtx (K : Fr) : Sp := fun vs H Q _ => ∃ (t : Addr) (cs : List Int), vs = [.ref t] ∧ H t = some (.tup (cs.map V.int)) ∧ (∀ c ∈ cs, Bd 1000 c) ∧ cs.length ≤ 40 ∧ ∀ H', Same H H' → Q (.str (polyT cs)) H'
theorem ok_ptx (F : FunD K "polynomial_text" "polynomial_text" (defArgs s_ptx) (defBody s_ptx) (defScope s_ptx) [] [] f fd) (T : TT K mg) (G : SgtG P w K mg base) : FnOk P w K mg base CX0 3 f fd ["coefficients"] (spPtx K) := by
  obtain ⟨fS, dS, GS⟩ := G
  refine F.ok sc_ptx (fun vs H Q E h => ?_) (fun cdv A outer s H vs Q E hr h => ?_)
  · obtain ⟨t, cs, rfl, _⟩ := h
    rfl
  · obtain ⟨t, cs, rfl, et, hb, hl, q⟩ := h
    refine ⟨_, PSs.nox (pss_cons (ps_set (i := 1) sc_ptx.nd rfl (Or.inr rfl) (pe_op op_sub (pe_callB call_len_seq (by rfl) T.fre (by decide +kernel) (pa_cons (pv 0) pa_nil)) pe_int))
      (pss_cons (ps_setLc (i := 2) (own := [("exponent", 3)]) (g := gName 3) (by rfl) sc_ptx.nd rfl rfl (sw_true rfl rfl rfl (by decide +kernel)) (pi_range3 (by rfl) T.fre (pa_cons (pv 1) (pa_cons (pe_un un_neg pe_int) (pa_cons (pe_un un_neg pe_int) pa_nil)))) (blkOk_by (N := NP) (sc := defScope s_ptx) (by decide +kernel)) (fun _ _ _ _ _ => pg_name (i := 3) sc_ptx.nd rfl (Or.inl rfl))
          (fun _ _ _ _ _ => pts_one (pt_cmpR op_ne (pe_ix (r := rIxT K) ix_tup (pv 0) (pv 3) (fun _ _ => rfl)) pe_int (nomark _)))
          (fun _ _ _ _ _ => pe_gd GS hr (by rfl) (pa_cons (pe_ix (r := rIxT K) ix_tup (pv 0) (pv 3) (fun _ _ => rfl)) (pa_cons (pv 3) (pa_cons (pe_cmpR op_eq (pv 3) (pv 1) (nomark _)) pa_nil)))))
      (pss_one (ps_ret (pe_ifExp (pt_truth (pv 2) (by intro _; rfl)) (pe_join pe_str (pv 2)) pe_str))))), ?_⟩
    have hlen : (cs.map V.int).length = cs.length := List.length_map _
    have rg : RgC ((((cs.map V.int).length : Nat) : Int) - 1) (-1) (-1) cs.length := by
      have z := RgC.neg (i := (((cs.map V.int).length : Nat) : Int) - 1) (j := -1) (by rw [hlen]; omega) (by rw [hlen]; omega) (by decide) (by decide)
      rw [show ((((cs.map V.int).length : Nat) : Int) - 1 - -1).toNat = cs.length by rw [hlen]; omega] at z
      exact z
    refine ⟨_, rfl, t, _, rfl, .inr (SqT.of et), _, _, rfl, rfl, ?_⟩
    refine ⟨_, rfl, _, rfl, _, rfl, _, _, _, _, rfl, rg, fun D nD => ?_⟩
    refine lc_it walk_rangeC (fun i H' => Same H H' ∧ ∃ pre, H' D = some (.lst (pre.map V.str)) ∧ pre ++ terms cs cs.length (cs.length - i) = terms cs cs.length cs.length ∧ pre.length ≤ i) ⟨same_new nD, [], upd_same, rfl, Nat.le_refl _⟩ (fun _ _ _ _ => trivial) ?_ ?_
    · rintro i v H7 H8 hi ⟨s7, pre, e7, ep, lp⟩ ⟨rfl, hv⟩
      obtain ⟨e, he⟩ : ∃ e, cs.length - i = e + 1 := ⟨cs.length - i - 1, by omega⟩
      have hx : (((cs.map V.int).length : Nat) : Int) - 1 + (i : Nat) * (-1) = ((e : Nat) : Int) := by rw [hlen]; omega
      have hc : cs[e]? = some (cs.getD e 0) := by
        have hlt : e < cs.length := by omega
        rw [List.getD_eq_getElem?_getD, List.getElem?_eq_getElem hlt]
        rfl
      obtain rfl : v = V.int (e : Nat) := hv.trans (congrArg V.int hx)
      rw [he] at ep
      have he' : cs.length - (i + 1) = e := by omega
      have hb' : decide (V.int (e : Nat) = V.int ((((cs.map V.int).length : Nat) : Int) - 1)) = decide (e + 1 = cs.length) := by
        rw [hlen]
        exact decide_eq_decide.mpr ⟨fun z => by injection z with z; omega, fun z => congrArg V.int (by omega)⟩
      have hm : cs.getD e 0 ∈ cs := List.mem_of_getElem? hc
      refine ⟨rfl, _, rfl, _, rfl, t, _, _, _, rfl, rfl, SqT.of (s7 _ _ et), atI_nat (getM hc), rfl, _, rfl, ite2 (fun h => ?_) (fun h => ?_)⟩
      · have z : cs.getD e 0 ≠ 0 := fun y => by
          rw [y] at h
          exact absurd h (by decide)
        refine ⟨_, rfl, _, rfl, t, _, _, _, rfl, rfl, SqT.of (s7 _ _ et), atI_nat (getM hc), _, rfl, _, rfl, _, rfl, rfl, _, e, _, rfl, by omega, hb _ hm, ?_⟩
        rw [hb']
        refine ⟨_, e7, ?_, ?_, pre ++ [stxt (cs.getD e 0) e (decide (e + 1 = cs.length))], ?_, ?_, ?_⟩
        · rw [List.length_map, sizeLine_eq]
          omega
        · intro b' o' e'
          rw [upd_ne (ne_of_none e' nD)]
          exact s7 _ _ e'
        · rw [upd_same, List.map_append]
          rfl
        · rw [← ep, he', List.append_assoc]
          show _ = pre ++ ((if cs.getD e 0 = 0 then [] else [stxt (cs.getD e 0) e (decide (e + 1 = cs.length))]) ++ terms cs cs.length e)
          rw [if_neg z]
        · rw [List.length_append]
          exact Nat.succ_le_succ lp
      · have z : cs.getD e 0 = 0 := Classical.byContradiction fun y => h (by rw [decide_eq_false (fun zz => y (by injection zz))]; rfl)
        refine ⟨s7, pre, e7, ?_, by omega⟩
        rw [← ep, he']
        show _ = pre ++ ((if cs.getD e 0 = 0 then [] else [stxt (cs.getD e 0) e (decide (e + 1 = cs.length))]) ++ terms cs cs.length e)
        rw [if_pos z]
        rfl
    · rintro H7 ⟨s7, pre, e7, ep, lp⟩
      rw [Nat.sub_self] at ep
      obtain rfl : pre = terms cs cs.length cs.length := (List.append_nil pre).symm.trans ep
      have hg : ∀ e, Bd 1000 (cs.getD e 0) := fun e => by
        rw [List.getD_eq_getElem?_getD]
        cases z : cs[e]? with
        | none => exact Nat.two_pow_pos _
        | some c => exact hb c (List.mem_of_getElem? z)
      have sm := terms_bd (m := cs.length) hg cs.length (by omega)
      refine ⟨_, rfl, _, .inl ⟨_, SqL.of e7, rfl⟩, ?_⟩
      by_cases z : terms cs cs.length cs.length = []
      · rw [z]
        refine iteF ?_
        have e : polyT cs = "0" := if_pos z
        rw [← e]
        exact q H7 s7
      · have z2 : (!((terms cs cs.length cs.length).map V.str).isEmpty) = true := by
          cases y : terms cs cs.length cs.length with
          | nil => exact absurd y z
          | cons _ _ => rfl
        rw [z2]
        have e : polyT cs = _ := if_neg z
        refine iteT ⟨⟨_, rfl⟩, _, rfl, _, D, _, rfl, rfl, .inl (SqL.of e7), ?_, ?_⟩
        · rw [show ("" : Str).length = 0 from rfl, Nat.mul_zero]
          omega
        · rw [← e]
          exact q H7 s7
abbrev PtxG (P : Program) (w : World) (K : Fr) (mg : Str → Option Value) (base : Heap) : Prop := ∃ f d, Gd P w K mg base 3 "polynomial_text" f d ["coefficients"] (spPtx K)
/-! ### listed_numbers -/
abbrev s_lst : Stmt := top 14
def NL : List Str := ["numbers", "number"]
theorem sc_lst : FnScope NL ["numbers"] (defScope s_lst) := ⟨rfl, rfl, rfl, by decide +kernel, rfl, by decide +kernel, by decide +kernel⟩
def listT (cs : List Int) : Str := Txt.join ", " (cs.map fun c => T_ c)
def spLst (K : Fr) : Sp := fun vs H Q _ => ∃ (t : Addr) (cs : List Int), vs = [.ref t] ∧ H t = some (.tup (cs.map V.int)) ∧ (∀ c ∈ cs, Bd 1000 c) ∧ cs.length ≤ 40 ∧ ∀ H', Same H H' → Q (.str (listT cs)) H'
theorem listT_bd : ∀ cs : List Int, (∀ c ∈ cs, Bd 1000 c) → ((cs.map fun c => T_ c).map (·.length)).sum ≤ cs.length * 1001
  | [], _ => Nat.zero_le _
  | c :: cs, h => by
    have h1 := t_len (h c List.mem_cons_self)
    have h2 := listT_bd cs fun c hc => h c (List.mem_cons_of_mem _ hc)
    rw [List.map_cons, List.map_cons, List.sum_cons, List.length_cons]
    omega
theorem ok_lst (F : FunD K "listed_numbers" "listed_numbers" (defArgs s_lst) (defBody s_lst) (defScope s_lst) [] [] f fd) (T : TT K mg) : FnOk P w K mg base CX0 1 f fd ["numbers"] (spLst K) := by
  refine F.ok sc_lst (fun vs H Q E h => ?_) (fun cdv A outer s H vs Q E hr h => ?_)
  · obtain ⟨t, cs, rfl, _⟩ := h
    rfl
  · obtain ⟨t, cs, rfl, et, hb, hl, q⟩ := h
    refine ⟨_, PSs.nox (pss_one (ps_ret (pe_join pe_str (pe_lc (own := [("number", 1)]) (g := gName 1) (tt := tYes) (by rfl) sc_lst.nd (pi_tup (pv 0)) (blkOk_by (N := NL) (sc := defScope s_lst) (by decide +kernel)) (fun _ _ _ _ _ => pg_name (i := 1) sc_lst.nd rfl (Or.inl rfl)) (fun _ _ _ _ _ => pts_nil) (fun _ _ _ _ _ => pe_callTy call_str_int (by rfl) T.fre (by decide +kernel) (pa_cons (pv 1) pa_nil)))))), ?_⟩
    refine ⟨⟨_, rfl⟩, _, rfl, t, rfl, ⟨_, SqT.of et⟩, fun D nD => ?_⟩
    refine lc_it (walk_tup (xs := cs.map V.int)) (fun i H' => Same H H' ∧ H' D = some (.lst (((cs.map fun c => T_ c).take i).map V.str))) ⟨same_new nD, upd_same⟩ (fun i H' _ pv => SqT.of (pv.1 _ _ et)) ?_ ?_
    · rintro i v H7 H8 hi ⟨s7, e7⟩ ⟨rfl, hx⟩
      obtain ⟨x, hx', rfl⟩ := getm hx
      refine ⟨rfl, _, rfl, x, rfl, log_of (hb x (List.mem_of_getElem? hx')), _, e7, ?_, ?_, ?_⟩
      · rw [List.length_map, List.length_take, List.length_map, sizeLine_eq]
        omega
      · intro b' o' e'
        rw [upd_ne (ne_of_none e' nD)]
        exact s7 _ _ e'
      · have hm : (cs.map fun c => T_ c)[i]? = some (T_ x) := by rw [List.getElem?_map, hx']; rfl
        rw [upd_same, List.take_add_one, hm, List.map_append]
        rfl
    · rintro H7 ⟨s7, e7⟩
      have e8 : (cs.map fun c => T_ c).take (cs.map V.int).length = cs.map fun c => T_ c := List.take_of_length_le (by rw [List.length_map, List.length_map]; exact Nat.le_refl _)
      rw [e8] at e7
      have sm := listT_bd cs hb
      refine ⟨_, D, _, rfl, rfl, .inl (SqL.of e7), ?_, q H7 s7⟩
      rw [List.length_map, show (", " : Str).length = 2 from rfl]
      omega
abbrev LstG (P : Program) (w : World) (K : Fr) (mg : Str → Option Value) (base : Heap) : Prop := ∃ f d, Gd P w K mg base 1 "listed_numbers" f d ["numbers"] (spLst K)
/-! ### str, repr -/
theorem sc_str : FnScope ["self"] ["self"] (defScope (inP 9)) := ⟨rfl, rfl, rfl, by decide +kernel, rfl, by decide +kernel, by decide +kernel⟩
theorem sc_rep : FnScope ["self"] ["self"] (defScope (inP 10)) := ⟨rfl, rfl, rfl, by decide +kernel, rfl, by decide +kernel, by decide +kernel⟩
def repT (cs : List Int) : Str := "Polynomial(" ++ listT cs ++ ")"
def spTxt (K : Fr) (g : List Int → Str) : Sp := fun vs H Q _ => ∃ a cs, vs = [.ref a] ∧ PolAt K H a cs ∧ (∀ c ∈ cs, Bd 1000 c) ∧ cs.length ≤ 40 ∧ (∀ H', Same H H' → Q (.str (g cs)) H')
theorem ok_str {q : Str} (F : FunD K "__str__" q (defArgs (inP 9)) (defBody (inP 9)) (defScope (inP 9)) [] [] f fd) (T : TT K mg) (G : PtxG P w K mg base) : FnOk P w K mg base CX0 4 f fd ["self"] (spTxt K polyT) := by
  obtain ⟨fP, dP, GP⟩ := G
  refine F.ok sc_str (fun vs H Q E h => ?_) (fun cdv A outer s H vs Q E hr h => ?_)
  · obtain ⟨a, cs, rfl, _⟩ := h
    rfl
  · obtain ⟨a, cs, rfl, ⟨dx, t, ea, et⟩, hb, hl, q⟩ := h
    refine ⟨_, PSs.nox (pss_one (ps_ret (pe_joined1 (pe_fmt (pe_gd GP hr (by rfl) (pa_cons (pe_fld (pv 0) rfl) pa_nil)))))), ?_⟩
    refine ⟨_, rfl, a, _, dx, _, _, rfl, ea, T.clP, T.nC, rfl, t, cs, rfl, et, hb, hl, fun H' s' => .inl ⟨_, rfl, ?_, q H' s'⟩⟩
    have := polyT_len hb hl
    rw [sizeLine_eq]
    omega
theorem listT_len {cs : List Int} (hb : ∀ c ∈ cs, Bd 1000 c) (hl : cs.length ≤ 40) : (listT cs).length ≤ 50000 := by
  have h1 := listT_bd cs hb
  have h2 := join_len ", " (cs.map fun c => T_ c)
  rw [show (", " : Str).length = 2 from rfl, List.length_map] at h2
  unfold listT
  omega
theorem ok_rep {q : Str} (F : FunD K "__repr__" q (defArgs (inP 10)) (defBody (inP 10)) (defScope (inP 10)) [] [] f fd) (T : TT K mg) (G : LstG P w K mg base) : FnOk P w K mg base CX0 2 f fd ["self"] (spTxt K repT) := by
  obtain ⟨fP, dP, GP⟩ := G
  refine F.ok sc_rep (fun vs H Q E h => ?_) (fun cdv A outer s H vs Q E hr h => ?_)
  · obtain ⟨a, cs, rfl, _⟩ := h
    rfl
  · obtain ⟨a, cs, rfl, ⟨dx, t, ea, et⟩, hb, hl, q⟩ := h
    refine ⟨_, PSs.nox (pss_one (ps_ret (pe_joined (.cons pe_str (.cons (pe_fmt (pe_gd GP hr (by rfl) (pa_cons (pe_fld (pv 0) rfl) pa_nil))) (.cons pe_str .nil)))))), ?_⟩
    refine ⟨"Polynomial(", rfl, ?_, _, rfl, a, _, dx, _, _, rfl, ea, T.clP, T.nC, rfl, t, cs, rfl, et, hb, hl, fun H' s' => .inl ⟨_, rfl, ?_, _, rfl, ?_, ")", rfl, ?_, ?_⟩⟩
    all_goals have lz : 100000 ≤ sizeLine := by rw [sizeLine_eq]; decide
    all_goals have ll := listT_len hb hl
    · rw [nil_app, show ("Polynomial(" : Str).length = 11 from rfl]
      omega
    · omega
    · rw [nil_app, strLen_append, show ("Polynomial(" : Str).length = 11 from rfl]
      omega
    · rw [nil_app, strLen_append, strLen_append, show ("Polynomial(" : Str).length = 11 from rfl, show (")" : Str).length = 1 from rfl]
      omega
    · rw [nil_app]
      exact q H' s'
end
end K70

set_option maxHeartbeats 4000000
set_option exponentiation.threshold 3000
namespace K70
open PySem PySem.Spec PyProof.Rows L2 RtL ErL StX
section
variable {P : Program} {w : World} {K : Fr} {mg : Str → Option Value} {base : Heap} {f : Addr} {fd : FuncData}
/-! ### a pot -/
abbrev sRng : Stmt := top 21
theorem scRng : FnScope ["_law_script", "_law_k", "_law_cell"] ["_law_script", "_law_k"] (defScope sRng) := ⟨rfl, rfl, rfl, by decide +kernel, rfl, by decide +kernel, by decide +kernel⟩
def PotAt (H : Hp) (p : Addr) : Prop := ∃ x y : Int, H p = some (.lst [.int x, .int y]) ∧ 0 ≤ x ∧ 0 ≤ y ∧ y < 2147483648
def spRng (K : Fr) : Sp := fun vs H Q _ => ∃ (a : Addr) (ns : List Int) (k : Nat), vs = [.ref a, .int k] ∧ SqL K H a (ns.map V.int) ∧ ns.length ≤ 63 ∧ k < 64 ∧ ∀ p H', H p = none → Same H H' → PotAt H' p → Q (.ref p) H'
theorem ok_rng (F : FunD K "_law_rng" "_law_rng" (defArgs sRng) (defBody sRng) (defScope sRng) [] [] f fd) (T : TT K mg) : FnOk P w K mg base CX0 1 f fd ["_law_script", "_law_k"] (spRng K) := by
  refine F.ok scRng (fun vs H Q E h => ?_) (fun cdv A outer s H vs Q E hr h => ?_)
  · obtain ⟨a, ns, k, rfl, _⟩ := h
    rfl
  · obtain ⟨a, ns, k, rfl, hS, hl, k63, q⟩ := h
    refine ⟨_, PSs.nox (pss_cons (ps_set (i := 2) scRng.nd rfl (Or.inl rfl) (pe_op op_add (pe_op op_mul pe_int (pv 1)) pe_int))
      (Evl.pss_cut (ps_if (pt_cmpR op_lt (pv 1) (pe_callB call_len_seq (by rfl) T.fre PySem.boot_len (pa_cons (pv 0) pa_nil)) (nomark _)) (pss_one (ps_set (i := 2) scRng.nd rfl (Or.inl rfl) (pe_ix ix_list (pv 0) (pv 1) (fun _ _ => rfl)))) pss_nil)
      (pss_one (ps_ret (pe_lst (pa_cons (pe_callB (call_max2 rfl) (by rfl) T.fre (by decide +kernel) (pa_cons pe_int (pa_cons (pe_op op_sub (pe_callB call_abs (by rfl) T.fre (by decide +kernel) (pa_cons (pv 2) pa_nil)) (pe_op op_pow pe_int pe_int)) pa_nil)))
        (pa_cons (pe_op op_add (pe_op op_mod (pe_op op_mul (pe_callTy call_int1 (by rfl) T.fre (by decide +kernel) (pa_cons (pe_op op_add (pe_op op_mod (pe_callTy call_int1 (by rfl) T.fre (by decide +kernel) (pa_cons (pe_callB call_abs (by rfl) T.fre (by decide +kernel) (pa_cons (pv 2) pa_nil)) pa_nil)) pe_int) pe_int) pa_nil)) (pe_op op_pow (pe_op op_add (pe_op op_mul pe_int (pv 1)) pe_int) pe_int)) pe_int) pe_int) pa_nil))))))), ?_⟩
    refine ⟨_, rfl, _, _, rfl, rfl, .inl ⟨by decide, by decide⟩, _, _, rfl, rfl, ?_⟩
    refine ⟨fun σ' H' => H' = H ∧ ∃ c : Int, σ' = [some (.ref a), some (.int (k : Nat)), some (.int c)], ?_, ?_⟩
    · refine ⟨_, rfl, _, rfl, _, _, rfl, .inl hS, _, _, rfl, rfl, _, rfl, ite2 (fun h1 => ?_) (fun _ => ?_)⟩
      · have hk : k < ns.length := by
          have z := of_decide_eq_true h1
          rw [List.length_map] at z
          omega
        exact ⟨_, rfl, _, rfl, a, _, _, _, rfl, rfl, hS, atI_nat (getM (List.getElem?_eq_getElem hk)), rfl, _, rfl⟩
      · exact ⟨rfl, _, rfl⟩
    · rintro σ' H' ⟨rfl, c, rfl⟩
      refine ⟨_, rfl, _, rfl, _, _, rfl, rfl, ⟨by decide, by decide, by decide⟩, _, _, rfl, rfl, _, _, rfl, ?_⟩
      refine ⟨_, rfl, _, rfl, .inl ⟨_, rfl, _, _, rfl, rfl, (by show (0 : Int) < 2147483489; decide), _, _, rfl, rfl, .inl ⟨_, rfl, ?_⟩⟩⟩
      refine ⟨_, rfl, _, _, rfl, rfl, .inl ⟨by decide, by decide⟩, _, _, rfl, rfl, _, _, rfl, rfl, ⟨by decide, by decide, ?_⟩, ?_⟩
      · omega
      · have m0 : 0 ≤ (if c < 0 then -c else c) % 2147483489 := Int.emod_nonneg _ (by decide)
        have m1 : (if c < 0 then -c else c) % 2147483489 < 2147483489 := Int.emod_lt_of_pos _ (by decide)
        refine ⟨_, _, rfl, rfl, .inl ⟨by omega, by omega⟩, _, _, rfl, rfl, (by show (0 : Int) < 2147483423; decide), _, _, rfl, rfl, (by show 2 ≤ sizeLine; decide), fun p hp => ?_⟩
        have e0 := Int.emod_nonneg (((if c < 0 then -c else c) % 2147483489 + 1) * (2 * (k : Int) + 7) ^ (Int.toNat 3)) (show (2147483423 : Int) ≠ 0 by decide)
        have e1 := Int.emod_lt_of_pos (((if c < 0 then -c else c) % 2147483489 + 1) * (2 * (k : Int) + 7) ^ (Int.toNat 3)) (show (0 : Int) < 2147483423 by decide)
        exact q p _ hp (same_new hp) ⟨_, _, upd_same, by split <;> omega, by omega, by omega⟩
abbrev RngG (P : Program) (w : World) (K : Fr) (mg : Str → Option Value) (base : Heap) : Prop := ∃ f d, Gd P w K mg base 1 "_law_rng" f d ["_law_script", "_law_k"] (spRng K)
/-! ### a draw -/
abbrev sDraw : Stmt := top 22
theorem scDraw : FnScope ["_law_rng_here", "_law_many", "_law_digit"] ["_law_rng_here", "_law_many"] (defScope sDraw) := ⟨rfl, rfl, rfl, by decide +kernel, rfl, by decide +kernel, by decide +kernel⟩
def But (p : Addr) (H H' : Hp) : Prop := ∀ b o, H b = some o → b ≠ p → H' b = some o
theorem But.trans {p : Addr} {H1 H2 H3 : Hp} (a : But p H1 H2) (b : But p H2 H3) : But p H1 H3 := fun c o e h => b c o (a c o e h) h
theorem But.of {p : Addr} {H1 H2 : Hp} (s : Same H1 H2) : But p H1 H2 := fun c o e _ => s c o e
theorem But.gone {p a : Addr} {H1 H2 : Hp} (s : But p H1 H2) (h : H2 a = none) (n : a ≠ p) : H1 a = none := by
  cases z : H1 a with
  | none => rfl
  | some o =>
    rw [s a o z n] at h
    cases h
theorem PotAt.same {p : Addr} {H1 H2 : Hp} (h : PotAt H1 p) (s : Same H1 H2) : PotAt H2 p := by
  obtain ⟨x, y, e, r⟩ := h
  exact ⟨x, y, s _ _ e, r⟩
theorem PotAt.ne {p a : Addr} {H : Hp} (h : PotAt H p) (n : H a = none) : a ≠ p := fun z => by
  obtain ⟨_, _, e, _⟩ := h
  rw [← z, n] at e
  cases e
theorem PotAt.nt {p a : Addr} {H : Hp} {vs : List V} (h : PotAt H p) (e : H a = some (.tup vs)) : a ≠ p := fun z => by
  obtain ⟨_, _, e2, _⟩ := h
  rw [← z, e] at e2
  cases e2
theorem PotAt.ni {p a C dx : Addr} {H : Hp} {fs : List (Str × V)} (h : PotAt H p) (e : H a = some (.ins C dx fs)) : a ≠ p := fun z => by
  obtain ⟨_, _, e2, _⟩ := h
  rw [← z, e] at e2
  cases e2
theorem RatAt.but {K : Fr} {p a : Addr} {H1 H2 : Hp} {t b : Int} (h : RatAt K H1 a t b) (hp : PotAt H1 p) (s : But p H1 H2) : RatAt K H2 a t b := by
  obtain ⟨dx, e⟩ := h
  exact ⟨dx, s _ _ e (hp.ni e)⟩
theorem PolAt.but {K : Fr} {p a : Addr} {H1 H2 : Hp} {cs : List Int} (h : PolAt K H1 a cs) (hp : PotAt H1 p) (s : But p H1 H2) : PolAt K H2 a cs := by
  obtain ⟨dx, t, e, e2⟩ := h
  exact ⟨dx, t, s _ _ e (hp.ni e), s _ _ e2 (hp.nt e2)⟩
def spDraw : Sp := fun vs H Q _ => ∃ (p : Addr) (m : Int), vs = [.ref p, .int m] ∧ PotAt H p ∧ 0 < m ∧ Bd 100 m ∧ ∀ d H', 0 ≤ d → d < m → PotAt H' p → But p H H' → Q (.int d) H'
theorem bd_log {n : Nat} {i : Int} (h : Bd n i) (hn : n ≤ 9000) (h0 : 0 < n := by decide) : i.natAbs.log2 < 9000 := Nat.lt_of_lt_of_le (PySem.Flt.log2_lt_of h0 h) hn
theorem ok_draw (F : FunD K "_law_draw" "_law_draw" (defArgs sDraw) (defBody sDraw) (defScope sDraw) [] [] f fd) (T : TT K mg) : FnOk P w K mg base CX0 1 f fd ["_law_rng_here", "_law_many"] spDraw := by
  refine F.ok scDraw (fun vs H Q E h => ?_) (fun cdv A outer s H vs Q E hr h => ?_)
  · obtain ⟨p, m, rfl, _⟩ := h
    rfl
  · obtain ⟨p, m, rfl, ⟨x, y, hp, x0, y0, y1⟩, m0, m1, q⟩ := h
    refine ⟨_, PSs.nox (pss_cons (ps_if (pt_cmpR op_gt (pe_ix ix_list (pv 0) pe_int (fun _ _ => rfl)) pe_int (nomark _))
        (pss_cons (ps_asg (pe_callB call_divmodW (by rfl) T.fre (by decide +kernel) (pa_cons (pe_ix ix_list (pv 0) pe_int (fun _ _ => rfl)) (pa_cons (pv 1) pa_nil))) (pg_tup (by rfl) (pgs_cons (pg_sub (pv 0) pe_int set_list) (pgs_cons (pg_name (i := 2) scDraw.nd rfl (.inl rfl)) pgs_nil))))
          (pss_one (ps_ret (pv 2)))) pss_nil)
      (pss_cons (ps_asg (pe_op op_mod (pe_callTy call_int1 (by rfl) T.fre (by decide +kernel) (pa_cons (pe_op op_add (pe_op op_mul (pe_ix ix_list (pv 0) pe_int (fun _ _ => rfl)) pe_int) pe_int) pa_nil)) pe_int) (pg_sub (pv 0) pe_int set_list))
      (pss_one (ps_ret (pe_op op_mod (pe_op op_fdiv (pe_op op_mod (pe_callTy call_int1 (by rfl) T.fre (by decide +kernel) (pa_cons (pe_op op_mul (pe_ix ix_list (pv 0) pe_int (fun _ _ => rfl)) (pe_ix ix_list (pv 0) pe_int (fun _ _ => rfl))) pa_nil)) pe_int) pe_int) (pv 1)))))), ?_⟩
    refine ⟨_, rfl, p, _, _, _, rfl, rfl, SqL.of hp, atI_nat (j := 0) rfl, _, _, rfl, rfl, _, rfl, ite2 (fun h1 => ?_) (fun _ => ?_)⟩
    · refine ⟨_, rfl, p, _, _, _, rfl, rfl, SqL.of hp, atI_nat (j := 0) rfl, _, rfl, _, _, rfl, ⟨m0, PyProof.noPylong_of_log2 (bd_log m1 (by decide))⟩, fun t nt => ?_⟩
      have hpt : p ≠ t := ne_of_none hp nt
      have e2 : (upd H t (.tup [.int (x / m), .int (x % m)])) p = some (.lst [.int x, .int y]) := by rw [upd_ne hpt]; exact hp
      refine ⟨t, _, rfl, SqT.of upd_same, rfl, ?_⟩
      refine ⟨_, _, rfl, _, rfl, p, _, _, 0, rfl, rfl, e2, rfl, _, _, rfl, rfl, ?_⟩
      refine ⟨_, rfl, q _ _ (Int.emod_nonneg _ (Int.ne_of_gt m0)) (Int.emod_lt_of_pos _ m0) ⟨x / m, y, upd_same, Int.ediv_nonneg x0 (Int.le_of_lt m0), y0, y1⟩ fun b o e hb => ?_⟩
      rw [upd_ne hb, upd_ne (ne_of_none e nt)]
      exact e
    · refine ⟨_, rfl, p, _, _, _, rfl, rfl, SqL.of hp, atI_nat (j := 1) rfl, _, _, rfl, rfl, .inr ⟨by decide, by decide⟩, _, _, rfl, rfl, .inl ⟨_, rfl, _, _, rfl, rfl, (by show (0 : Int) < 2147483399; decide), ?_⟩⟩
      refine ⟨_, rfl, p, _, _, 1, rfl, rfl, hp, rfl, ?_⟩
      have z0 : 0 ≤ (y * 39373 + 28411) % 2147483399 := Int.emod_nonneg _ (by decide)
      have z1 : (y * 39373 + 28411) % 2147483399 < 2147483399 := Int.emod_lt_of_pos _ (by decide)
      refine ⟨_, rfl, p, _, _, _, rfl, rfl, SqL.of upd_same, atI_nat (j := 1) rfl, _, rfl, p, _, _, _, rfl, rfl, SqL.of upd_same, atI_nat (j := 1) rfl, _, _, rfl, rfl, .inl ⟨by omega, by omega⟩, .inl ⟨_, rfl, _, _, rfl, rfl, (by show (0 : Int) < 2147483353; decide), _, _, rfl, rfl, ⟨by decide, by decide⟩, _, rfl, _, _, rfl, rfl, m0, ?_⟩⟩
      refine q _ _ (Int.emod_nonneg _ (Int.ne_of_gt m0)) (Int.emod_lt_of_pos _ m0) ⟨x, _, upd_same, x0, z0, by omega⟩ fun b o e hb => ?_
      rw [upd_ne hb]
      exact e
abbrev DrawG (P : Program) (w : World) (K : Fr) (mg : Str → Option Value) (base : Heap) : Prop := ∃ f d, Gd P w K mg base 1 "_law_draw" f d ["_law_rng_here", "_law_many"] spDraw
/-! ### a choice -/
abbrev sPick : Stmt := top 23
theorem scPick : FnScope ["_law_rng_here", "_law_some"] ["_law_rng_here", "_law_some"] (defScope sPick) := ⟨rfl, rfl, rfl, by decide +kernel, rfl, by decide +kernel, by decide +kernel⟩
def spPick : Sp := fun vs H Q _ => ∃ (p l : Addr) (xs : List V), vs = [.ref p, .ref l] ∧ PotAt H p ∧ H l = some (.lst xs) ∧ l ≠ p ∧ 0 < xs.length ∧ xs.length < 1000 ∧ ∀ (i : Nat) v H', xs[i]? = some v → PotAt H' p → But p H H' → Q v H'
theorem ok_pick (F : FunD K "_law_choice" "_law_choice" (defArgs sPick) (defBody sPick) (defScope sPick) [] [] f fd) (T : TT K mg) (D : DrawG P w K mg base) : FnOk P w K mg base CX0 2 f fd ["_law_rng_here", "_law_some"] spPick := by
  obtain ⟨fD, dD, GD⟩ := D
  refine F.ok scPick (fun vs H Q E h => ?_) (fun cdv A outer s H vs Q E hr h => ?_)
  · obtain ⟨p, l, xs, rfl, _⟩ := h
    rfl
  · obtain ⟨p, l, xs, rfl, hp, hl, ne, l0, l1, q⟩ := h
    refine ⟨_, PSs.nox (pss_one (ps_ret (pe_ix ix_list (pv 1) (pe_gd GD hr (by rfl) (pa_cons (pv 0) (pa_cons (pe_callB call_len_seq (by rfl) T.fre PySem.boot_len (pa_cons (pv 1) pa_nil)) pa_nil))) (fun _ _ => rfl)))), ?_⟩
    have b1 : Bd 100 (xs.length : Nat) := Nat.lt_trans (show ((xs.length : Nat) : Int).natAbs < 2 ^ 10 by omega) (by decide)
    refine ⟨_, rfl, _, rfl, _, rfl, _, _, rfl, .inl (SqL.of hl), p, _, rfl, hp, by omega, b1, fun d H' d0 d1 hp' hb => ?_⟩
    obtain ⟨j, rfl⟩ : ∃ j : Nat, d = (j : Int) := ⟨d.toNat, by omega⟩
    have hj : j < xs.length := by omega
    exact ⟨l, _, _, _, rfl, rfl, SqL.of (hb _ _ hl ne), atI_nat (List.getElem?_eq_getElem hj), q j _ H' (List.getElem?_eq_getElem hj) hp' hb⟩
abbrev PickG (P : Program) (w : World) (K : Fr) (mg : Str → Option Value) (base : Heap) : Prop := ∃ f d, Gd P w K mg base 2 "_law_choice" f d ["_law_rng_here", "_law_some"] spPick
end
end K70

set_option maxHeartbeats 4000000
set_option exponentiation.threshold 3000
namespace K70
open PySem PySem.Spec PyProof.Rows L2 RtL ErL StX
section
variable {P : Program} {w : World} {K : Fr} {mg : Str → Option Value} {base : Heap} {f : Addr} {fd : FuncData}
/-! ### a coefficient -/
abbrev sCo : Stmt := top 24
theorem scCo : FnScope ["_law_rng_here", "_law_small", "_law_great"] ["_law_rng_here"] (defScope sCo) := ⟨rfl, rfl, rfl, by decide +kernel, rfl, by decide +kernel, by decide +kernel⟩
def spCo : Sp := fun vs H Q _ => ∃ p, vs = [.ref p] ∧ PotAt H p ∧ ∀ c H', Bd 100 c → PotAt H' p → But p H H' → Q (.int c) H'
theorem ok_co (F : FunD K "_law_coefficient" "_law_coefficient" (defArgs sCo) (defBody sCo) (defScope sCo) [] [] f fd) (T : TT K mg) (D : DrawG P w K mg base) (C : PickG P w K mg base) : FnOk P w K mg base CX0 3 f fd ["_law_rng_here"] spCo := by
  obtain ⟨fD, dD, GD⟩ := D
  obtain ⟨fC, dC, GC⟩ := C
  refine F.ok scCo (fun vs H Q E h => ?_) (fun cdv A outer s H vs Q E hr h => ?_)
  · obtain ⟨p, rfl, _⟩ := h
    rfl
  · obtain ⟨p, rfl, hp, q⟩ := h
    refine ⟨_, PSs.nox (pss_cons (ps_set (i := 1) scCo.nd rfl (Or.inl rfl) (pe_gd GD (hr.mono (by decide)) (by rfl) (pa_cons (pv 0) (pa_cons pe_int pa_nil))))
      (pss_cons (ps_set (i := 2) scCo.nd rfl (Or.inl rfl) (pe_op op_add (pe_op op_mul (pe_op op_pow pe_int pe_int) (pe_gd GD (hr.mono (by decide)) (by rfl) (pa_cons (pv 0) (pa_cons (pe_op op_pow pe_int pe_int) pa_nil)))) (pe_gd GD (hr.mono (by decide)) (by rfl) (pa_cons (pv 0) (pa_cons (pe_op op_pow pe_int pe_int) pa_nil)))))
      (pss_one (ps_ret (pe_gd GC hr (by rfl) (pa_cons (pv 0) (pa_cons (pe_lst (pa_cons pe_int (pa_cons pe_int (pa_cons (pe_un un_neg pe_int) (pa_cons (pv 1) (pa_cons (pe_un un_neg (pv 1)) (pa_cons (pv 2) (pa_cons (pe_un un_neg (pv 2)) pa_nil)))))))) pa_nil))))))), ?_⟩
    have hten : ((10 : Int) ^ Int.toNat 12) = 1000000000000 := by decide
    refine ⟨_, rfl, p, 9, rfl, hp, by decide, by decide, fun a H1 a0 a1 hp1 b1 => ?_⟩
    refine ⟨_, _, rfl, rfl, ⟨by decide, by decide, by decide⟩, _, rfl, _, _, rfl, rfl, ⟨by decide, by decide, by decide⟩, p, _, rfl, hp1, by decide, by decide, fun b H2 c0 c1 hp2 b2 => ⟨_, _, rfl, rfl, .inl ⟨by decide, by decide⟩, _, rfl, _, _, rfl, rfl, ⟨by decide, by decide, by decide⟩, p, _, rfl, hp2, by decide, by decide, fun c H3 d0 d1 hp3 b3 => ⟨_, _, rfl, rfl, ?_⟩⟩⟩
    refine ⟨_, rfl, _, rfl, _, rfl, _, rfl, _, rfl, _, rfl, _, rfl, _, rfl, (by show 7 ≤ sizeLine; decide), fun l nl => ?_⟩
    rw [hten] at c1 d1
    have g : Bd 100 (((10 : Int) ^ Int.toNat 12) * b + c) := by
      rw [hten]
      show (1000000000000 * b + c).natAbs < 1267650600228229401496703205376
      omega
    have sm : Bd 100 a := by
      show a.natAbs < 1267650600228229401496703205376
      omega
    have b123 := (b1.trans b2).trans b3
    refine ⟨p, l, _, rfl, hp3.same (same_new nl), upd_same, hp3.ne nl, Nat.succ_pos _, by show 7 < 1000; decide, fun i v H4 hi hp4 b4 => ?_⟩
    have fin : ∀ c, Bd 100 c → Q (.int c) H4 := fun c hc => q c H4 hc hp4 ((b123.trans (But.of (same_new nl))).trans b4)
    match i, hi with
    | 0, hi => cases hi; exact fin _ (by decide)
    | 1, hi => cases hi; exact fin _ (by decide)
    | 2, hi => cases hi; exact fin _ (by decide)
    | 3, hi => cases hi; exact fin _ sm
    | 4, hi => cases hi; exact fin _ (bd_neg sm)
    | 5, hi => cases hi; exact fin _ g
    | 6, hi => cases hi; exact fin _ (bd_neg g)
    | n + 7, hi => cases hi
abbrev CoG (P : Program) (w : World) (K : Fr) (mg : Str → Option Value) (base : Heap) : Prop := ∃ f d, Gd P w K mg base 3 "_law_coefficient" f d ["_law_rng_here"] spCo
/-! ### a row -/
abbrev sRow : Stmt := top 25
def NR : List Str := ["_law_rng_here", "_law_found", "_law_turn"]
theorem scRow : FnScope NR ["_law_rng_here"] (defScope sRow) := ⟨rfl, rfl, rfl, by decide +kernel, rfl, by decide +kernel, by decide +kernel⟩
def spRow : Sp := fun vs H Q _ => ∃ p, vs = [.ref p] ∧ PotAt H p ∧ ∀ l (cs : List Int) H', H l = none → H' l = some (.lst (cs.map V.int)) → l ≠ p → cs.length ≤ 9 → (∀ c ∈ cs, Bd 100 c) → PotAt H' p → But p H H' → Q (.ref l) H'
theorem ok_row (F : FunD K "_law_row" "_law_row" (defArgs sRow) (defBody sRow) (defScope sRow) [] [] f fd) (T : TT K mg) (D : DrawG P w K mg base) (C : PickG P w K mg base) (G : CoG P w K mg base) : FnOk P w K mg base CX0 4 f fd ["_law_rng_here"] spRow := by
  obtain ⟨fD, dD, GD⟩ := D
  obtain ⟨fC, dC, GC⟩ := C
  obtain ⟨fG, dG, GG⟩ := G
  refine F.ok scRow (fun vs H Q E h => ?_) (fun cdv A outer s H vs Q E hr h => ?_)
  · obtain ⟨p, rfl, _⟩ := h
    rfl
  · obtain ⟨p, rfl, hp, q⟩ := h
    refine ⟨_, PSs.nox (pss_cons (ps_setLc (i := 1) (own := [("_law_turn", 2)]) (g := gName 2) (tt := tYes) (by rfl) scRow.nd rfl rfl (sw_true rfl rfl rfl (by decide +kernel)) (pi_range1 (by rfl) T.fre (pa_cons (pe_gd GD (hr.mono (by decide)) (by rfl) (pa_cons (pv 0) (pa_cons pe_int pa_nil))) pa_nil)) (blkOk_by (N := NR) (sc := defScope sRow) (by decide +kernel)) (fun _ _ _ _ _ => pg_name (i := 2) scRow.nd rfl (Or.inl rfl)) (fun _ _ _ _ _ => pts_nil) (fun _ _ _ _ _ => pe_gd GG hr (by rfl) (pa_cons (pv 0) pa_nil)))
      (pss_one (ps_ret (pe_op op_cat (pv 1) (pe_op op_rep (pe_lst (pa_cons pe_int pa_nil)) (pe_gd GC (hr.mono (by decide)) (by rfl) (pa_cons (pv 0) (pa_cons (pe_lst (pa_cons pe_int (pa_cons pe_int (pa_cons pe_int (pa_cons pe_int pa_nil))))) pa_nil)))))))), ?_⟩
    refine ⟨_, rfl, p, 7, rfl, hp, by decide, by decide, fun n H1 n0 n1 hp1 b1 => ?_⟩
    obtain ⟨m, rfl⟩ : ∃ m : Nat, n = (m : Int) := ⟨n.toNat, by omega⟩
    refine ⟨_, rfl, by omega, by omega, fun D nD => ?_⟩
    have nDp := hp1.ne nD
    rw [show ((m : Int)).toNat = m from Int.toNat_natCast m]
    refine lc_it walk_range (fun i H' => PotAt H' p ∧ But p H1 H' ∧ ∃ cs : List Int, H' D = some (.lst (cs.map V.int)) ∧ cs.length ≤ i ∧ ∀ c ∈ cs, Bd 100 c) ⟨hp1.same (same_new nD), But.of (same_new nD), [], upd_same, Nat.le_refl _, fun c hc => absurd hc List.not_mem_nil⟩ (fun _ _ _ _ => trivial) ?_ ?_
    · rintro i v H7 H8 hi ⟨hp7, b7, cs, e7, l7, c7⟩ ⟨rfl, rfl⟩
      refine ⟨rfl, _, rfl, p, rfl, hp7, fun c H9 bc hp9 b9 => ⟨_, b9 _ _ e7 nDp, ?_, ?_, ?_, cs ++ [c], ?_, ?_, fun x hx => ?_⟩⟩
      · rw [List.length_map, sizeLine_eq]
        omega
      · obtain ⟨x, y, e, r⟩ := hp9
        exact ⟨x, y, by rw [upd_ne (Ne.symm nDp)]; exact e, r⟩
      · intro b' o' e' n'
        rw [upd_ne (ne_of_none e' nD)]
        exact b9 _ _ (b7 _ _ e' n') n'
      · rw [upd_same, List.map_append]
        rfl
      · rw [List.length_append]
        exact Nat.succ_le_succ l7
      · rcases List.mem_append.mp hx with z | z
        · exact c7 x z
        · rw [List.mem_singleton.mp z]
          exact bc
    · rintro H7 ⟨hp7, b7, cs, e7, l7, c7⟩
      refine ⟨_, rfl, (by show 1 ≤ sizeLine; rw [sizeLine_eq]; decide), fun l1 n1 => ?_⟩
      refine ⟨_, rfl, (by show 4 ≤ sizeLine; rw [sizeLine_eq]; decide), fun l2 n2 => ?_⟩
      have hp8 := (hp7.same (same_new (o := .lst [.int 0]) n1)).same (same_new (o := .lst [.int 0, .int 0, .int 1, .int 3]) n2)
      refine ⟨p, l2, _, rfl, hp8, upd_same, (hp7.same (same_new (o := .lst [.int 0]) n1)).ne n2, Nat.succ_pos _, by show 4 < 1000; decide, fun i v H9 hi hp9 b9 => ?_⟩
      obtain ⟨k, rfl, hk⟩ : ∃ k : Nat, v = .int (k : Nat) ∧ k ≤ 3 := by
        match i, hi with
        | 0, hi => cases hi; exact ⟨0, rfl, by decide⟩
        | 1, hi => cases hi; exact ⟨0, rfl, by decide⟩
        | 2, hi => cases hi; exact ⟨1, rfl, by decide⟩
        | 3, hi => cases hi; exact ⟨3, rfl, by decide⟩
        | n + 4, hi => cases hi
      have n1p := hp7.ne n1
      have s2 : Same H7 (upd (upd H7 l1 (.lst [.int 0])) l2 (.lst [.int 0, .int 0, .int 1, .int 3])) := (same_new n1).trans (same_new n2)
      have e1 : H9 l1 = some (.lst [.int 0]) := b9 _ _ (same_new n2 _ _ upd_same) n1p
      have eD : H9 D = some (.lst (cs.map V.int)) := b9 _ _ (s2 _ _ e7) nDp
      have t0 : ((k : Nat) : Int).toNat = k := Int.toNat_natCast k
      refine ⟨l1, _, _, rfl, rfl, e1, by omega, by omega, ?_, fun l3 n3 => ⟨D, l3, _, _, rfl, rfl, same_new n3 _ _ eD, upd_same, ?_, fun l4 n4 => ?_⟩⟩
      · rw [t0, show [V.int 0].length = 1 from rfl, sizeLine_eq]
        omega
      · rw [t0, rep0, List.length_map, List.length_map, List.length_replicate, sizeLine_eq]
        omega
      · rw [t0, rep0] at n4 ⊢
        rw [← List.map_append]
        have hp10 : PotAt (upd (upd H9 l3 (.lst ((List.replicate k (0 : Int)).map V.int))) l4 (.lst ((cs ++ List.replicate k 0).map V.int))) p := (hp9.same (same_new n3)).same (same_new n4)
        have bt : But p H (upd (upd H9 l3 (.lst ((List.replicate k (0 : Int)).map V.int))) l4 (.lst ((cs ++ List.replicate k 0).map V.int))) := ((((b1.trans b7).trans (But.of s2)).trans b9).trans (But.of (same_new n3))).trans (But.of (same_new n4))
        have n4p : l4 ≠ p := (hp9.same (same_new (o := .lst ((List.replicate k (0 : Int)).map V.int)) n3)).ne n4
        refine q l4 (cs ++ List.replicate k 0) _ ?_ upd_same n4p ?_ (fun c hc => ?_) hp10 bt
        · exact ((((b1.trans b7).trans (But.of s2)).trans b9).trans (But.of (same_new n3))).gone n4 n4p
        · rw [List.length_append, List.length_replicate]
          omega
        · rcases List.mem_append.mp hc with z | z
          · exact c7 c z
          · rw [List.eq_of_mem_replicate z]
            decide
abbrev RowG (P : Program) (w : World) (K : Fr) (mg : Str → Option Value) (base : Heap) : Prop := ∃ f d, Gd P w K mg base 4 "_law_row" f d ["_law_rng_here"] spRow
/-! ### plain -/
abbrev sPl : Stmt := top 26
theorem scPl : FnScope ["_law_row_here", "_law_many"] ["_law_row_here"] (defScope sPl) := ⟨rfl, rfl, rfl, by decide +kernel, rfl, by decide +kernel, by decide +kernel⟩
def spPl (K : Fr) : Sp := fun vs H Q _ => ∃ l cs, vs = [.ref l] ∧ H l = some (.lst (cs.map V.int)) ∧ cs.length ≤ 1000 ∧ ∀ l' H', Same H H' → H l' = none → H' l' = some (.lst ((pl cs).map V.int)) → Q (.ref l') H'
theorem ok_pl (F : FunD K "_law_plain" "_law_plain" (defArgs sPl) (defBody sPl) (defScope sPl) [] [] f fd) (T : TT K mg) : FnOk P w K mg base CX0 1 f fd ["_law_row_here"] (spPl K) := by
  refine F.ok scPl (fun vs H Q E h => ?_) (fun cdv A outer s H vs Q E hr h => ?_)
  · obtain ⟨l, cs, rfl, _⟩ := h
    rfl
  · obtain ⟨l, cs, rfl, el, hl, q⟩ := h
    refine ⟨_, PSs.nox (pss_cons (ps_set (i := 1) scPl.nd rfl (Or.inl rfl) (pe_callB call_len_seq (by rfl) T.fre (by decide +kernel) (pa_cons (pv 0) pa_nil)))
      (pss_cons (ps_while PassesOwn.never (PW.pt (pw_and (pt_cmpR op_gt (pv 1) pe_int (nomark _)) (pw_and1 (pt_cmpR op_eq (pe_ix ix_list (pv 0) (pe_op op_sub (pv 1) pe_int) (fun _ _ => rfl)) pe_int (nomark _))))) (pss_one (ps_set (i := 1) scPl.nd rfl (Or.inl rfl) (pe_op op_sub (pv 1) pe_int))))
      (pss_one (ps_ret (pe_slice sl_list (pv 0) po_none (po_some (pv 1))))))), ?_⟩
    refine ⟨_, rfl, l, _, rfl, .inl (SqL.of el), ?_⟩
    refine ⟨fun m σ H3 => H3 = H ∧ σ = [some (.ref l), some (.int (m : Nat))] ∧ m ≤ cs.length ∧ pl (cs.take m) = pl cs, ⟨cs.length, rfl, by rw [List.length_map]; rfl, Nat.le_refl _, by rw [List.take_length]⟩, ?_⟩
    rintro m σ H3 ⟨rfl, rfl, hm, hpl⟩
    have fin : pl cs = cs.take m → tRet (tSl (rSlL K) (tVar 0) tNoPart (tPart (tVar 1))) { nx := fun x H' => Q V.non H', rt := Q } [some (.ref l), some (.int (m : Nat))] H3 := fun e => by
      have lo : HT.sIx (cs.map V.int).length 0 none = 0 := rfl
      have hi : HT.sIx (cs.map V.int).length (cs.map V.int).length (some (m : Int)) = m := by
        rw [HT.sIx_nat, List.length_map]
        exact Nat.min_eq_left hm
      refine ⟨_, rfl, _, rfl, (m : Int), rfl, l, _, rfl, SqL.of el, fun p2 np => ?_⟩
      refine q p2 _ (same_new np) np ?_
      rw [upd_same]
      unfold cutV
      rw [lo, hi, e, List.drop_zero, Nat.sub_zero, List.map_take]
    refine ⟨_, rfl, (m : Int), 0, rfl, rfl, _, rfl, ite2 (fun h => ?_) (fun h => ?_)⟩
    · have h0 : (0 : Int) < m := of_decide_eq_true h
      obtain ⟨k, rfl⟩ : ∃ k, m = k + 1 := ⟨m - 1, by omega⟩
      have hk : k < cs.length := by omega
      have hc : cs[k]? = some cs[k] := by simp [hk]
      have e1 : ((k + 1 : Nat) : Int) - 1 = (k : Int) := by omega
      refine ⟨_, rfl, _, rfl, ((k + 1 : Nat) : Int), 1, rfl, rfl, l, _, _, _, rfl, rfl, SqL.of el, by rw [e1]; exact atI_nat (getM hc), rfl, _, rfl, ite2 (fun h2 => ?_) (fun h2 => ?_)⟩
      · have z : cs[k] = 0 := by
          have y := of_decide_eq_true h2
          injection y
        refine ⟨_, fun σ' H' z => ⟨k, Nat.lt_succ_self k, z⟩, ?_⟩
        refine ⟨_, rfl, ((k + 1 : Nat) : Int), 1, rfl, rfl, rfl, by show [_, some (V.int (((k + 1 : Nat) : Int) - 1))] = _; rw [e1], by omega, ?_⟩
        rw [← hpl, take_succ' hc, z, pl_zero]
      · have z : cs[k] ≠ 0 := fun y => h2 (decide_eq_true (by rw [y]))
        exact fin (by rw [← hpl, take_succ' hc, pl_last _ z])
    · have z : m = 0 := by
        have : ¬ (0 : Int) < m := fun y => h (decide_eq_true y)
        omega
      subst z
      exact fin (by rw [← hpl]; rfl)
abbrev PlG (P : Program) (w : World) (K : Fr) (mg : Str → Option Value) (base : Heap) : Prop := ∃ f d, Gd P w K mg base 1 "_law_plain" f d ["_law_row_here"] (spPl K)
end
end K70

set_option maxHeartbeats 4000000
set_option exponentiation.threshold 3000
namespace K70
open PySem PySem.Spec PyProof.Rows L2 RtL ErL StX
section
variable {P : Program} {w : World} {K : Fr} {mg : Str → Option Value} {base : Heap} {f : Addr} {fd : FuncData}
/-! ### sum -/
abbrev sSum : Stmt := top 27
def NSu : List Str := ["_law_one", "_law_two", "_law_by", "_law_wide", "_law_first", "_law_second", "_law_left", "_law_right_here"]
theorem scSum : FnScope NSu ["_law_one", "_law_two", "_law_by"] (defScope sSum) := ⟨rfl, rfl, rfl, by decide +kernel, rfl, by decide +kernel, by decide +kernel⟩
def spSum (K : Fr) : Sp := fun vs H Q _ => ∃ l1 l2 as bs y, vs = [.ref l1, .ref l2, .int y] ∧ H l1 = some (.lst (as.map V.int)) ∧ H l2 = some (.lst (bs.map V.int)) ∧ as.length ≤ 40 ∧ bs.length ≤ 40 ∧ -(2 ^ 64) < y ∧ y < 2 ^ 64 ∧ ∀ l' H', Same H H' → H l' = none → H' l' = some (.lst ((addl (fun a b => a + y * b) as bs).map V.int)) → Q (.ref l') H'
theorem ok_sum (F : FunD K "_law_sum" "_law_sum" (defArgs sSum) (defBody sSum) (defScope sSum) [] [] f fd) (T : TT K mg) (G : PlG P w K mg base) : FnOk P w K mg base CX0 2 f fd ["_law_one", "_law_two", "_law_by"] (spSum K) := by
  obtain ⟨fP, dP, GP⟩ := G
  refine F.ok scSum (fun vs H Q E h => ?_) (fun cdv A outer s H vs Q E hr h => ?_)
  · obtain ⟨l1, l2, as, bs, y, rfl, _⟩ := h
    rfl
  · obtain ⟨l1, l2, as, bs, y, rfl, e1, e2, la, lb, y0, y1, q⟩ := h
    refine ⟨_, PSs.nox (pss_cons (ps_set (i := 3) scSum.nd rfl (Or.inl rfl) (pe_callB (call_max2 rfl) (by rfl) T.fre (by decide +kernel) (pa_cons (pe_callB call_len_seq (by rfl) T.fre (by decide +kernel) (pa_cons (pv 0) pa_nil)) (pa_cons (pe_callB call_len_seq (by rfl) T.fre (by decide +kernel) (pa_cons (pv 1) pa_nil)) pa_nil))))
      (pss_cons (ps_par (i := 4) (j := 5) rfl scSum.nd rfl rfl (by decide) rfl rfl (pa_cons (pe_op op_cat (pv 0) (pe_op op_rep (pe_lst (pa_cons pe_int pa_nil)) (pe_op op_sub (pv 3) (pe_callB call_len_seq (by rfl) T.fre (by decide +kernel) (pa_cons (pv 0) pa_nil))))) (pa_cons (pe_op op_cat (pv 1) (pe_op op_rep (pe_lst (pa_cons pe_int pa_nil)) (pe_op op_sub (pv 3) (pe_callB call_len_seq (by rfl) T.fre (by decide +kernel) (pa_cons (pv 1) pa_nil))))) pa_nil)) (by rfl))
      (pss_one (ps_ret (pe_gd GP hr (by rfl) (pa_cons (pe_lc (own := [("_law_left", 6), ("_law_right_here", 7)]) (g := gTup K 2 (gCons (gName 6) (gCons (gName 7) gNil))) (tt := tYes) (by rfl) scSum.nd (pi_zip (by rfl) T.fre (pa_cons (pv 4) (pa_cons (pv 5) pa_nil))) (blkOk_by (N := NSu) (sc := defScope sSum) (by decide +kernel)) (fun _ _ _ _ _ => pg_tup (by rfl) (pgs_cons (pg_name (i := 6) scSum.nd rfl (Or.inl rfl)) (pgs_cons (pg_name (i := 7) scSum.nd rfl (Or.inl rfl)) pgs_nil))) (fun _ _ _ _ _ => pts_nil) (fun _ _ _ _ _ => pe_op op_add (pv 6) (pe_op op_mul (pv 2) (pv 7)))) pa_nil)))))), ?_⟩
    have la' : (as.map V.int).length = as.length := List.length_map _
    have lb' : (bs.map V.int).length = bs.length := List.length_map _
    obtain ⟨m, hmm⟩ : ∃ m, m = max as.length bs.length := ⟨_, rfl⟩
    have hm : (if (((bs.map V.int).length : Nat) : Int) > ((as.map V.int).length : Nat) then (((bs.map V.int).length : Nat) : Int) else ((as.map V.int).length : Nat)) = ((m : Nat) : Int) := by
      rw [la', lb']
      split <;> omega
    have lz : 10000 ≤ sizeLine := by rw [sizeLine_eq]; decide
    refine ⟨_, rfl, l1, _, rfl, .inl (SqL.of e1), _, rfl, l2, _, rfl, .inl (SqL.of e2), _, _, rfl, ?_⟩
    rw [hm]
    have ta : ((m : Int) - ((as.map V.int).length : Nat)).toNat = m - as.length := by rw [la']; omega
    have tb : ((m : Int) - ((bs.map V.int).length : Nat)).toNat = m - bs.length := by rw [lb']; omega
    refine ⟨_, rfl, by show 1 ≤ sizeLine; omega, fun a1 n1 => ?_⟩
    refine ⟨_, rfl, _, rfl, l1, _, rfl, .inl (SqL.of (same_new n1 _ _ e1)), _, _, rfl, rfl, a1, _, _, rfl, rfl, upd_same, by rw [la']; omega, by rw [la']; omega, by rw [ta, show [V.int 0].length = 1 from rfl]; omega, fun a2 n2 => ?_⟩
    rw [ta, rep0]
    have s2 : Same H (upd (upd H a1 (.lst [.int 0])) a2 (.lst ((List.replicate (m - as.length) (0 : Int)).map V.int))) := (same_new n1).trans (same_new n2)
    refine ⟨l1, a2, _, _, rfl, rfl, s2 _ _ e1, upd_same, by rw [la', List.length_map, List.length_replicate]; omega, fun c1 n3 => ?_⟩
    rw [← List.map_append]
    have s3 := s2.trans (same_new (o := .lst ((as ++ List.replicate (m - as.length) 0).map V.int)) n3)
    refine ⟨_, rfl, by show 1 ≤ sizeLine; omega, fun a3 n4 => ?_⟩
    have s4 := s3.trans (same_new (o := .lst [.int 0]) n4)
    refine ⟨_, rfl, _, rfl, l2, _, rfl, .inl (SqL.of (s4 _ _ e2)), _, _, rfl, rfl, a3, _, _, rfl, rfl, upd_same, by rw [lb']; omega, by rw [lb']; omega, by rw [tb, show [V.int 0].length = 1 from rfl]; omega, fun a4 n5 => ?_⟩
    rw [tb, rep0]
    have s5 := s4.trans (same_new (o := .lst ((List.replicate (m - bs.length) (0 : Int)).map V.int)) n5)
    refine ⟨l2, a4, _, _, rfl, rfl, s5 _ _ e2, upd_same, by rw [lb', List.length_map, List.length_replicate]; omega, fun c2 n6 => ⟨_, _, rfl, ?_⟩⟩
    rw [← List.map_append]
    have s6 := s5.trans (same_new (o := .lst ((bs ++ List.replicate (m - bs.length) 0).map V.int)) n6)
    have ec1 := same_new (o := .lst ((bs ++ List.replicate (m - bs.length) 0).map V.int)) n6 _ _ (same_new (o := .lst ((List.replicate (m - bs.length) (0 : Int)).map V.int)) n5 _ _ (same_new (o := .lst [.int 0]) n4 _ _ (upd_same (H := upd (upd H a1 (.lst [.int 0])) a2 (.lst ((List.replicate (m - as.length) (0 : Int)).map V.int))) (a := c1) (o := .lst ((as ++ List.replicate (m - as.length) 0).map V.int)))))
    refine ⟨_, rfl, _, rfl, c1, c2, _, _, rfl, SqL.of ec1, SqL.of upd_same, fun D nD => ?_⟩
    have ec2 := upd_same (H := upd (upd (upd (upd (upd H a1 (.lst [.int 0])) a2 (.lst ((List.replicate (m - as.length) (0 : Int)).map V.int))) c1 (.lst ((as ++ List.replicate (m - as.length) 0).map V.int))) a3 (.lst [.int 0])) a4 (.lst ((List.replicate (m - bs.length) (0 : Int)).map V.int))) (a := c2) (o := .lst ((bs ++ List.replicate (m - bs.length) 0).map V.int))
    have l1' : (fill as m).length = m := fill_len as (by omega)
    have l2' : (fill bs m).length = m := fill_len bs (by omega)
    change _ = some (HO.lst ((fill as m).map V.int)) at ec1
    change _ = some (HO.lst ((fill bs m).map V.int)) at ec2
    revert s6 ec1 ec2 nD
    generalize upd (upd (upd (upd (upd (upd H a1 (.lst [.int 0])) a2 (.lst ((List.replicate (m - as.length) (0 : Int)).map V.int))) c1 (.lst ((as ++ List.replicate (m - as.length) 0).map V.int))) a3 (.lst [.int 0])) a4 (.lst ((List.replicate (m - bs.length) (0 : Int)).map V.int))) c2 (.lst ((bs ++ List.replicate (m - bs.length) 0).map V.int)) = H6
    intro s6 nD ec1 ec2
    have hd : addl (fun a b => a + y * b) as bs = pl (List.zipWith (fun a b => a + y * b) (fill as m) (fill bs m)) := by rw [hmm]; rfl
    rw [hd] at q
    generalize fill as m = xs at q ec1 l1'
    generalize fill bs m = ys at q ec2 l2'
    clear hd s5 s4 s3 s2 n6 n5 n4 n3 n2 n1
    refine lc_it (walk_zip (xs := xs.map V.int) (ys := ys.map V.int) (n := m) (by rw [List.length_map, List.length_map]; omega)) (fun i H' => Same H6 H' ∧ H' D = some (.lst (((List.zipWith (fun a b => a + y * b) xs ys).take i).map V.int))) ⟨same_new nD, upd_same⟩ (fun i H' _ pv => ⟨SqL.of (pv.1 _ _ ec1), SqL.of (pv.1 _ _ ec2)⟩) ?_ ?_
    · rintro i v H7 H8 hi ⟨s7, e7⟩ ⟨t, y1, y2, rfl, nt, rfl, hx, hy⟩
      dsimp only at hx hy
      obtain ⟨x, hx', rfl⟩ := getm hx
      obtain ⟨z, hy', rfl⟩ := getm hy
      refine ⟨t, _, rfl, SqT.of upd_same, rfl, _, _, rfl, _, _, rfl, rfl, rfl, _, rfl, _, rfl, _, rfl, _, _, rfl, rfl, .inl ⟨by assumption, by assumption⟩, _, _, rfl, rfl, _, same_new nt _ _ e7, ?_, ?_, ?_⟩
      · rw [List.length_map, List.length_take, List.length_zipWith]
        omega
      · intro b' o' e'
        rw [upd_ne (ne_of_none e' nD)]
        exact same_new nt _ _ (s7 _ _ e')
      · rw [upd_same, zw_succ (f := fun a b => a + y * b) hx' hy', List.map_append]
        rfl
    · rintro H7 ⟨s7, e7⟩
      have e8 : (List.zipWith (fun a b => a + y * b) xs ys).take m = List.zipWith (fun a b => a + y * b) xs ys := List.take_of_length_le (by rw [List.length_zipWith]; omega)
      rw [e8] at e7
      exact ⟨D, _, rfl, e7, by rw [List.length_zipWith]; omega, fun l' H9 s9 n9 e9 => q l' H9 ((s6.trans s7).trans s9) (gone (s6.trans s7) n9) e9⟩
abbrev SumG (P : Program) (w : World) (K : Fr) (mg : Str → Option Value) (base : Heap) : Prop := ∃ f d, Gd P w K mg base 2 "_law_sum" f d ["_law_one", "_law_two", "_law_by"] (spSum K)
end
end K70

set_option maxHeartbeats 4000000
set_option exponentiation.threshold 3000
namespace K70
open PySem PySem.Spec PyProof.Rows L2 RtL ErL StX
/-! ### products -/
/-- v more at the place i -/
def addAt (xs : List Int) (i : Nat) (v : Int) : List Int := xs.set i (xs.getD i 0 + v)
/-- behind the first j of bs, a times each, from the place i on -/
def mulIn (a : Int) (i : Nat) (bs : List Int) : Nat → List Int → List Int
  | 0, xs => xs
  | j + 1, xs => addAt (mulIn a i bs j xs) (i + j) (a * bs.getD j 0)
/-- behind the first i of as -/
def mulOut (as bs : List Int) : Nat → List Int
  | 0 => List.replicate (as.length + bs.length) 0
  | i + 1 => mulIn (as.getD i 0) i bs bs.length (mulOut as bs i)
def mull (as bs : List Int) : List Int := pl (mulOut as bs as.length)
theorem addAt_len (xs : List Int) (i : Nat) (v : Int) : (addAt xs i v).length = xs.length := List.length_set
theorem mulIn_len (a : Int) (i : Nat) (bs : List Int) : ∀ j xs, (mulIn a i bs j xs).length = xs.length
  | 0, _ => rfl
  | j + 1, xs => (addAt_len _ _ _).trans (mulIn_len a i bs j xs)
theorem mulOut_len (as bs : List Int) : ∀ i, (mulOut as bs i).length = as.length + bs.length
  | 0 => List.length_replicate
  | i + 1 => (mulIn_len _ _ _ _ _).trans (mulOut_len as bs i)
/-- a bound: n turns, each of at most B -/
def Lim (B n : Nat) (xs : List Int) : Prop := ∀ x ∈ xs, x.natAbs ≤ n * B
theorem Lim.getD {B n : Nat} {xs : List Int} (h : Lim B n xs) (i : Nat) : (xs.getD i 0).natAbs ≤ n * B := by
  rw [List.getD_eq_getElem?_getD]
  cases z : xs[i]? with
  | none => exact Nat.zero_le _
  | some c => exact h c (List.mem_of_getElem? z)
theorem Lim.add {B n : Nat} {xs : List Int} (h : Lim B n xs) {i : Nat} {v : Int} (hv : v.natAbs ≤ B) : Lim B (n + 1) (addAt xs i v) := fun x hx => by
  rw [Nat.succ_mul]
  rcases List.mem_or_eq_of_mem_set hx with z | z
  · have := h x z
    omega
  · have := h.getD i
    rw [z]
    omega
theorem lim_in {B n : Nat} {a : Int} {i : Nat} {bs : List Int} (hB : ∀ b ∈ bs, (a * b).natAbs ≤ B) : ∀ {j xs}, Lim B n xs → j ≤ bs.length → Lim B (n + j) (mulIn a i bs j xs)
  | 0, _, h, _ => h
  | j + 1, xs, h, hj => by
    refine (lim_in hB h (by omega)).add (hB _ ?_)
    rw [List.getD_eq_getElem?_getD, List.getElem?_eq_getElem (show j < bs.length by omega)]
    exact List.getElem_mem _
theorem lim_out {B : Nat} {as bs : List Int} (hB : ∀ a ∈ as, ∀ b ∈ bs, (a * b).natAbs ≤ B) : ∀ {i}, i ≤ as.length → Lim B (i * bs.length) (mulOut as bs i)
  | 0, _ => fun x hx => by
    rw [List.eq_of_mem_replicate hx]
    exact Nat.zero_le _
  | i + 1, hi => by
    rw [Nat.succ_mul]
    refine lim_in (hB _ ?_) (lim_out hB (by omega)) (Nat.le_refl _)
    rw [List.getD_eq_getElem?_getD, List.getElem?_eq_getElem (show i < as.length by omega)]
    exact List.getElem_mem _
theorem pl_mem : ∀ {xs : List Int} {c : Int}, c ∈ pl xs → c ∈ xs
  | x :: xs, c, h => by
    unfold pl at h
    split at h
    · split at h
      · cases h
      · rw [List.mem_singleton.mp h]
        exact List.mem_cons_self
    · rename_i d ds e
      rcases List.mem_cons.mp h with z | z
      · rw [z]
        exact List.mem_cons_self
      · exact List.mem_cons_of_mem _ (pl_mem (by rw [e]; exact z))
section
variable {P : Program} {w : World} {K : Fr} {mg : Str → Option Value} {base : Heap} {f : Addr} {fd : FuncData}
/-! ### the law's product -/
abbrev sPro : Stmt := top 28
theorem scPro : FnScope ["_law_one", "_law_two", "_law_found", "_law_low", "_law_left", "_law_high", "_law_right_here"] ["_law_one", "_law_two"] (defScope sPro) := ⟨rfl, rfl, rfl, by decide +kernel, rfl, by decide +kernel, by decide +kernel⟩
def spPro (K : Fr) : Sp := fun vs H Q _ => ∃ l1 l2 as bs, vs = [.ref l1, .ref l2] ∧ H l1 = some (.lst (as.map V.int)) ∧ H l2 = some (.lst (bs.map V.int)) ∧ as.length ≤ 40 ∧ bs.length ≤ 40 ∧ (∀ c ∈ as, Bd 200 c) ∧ (∀ c ∈ bs, Bd 200 c) ∧ ∀ l' H', Same H H' → H l' = none → H' l' = some (.lst ((mull as bs).map V.int)) → Q (.ref l') H'
theorem ok_pro (F : FunD K "_law_product" "_law_product" (defArgs sPro) (defBody sPro) (defScope sPro) [] [] f fd) (T : TT K mg) (G : PlG P w K mg base) : FnOk P w K mg base CX0 2 f fd ["_law_one", "_law_two"] (spPro K) := by
  obtain ⟨fP, dP, GP⟩ := G
  refine F.ok scPro (fun vs H Q E h => ?_) (fun cdv A outer s H vs Q E hr h => ?_)
  · obtain ⟨l1, l2, as, bs, rfl, _⟩ := h
    rfl
  · obtain ⟨l1, l2, as, bs, rfl, e1, e2, la, lb, ba, bb, q⟩ := h
    refine ⟨_, PSs.nox (pss_cons (ps_set (i := 2) scPro.nd rfl (Or.inl rfl) (pe_op op_rep (pe_lst (pa_cons pe_int pa_nil)) (pe_op op_add (pe_callB call_len_seq (by rfl) T.fre (by decide +kernel) (pa_cons (pv 0) pa_nil)) (pe_callB call_len_seq (by rfl) T.fre (by decide +kernel) (pa_cons (pv 1) pa_nil)))))
      (pss_cons (ps_for PassesOwn.never rfl (pi_enum (by rfl) T.fre (pa_cons (pv 0) pa_nil)) (pg_tup (by rfl) (pgs_cons (pg_name (i := 3) scPro.nd rfl (.inl rfl)) (pgs_cons (pg_name (i := 4) scPro.nd rfl (.inl rfl)) pgs_nil)))
        (pss_one (ps_for PassesOwn.never rfl (pi_enum (by rfl) T.fre (pa_cons (pv 1) pa_nil)) (pg_tup (by rfl) (pgs_cons (pg_name (i := 5) scPro.nd rfl (.inl rfl)) (pgs_cons (pg_name (i := 6) scPro.nd rfl (.inl rfl)) pgs_nil)))
          (pss_one (ps_asg (pe_op op_add (pe_ix ix_list (pv 2) (pe_op op_add (pv 3) (pv 5)) (fun _ _ => rfl)) (pe_op op_mulW (pv 4) (pv 6))) (pg_sub (pv 2) (pe_op op_add (pv 3) (pv 5)) set_list))))))
      (pss_one (ps_ret (pe_gd GP hr (by rfl) (pa_cons (pv 2) pa_nil)))))), ?_⟩
    have la' : (as.map V.int).length = as.length := List.length_map _
    have lb' : (bs.map V.int).length = bs.length := List.length_map _
    have lz : 10000 ≤ sizeLine := by rw [sizeLine_eq]; decide
    have tn : ((((as.map V.int).length : Nat) : Int) + ((bs.map V.int).length : Nat)).toNat = as.length + bs.length := by rw [la', lb']; omega
    refine ⟨by show 1 ≤ sizeLine; omega, fun l0 n0 => ?_⟩
    refine ⟨_, rfl, l1, _, rfl, .inl (SqL.of (same_new n0 _ _ e1)), _, rfl, l2, _, rfl, .inl (SqL.of (same_new n0 _ _ e2)), _, _, rfl, rfl, l0, _, _, rfl, rfl, upd_same, by rw [la', lb']; omega, by rw [la', lb']; omega, by rw [tn, show [V.int 0].length = 1 from rfl]; omega, fun l3 n3 => ?_⟩
    rw [tn, rep0]
    have s3 : Same H (upd (upd H l0 (.lst [.int 0])) l3 (.lst ((mulOut as bs 0).map V.int))) := (same_new n0).trans (same_new n3)
    have h3 : H l3 = none := gone (same_new (o := .lst [.int 0]) n0) n3
    refine ⟨_, rfl, l1, _, rfl, SqL.of (s3 _ _ e1), ?_⟩
    refine for_it walk_enum (fun i σ H' => Same H H' ∧ H' l3 = some (.lst ((mulOut as bs i).map V.int)) ∧ ∃ u3 u4 u5 u6, σ = [some (.ref l1), some (.ref l2), some (.ref l3), u3, u4, u5, u6]) ⟨s3, upd_same, none, none, none, none, rfl⟩ (fun i σ H' _ pv => SqL.of (pv.1 _ _ e1)) ?_ ?_
    · rintro i v σ H7 H8 hi ⟨s7, e7, u3, u4, u5, u6, rfl⟩ ⟨t, y1, y2, rfl, nt, rfl, hx, hy⟩
      dsimp only at hx hy
      cases hx
      obtain ⟨a, ha, rfl⟩ := getm hy
      have hae : as.getD i 0 = a := by rw [List.getD_eq_getElem?_getD, ha]; rfl
      have s8 := s7.trans (same_new (o := .tup [.int (i : Nat), .int a]) nt)
      have e8 : (upd H7 t (.tup [.int (i : Nat), .int a])) l3 = some (.lst ((mulOut as bs i).map V.int)) := same_new nt _ _ e7
      refine ⟨t, _, rfl, SqT.of upd_same, rfl, _, _, rfl, _, _, rfl, rfl, ?_⟩
      refine ⟨_, rfl, l2, _, rfl, SqL.of (s8 _ _ e2), ?_⟩
      refine for_it walk_enum (fun j σ H' => Same H H' ∧ H' l3 = some (.lst ((mulIn a i bs j (mulOut as bs i)).map V.int)) ∧ ∃ u5 u6, σ = [some (.ref l1), some (.ref l2), some (.ref l3), some (.int (i : Nat)), some (.int a), u5, u6]) ⟨s8, e8, u5, u6, rfl⟩ (fun i σ H' _ pv => SqL.of (pv.1 _ _ e2)) ?_ ?_
      · rintro j v σ H9 H10 hj ⟨s9, e9, u5, u6, rfl⟩ ⟨t2, y1, y2, rfl, nt2, rfl, hx, hy⟩
        dsimp only at hx hy
        cases hx
        obtain ⟨b, hb, rfl⟩ := getm hy
        rw [la'] at hi
        rw [lb'] at hj
        have hbe : bs.getD j 0 = b := by rw [List.getD_eq_getElem?_getD, hb]; rfl
        have e10 : (upd H9 t2 (.tup [.int (j : Nat), .int b])) l3 = some (.lst ((mulIn a i bs j (mulOut as bs i)).map V.int)) := same_new nt2 _ _ e9
        have s10 := s9.trans (same_new (o := .tup [.int (j : Nat), .int b]) nt2)
        have hlen : (mulIn a i bs j (mulOut as bs i)).length = as.length + bs.length := (mulIn_len _ _ _ _ _).trans (mulOut_len _ _ _)
        have hij : ((i : Nat) : Int) + ((j : Nat) : Int) = ((i + j : Nat) : Int) := by omega
        have hat : (mulIn a i bs j (mulOut as bs i))[i + j]? = some ((mulIn a i bs j (mulOut as bs i)).getD (i + j) 0) := by
          rw [List.getD_eq_getElem?_getD, List.getElem?_eq_getElem (show i + j < _ by omega)]
          rfl
        refine ⟨t2, _, rfl, SqT.of upd_same, rfl, _, _, rfl, _, _, rfl, rfl, ?_⟩
        refine ⟨_, rfl, _, rfl, _, rfl, _, _, rfl, rfl, l3, _, _, _, rfl, rfl, SqL.of e10, by rw [hij]; exact atI_nat (getM hat), _, rfl, _, rfl, a, b, rfl, rfl, cmW (ba a (List.mem_of_getElem? ha)) (bb b (List.mem_of_getElem? hb)), _, _, rfl, rfl, ?_⟩
        refine ⟨_, rfl, _, rfl, _, rfl, _, _, rfl, rfl, l3, _, _, i + j, rfl, rfl, e10, ?_, ?_⟩
        · rw [hij, List.length_map, hlen]
          unfold ixN
          rw [if_pos (by omega), if_pos (by omega), Int.toNat_natCast]
        · refine ⟨fun b' o' e' => ?_, ?_, _, _, rfl⟩
          · rw [upd_ne (ne_of_none e' h3)]
            exact s10 _ _ e'
          · rw [upd_same]
            show some (HO.lst _) = some (HO.lst ((addAt (mulIn a i bs j (mulOut as bs i)) (i + j) (a * bs.getD j 0)).map V.int))
            unfold addAt
            rw [hbe, List.map_set]
      · rintro σ H9 ⟨s9, e9, u5, u6, rfl⟩
        rw [lb'] at e9
        refine ⟨s9, ?_, _, _, _, _, rfl⟩
        show _ = some (HO.lst ((mulIn (as.getD i 0) i bs bs.length (mulOut as bs i)).map V.int))
        rw [hae]
        exact e9
    · rintro σ H7 ⟨s7, e7, u3, u4, u5, u6, rfl⟩
      rw [la'] at e7
      exact ⟨_, rfl, l3, _, rfl, e7, by rw [mulOut_len]; omega, fun l' H' s' n' e' => q l' H' (s7.trans s') (gone s7 n') e'⟩
abbrev ProG (P : Program) (w : World) (K : Fr) (mg : Str → Option Value) (base : Heap) : Prop := ∃ f d, Gd P w K mg base 2 "_law_product" f d ["_law_one", "_law_two"] (spPro K)
end
end K70

set_option maxHeartbeats 4000000
set_option exponentiation.threshold 3000
namespace K70
open PySem PySem.Spec PyProof.Rows L2 RtL ErL StX
section
variable {P : Program} {w : World} {K : Fr} {mg : Str → Option Value} {base : Heap} {f : Addr} {fd : FuncData}
/-! ### * -/
def NM : List Str := ["self", "other", "found", "at", "own", "to", "times"]
theorem sc_mul : FnScope NM ["self", "other"] (defScope (inP 6)) := ⟨rfl, rfl, rfl, by decide +kernel, rfl, by decide +kernel, by decide +kernel⟩
theorem ok_mul {q : Str} (F : FunD K "__mul__" q (defArgs (inP 6)) (defBody (inP 6)) (defScope (inP 6)) [] [] f fd) (T : TT K mg) (I : PId P w K mg base) : FnOk P w K mg base CX0 4 f fd ["self", "other"] (spBin K mull) := by
  refine F.ok sc_mul (fun vs H Q E h => ?_) (fun cdv A outer s H vs Q E hr h => ?_)
  · obtain ⟨a, b, as, bs, rfl, _⟩ := h
    rfl
  · obtain ⟨ra, rb, as, bs, rfl, ⟨dx, l1, ea, e1⟩, ⟨dy, l2, eb, e2⟩, la, lb, ba, bb, q⟩ := h
    refine ⟨_, PSs.nox (pss_cons (ps_if (pt_not (pt_val (pe_callB call_isi (by rfl) T.fre (by decide +kernel) (pa_cons (pv 1) (pa_cons (pe_glob (v := .ref (PC K)) (by rfl) (T.gl "Polynomial" (by decide)) rfl) pa_nil))))) (pss_one ps_never) pss_nil)
      (pss_cons (ps_set (i := 2) sc_mul.nd rfl (Or.inl rfl) (pe_op op_rep (pe_lst (pa_cons pe_int pa_nil)) (pe_op op_add (pe_callB call_len_seq (by rfl) T.fre (by decide +kernel) (pa_cons (pe_fld (pv 0) rfl) pa_nil)) (pe_callB call_len_seq (by rfl) T.fre (by decide +kernel) (pa_cons (pe_fld (pv 1) rfl) pa_nil)))))
      (pss_cons (ps_for PassesOwn.never rfl (pi_enumT (by rfl) T.fre (pa_cons (pe_fld (pv 0) rfl) pa_nil)) (pg_tup (by rfl) (pgs_cons (pg_name (i := 3) sc_mul.nd rfl (.inl rfl)) (pgs_cons (pg_name (i := 4) sc_mul.nd rfl (.inl rfl)) pgs_nil)))
        (pss_one (ps_for PassesOwn.never rfl (pi_enumT (by rfl) T.fre (pa_cons (pe_fld (pv 1) rfl) pa_nil)) (pg_tup (by rfl) (pgs_cons (pg_name (i := 5) sc_mul.nd rfl (.inl rfl)) (pgs_cons (pg_name (i := 6) sc_mul.nd rfl (.inl rfl)) pgs_nil)))
          (pss_one (ps_asg (pe_op op_add (pe_ix ix_list (pv 2) (pe_op op_add (pv 3) (pv 5)) (fun _ _ => rfl)) (pe_op op_mulW (pv 4) (pv 6))) (pg_sub (pv 2) (pe_op op_add (pv 3) (pv 5)) set_list))))))
      (pss_one (ps_ret (pe_makeS1 T.mkp I (hr.mono (by decide)) (by rfl) (T.gl "Polynomial" (by decide)) pass0 (pv 2))))))), ?_⟩
    have la' : (as.map V.int).length = as.length := List.length_map _
    have lb' : (bs.map V.int).length = bs.length := List.length_map _
    have lz : 10000 ≤ sizeLine := by rw [sizeLine_eq]; decide
    have tn : ((((as.map V.int).length : Nat) : Int) + ((bs.map V.int).length : Nat)).toNat = as.length + bs.length := by rw [la', lb']; omega
    refine ⟨_, rfl, _, _, _, _, true, rfl, .own _, T.tyP eb, T.kitP, true, rfl, iteF ?_⟩
    refine ⟨by show 1 ≤ sizeLine; omega, fun l0 n0 => ?_⟩
    have s0 : Same H (upd H l0 (.lst [.int 0])) := same_new n0
    refine ⟨_, rfl, ra, _, dx, _, _, rfl, s0 _ _ ea, T.clP, T.nC, rfl, l1, _, rfl, .inr (SqT.of (s0 _ _ e1)), _, rfl, rb, _, dy, _, _, rfl, s0 _ _ eb, T.clP, T.nC, rfl, l2, _, rfl, .inr (SqT.of (s0 _ _ e2)), _, _, rfl, rfl, l0, _, _, rfl, rfl, upd_same, by rw [la', lb']; omega, by rw [la', lb']; omega, by rw [tn, show [V.int 0].length = 1 from rfl]; omega, fun l3 n3 => ?_⟩
    rw [tn, rep0]
    have s3 : Same H (upd (upd H l0 (.lst [.int 0])) l3 (.lst ((mulOut as bs 0).map V.int))) := s0.trans (same_new n3)
    have h3 : H l3 = none := gone s0 n3
    have e3 : (upd (upd H l0 (.lst [.int 0])) l3 (.lst ((mulOut as bs 0).map V.int))) l3 = some (.lst ((mulOut as bs 0).map V.int)) := upd_same
    refine ⟨_, rfl, ra, _, dx, _, _, rfl, s3 _ _ ea, T.clP, T.nC, rfl, l1, _, rfl, SqT.of (s3 _ _ e1), ?_⟩
    refine for_it walk_enumT (fun i σ H' => Same H H' ∧ H' l3 = some (.lst ((mulOut as bs i).map V.int)) ∧ ∃ u3 u4 u5 u6, σ = [some (.ref ra), some (.ref rb), some (.ref l3), u3, u4, u5, u6]) ⟨s3, e3, none, none, none, none, rfl⟩ (fun i σ H' _ pv => SqT.of (pv.1 _ _ e1)) ?_ ?_
    · rintro i v σ H7 H8 hi ⟨s7, e7, u3, u4, u5, u6, rfl⟩ ⟨t, y1, y2, rfl, nt, rfl, hx, hy⟩
      dsimp only at hx hy
      cases hx
      obtain ⟨a, ha, rfl⟩ := getm hy
      have hae : as.getD i 0 = a := by rw [List.getD_eq_getElem?_getD, ha]; rfl
      have s8 := s7.trans (same_new (o := .tup [.int (i : Nat), .int a]) nt)
      have e8 : (upd H7 t (.tup [.int (i : Nat), .int a])) l3 = some (.lst ((mulOut as bs i).map V.int)) := same_new nt _ _ e7
      refine ⟨t, _, rfl, SqT.of upd_same, rfl, _, _, rfl, _, _, rfl, rfl, ?_⟩
      refine ⟨_, rfl, rb, _, dy, _, _, rfl, s8 _ _ eb, T.clP, T.nC, rfl, l2, _, rfl, SqT.of (s8 _ _ e2), ?_⟩
      refine for_it walk_enumT (fun j σ H' => Same H H' ∧ H' l3 = some (.lst ((mulIn a i bs j (mulOut as bs i)).map V.int)) ∧ ∃ u5 u6, σ = [some (.ref ra), some (.ref rb), some (.ref l3), some (.int (i : Nat)), some (.int a), u5, u6]) ⟨s8, e8, u5, u6, rfl⟩ (fun i σ H' _ pv => SqT.of (pv.1 _ _ e2)) ?_ ?_
      · rintro j v σ H9 H10 hj ⟨s9, e9, u5, u6, rfl⟩ ⟨t2, y1, y2, rfl, nt2, rfl, hx, hy⟩
        dsimp only at hx hy
        cases hx
        obtain ⟨b, hb, rfl⟩ := getm hy
        rw [la'] at hi
        rw [lb'] at hj
        have hbe : bs.getD j 0 = b := by rw [List.getD_eq_getElem?_getD, hb]; rfl
        have e10 : (upd H9 t2 (.tup [.int (j : Nat), .int b])) l3 = some (.lst ((mulIn a i bs j (mulOut as bs i)).map V.int)) := same_new nt2 _ _ e9
        have s10 := s9.trans (same_new (o := .tup [.int (j : Nat), .int b]) nt2)
        have hlen : (mulIn a i bs j (mulOut as bs i)).length = as.length + bs.length := (mulIn_len _ _ _ _ _).trans (mulOut_len _ _ _)
        have hij : ((i : Nat) : Int) + ((j : Nat) : Int) = ((i + j : Nat) : Int) := by omega
        have hat : (mulIn a i bs j (mulOut as bs i))[i + j]? = some ((mulIn a i bs j (mulOut as bs i)).getD (i + j) 0) := by
          rw [List.getD_eq_getElem?_getD, List.getElem?_eq_getElem (show i + j < _ by omega)]
          rfl
        refine ⟨t2, _, rfl, SqT.of upd_same, rfl, _, _, rfl, _, _, rfl, rfl, ?_⟩
        refine ⟨_, rfl, _, rfl, _, rfl, _, _, rfl, rfl, l3, _, _, _, rfl, rfl, SqL.of e10, by rw [hij]; exact atI_nat (getM hat), _, rfl, _, rfl, a, b, rfl, rfl, cmW (ba a (List.mem_of_getElem? ha)) (bb b (List.mem_of_getElem? hb)), _, _, rfl, rfl, ?_⟩
        refine ⟨_, rfl, _, rfl, _, rfl, _, _, rfl, rfl, l3, _, _, i + j, rfl, rfl, e10, ?_, ?_⟩
        · rw [hij, List.length_map, hlen]
          unfold ixN
          rw [if_pos (by omega), if_pos (by omega), Int.toNat_natCast]
        · refine ⟨fun b' o' e' => ?_, ?_, _, _, rfl⟩
          · rw [upd_ne (ne_of_none e' h3)]
            exact s10 _ _ e'
          · rw [upd_same]
            show some (HO.lst _) = some (HO.lst ((addAt (mulIn a i bs j (mulOut as bs i)) (i + j) (a * bs.getD j 0)).map V.int))
            unfold addAt
            rw [hbe, List.map_set]
      · rintro σ H9 ⟨s9, e9, u5, u6, rfl⟩
        rw [lb'] at e9
        refine ⟨s9, ?_, _, _, _, _, rfl⟩
        show _ = some (HO.lst ((mulIn (as.getD i 0) i bs bs.length (mulOut as bs i)).map V.int))
        rw [hae]
        exact e9
    · rintro σ H7 ⟨s7, e7, u3, u4, u5, u6, rfl⟩
      rw [la'] at e7
      exact ⟨_, rfl, l3, _, rfl, .inr (SqL.of e7), madeP (by rw [mulOut_len]; omega) fun x H9 s9 r9 n9 => q x H9 (s7.trans s9) (gone s7 n9) r9⟩
theorem ok_mulX {q : Str} (F : FunD K "__mul__" q (defArgs (inP 6)) (defBody (inP 6)) (defScope (inP 6)) [] [] f fd) (T : TT K mg) (I : PId P w K mg base) : FnOk P w K mg base (L2.CX P w) 4 f fd ["self", "other"] (spBinX K) := by
  refine F.ok sc_mul (fun vs H Q E h => ?_) (fun cdv A outer s H vs Q E hr h => ?_)
  · obtain ⟨a, v, as, rfl, _⟩ := h
    rfl
  · obtain ⟨a, v, as, rfl, pa, ho, r⟩ := h
    obtain ⟨c, ty, kt⟩ := isi_oddP T ho
    refine ⟨_, pss_cons (ps_if (pt_not (pt_val (pe_callB call_isi (by rfl) T.fre (by decide +kernel) (pa_cons (pv 1) (pa_cons (pe_glob (v := .ref (PC K)) (by rfl) (T.gl "Polynomial" (by decide)) rfl) pa_nil))))) (pss_one (ps_raise rfl (takes_of rfl rfl rfl rfl) (pmk_er1 T.ep.cl T.ip1 bd1_value hr (by rfl) (T.gl "InvalidPolynomial" (by decide)) (raises_own T.ep.be T.ep.tc) (pa_cons (pv 1) pa_nil)))) pss_nil)
      (pss_cons (ps_set (i := 2) sc_mul.nd rfl (Or.inl rfl) (pe_op op_rep (pe_lst (pa_cons pe_int pa_nil)) (pe_op op_add (pe_callB call_len_seq (by rfl) T.fre (by decide +kernel) (pa_cons (pe_fld (pv 0) rfl) pa_nil)) (pe_callB call_len_seq (by rfl) T.fre (by decide +kernel) (pa_cons (pe_fld (pv 1) rfl) pa_nil)))))
      (pss_cons (ps_for (passes_of rfl) rfl (pi_enumT (by rfl) T.fre (pa_cons (pe_fld (pv 0) rfl) pa_nil)) (pg_tup (by rfl) (pgs_cons (pg_name (i := 3) sc_mul.nd rfl (.inl rfl)) (pgs_cons (pg_name (i := 4) sc_mul.nd rfl (.inl rfl)) pgs_nil)))
        (pss_one (ps_for (passes_of rfl) rfl (pi_enumT (by rfl) T.fre (pa_cons (pe_fld (pv 1) rfl) pa_nil)) (pg_tup (by rfl) (pgs_cons (pg_name (i := 5) sc_mul.nd rfl (.inl rfl)) (pgs_cons (pg_name (i := 6) sc_mul.nd rfl (.inl rfl)) pgs_nil)))
          (pss_one (ps_asg (pe_op op_add (pe_ix ix_list (pv 2) (pe_op op_add (pv 3) (pv 5)) (fun _ _ => rfl)) (pe_op op_mulW (pv 4) (pv 6))) (pg_sub (pv 2) (pe_op op_add (pv 3) (pv 5)) set_list))))))
      (pss_one (ps_ret (pe_makeS1 T.mkp I (hr.mono (by decide)) (by rfl) (T.gl "Polynomial" (by decide)) pass0 (pv 2)))))), ?_⟩
    exact ⟨_, rfl, _, _, _, _, false, rfl, .own _, ty, kt, false, rfl, iteT ⟨_, rfl, v, rfl, fun d nd => r d _ (same_new nd) upd_same⟩⟩
end
end K70

set_option maxHeartbeats 4000000
set_option exponentiation.threshold 3000
namespace K70
open PySem PySem.Spec PyProof.Rows L2 RtL ErL StX
section
variable {P : Program} {w : World} {K : Fr} {mg : Str → Option Value} {base : Heap} {f : Addr} {fd : FuncData}
/-! ### the law's value -/
abbrev sVal : Stmt := top 29
theorem scVal : FnScope ["_law_row_here", "_law_place", "_law_found", "_law_power", "_law_one"] ["_law_row_here", "_law_place"] (defScope sVal) := ⟨rfl, rfl, rfl, by decide +kernel, rfl, by decide +kernel, by decide +kernel⟩
def spVal (K : Fr) : Sp := fun vs H Q _ => ∃ l cs d, vs = [.ref l, .int d] ∧ H l = some (.lst (cs.map V.int)) ∧ cs.length ≤ 9 ∧ (∀ c ∈ cs, Bd 100 c) ∧ Bd 100 d ∧ ∀ H', Same H H' → Q (.int (wat cs d)) H'
theorem pow_bd {d : Int} (h : Bd 100 d) : ∀ k, Bd (100 * k + 1) (d ^ k)
  | 0 => by rw [Int.pow_zero]; decide
  | k + 1 => by
    rw [Int.pow_succ]
    exact bd_up (bd_mul (pow_bd h k) h) (by omega)
theorem ok_val (F : FunD K "_law_value" "_law_value" (defArgs sVal) (defBody sVal) (defScope sVal) [] [] f fd) (T : TT K mg) : FnOk P w K mg base CX0 1 f fd ["_law_row_here", "_law_place"] (spVal K) := by
  refine F.ok scVal (fun vs H Q E h => ?_) (fun cdv A outer s H vs Q E hr h => ?_)
  · obtain ⟨l, cs, d, rfl, _⟩ := h
    rfl
  · obtain ⟨l, cs, d, rfl, el, hl, hb, hd, q⟩ := h
    refine ⟨_, PSs.nox (pss_cons (ps_asg (pe_tup (pa_cons pe_int (pa_cons pe_int pa_nil))) (pg_tup (by rfl) (pgs_cons (pg_name (i := 2) scVal.nd rfl (.inl rfl)) (pgs_cons (pg_name (i := 3) scVal.nd rfl (.inl rfl)) pgs_nil))))
      (pss_cons (ps_for PassesOwn.never rfl (pi_list (pv 0)) (pg_name (i := 4) scVal.nd rfl (Or.inl rfl))
        (pss_cons (ps_set (i := 2) scVal.nd rfl (Or.inl rfl) (pe_op op_add (pv 2) (pe_op op_mulW (pv 4) (pv 3)))) (pss_one (ps_set (i := 3) scVal.nd rfl (Or.inl rfl) (pe_op op_mulW (pv 3) (pv 1))))))
      (pss_one (ps_ret (pv 2))))), ?_⟩
    refine ⟨by show 2 ≤ sizeLine; rw [sizeLine_eq]; decide, fun t nt => ⟨t, _, rfl, SqT.of upd_same, rfl, _, _, rfl, _, _, rfl, rfl, ?_⟩⟩
    have el2 := same_new (o := .tup [.int 0, .int 1]) nt _ _ el
    refine ⟨_, rfl, l, rfl, ⟨_, SqL.of el2⟩, for_list (xs := cs.map V.int) (fun i σ H2 => H2 = upd H t (.tup [.int 0, .int 1]) ∧ ∃ (a : Int) (u : Option V), σ = [some (.ref l), some (.int d), some (.int a), some (.int (d ^ i)), u] ∧ a + d ^ i * wat (cs.drop i) d = wat cs d) ⟨rfl, 0, none, by rw [Int.pow_zero]; rfl, by rw [Int.pow_zero, List.drop_zero]; omega⟩ (fun i σ H2 _ ⟨e, _⟩ => by rw [e]; exact SqL.of el2) ?_ ?_⟩
    · rintro i x σ H2 hi ⟨rfl, a, u, rfl, ha⟩
      obtain ⟨c, hc, rfl⟩ := getm hi
      have hlt : i < cs.length := (List.getElem?_eq_some_iff.mp hc).1
      have hw : wat (cs.drop i) d = wat (cs.drop (i + 1)) d * d + c := by
        rw [List.drop_eq_getElem_cons hlt]
        have : cs[i] = c := by
          rw [List.getElem?_eq_getElem hlt] at hc
          exact Option.some.inj hc
        rw [this]
        rfl
      have bp : Bd 1000 (d ^ i) := bd_up (pow_bd hd i) (by omega)
      refine ⟨_, rfl, _, rfl, _, rfl, c, _, rfl, rfl, cmW (hb c (List.mem_of_getElem? hc)) bp, _, _, rfl, rfl, _, rfl, _, rfl, _, _, rfl, rfl, cmW bp hd, ?_⟩
      refine ⟨rfl, a + c * d ^ i, some (.int c), by rw [Int.pow_succ]; rfl, ?_⟩
      have h1 : d ^ i * d * wat (cs.drop (i + 1)) d = d ^ i * (wat (cs.drop (i + 1)) d * d) := by rw [Int.mul_assoc, Int.mul_comm d]
      have h2 : c * d ^ i = d ^ i * c := Int.mul_comm _ _
      rw [← ha, hw, Int.pow_succ, Int.mul_add, h1, h2]
      omega
    · rintro σ H2 ⟨rfl, a, u, rfl, ha⟩
      rw [List.length_map, List.drop_length] at ha
      have e : a = wat cs d := by
        rw [← ha]
        show a = a + _ * 0
        omega
      rw [e]
      exact ⟨_, rfl, q _ (same_new nt)⟩
end
end K70

set_option maxHeartbeats 4000000
set_option exponentiation.threshold 3000
namespace K70
open PySem PySem.Spec PyProof.Rows L2 RtL ErL StX PySem.Builtin
/-! ### strip -/
theorem tw_app {p : Nat → Bool} : ∀ {a m : List Nat}, (∀ x ∈ a, p x = true) → (∀ x ∈ m.head?, p x = false) → (a ++ m).takeWhile p = a
  | [], [], _, _ => rfl
  | [], y :: m, _, h => by
    rw [List.nil_append, List.takeWhile_cons, h y rfl]
    rfl
  | x :: a, m, ha, h => by
    rw [List.cons_append, List.takeWhile_cons, ha x List.mem_cons_self]
    show x :: (a ++ m).takeWhile p = _
    rw [tw_app (fun y hy => ha y (List.mem_cons_of_mem _ hy)) h]
theorem tl_strip {x : Str} {a m b : List Nat} (e : TL.tl x = a ++ (m ++ b)) (ha : ∀ c ∈ a, Unicode.isSpace c = true) (hb : ∀ c ∈ b, Unicode.isSpace c = true) (m0 : m ≠ []) (h1 : ∀ c ∈ m.head?, Unicode.isSpace c = false) (h2 : ∀ c ∈ m.getLast?, Unicode.isSpace c = false) : TL.tl (Txt.strip x) = m := by
  have lo : stripLo Unicode.isSpace true x = a.length := by
    show ((TL.tl x).takeWhile Unicode.isSpace).length = _
    rw [e, tw_app ha fun c hc => h1 c (by
      cases m with
      | nil => exact absurd rfl m0
      | cons y m => exact hc)]
  have hi : stripHi Unicode.isSpace true x a.length = a.length + m.length := by
    show x.length - (((TL.tl x).drop a.length).reverse.takeWhile Unicode.isSpace).length = _
    rw [TL.len_tl, e, List.drop_left, List.reverse_append, tw_app (fun c hc => hb c (List.mem_reverse.mp hc)) (fun c hc => h2 c (by rw [List.head?_reverse] at hc; exact hc)), List.length_reverse, List.length_append, List.length_append]
    omega
  show TL.tl (if stripSame Unicode.isSpace true true x = true then x else stripped Unicode.isSpace true true x) = m
  have cut : TL.tl (stripped Unicode.isSpace true true x) = m := by
    show TL.tl (Str.strSub x (stripLo Unicode.isSpace true x) (stripHi Unicode.isSpace true x (stripLo Unicode.isSpace true x))) = m
    rw [lo, hi]
    show (x.cps.extract a.length (a.length + m.length)).toList = m
    rw [Array.toList_extract]
    show ((TL.tl x).extract a.length (a.length + m.length)) = m
    rw [e]
    simp [List.extract]
  split
  · rename_i h
    unfold stripSame at h
    rw [lo, hi, TL.len_tl, e] at h
    simp only [Bool.and_eq_true, beq_iff_eq, List.length_append] at h
    have a0 : a = [] := List.eq_nil_of_length_eq_zero h.1
    have b0 : b = [] := List.eq_nil_of_length_eq_zero (by omega)
    rw [e, a0, b0, List.nil_append, List.append_nil]
  · exact cut
theorem dig_ns {c : Nat} (h1 : 48 ≤ c) (h2 : c ≤ 57) : Unicode.isSpace c = false := by
  have : c = 48 ∨ c = 49 ∨ c = 50 ∨ c = 51 ∨ c = 52 ∨ c = 53 ∨ c = 54 ∨ c = 55 ∨ c = 56 ∨ c = 57 := by omega
  rcases this with rfl | rfl | rfl | rfl | rfl | rfl | rfl | rfl | rfl | rfl <;> decide +kernel
theorem num_ns (n : Nat) : ∀ c ∈ TL.numL n, Unicode.isSpace c = false := fun c hc => dig_ns (TL.numL_digits n c hc).1 (TL.numL_digits n c hc).2
/-- without blanks at both ends -/
def Clean (x : Str) : Prop := TL.tl x ≠ [] ∧ (∀ c ∈ (TL.tl x).head?, Unicode.isSpace c = false) ∧ ∀ c ∈ (TL.tl x).getLast?, Unicode.isSpace c = false
theorem clean_all {x : Str} (h0 : TL.tl x ≠ []) (h : ∀ c ∈ TL.tl x, Unicode.isSpace c = false) : Clean x := ⟨h0, fun c hc => h c (List.mem_of_head? hc), fun c hc => h c (List.mem_of_getLast? hc)⟩
theorem clean_app {x y z : Str} (h : Clean x) (h' : Clean z) : Clean (x ++ y ++ z) := by
  obtain ⟨x0, x1, _⟩ := h
  obtain ⟨z0, _, z2⟩ := h'
  have e : TL.tl (x ++ y ++ z) = TL.tl x ++ (TL.tl y ++ TL.tl z) := by rw [TL.tl_append, TL.tl_append, List.append_assoc]
  refine ⟨?_, fun c hc => ?_, fun c hc => ?_⟩
  · rw [e]
    intro q
    exact x0 (List.append_eq_nil_iff.mp q).1
  · rw [e] at hc
    refine x1 c ?_
    cases q : TL.tl x with
    | nil => exact absurd q x0
    | cons a b =>
      rw [q] at hc
      exact hc
  · rw [e, ← List.append_assoc] at hc
    refine z2 c ?_
    rw [List.getLast?_append] at hc
    cases q : (TL.tl z).getLast? with
    | none => exact absurd (List.getLast?_eq_none_iff.mp q) z0
    | some a =>
      rw [q] at hc
      exact hc
theorem sp_blank : TL.tl (" " : Str) = [32] := by decide +kernel
theorem strip_self {x : Str} (h : Clean x) : Txt.strip x = x := TL.ext_tl (tl_strip (a := []) (b := []) (by rw [List.nil_append, List.append_nil]) (fun c hc => absurd hc List.not_mem_nil) (fun c hc => absurd hc List.not_mem_nil) h.1 h.2.1 h.2.2)
theorem strip_r {x : Str} (h : Clean x) : Txt.strip (x ++ " ") = x := TL.ext_tl (tl_strip (a := []) (b := [32]) (by rw [List.nil_append, TL.tl_append, sp_blank]) (fun c hc => absurd hc List.not_mem_nil) (fun c hc => by rw [List.mem_singleton.mp hc]; decide +kernel) h.1 h.2.1 h.2.2)
theorem strip_l {x : Str} (h : Clean x) : Txt.strip (" " ++ x) = x := TL.ext_tl (tl_strip (a := [32]) (b := []) (by rw [List.append_nil, TL.tl_append, sp_blank]) (fun c hc => by rw [List.mem_singleton.mp hc]; decide +kernel) (fun c hc => absurd hc List.not_mem_nil) h.1 h.2.1 h.2.2)
theorem clean_num (n : Nat) : Clean (T_ (n : Nat)) := by
  have e : TL.tl (T_ (n : Nat)) = TL.numL n := TL.tl_num n
  exact clean_all (by rw [e]; exact TL.numL_ne n) fun c hc => num_ns n c (by rw [← e]; exact hc)
theorem clean_v (e : Nat) : Clean (vtxt e) := by
  unfold vtxt
  split
  · exact clean_all (by decide +kernel) (by decide +kernel)
  · have q : TL.tl ("d^" ++ T_ (e : Nat)) = [100, 94] ++ TL.numL e := by
      rw [TL.tl_append, show TL.tl ("d^" : Str) = [100, 94] by decide +kernel]
      exact congrArg _ (TL.tl_num e)
    refine clean_all (by rw [q]; simp) fun c hc => ?_
    rw [q] at hc
    rcases List.mem_append.mp hc with z | z
    · simp only [List.mem_cons, List.not_mem_nil, or_false] at z
      rcases z with rfl | rfl <;> decide +kernel
    · exact num_ns e c z
/-! ### the law's words -/
def front (c : Int) (k : Nat) : Str := if c.natAbs = 1 ∧ 0 < k then "" else T_ (c.natAbs : Nat)
def name (k : Nat) : Str := (if 0 < k then "d" else "") ++ (if 1 < k then "^" ++ T_ (k : Nat) else "")
theorem app_nil (x : Str) : x ++ ("" : Str) = x := TL.ext_tl (by rw [TL.tl_append, show TL.tl ("" : Str) = [] from rfl, List.append_nil])
theorem nil_app' (x : Str) : ("" : Str) ++ x = x := TL.ext_tl (by rw [TL.tl_append, show TL.tl ("" : Str) = [] from rfl, List.nil_append])
theorem app_assoc (x y z : Str) : x ++ y ++ z = x ++ (y ++ z) := TL.ext_tl (by simp only [TL.tl_append, List.append_assoc])
theorem name_v {k : Nat} (h : 0 < k) : name k = vtxt k := by
  unfold name vtxt
  rw [if_pos h]
  by_cases z : k = 1
  · rw [if_pos z, if_neg (by omega)]
    decide +kernel
  · rw [if_neg z, if_pos (by omega), ← app_assoc]
    rfl
theorem word_eq {c : Int} {k : Nat} (h : c ≠ 0) : Txt.strip (front c k ++ " " ++ name k) = ptxt (c.natAbs : Nat) k := by
  by_cases k0 : k = 0
  · subst k0
    have e1 : front c 0 = T_ (c.natAbs : Nat) := if_neg (by omega)
    have e2 : name 0 = "" := by decide +kernel
    rw [e1, e2, app_nil, strip_r (clean_num _)]
    rfl
  · rw [name_v (by omega)]
    have e3 : ptxt (c.natAbs : Nat) k = _ := if_neg k0
    rw [e3]
    by_cases c1 : c.natAbs = 1
    · have e1 : front c k = "" := if_pos ⟨c1, by omega⟩
      rw [e1, nil_app', strip_l (clean_v k), if_pos (by omega)]
    · have e1 : front c k = T_ (c.natAbs : Nat) := if_neg fun z => c1 z.1
      rw [e1, strip_self (clean_app (clean_num _) (clean_v k)), if_neg (by omega)]
/-! ### the law's text -/
def wsUp (cs : List Int) : Nat → List (Int × Str)
  | 0 => []
  | k + 1 => wsUp cs k ++ if cs.getD k 0 = 0 then [] else [(cs.getD k 0, ptxt ((cs.getD k 0).natAbs : Nat) k)]
def sepW (acc : Str) (c : Int) : Str := if acc ≠ ("" : Str) then (if c < 0 then (" - " : Str) else (" + " : Str)) else if c < 0 then ("-" : Str) else ("" : Str)
def stepW (acc : Str) (w : Int × Str) : Str := acc ++ sepW acc w.1 ++ w.2
def lawT (cs : List Int) : Str := if wsUp cs cs.length = [] then "0" else (wsUp cs cs.length).reverse.foldl stepW ""
theorem ptxt_ne {c : Nat} {k : Nat} : ptxt (c : Nat) k ≠ ("" : Str) := fun e => by
  have h : ∀ x : Str, Clean x → x ≠ ("" : Str) := fun x h z => h.1 (by rw [z]; rfl)
  unfold ptxt at e
  split at e
  · exact h _ (clean_num c) e
  · split at e
    · exact h _ (clean_v k) e
    · exact h _ (clean_app (clean_num c) (clean_v k)) e
theorem app_ne {x y : Str} (h : y ≠ ("" : Str)) : x ++ y ≠ ("" : Str) := fun e => h (TL.ext_tl (by
  have z : TL.tl (x ++ y) = [] := by rw [e]; rfl
  rw [TL.tl_append] at z
  exact (List.append_eq_nil_iff.mp z).2))
theorem join_cons (x : Str) : ∀ xs : List Str, Txt.join "" (x :: xs) = x ++ Txt.join "" xs
  | [] => by
    rw [TL.join_eq, TL.join_eq]
    exact (app_nil x).symm
  | y :: ys => by
    rw [TL.join_eq, TL.join_eq]
    show x ++ "" ++ Str.join "" (y :: ys) = _
    rw [app_nil]
theorem fold_rest (cs : List Int) (m : Nat) : ∀ (k : Nat) (acc : Str), k < m → acc ≠ ("" : Str) → (wsUp cs k).reverse.foldl stepW acc = acc ++ Txt.join "" (terms cs m k)
  | 0, acc, _, _ => by
    rw [show Txt.join "" (terms cs m 0) = "" from by rw [TL.join_eq]; rfl, app_nil]
    rfl
  | k + 1, acc, hk, h => by
    unfold wsUp terms
    rw [List.reverse_append, List.foldl_append]
    by_cases z : cs.getD k 0 = 0
    · rw [if_pos z, if_pos z]
      exact fold_rest cs m k acc (by omega) h
    · rw [if_neg z, if_neg z]
      show (wsUp cs k).reverse.foldl stepW (stepW acc _) = acc ++ Txt.join "" (stxt _ _ _ :: terms cs m k)
      have e : stepW acc (cs.getD k 0, ptxt ((cs.getD k 0).natAbs : Nat) k) = acc ++ stxt (cs.getD k 0) k (decide (k + 1 = m)) := by
        rw [decide_eq_false (by omega)]
        unfold stepW stxt sepW
        dsimp only
        rw [if_pos h]
        split <;> rw [app_assoc]
      rw [e, fold_rest cs m k _ (by omega) ?_, join_cons, app_assoc]
      rw [← e]
      exact app_ne ptxt_ne
theorem law_text {cs : List Int} (h : ∀ c ∈ cs.getLast?, c ≠ 0) : lawT cs = polyT cs := by
  unfold lawT polyT
  cases hn : cs.length with
  | zero => rfl
  | succ n =>
    have hl : cs.getD n 0 ≠ 0 := by
      refine h _ ?_
      rw [List.getLast?_eq_getElem?, hn, List.getD_eq_getElem?_getD]
      have hlt : n < cs.length := by omega
      show cs[n]? = _
      rw [List.getElem?_eq_getElem hlt]
      rfl
    have e1 : wsUp cs (n + 1) = wsUp cs n ++ [(cs.getD n 0, ptxt ((cs.getD n 0).natAbs : Nat) n)] := by
      show wsUp cs n ++ (if _ then _ else _) = _
      rw [if_neg hl]
    have e2 : terms cs (n + 1) (n + 1) = stxt (cs.getD n 0) n true :: terms cs (n + 1) n := by
      show (if _ then _ else _) ++ terms cs (n + 1) n = _
      rw [if_neg hl, decide_eq_true rfl]
      rfl
    rw [e1, e2, if_neg (by simp), if_neg (by simp), List.reverse_append, join_cons]
    show (wsUp cs n).reverse.foldl stepW (stepW "" _) = _
    have e3 : stepW "" (cs.getD n 0, ptxt ((cs.getD n 0).natAbs : Nat) n) = stxt (cs.getD n 0) n true := by
      unfold stepW stxt sepW
      dsimp only
      rw [if_neg (by simp), nil_app']
      split
      · rfl
      · rw [nil_app']
    rw [e3]
    refine fold_rest cs (n + 1) n _ (Nat.lt_succ_self n) ?_
    rw [← e3]
    exact app_ne ptxt_ne
theorem pl_last' : ∀ xs : List Int, ∀ c ∈ (pl xs).getLast?, c ≠ 0
  | [], c, h => by cases h
  | x :: xs, c, h => by
    have ih := pl_last' xs
    unfold pl at h
    split at h
    · split at h
      · cases h
      · cases h
        assumption
    · rename_i d ds e
      rw [e] at ih
      refine ih c ?_
      rw [List.getLast?_cons_cons] at h
      exact h
end K70

set_option maxHeartbeats 4000000
set_option exponentiation.threshold 3000
namespace K70
open PySem PySem.Spec PyProof.Rows L2 RtL ErL StX
theorem ws_len (cs : List Int) : ∀ k, (wsUp cs k).length ≤ k
  | 0 => Nat.le_refl _
  | k + 1 => by
    have ih := ws_len cs k
    unfold wsUp
    rw [List.length_append]
    split <;> simp only [List.length_nil, List.length_cons] <;> omega
theorem ws_mem {cs : List Int} (hb : ∀ c ∈ cs, Bd 1000 c) : ∀ k, k ≤ 100 → ∀ p ∈ wsUp cs k, p.2.length ≤ 3000
  | 0, _, p, h => absurd h List.not_mem_nil
  | k + 1, hk, p, h => by
    unfold wsUp at h
    rcases List.mem_append.mp h with z | z
    · exact ws_mem hb k (by omega) p z
    · split at z
      · exact absurd z List.not_mem_nil
      · rw [List.mem_singleton.mp z]
        exact ptxt_len (by omega) (bd_abs (bd_get hb k))
theorem sep_len (acc : Str) (c : Int) : (sepW acc c).length ≤ 3 := by
  unfold sepW
  split <;> split <;> decide
theorem fold_len : ∀ (ws : List (Int × Str)) (acc : Str), (∀ p ∈ ws, p.2.length ≤ 3000) → (ws.foldl stepW acc).length ≤ acc.length + ws.length * 3003
  | [], acc, _ => by simp
  | p :: ws, acc, h => by
    have ih := fold_len ws (stepW acc p) fun q hq => h q (List.mem_cons_of_mem _ hq)
    have h1 := h p List.mem_cons_self
    have h2 := sep_len acc p.1
    rw [List.foldl_cons, List.length_cons, Nat.succ_mul]
    have e : (stepW acc p).length = acc.length + (sepW acc p.1).length + p.2.length := by
      unfold stepW
      rw [strLen_append, strLen_append]
    omega
/-- the words as they stand in the heap -/
def WsAt (wl : Addr) (H : Hp) (xs : List V) (ws : List (Int × Str)) : Prop := xs.length = ws.length ∧ ∀ (j : Nat) (p : Int × Str), ws[j]? = some p → ∃ a, xs[j]? = some (V.ref a) ∧ a ≠ wl ∧ H a = some (.lst [.int p.1, .str p.2])
theorem WsAt.nil {wl : Addr} {H : Hp} : WsAt wl H [] [] := ⟨rfl, fun j p h => by cases h⟩
theorem WsAt.put {wl : Addr} {H H' : Hp} {xs : List V} {ws : List (Int × Str)} {a : Addr} {p : Int × Str} (h : WsAt wl H xs ws) (k : ∀ b o, b ≠ wl → H b = some o → H' b = some o) (n : a ≠ wl) (e : H' a = some (.lst [.int p.1, .str p.2])) : WsAt wl H' (xs ++ [.ref a]) (ws ++ [p]) := by
  refine ⟨by simp [h.1], fun j q hq => ?_⟩
  by_cases hj : j < ws.length
  · rw [List.getElem?_append_left hj] at hq
    obtain ⟨b, h1, h2, h3⟩ := h.2 j q hq
    exact ⟨b, by rw [List.getElem?_append_left (by rw [h.1]; exact hj)]; exact h1, h2, k b _ h2 h3⟩
  · rw [List.getElem?_append_right (by omega)] at hq
    have hz : j - ws.length = 0 := by
      cases z : j - ws.length with
      | zero => rfl
      | succ n => rw [z] at hq; cases hq
    rw [hz] at hq
    cases hq
    exact ⟨a, by rw [List.getElem?_append_right (by rw [h.1]; omega), h.1, hz]; rfl, n, e⟩
theorem WsAt.keep {wl : Addr} {H H' : Hp} {xs : List V} {ws : List (Int × Str)} (h : WsAt wl H xs ws) (k : ∀ b o, b ≠ wl → H b = some o → H' b = some o) : WsAt wl H' xs ws := ⟨h.1, fun j p hp => by
  obtain ⟨a, h1, h2, h3⟩ := h.2 j p hp
  exact ⟨a, h1, h2, k a _ h2 h3⟩⟩
theorem WsAt.rev {wl : Addr} {H : Hp} {xs : List V} {ws : List (Int × Str)} (h : WsAt wl H xs ws) {i : Nat} {x : V} (hx : xs.reverse[i]? = some x) : ∃ p a, ws.reverse[i]? = some p ∧ x = .ref a ∧ H a = some (.lst [.int p.1, .str p.2]) := by
  have hi : i < xs.length := by
    have := (List.getElem?_eq_some_iff.mp hx).1
    rwa [List.length_reverse] at this
  rw [List.getElem?_reverse hi] at hx
  have hj : ws.length - 1 - i < ws.length := by rw [← h.1]; omega
  obtain ⟨a, h1, _, h3⟩ := h.2 _ _ (List.getElem?_eq_getElem hj)
  rw [← h.1] at h1
  rw [hx] at h1
  exact ⟨_, a, by rw [List.getElem?_reverse (by rw [← h.1]; exact hi)]; exact List.getElem?_eq_getElem hj, Option.some.inj h1, h3⟩
def wData (p : Int × Str) : PyData := .list [.int p.1, .str p.2]
theorem WsAt.dp {K : Fr} {wl : Addr} {H : Hp} : ∀ {xs : List V} {ws : List (Int × Str)}, WsAt wl H xs ws → DpAll K H xs (ws.map wData)
  | [], [], _ => .nil
  | [], _ :: _, h => by have := h.1; cases this
  | _ :: _, [], h => by have := h.1; cases this
  | x :: xs, p :: ws, h => by
    obtain ⟨a, h1, _, h3⟩ := h.2 0 p rfl
    cases h1
    refine .cons (.lst (SqL.of h3) (.cons (.int _) (.cons (.str _) .nil))) (WsAt.dp (wl := wl) ⟨by have := h.1; simpa using this, fun j q hq => ?_⟩)
    exact h.2 (j + 1) q hq
theorem strOk_of {x : Str} (h : ∀ c ∈ TL.tl x, c < 0x110000) : PyData.strOk x = true := by
  unfold PyData.strOk
  rw [← Array.all_toList]
  exact List.all_eq_true.mpr fun c hc => decide_eq_true (h c hc)
theorem num_lt (n : Nat) : ∀ c ∈ TL.tl (T_ (n : Nat)), c < 0x110000 := fun c hc => by
  rw [show TL.tl (T_ (n : Nat)) = TL.numL n from TL.tl_num n] at hc
  exact Nat.lt_of_le_of_lt (TL.numL_digits n c hc).2 (by decide)
theorem vtxt_lt (k : Nat) : ∀ c ∈ TL.tl (vtxt k), c < 0x110000 := fun c hc => by
  unfold vtxt at hc
  split at hc
  · revert c
    decide +kernel
  · rw [TL.tl_append] at hc
    rcases List.mem_append.mp hc with z | z
    · rw [show TL.tl ("d^" : Str) = [100, 94] by decide +kernel] at z
      simp only [List.mem_cons, List.not_mem_nil, or_false] at z
      rcases z with rfl | rfl <;> decide
    · exact num_lt k c z
theorem ptxt_ok (n k : Nat) : PyData.strOk (ptxt (n : Nat) k) = true := by
  refine strOk_of fun c hc => ?_
  unfold ptxt at hc
  split at hc
  · exact num_lt n c hc
  · split at hc
    · exact vtxt_lt k c hc
    · rw [TL.tl_append, TL.tl_append] at hc
      rcases List.mem_append.mp hc with z | z
      · rcases List.mem_append.mp z with z | z
        · exact num_lt n c z
        · rw [sp_blank] at z
          rw [List.mem_singleton.mp z]
          decide
      · exact vtxt_lt k c z
theorem ws_ok (cs : List Int) : ∀ k, PyData.canLayAll0 ((wsUp cs k).map wData) = true
  | 0 => rfl
  | k + 1 => by
    have app : ∀ a b : List PyData, PyData.canLayAll0 a = true → PyData.canLayAll0 b = true → PyData.canLayAll0 (a ++ b) = true := by
      intro a
      induction a with
      | nil => exact fun b _ h => h
      | cons x a ih =>
        intro b h1 h2
        have h1' := Bool.and_eq_true_iff.mp (show (PyData.canLay0 x && PyData.canLayAll0 a) = true from h1)
        show (PyData.canLay0 x && PyData.canLayAll0 (a ++ b)) = true
        rw [h1'.1, ih b h1'.2 h2]
        rfl
    unfold wsUp
    rw [List.map_append]
    refine app _ _ (ws_ok cs k) ?_
    split
    · rfl
    · show ((true && (PyData.strOk _ && true)) && true) = true
      rw [ptxt_ok]
      rfl
theorem ws_dep : ∀ ws : List (Int × Str), PyData.depthAll (ws.map wData) ≤ 1
  | [] => Nat.zero_le _
  | p :: ws => Nat.max_le.mpr ⟨Nat.le_refl 1, ws_dep ws⟩
theorem ws_shp (cs : List Int) (k : Nat) : SeqAt.shaped (.list ((wsUp cs k).map wData)) = true := by
  unfold SeqAt.shaped
  refine Bool.and_eq_true_iff.mpr ⟨ws_ok cs k, decide_eq_true ?_⟩
  have := ws_dep (wsUp cs k)
  show PyData.depthAll ((wsUp cs k).map wData) + 1 ≤ 64
  omega
section
variable {P : Program} {w : World} {K : Fr} {mg : Str → Option Value} {base : Heap} {f : Addr} {fd : FuncData}
theorem at2s (x y : Str) (b : Bool) : atI [V.str x, V.str y] (if b = true then 1 else 0) = some (V.str (if b = true then y else x)) := by cases b <;> rfl
abbrev sTx : Stmt := top 30
theorem scTx : FnScope ["_law_row_here", "_law_words", "_law_k", "_law_one", "_law_name", "_law_front", "_law_found", "_law_word", "_law_sign"] ["_law_row_here"] (defScope sTx) := ⟨rfl, rfl, rfl, by decide +kernel, rfl, by decide +kernel, by decide +kernel⟩
def spTx (K : Fr) : Sp := fun vs H Q _ => ∃ l cs, vs = [.ref l] ∧ H l = some (.lst (cs.map V.int)) ∧ cs.length ≤ 40 ∧ (∀ c ∈ cs, Bd 1000 c) ∧ ∀ H', Same H H' → Q (.str (lawT cs)) H'
theorem ok_tx (F : FunD K "_law_text" "_law_text" (defArgs sTx) (defBody sTx) (defScope sTx) [] [] f fd) (T : TT K mg) : FnOk P w K mg base CX0 1 f fd ["_law_row_here"] (spTx K) := by
  refine F.ok scTx (fun vs H Q E h => ?_) (fun cdv A outer s H vs Q E hr h => ?_)
  · obtain ⟨l, cs, rfl, _⟩ := h
    rfl
  · obtain ⟨l, cs, rfl, el, hl, hb, q⟩ := h
    refine ⟨_, PSs.nox (pss_cons (ps_set (i := 1) scTx.nd rfl (Or.inl rfl) (pe_lst pa_nil))
      (pss_cons (ps_for PassesOwn.never rfl (pi_enum (by rfl) T.fre (pa_cons (pv 0) pa_nil)) (pg_tup (by rfl) (pgs_cons (pg_name (i := 2) scTx.nd rfl (.inl rfl)) (pgs_cons (pg_name (i := 3) scTx.nd rfl (.inl rfl)) pgs_nil)))
        (pss_cons (ps_set (i := 4) scTx.nd rfl (Or.inl rfl) (pe_op op_add_str (pe_ix ix_list (pe_lst (pa_cons pe_str (pa_cons pe_str pa_nil))) (pe_callTy call_int1 (by rfl) T.fre (by decide +kernel) (pa_cons (pe_cmpR op_gt (pv 2) pe_int (nomark _)) pa_nil)) (fun _ _ => rfl))
            (pe_ix ix_list (pe_lst (pa_cons pe_str (pa_cons (pe_op op_add_str pe_str (pe_callTy call_str_int (by rfl) T.fre (by decide +kernel) (pa_cons (pv 2) pa_nil))) pa_nil))) (pe_callTy call_int1 (by rfl) T.fre (by decide +kernel) (pa_cons (pe_cmpR op_gt (pv 2) pe_int (nomark _)) pa_nil)) (fun _ _ => rfl))))
        (Evl.pss_cut (ps_set (i := 5) scTx.nd rfl (Or.inl rfl) (pe_ifExp (PW.pt (pw_and (pt_cmpR op_eq (pe_callB call_abs (by rfl) T.fre (by decide +kernel) (pa_cons (pv 3) pa_nil)) pe_int (nomark _)) (pw_and1 (pt_cmpR op_gt (pv 2) pe_int (nomark _))))) pe_str (pe_callTy call_str_int (by rfl) T.fre (by decide +kernel) (pa_cons (pe_callB call_abs (by rfl) T.fre (by decide +kernel) (pa_cons (pv 3) pa_nil)) pa_nil))))
        (pss_one (ps_if (pt_cmpR op_ne (pv 3) pe_int (nomark _)) (pss_one (ps_expr (pe_bm PySem.F.plainAttrs_list PySem.F.slot_list_append PySem.F.type_list_append mt_append (pv 1) (pa_cons (pe_lst (pa_cons (pv 3) (pa_cons (pe_strip (pe_op op_add_str (pe_op op_add_str (pv 5) pe_str) (pv 4))) pa_nil))) pa_nil)))) pss_nil)))))
      (pss_cons (ps_set (i := 6) scTx.nd rfl (Or.inl rfl) pe_str)
      (pss_cons (ps_for PassesOwn.never rfl (pi_list (pe_revL (pv 1))) (pg_lst (by rfl) (pgs_cons (pg_name (i := 3) scTx.nd rfl (.inl rfl)) (pgs_cons (pg_name (i := 7) scTx.nd rfl (.inl rfl)) pgs_nil)))
        (pss_cons (ps_set (i := 8) scTx.nd rfl (Or.inl rfl) (pe_ix ix_list (pe_lst (pa_cons pe_str (pa_cons pe_str pa_nil))) (pe_callTy call_int1 (by rfl) T.fre (by decide +kernel) (pa_cons (pe_cmpR op_lt (pv 3) pe_int (nomark _)) pa_nil)) (fun _ _ => rfl)))
        (pss_one (ps_set (i := 6) scTx.nd rfl (Or.inl rfl) (pe_op op_add_str (pe_op op_add_str (pv 6) (pe_ifExp (pt_cmpR op_ne (pv 6) pe_str (nomark _)) (pe_op op_add_str (pe_op op_add_str pe_str (pv 8)) pe_str) (pe_ix ix_list (pe_lst (pa_cons pe_str (pa_cons pe_str pa_nil))) (pe_callTy call_int1 (by rfl) T.fre (by decide +kernel) (pa_cons (pe_cmpR op_lt (pv 3) pe_int (nomark _)) pa_nil)) (fun _ _ => rfl)))) (pv 7))))))
      (pss_one (ps_ret (pe_ifExp (pt_cmpR (op_neD hr.units) (pv 1) (pe_lst pa_nil) (nomark _)) (pv 6) pe_str))))))), ?_⟩
    have lz : 1000000 ≤ sizeLine := by rw [sizeLine_eq]; decide
    have la' : (cs.map V.int).length = cs.length := List.length_map _
    refine ⟨by show 0 ≤ sizeLine; omega, fun wl nwl => ?_⟩
    have sw : Same H (upd H wl (.lst [])) := same_new nwl
    refine ⟨_, rfl, l, _, rfl, SqL.of (sw _ _ el), ?_⟩
    refine for_it walk_enum (fun i σ H' => Same H H' ∧ (∃ xs, H' wl = some (.lst xs) ∧ WsAt wl H' xs (wsUp cs i)) ∧ ∃ u2 u3 u4 u5, σ = [some (.ref l), some (.ref wl), u2, u3, u4, u5, none, none, none]) ⟨sw, ⟨[], upd_same, WsAt.nil⟩, none, none, none, none, rfl⟩ (fun i σ H' _ pv => SqL.of (pv.1 _ _ el)) ?_ ?_
    · rintro k v σ H7 H8 hi ⟨s7, ⟨xs, e7, w7⟩, u2, u3, u4, u5, rfl⟩ ⟨t, y1, y2, rfl, nt, rfl, hx, hy⟩
      dsimp only at hx hy
      cases hx
      obtain ⟨c, hc, rfl⟩ := getm hy
      rw [la'] at hi
      have hce : cs.getD k 0 = c := by rw [List.getD_eq_getElem?_getD, hc]; rfl
      have bc := hb c (List.mem_of_getElem? hc)
      have bk : Bd 1000 (k : Nat) := bd_nat (by omega)
      have lk := t_len bk
      refine ⟨t, _, rfl, SqT.of upd_same, rfl, _, _, rfl, _, _, rfl, rfl, ?_⟩
      refine ⟨by show 2 ≤ sizeLine; omega, fun a1 n1 => ⟨_, rfl, _, _, rfl, rfl, .inr ⟨_, rfl, a1, _, _, _, rfl, rfl, SqL.of upd_same, at2s _ _ _, ?_⟩⟩⟩
      refine ⟨_, rfl, _, rfl, log_of bk, _, _, rfl, rfl, ?_, by show 2 ≤ sizeLine; omega, fun a2 n2 => ⟨_, rfl, _, _, rfl, rfl, .inr ⟨_, rfl, a2, _, _, _, rfl, rfl, SqL.of upd_same, at2s _ _ _, _, _, rfl, rfl, ?_, ?_⟩⟩⟩
      · show 1 + (T_ (k : Nat)).length ≤ sizeLine
        omega
      · have t1 : (if decide ((0 : Int) < (k : Nat)) = true then ("d" : Str) else "").length ≤ 1 := by split <;> decide
        have t2 : (if decide ((1 : Int) < (k : Nat)) = true then ("^" : Str) ++ T_ (k : Nat) else "").length ≤ 1002 := by
          split
          · rw [strLen_append, show ("^" : Str).length = 1 from rfl]
            omega
          · decide
        exact Nat.le_trans (Nat.add_le_add t1 t2) (by omega)
      have hd1 : (if decide ((0 : Int) < (k : Nat)) = true then ("d" : Str) else "") = if 0 < k then "d" else "" := by
        by_cases z : 0 < k
        · rw [if_pos z, if_pos (decide_eq_true (by omega))]
        · rw [if_neg z, if_neg (fun y => z (by have := of_decide_eq_true y; omega))]
      have hd2 : (if decide ((1 : Int) < (k : Nat)) = true then ("^" : Str) ++ T_ (k : Nat) else "") = if 1 < k then "^" ++ T_ (k : Nat) else "" := by
        by_cases z : 1 < k
        · rw [if_pos z, if_pos (decide_eq_true (by omega))]
        · rw [if_neg z, if_neg (fun y => z (by have := of_decide_eq_true y; omega))]
      have s9 : Same H (upd (upd (upd H7 t (.tup [.int (k : Nat), .int c])) a1 (.lst [.str "", .str "d"])) a2 (.lst [.str "", .str ("^" ++ T_ (k : Nat))])) := ((s7.trans (same_new nt)).trans (same_new n1)).trans (same_new n2)
      have u9 : Same H7 (upd (upd (upd H7 t (.tup [.int (k : Nat), .int c])) a1 (.lst [.str "", .str "d"])) a2 (.lst [.str "", .str ("^" ++ T_ (k : Nat))])) := ((same_new nt).trans (same_new n1)).trans (same_new n2)
      have e9 := u9 _ _ e7
      have w9 := w7.keep (fun b o _ e => u9 b o e)
      rw [hd1, hd2]
      change gName 4 (V.str (name k)) _ _ _
      clear hd1 hd2
      generalize upd (upd (upd H7 t (.tup [.int (k : Nat), .int c])) a1 (.lst [.str "", .str "d"])) a2 (.lst [.str "", .str ("^" ++ T_ (k : Nat))]) = H9 at s9 e9 w9 ⊢
      have ab : (if c < 0 then -c else c) = ((c.natAbs : Nat) : Int) := by split <;> omega
      have bA : Bd 1000 ((c.natAbs : Nat) : Int) := bd_abs bc
      refine ⟨fun σ' H' => H' = H9 ∧ σ' = [some (.ref l), some (.ref wl), some (.int (k : Nat)), some (.int c), some (.str (name k)), some (.str (front c k)), none, none, none], ?_, ?_⟩
      · refine ⟨_, rfl, _, rfl, rfl, _, rfl, ?_⟩
        rw [ab]
        refine ite2 (fun h1 => ?_) (fun h1 => ?_)
        · have z1 : c.natAbs = 1 := by
            have y := of_decide_eq_true h1
            injection y with y
            omega
          refine ⟨_, rfl, _, _, rfl, rfl, _, rfl, ite2 (fun h2 => ?_) (fun h2 => ?_)⟩
          · have z2 : (0 : Int) < (k : Nat) := of_decide_eq_true h2
            rw [show front c k = "" from if_pos ⟨z1, by omega⟩]
            exact ⟨rfl, rfl⟩
          · have z2 : ¬ (0 : Int) < (k : Nat) := fun y => h2 (decide_eq_true y)
            refine ⟨_, rfl, _, rfl, _, rfl, by rw [ab]; exact log_of bA, ?_⟩
            rw [ab, show front c k = T_ (c.natAbs : Nat) from if_neg fun y => z2 (by omega)]
            exact ⟨rfl, rfl⟩
        · have z1 : ¬ c.natAbs = 1 := fun y => h1 (decide_eq_true (by rw [y]; rfl))
          refine ⟨_, rfl, _, rfl, _, rfl, by rw [ab]; exact log_of bA, ?_⟩
          rw [ab, show front c k = T_ (c.natAbs : Nat) from if_neg fun y => z1 y.1]
          exact ⟨rfl, rfl⟩
      · rintro σ' H' ⟨rfl, rfl⟩
        have hw : wsUp cs (k + 1) = wsUp cs k ++ if c = 0 then [] else [(c, ptxt (c.natAbs : Nat) k)] := by
          rw [← hce]
          rfl
        refine ⟨_, rfl, rfl, _, rfl, ite2 (fun h => ?_) (fun h => ?_)⟩
        · have z : c ≠ 0 := fun y => by
            rw [y] at h
            exact absurd h (by decide)
          rw [if_neg z] at hw
          have lf : (front c k).length ≤ 1001 := by
            unfold front
            split
            · decide
            · exact t_len bA
          have ln : (name k).length ≤ 1003 := by
            unfold name
            rw [strLen_append]
            split <;> split
            · rw [strLen_append, show ("d" : Str).length = 1 from rfl, show ("^" : Str).length = 1 from rfl]
              omega
            · decide
            · rw [strLen_append, show ("" : Str).length = 0 from rfl, show ("^" : Str).length = 1 from rfl]
              omega
            · decide
          have bl : (" " : Str).length = 1 := rfl
          have l1 : (front c k ++ " ").length = (front c k).length + 1 := strLen_append _ _
          have l2 : (front c k ++ " " ++ name k).length = (front c k).length + 1 + (name k).length := by rw [strLen_append, l1]
          refine ⟨_, rfl, .inl ⟨rfl, _, SqL.of e9⟩, _, rfl, _, rfl, _, _, rfl, rfl, by omega, _, rfl, _, _, rfl, rfl, by omega, ⟨_, rfl⟩, _, rfl, rfl, by omega, by show 2 ≤ sizeLine; omega, fun la nla => ?_⟩
          rw [word_eq z] at *
          have ew := same_new (o := .lst [.int c, .str (ptxt (c.natAbs : Nat) k)]) nla _ _ e9
          refine ⟨wl, xs, _, rfl, rfl, ew, ?_, ?_⟩
          · have := ws_len cs k
            rw [w9.1]
            omega
          · have nlw : la ≠ wl := fun y => by
              rw [← y, nla] at e9
              cases e9
            refine ⟨fun b o e => ?_, ⟨_, upd_same, ?_⟩, _, _, _, _, rfl⟩
            · rw [upd_ne (ne_of_none e nwl)]
              exact same_new nla _ _ (s9 _ _ e)
            · rw [hw]
              refine w9.put (p := (c, ptxt (c.natAbs : Nat) k)) (fun b o n e => ?_) nlw ?_
              · rw [upd_ne n]
                exact same_new nla _ _ e
              · rw [upd_ne nlw]
                exact upd_same
        · have z : c = 0 := Classical.byContradiction fun y => h (by rw [decide_eq_false (fun zz => y (by injection zz))]; rfl)
          rw [if_pos z, List.append_nil] at hw
          refine ⟨s9, ⟨xs, e9, ?_⟩, _, _, _, _, rfl⟩
          rw [hw]
          exact w9
    · rintro σ H7 ⟨s7, ⟨xs, e7, w7⟩, u2, u3, u4, u5, rfl⟩
      rw [la'] at w7
      have wl1 := ws_len cs cs.length
      have wm := ws_mem hb cs.length (by omega)
      refine ⟨_, rfl, wl, xs, rfl, SqL.of e7, fun rl nrl => ?_⟩
      have s8 := s7.trans (same_new (o := .lst xs.reverse) nrl)
      have e8 := same_new (o := .lst xs.reverse) nrl _ _ e7
      have w8 := w7.keep (H' := upd H7 rl (.lst xs.reverse)) (fun b o _ e => same_new nrl _ _ e)
      have er : (upd H7 rl (.lst xs.reverse)) rl = some (.lst xs.reverse) := upd_same
      have lws : ((wsUp cs cs.length).reverse).length = xs.length := by rw [List.length_reverse, w7.1]
      generalize hws : wsUp cs cs.length = ws at w7 w8 wl1 wm lws
      generalize upd H7 rl (.lst xs.reverse) = H8 at s8 e8 w8 er
      refine ⟨rl, rfl, ⟨_, SqL.of er⟩, for_list (xs := xs.reverse) (fun i σ H' => Same H8 H' ∧ ∃ u2 u3 u4 u5 u7 u8, σ = [some (.ref l), some (.ref wl), u2, u3, u4, u5, some (.str ((ws.reverse.take i).foldl stepW "")), u7, u8]) ⟨Same.refl _, _, _, _, _, _, _, rfl⟩ (fun i σ H' _ pv => SqL.of (pv.1 _ _ er)) ?_ ?_⟩
      · rintro i x σ H9 hi ⟨s9, u2, u3, u4, u5, u7, u8, rfl⟩
        obtain ⟨p, a, hp, rfl, ea⟩ := w8.rev hi
        have hi' : i < ws.length := by
          have := (List.getElem?_eq_some_iff.mp hp).1
          rwa [List.length_reverse] at this
        have pm : p ∈ ws := List.mem_reverse.mp (List.mem_of_getElem? hp)
        have lp := wm p pm
        have lacc : ((ws.reverse.take i).foldl stepW "").length ≤ 0 + 40 * 3003 := by
          refine Nat.le_trans (fold_len _ _ fun q hq => wm q (List.mem_reverse.mp (List.mem_of_mem_take hq))) ?_
          rw [List.length_take, List.length_reverse, show ("" : Str).length = 0 from rfl]
          have : min i ws.length ≤ 40 := by omega
          omega
        have hst : (ws.reverse.take (i + 1)).foldl stepW "" = (ws.reverse.take i).foldl stepW "" ++ sepW ((ws.reverse.take i).foldl stepW "") p.1 ++ p.2 := by
          rw [List.take_add_one, hp, List.foldl_append]
          rfl
        have lsep := sep_len ((ws.reverse.take i).foldl stepW "") p.1
        rw [hst]
        generalize (ws.reverse.take i).foldl stepW "" = acc at lacc lsep ⊢
        refine ⟨a, _, rfl, SqL.of (s9 _ _ ea), rfl, _, _, rfl, _, _, rfl, rfl, ?_⟩
        refine ⟨by show 2 ≤ sizeLine; omega, fun a1 n1 => ⟨_, rfl, _, _, rfl, rfl, .inr ⟨_, rfl, a1, _, _, _, rfl, rfl, SqL.of upd_same, at2s _ _ _, ?_⟩⟩⟩
        have s10 := s9.trans (same_new (o := .lst [.str "+", .str "-"]) n1)
        have bl : (" " : Str).length = 1 := rfl
        have lsg : (if decide (p.1 < 0) = true then ("-" : Str) else "+").length ≤ 1 := by split <;> decide
        refine ⟨_, rfl, _, rfl, rfl, _, rfl, ite2 (fun h => ?_) (fun h => ?_)⟩
        · have ha : acc ≠ ("" : Str) := fun y => by
            rw [y] at h
            exact absurd h (by decide)
          have es : (" " : Str) ++ (if decide (p.1 < 0) = true then ("-" : Str) else "+") ++ " " = sepW acc p.1 := by
            unfold sepW
            rw [if_pos ha]
            by_cases z : p.1 < 0
            · rw [if_pos (decide_eq_true z), if_pos z]
              decide +kernel
            · rw [if_neg (fun y => z (of_decide_eq_true y)), if_neg z]
              decide +kernel
          have l1 : ((" " : Str) ++ (if decide (p.1 < 0) = true then ("-" : Str) else "+")).length ≤ 2 := by
            rw [strLen_append]
            omega
          refine ⟨_, rfl, _, _, rfl, rfl, by omega, _, _, rfl, rfl, by omega, _, _, rfl, rfl, ?_, _, rfl, _, _, rfl, rfl, ?_, ?_⟩
          · rw [es]
            omega
          · rw [es, strLen_append]
            omega
          · rw [es]
            exact ⟨s10, _, _, _, _, _, _, rfl⟩
        · have ha : acc = ("" : Str) := Classical.byContradiction fun y => h (by rw [decide_eq_false (fun zz => y (by injection zz))]; rfl)
          have es : (if decide (p.1 < 0) = true then ("-" : Str) else "") = sepW acc p.1 := by
            rw [show sepW acc p.1 = (if p.1 < 0 then ("-" : Str) else ("" : Str)) from if_neg (fun y => y ha)]
            by_cases z : p.1 < 0
            · rw [if_pos (decide_eq_true z), if_pos z]
            · rw [if_neg (fun y => z (of_decide_eq_true y)), if_neg z]
          refine ⟨by show 2 ≤ sizeLine; omega, fun a2 n2 => ⟨_, rfl, _, _, rfl, rfl, .inr ⟨_, rfl, a2, _, _, _, rfl, rfl, SqL.of upd_same, at2s _ _ _, _, _, rfl, rfl, ?_, _, rfl, _, _, rfl, rfl, ?_, ?_⟩⟩⟩
          · rw [es]
            omega
          · rw [es, strLen_append]
            omega
          · rw [es]
            exact ⟨s10.trans (same_new n2), _, _, _, _, _, _, rfl⟩
      · rintro σ H9 ⟨s9, u2, u3, u4, u5, u7, u8, rfl⟩
        rw [List.length_reverse, w8.1, List.take_of_length_le (by rw [List.length_reverse]; exact Nat.le_refl _)]
        have w9 := w8.keep (H' := H9) (fun b o _ e => s9 _ _ e)
        have sh := ws_shp cs cs.length
        rw [hws] at sh
        refine ⟨_, rfl, by show 0 ≤ sizeLine; omega, fun z nz => ⟨_, _, .lst (SqL.of (same_new nz _ _ (s9 _ _ e8))) (WsAt.dp (w9.keep (fun b o _ e => same_new nz _ _ e))), .lst (SqL.of upd_same) .nil, sh, rfl, _, rfl, ?_⟩⟩
        have hq := q (upd H9 z (.lst [])) ((s8.trans s9).trans (same_new nz))
        unfold lawT at hq
        rw [hws] at hq
        cases ws with
        | nil => exact iteF hq
        | cons p ws =>
          rw [if_neg (by simp)] at hq
          exact iteT ⟨_, rfl, hq⟩
abbrev TxG (P : Program) (w : World) (K : Fr) (mg : Str → Option Value) (base : Heap) : Prop := ∃ f d, Gd P w K mg base 1 "_law_text" f d ["_law_row_here"] (spTx K)
end
end K70

set_option maxHeartbeats 4000000
set_option exponentiation.threshold 3000
namespace RtL
open PySem PySem.Spec PyProof.Rows L2 ErL
section
variable {P : Program} {w : World} {K : PySem.W.Frag} {mg : Str → Option Value} {base : Heap} {k : Nat} {f : Addr} {ps N : List Str} {sp : SpG}
/-- a def's promise that holds where nothing is being shown, from its record -/
theorem fnG_D {x qual : Str} {params : Arguments} {body : List Stmt} {scope : Scope} {fd : FuncData} (F : FunD K x qual params body scope [] [] f fd) (S : FnScope N ps scope) (len : ∀ vs H Q, sp vs H Q → vs.length = ps.length)
    (hbody : ∀ (cdv : Value) (A : Around) (outer : List Env) (s : Shared) (H : Hp) (vs : List V) (Q : VK), Room k (A.deeper (envOfC qual scope s.heap.objs.size f cdv)) →
      (A.deeper (envOfC qual scope s.heap.objs.size f cdv)).guards = some [] → sp vs H Q →
      ∃ t, PSs (cxOf CX0 P w K mg base N qual scope f cdv A outer s H E0).nox body t ∧ t { nx := fun _ H' => Q .non H', rt := Q } (start N vs) H) :
    FnG P w K mg base (k + 1) f fd ps sp := by
  obtain ⟨oc, od, dV, kV, doc, pm, an, cdv, ct, osl, rfl, lk, hcd, _, _⟩ := F.ex
  refine ⟨len, fun A outer s H args us vs Q hr hg e0 hb r hsp => ?_⟩
  exact LamX.run_ofS (N := N) lk hcd S hr e0 hb r (len _ _ _ hsp) fun hr' => by
    obtain ⟨t, ht, hq⟩ := hbody cdv A outer s H vs Q hr' (guards_deeper hg) hsp
    exact ⟨t, ht.nox, hq⟩
structure GdG (P : Program) (w : World) (K : PySem.W.Frag) (mg : Str → Option Value) (base : Heap) (k : Nat) (x : Str) (f : Addr) (fd : FuncData) (ps : List Str) (sp : SpG) : Prop where
  ok : FnG P w K mg base k f fd ps sp
  gl : mg x = some (.ref f)
  kp : PySem.W.keepIn K (.ref f) = true
  bd : Binds K fd ps []
end
section
variable {X : Cx} {k : Nat} {x : Str} {p pos : Pos} {e : Expr} {es : List Expr} {t : TA} {f : Addr} {fd : FuncData} {ps : List Str} {sp : SpG}
theorem pe_gg (C : GdG X.prog X.w X.K X.mg X.base k x f fd ps sp) (hr : Room k X.A) (hG : X.A.guards = some []) (hg : Gl X x) (ha : PA X (e :: es) t) (hdb : (x == ("__debug__" : Str)) = false := by decide)
    (he : starEach (e :: es) X.env = (false, eval e X.env) :: starEach es X.env := by rfl) (hpl : (backTo pos (starEach es X.env)).any (·.1) = false := by rfl) : PE X (.Call (.Name x p) (e :: es) [] pos) (tCallG sp t) :=
  pe_callG C.ok hr hG hg C.gl C.kp C.bd ha hdb he hpl
end
section
variable {X : Cx} {k : Nat} {f C : Addr} {fd : FuncData} {sp : Sp} {ps : List Str}
/-- f(x), x of the class: a method that makes a text -/
def rOwnTxt (C : Addr) (sp : Sp) : List V → Hp → VK → Prop := fun xs H Q => ∃ a dx fs, xs = [.ref a] ∧ H a = some (.ins C dx fs) ∧ sp [.ref a] H (fun v H' => (∃ z, v = .str z) ∧ Q v H') E0
theorem call_strOwn (hs : PySem.W.findIn X.K (.ref C) "__str__" = some (some (.ref f))) (hf : PySem.W.isFn X.K (.ref f) = true) (F : FnOk X.prog X.w X.K X.mg X.base CX0 k f fd ps sp) (hr : Room (k + 2) X.A) (hb : Binds X.K fd ps []) : CallR X (.type "str") (rOwnTxt C sp) := by
  intro pins s σ H xs us Q I r h
  obtain ⟨a, dx, fs, rfl, ha, q⟩ := h
  obtain ⟨u, rfl, rx⟩ := vals1 r
  cases (show u = Value.ref a from rx)
  obtain ⟨mA, oa, _⟩ := ins_get I.hok ha
  obtain ⟨od, J, _⟩ := oa.look
  have un := hr.un
  have hl : ([Value.ref a] ++ []).length = ps.length := by
    rw [← F.len _ _ _ _ q]
    rfl
  refine PySem.W.kso_call (by have := hr.in1.in1.un; omega) I.kIn J hs hf ?_
  refine wpAny_call (codeAny_mono (F.run X.A.in1.in1 X.stack s H ⟨[.ref a], []⟩ [.ref a] [.ref a] _ E0 hr.in1.in1 I.env0.in1.in1 (hb s [.ref a] I.kIn hl) (.cons rfl .nil) q) fun r s' hq => ?_)
  match r, hq with
  | .ok (.ret u), hq =>
    obtain ⟨v, H', I3, rv, ⟨z, ez⟩, q3⟩ := I.after hq
    subst ez
    obtain ⟨tk, e⟩ := rv
    subst e
    exact ⟨.str z, H', I3, ⟨tk, rfl⟩, q3⟩
  | .ok .next, hq => exact False.elim hq
  | .ok .brk, hq => exact False.elim hq
  | .ok .cont, hq => exact False.elim hq
  | .error e, hq => exact False.elim hq
theorem call_reprOwn (hs : PySem.W.findIn X.K (.ref C) "__repr__" = some (some (.ref f))) (hf : PySem.W.isFn X.K (.ref f) = true) (F : FnOk X.prog X.w X.K X.mg X.base CX0 k f fd ps sp) (hr : Room (k + 1) X.A) (hb : Binds X.K fd ps []) : CallR X (.builtin "repr") (rOwnTxt C sp) := by
  intro pins s σ H xs us Q I r h
  obtain ⟨a, dx, fs, rfl, ha, q⟩ := h
  obtain ⟨u, rfl, rx⟩ := vals1 r
  cases (show u = Value.ref a from rx)
  obtain ⟨mA, oa, _⟩ := ins_get I.hok ha
  obtain ⟨od, J, _⟩ := oa.look
  have un := hr.un
  have hl : ([Value.ref a] ++ []).length = ps.length := by
    rw [← F.len _ _ _ _ q]
    rfl
  obtain ⟨m, hF⟩ := I.fr
  refine PySem.W.repr_K (by show X.A.units + _ < cLine; omega) hF I.ok.mod.kin J hs hf ?_
  refine wpAny_call (codeAny_mono (F.run X.A.in1 X.stack s H ⟨[.ref a], []⟩ [.ref a] [.ref a] _ E0 hr.in1 I.env0.in1 (hb s [.ref a] I.kIn hl) (.cons rfl .nil) q) fun r s' hq => ?_)
  match r, hq with
  | .ok (.ret u), hq =>
    obtain ⟨v, H', I3, rv, ⟨z, ez⟩, q3⟩ := I.after hq
    subst ez
    obtain ⟨tk, e⟩ := rv
    subst e
    exact ⟨.str z, H', I3, ⟨tk, rfl⟩, q3⟩
  | .ok .next, hq => exact False.elim hq
  | .ok .brk, hq => exact False.elim hq
  | .ok .cont, hq => exact False.elim hq
  | .error e, hq => exact False.elim hq
/-! ### repr of data whose texts may be long -/
structure OkW (d : PyData) : Prop where
  sh : d.showable = true
  dp : d.depth ≤ 20
  sz : d.shown.length ≤ sizeLine
def rReprW : List V → Hp → VK → Prop := fun xs H Q => ∃ a d, xs = [.ref a] ∧ Dq H (.ref a) d ∧ OkW d ∧ Q (.str d.shown) H
theorem call_reprW (hu : X.A.units + 70 < cLine) (hg : X.A.guards = some []) (y : SysIn X.K) : CallR X (.builtin "repr") rReprW := by
  intro pins s σ H xs us Q I r h
  obtain ⟨a, d, rfl, hd, ok, q⟩ := h
  obtain ⟨u, rfl, ru⟩ := vals1 r
  cases (show u = Value.ref a from ru)
  obtain ⟨as, ra, ta⟩ := hd.reads I (u := .ref a) rfl
  obtain ⟨o, ho⟩ := y
  refine repr_of_reads' ra ok.sh (fun _ z => ?_) hg (by have := ok.dp; omega) (fun _ _ z => z) (fun h' t tk k => ⟨.str d.shown, H, I.kept k, ⟨t, rfl⟩, q⟩) ok.sz
  obtain ⟨o', e⟩ := ta _ z
  have n := (I.bs _ o (I.ok.mod.kin _ _ ho)).2
  rw [n] at e
  cases e
/-- every sign of it is a sign of Unicode -/
def Cps (x : Str) : Prop := ∀ c ∈ TL.tl x, c < 0x110000
theorem Cps.app {x y : Str} (h : Cps x) (h' : Cps y) : Cps (x ++ y) := fun c hc => by
  rw [TL.tl_append] at hc
  exact (List.mem_append.mp hc).elim (h c) (h' c)
theorem joinL_mem {y : List Nat} : ∀ (ps : List (List Nat)) {c : Nat}, c ∈ TL.joinL y ps → c ∈ y ∨ ∃ p ∈ ps, c ∈ p
  | [], c, h => by cases h
  | [p], c, h => .inr ⟨p, List.mem_cons_self, h⟩
  | p :: q :: r, c, h => by
    rcases List.mem_append.mp (show c ∈ p ++ (y ++ TL.joinL y (q :: r)) from by simpa [TL.joinL] using h) with z | z
    · exact .inr ⟨p, List.mem_cons_self, z⟩
    · rcases List.mem_append.mp z with z | z
      · exact .inl z
      · rcases joinL_mem (q :: r) z with z | ⟨p', hp, z⟩
        · exact .inl z
        · exact .inr ⟨p', List.mem_cons_of_mem _ hp, z⟩
theorem Cps.join {y : Str} {ps : List Str} (h : Cps y) (h' : ∀ p ∈ ps, Cps p) : Cps (Txt.join y ps) := fun c hc => by
  rw [TL.join_eq, TL.tl_join] at hc
  rcases joinL_mem _ hc with z | ⟨p, hp, z⟩
  · exact h c z
  · obtain ⟨q, hq, rfl⟩ := List.mem_map.mp hp
    exact h' q hq c z
theorem shown_str {x : Str} (h : Cps x) : (PyData.str x).showable = true ∧ (PyData.str x).shown.length ≤ 10 * x.length + 2 := ⟨rfl, PySem.StrLaws.reprText_len x fun c hc => Nat.lt_trans (h c hc) (by decide)⟩
end
end RtL

set_option maxHeartbeats 4000000
set_option exponentiation.threshold 3000
namespace K70
open PySem PySem.Spec PyProof.Rows L2 RtL ErL StX
theorem cps_of (s : String) : Cps (Str.ofString s) := fun c hc => by
  rw [TL.tl_ofString] at hc
  obtain ⟨x, _, rfl⟩ := List.mem_map.mp hc
  have := x.valid
  rcases this with h | ⟨_, h⟩
  · exact Nat.lt_of_lt_of_le h (by decide)
  · exact h
theorem cps_t (i : Int) : Cps (T_ i) := cps_of _
theorem cps_listT (cs : List Int) : Cps (listT cs) := Cps.join (cps_of _) fun p hp => by
  obtain ⟨c, _, rfl⟩ := List.mem_map.mp hp
  exact cps_t c
theorem cps_repT (cs : List Int) : Cps (repT cs) := ((cps_of _).app (cps_listT cs)).app (cps_of _)
theorem cps_v (e : Nat) : Cps (vtxt e) := by
  unfold vtxt
  split
  · exact cps_of _
  · exact (cps_of _).app (cps_t _)
theorem cps_p (c : Int) (e : Nat) : Cps (ptxt c e) := by
  unfold ptxt
  split
  · exact cps_t _
  · split
    · exact cps_v e
    · exact ((cps_t _).app (cps_of _)).app (cps_v e)
theorem cps_s (c : Int) (e : Nat) (b : Bool) : Cps (stxt c e b) := by
  cases b
  · unfold stxt
    show Cps (if c < 0 then _ else _)
    split
    · exact (cps_of _).app (cps_p _ _)
    · exact (cps_of _).app (cps_p _ _)
  · unfold stxt
    show Cps (if c < 0 then _ else _)
    split
    · exact (cps_of _).app (cps_p _ _)
    · exact cps_p _ _
theorem cps_terms (cs : List Int) (m : Nat) : ∀ n, ∀ p ∈ terms cs m n, Cps p
  | 0, p, h => by cases h
  | n + 1, p, h => by
    rcases List.mem_append.mp (show p ∈ (if cs.getD n 0 = 0 then [] else [stxt (cs.getD n 0) n (decide (n + 1 = m))]) ++ terms cs m n from h) with z | z
    · split at z
      · cases z
      · rw [List.mem_singleton.mp z]
        exact cps_s _ _ _
    · exact cps_terms cs m n p z
theorem cps_polyT (cs : List Int) : Cps (polyT cs) := by
  unfold polyT
  split
  · exact cps_of _
  · exact Cps.join (cps_of _) (cps_terms cs _ _)
theorem shown_i {i : Int} (h : Bd 1000 i) : (PyData.int i).showable = true ∧ (PyData.int i).shown.length ≤ 1001 := ⟨decide_eq_true (log_of h), t_len h⟩
theorem sh_ints : ∀ cs : List Int, (∀ c ∈ cs, Bd 1000 c) → PyData.showableAll (cs.map PyData.int) = true ∧ ((PyData.shownAll (cs.map PyData.int)).map (·.length)).sum ≤ cs.length * 1001 ∧ (PyData.shownAll (cs.map PyData.int)).length = cs.length
  | [], _ => ⟨rfl, Nat.zero_le _, rfl⟩
  | c :: cs, h => by
    obtain ⟨h1, h2⟩ := shown_i (h c List.mem_cons_self)
    obtain ⟨a, b, d⟩ := sh_ints cs fun x hx => h x (List.mem_cons_of_mem _ hx)
    refine ⟨?_, ?_, ?_⟩
    · show (_ && _) = true
      rw [h1]
      exact a
    · show (PyData.int c).shown.length + ((PyData.shownAll (cs.map PyData.int)).map (·.length)).sum ≤ _
      rw [List.length_cons]
      omega
    · show (PyData.shownAll (cs.map PyData.int)).length + 1 = _
      rw [d]
      rfl
theorem dq_ints (H : Hp) : ∀ cs : List Int, DqAll H (cs.map V.int) (cs.map PyData.int)
  | [] => .nil
  | c :: cs => .cons (.int c) (dq_ints H cs)
def pdT (cs : List Int) : PyData := .tuple (cs.map PyData.int)
theorem ok_pdT {cs : List Int} (hb : ∀ c ∈ cs, Bd 1000 c) (hl : cs.length ≤ 40) : OkW (pdT cs) := by
  obtain ⟨a, b, d⟩ := sh_ints cs hb
  refine ⟨a, ?_, ?_⟩
  · show PyData.depthAll (cs.map PyData.int) + 1 ≤ 20
    rw [dep_ints]
    decide
  · have := tupleText_len_le (PyData.shownAll (cs.map PyData.int))
    show (tupleText (PyData.shownAll (cs.map PyData.int))).length ≤ sizeLine
    rw [sizeLine_eq]
    omega
def pdI (cs : List Int) : PyData := .list [.int ((cs.length : Int) - 1), .str (repT cs), .str (polyT cs)]
theorem repT_len {cs : List Int} (hb : ∀ c ∈ cs, Bd 1000 c) (hl : cs.length ≤ 40) : (repT cs).length ≤ 50012 := by
  have := listT_len hb hl
  show (("Polynomial(" : Str) ++ listT cs ++ ")").length ≤ _
  rw [strLen_append, strLen_append, show ("Polynomial(" : Str).length = 11 from rfl, show (")" : Str).length = 1 from rfl]
  omega
theorem bd_len {cs : List Int} (hl : cs.length ≤ 40) : Bd 1000 ((cs.length : Int) - 1) := Nat.lt_of_le_of_lt (show ((cs.length : Int) - 1).natAbs ≤ 40 by omega) (Nat.lt_of_lt_of_le (show 40 < 2 ^ 7 by decide) (Nat.pow_le_pow_right (by decide) (by decide)))
theorem ok_pdI {cs : List Int} (hb : ∀ c ∈ cs, Bd 1000 c) (hl : cs.length ≤ 40) : OkW (pdI cs) := by
  obtain ⟨a1, a2⟩ := shown_i (bd_len hl)
  obtain ⟨_, b2⟩ := shown_str (cps_repT cs)
  obtain ⟨_, c2⟩ := shown_str (cps_polyT cs)
  have b3 := repT_len hb hl
  have c3 := polyT_len hb hl
  refine ⟨?_, Nat.le_of_ble_eq_true rfl, ?_⟩
  · show ((PyData.int ((cs.length : Int) - 1)).showable && true) = true
    rw [a1]
    rfl
  · have l := listText_len_le [(PyData.int ((cs.length : Int) - 1)).shown, (PyData.str (repT cs)).shown, (PyData.str (polyT cs)).shown]
    show (listText [(PyData.int ((cs.length : Int) - 1)).shown, (PyData.str (repT cs)).shown, (PyData.str (polyT cs)).shown]).length ≤ _
    simp only [List.map_cons, List.map_nil, List.sum_cons, List.sum_nil, List.length_cons, List.length_nil] at l
    rw [sizeLine_eq]
    omega
theorem dq_pdI {H : Hp} {l : Addr} {cs : List Int} (h : H l = some (.lst [.int ((cs.length : Int) - 1), .str (repT cs), .str (polyT cs)])) : Dq H (.ref l) (pdI cs) := .lst h (.cons (.int _) (.cons (.str _) (.cons (.str _) .nil)))
section
variable {P : Program} {w : World} {K : Fr} {mg : Str → Option Value} {base : Heap} {f : Addr} {fd : FuncData}
/-- the getters and the texts -/
structure GtP (P : Program) (w : World) (K : Fr) (mg : Str → Option Value) (base : Heap) : Prop where
  co : ∃ d, Md P w K mg base 1 (pm K "coefficients") d ["self"] (spCoef K)
  dg : ∃ d, Md P w K mg base 1 (recA K (PC K) "degree" "property") d ["self"] (spDeg K)
  st : ∃ d, Md P w K mg base 4 (pm K "__str__") d ["self"] (spTxt K polyT)
  rp : ∃ d, Md P w K mg base 2 (pm K "__repr__") d ["self"] (spTxt K repT)
abbrev sIs : Stmt := top 31
abbrev NI : List Str := ["_law_made_here", "_law_row_here", "_law_plain_here", "_law_shown", "_law_one"]
theorem scIs : FnScope NI ["_law_made_here", "_law_row_here"] (defScope sIs) := ⟨rfl, rfl, rfl, by decide +kernel, rfl, by decide +kernel, by decide +kernel⟩
def spIs (K : Fr) : SpG := fun vs H Q => ∃ a l row, vs = [.ref a, .ref l] ∧ PolAt K H a (pl row) ∧ H l = some (.lst (row.map V.int)) ∧ row.length ≤ 40 ∧ (∀ c ∈ row, Bd 1000 c) ∧ ∀ H', Same H H' → Q (.bl true) H'
theorem ok_is (F : FunD K "_law_is" "_law_is" (defArgs sIs) (defBody sIs) (defScope sIs) [] [] f fd) (T : TT K mg) (D : PlG P w K mg base) (C : TxG P w K mg base) (G : GtP P w K mg base) : FnG P w K mg base 7 f fd ["_law_made_here", "_law_row_here"] (spIs K) := by
  obtain ⟨fL, dL, GL⟩ := D
  obtain ⟨fT, dT, GT⟩ := C
  obtain ⟨⟨dC, MC⟩, ⟨dD, MD⟩, ⟨dS, MS⟩, ⟨dR, MR⟩⟩ := G
  refine fnG_D F scIs (fun vs H Q h => ?_) (fun cdv A outer s H vs Q hr hG h => ?_)
  · obtain ⟨a, l, row, rfl, _⟩ := h
    rfl
  · obtain ⟨a, l, row, rfl, hp, el, hl, hb, q⟩ := h
    have hu : (A.deeper (envOfC "_law_is" (defScope sIs) s.heap.objs.size f cdv)).units + 70 < cLine := by have := hr.un; omega
    have three : 3 ≤ sizeLine := by rw [sizeLine_eq]; decide
    refine ⟨_, PSs.nox (pss_cons (ps_set (i := 2) scIs.nd rfl (Or.inl rfl) (pe_gd GL (hr.mono (by decide)) (by rfl) (pa_cons (pv 1) pa_nil)))
      (pss_cons (ps_if (PW.pt (pw_or (pt_not (pt_val (pe_callB call_isi (by rfl) T.fre (by decide +kernel) (pa_cons (pv 0) (pa_cons (pe_glob (v := .ref (PC K)) (by rfl) (T.gl "Polynomial" (by decide)) rfl) pa_nil)))))
          (pw_or1 (pt_cmpR op_ne (pe_callB (call_reprW hu hG T.sys) (by rfl) T.fre (by decide +kernel) (pa_cons (pe_meth0 (pv 0) T.clP T.coef MC.ok (hr.mono (by decide)) MC.bd .nil pass0) pa_nil))
            (pe_callB (call_reprW hu hG T.sys) (by rfl) T.fre (by decide +kernel) (pa_cons (pe_callTy call_tuple_of (by rfl) T.fre (by decide +kernel) (pa_cons (pv 2) pa_nil)) pa_nil)) (nomark _))))) (pss_one (ps_ret pe_bl)) pss_nil)
      (pss_cons (ps_set (i := 3) scIs.nd rfl (Or.inl rfl) (pe_op op_add_str (pe_op op_add_str pe_str (pe_join pe_str (pe_lc (own := [("_law_one", 4)]) (g := gName 4) (tt := tYes) (by rfl) scIs.nd (pi_list (pv 2)) (blkOk_by (N := NI) (sc := defScope sIs) (by decide +kernel)) (fun _ _ _ _ _ => pg_name (i := 4) scIs.nd rfl (Or.inl rfl)) (fun _ _ _ _ _ => pts_nil) (fun _ _ _ _ _ => pe_callTy call_str_int (by rfl) T.fre (by decide +kernel) (pa_cons (pv 4) pa_nil))))) pe_str))
      (pss_one (ps_ret (pe_cmpR op_eq (pe_callB (call_reprW hu hG T.sys) (by rfl) T.fre (by decide +kernel) (pa_cons (pe_lst (pa_cons (pe_prop (pv 0) T.clP T.deg MD.ok (hr.mono (by decide)) MD.bd .nil pass0 rfl)
          (pa_cons (pe_callB (call_reprOwn (T.spc "__repr__" (by decide)).1 (T.spc "__repr__" (by decide)).2 MR.ok (hr.mono (by decide)) MR.bd) (by rfl) T.fre (by decide +kernel) (pa_cons (pv 0) pa_nil))
          (pa_cons (pe_callTy (call_strOwn (T.spc "__str__" (by decide)).1 (T.spc "__str__" (by decide)).2 MS.ok (hr.mono (by decide)) MS.bd) (by rfl) T.fre (by decide +kernel) (pa_cons (pv 0) pa_nil)) pa_nil)))) pa_nil))
        (pe_callB (call_reprW hu hG T.sys) (by rfl) T.fre (by decide +kernel) (pa_cons (pe_lst (pa_cons (pe_op op_sub (pe_callB call_len_seq (by rfl) T.fre (by decide +kernel) (pa_cons (pv 2) pa_nil)) pe_int) (pa_cons (pv 3) (pa_cons (pe_gd GT (hr.mono (by decide)) (by rfl) (pa_cons (pv 2) pa_nil)) pa_nil)))) pa_nil)) (nomark _))))))), ?_⟩
    have hbp : ∀ c ∈ pl row, Bd 1000 c := fun c hc => hb c (pl_mem hc)
    have hlp : (pl row).length ≤ 40 := Nat.le_trans (pl_length row) hl
    refine ⟨_, rfl, l, row, rfl, el, by omega, fun l2 H1 s1 n1 e1 => ?_⟩
    obtain ⟨dx, t, ea, et⟩ := hp.same s1
    refine ⟨_, rfl, _, _, _, _, true, rfl, .own _, T.tyP ea, T.kitP, true, rfl, iteF ?_⟩
    have hp1 := hp.same s1
    refine ⟨_, rfl, a, dx, _, rfl, ea, rfl, a, _, rfl, hp1, fun t' et' => ?_⟩
    refine ⟨t', pdT (pl row), rfl, .tup et' (dq_ints _ _), ok_pdT hbp hlp, ?_⟩
    refine ⟨_, rfl, l2, _, rfl, .inl ⟨SqL.of e1, fun t2 n2 => ?_⟩⟩
    refine ⟨t2, pdT (pl row), rfl, .tup upd_same (dq_ints _ _), ok_pdT hbp hlp, rfl, ?_⟩
    refine ⟨false, by rw [decide_eq_true (rfl : V.str (pdT (pl row)).shown = V.str (pdT (pl row)).shown)]; rfl, iteF ?_⟩
    have s3 := (same_new (o := .tup ((pl row).map V.int)) n2)
    have e3 := s3 _ _ e1
    refine ⟨⟨_, rfl⟩, _, rfl, l2, rfl, ⟨_, SqL.of e3⟩, fun D nD => ?_⟩
    refine lc_it (walk_list (xs := (pl row).map V.int)) (fun i H' => Same H1 H' ∧ H' D = some (.lst ((((pl row).map fun c => T_ c).take i).map V.str))) ⟨s3.trans (same_new nD), upd_same⟩ (fun i H' _ pv => SqL.of (pv.1 _ _ e1)) ?_ ?_
    · rintro i v H7 H8 hi ⟨s7, e7⟩ ⟨rfl, hx⟩
      obtain ⟨x, hx', rfl⟩ := getm hx
      refine ⟨rfl, _, rfl, x, rfl, log_of (hbp x (List.mem_of_getElem? hx')), _, e7, ?_, ?_, ?_⟩
      · rw [List.length_map, List.length_take, List.length_map, sizeLine_eq]
        omega
      · intro b' o' e'
        rw [upd_ne (ne_of_none (s3 _ _ e') nD)]
        exact s7 _ _ e'
      · have hm : ((pl row).map fun c => T_ c)[i]? = some (T_ x) := by rw [List.getElem?_map, hx']; rfl
        rw [upd_same, List.take_add_one, hm, List.map_append]
        rfl
    rintro H7 ⟨s7, e7⟩
    have e8 : ((pl row).map fun c => T_ c).take ((pl row).map V.int).length = (pl row).map fun c => T_ c := List.take_of_length_le (by rw [List.length_map, List.length_map]; exact Nat.le_refl _)
    rw [e8] at e7
    have sm := listT_bd _ hbp
    have ll := listT_len hbp hlp
    have rl := repT_len hbp hlp
    have ea7 := s7 _ _ ea
    have hp7 := hp1.same s7
    have e17 := s7 _ _ e1
    refine ⟨_, D, _, rfl, rfl, .inl (SqL.of e7), ?_, ?_⟩
    · rw [List.length_map, show (", " : Str).length = 2 from rfl]
      omega
    refine ⟨_, _, rfl, rfl, by rw [show ("Polynomial(" : Str).length = 11 from rfl, sizeLine_eq]; exact Nat.le_trans (Nat.add_le_add_left ll 11) (by decide), _, _, rfl, rfl, by rw [sizeLine_eq]; rw [← strLen_append]; exact Nat.le_trans rl (by decide), ?_⟩
    refine ⟨_, rfl, a, dx, _, rfl, ea7, a, _, rfl, hp7, _, rfl, a, dx, _, rfl, ea7, a, _, rfl, hp7, hbp, hlp, fun H8 s8 => ⟨⟨_, rfl⟩, ?_⟩⟩
    refine ⟨_, rfl, a, dx, _, rfl, s8 _ _ ea7, a, _, rfl, hp7.same s8, hbp, hlp, fun H9 s9 => ⟨⟨_, rfl⟩, ?_⟩⟩
    have s19 := (s7.trans s8).trans s9
    refine ⟨three, fun p1 np1 => ?_⟩
    have sa := s19.trans (same_new (o := .lst [.int (((pl row).length : Int) - 1), .str (repT (pl row)), .str (polyT (pl row))]) np1)
    refine ⟨p1, pdI (pl row), rfl, dq_pdI upd_same, ok_pdI hbp hlp, ?_⟩
    refine ⟨_, rfl, l2, _, rfl, .inl (SqL.of (sa _ _ e1)), _, _, rfl, rfl, _, rfl, _, rfl, l2, pl row, rfl, sa _ _ e1, hlp, hbp, fun Hb sb => ?_⟩
    rw [law_text (pl_last' row)]
    refine ⟨three, fun p2 np2 => ?_⟩
    have sc := (sa.trans sb).trans (same_new (o := .lst [.int (((pl row).length : Int) - 1), .str (repT (pl row)), .str (polyT (pl row))]) np2)
    refine ⟨p2, pdI (pl row), rfl, ?_, ok_pdI hbp hlp, rfl, ?_⟩
    · refine dq_pdI ?_
      rw [upd_same, List.length_map]
      rfl
    rw [decide_eq_true (rfl : V.str (pdI (pl row)).shown = V.str (pdI (pl row)).shown)]
    rw [List.length_map]
    exact q _ (s1.trans sc)
end
end K70

set_option maxHeartbeats 4000000
set_option exponentiation.threshold 3000
namespace K70
open PySem PySem.Spec PyProof.Rows L2 RtL ErL StX
theorem pl_rep (cs : List Int) : ∀ n, pl (cs ++ List.replicate n 0) = pl cs
  | 0 => by rw [List.replicate_zero, List.append_nil]
  | n + 1 => by rw [List.replicate_succ', ← List.append_assoc, pl_zero, pl_rep cs n]
theorem nine : ∀ cs : List Int, cs.length = 9 → ∃ a b c d e f g h i, cs = [a, b, c, d, e, f, g, h, i]
  | [a, b, c, d, e, f, g, h, i], _ => ⟨a, b, c, d, e, f, g, h, i, rfl⟩
section
variable {P : Program} {w : World} {K : Fr} {mg : Str → Option Value} {base : Heap} {f : Addr} {fd : FuncData}
abbrev sMd : Stmt := top 32
theorem scMd : FnScope ["_law_row_here", "_law_some"] ["_law_row_here"] (defScope sMd) := ⟨rfl, rfl, rfl, by decide +kernel, rfl, by decide +kernel, by decide +kernel⟩
def spMade (K : Fr) : Sp := fun vs H Q _ => ∃ l cs, vs = [.ref l] ∧ H l = some (.lst (cs.map V.int)) ∧ cs.length ≤ 9 ∧ ∀ x H', Same H H' → H x = none → PolAt K H' x (pl cs) → Q (.ref x) H'
theorem ok_made (F : FunD K "_law_made" "_law_made" (defArgs sMd) (defBody sMd) (defScope sMd) [] [] f fd) (T : TT K mg) (I : PId P w K mg base) : FnOk P w K mg base CX0 4 f fd ["_law_row_here"] (spMade K) := by
  refine F.ok scMd (fun vs H Q E h => ?_) (fun cdv A outer s H vs Q E hr h => ?_)
  · obtain ⟨l, cs, rfl, _⟩ := h
    rfl
  · obtain ⟨l, cs, rfl, el, hl, q⟩ := h
    refine ⟨_, PSs.nox (pss_cons (ps_set (i := 1) scMd.nd rfl (Or.inl rfl) (pe_op op_cat (pv 0) (pe_op op_rep (pe_lst (pa_cons pe_int pa_nil)) (pe_op op_sub pe_int (pe_callB call_len_seq (by rfl) T.fre (by decide +kernel) (pa_cons (pv 0) pa_nil))))))
      (pss_one (ps_ret (pe_makeR T.mkp I (hr.mono (by decide)) (by rfl) (T.gl "Polynomial" (by decide)) pass0
        (pa_cons (pe_ix ix_list (pv 1) pe_int (fun _ _ => rfl)) (pa_cons (pe_ix ix_list (pv 1) pe_int (fun _ _ => rfl)) (pa_cons (pe_ix ix_list (pv 1) pe_int (fun _ _ => rfl))
        (pa_cons (pe_ix ix_list (pv 1) pe_int (fun _ _ => rfl)) (pa_cons (pe_ix ix_list (pv 1) pe_int (fun _ _ => rfl)) (pa_cons (pe_ix ix_list (pv 1) pe_int (fun _ _ => rfl))
        (pa_cons (pe_ix ix_list (pv 1) pe_int (fun _ _ => rfl)) (pa_cons (pe_ix ix_list (pv 1) pe_int (fun _ _ => rfl)) (pa_cons (pe_ix ix_list (pv 1) pe_int (fun _ _ => rfl)) pa_nil))))))))))))), ?_⟩
    have lc : (cs.map V.int).length = cs.length := List.length_map _
    have lz : 10000 ≤ sizeLine := by rw [sizeLine_eq]; decide
    have tn : ((9 : Int) - ((cs.map V.int).length : Nat)).toNat = 9 - cs.length := by rw [lc]; omega
    refine ⟨_, rfl, by show 1 ≤ sizeLine; omega, fun a1 n1 => ?_⟩
    refine ⟨_, rfl, l, _, rfl, .inl (SqL.of (same_new n1 _ _ el)), _, _, rfl, rfl, a1, _, _, rfl, rfl, upd_same, by rw [lc]; omega, by rw [lc]; omega, by rw [tn, show [V.int 0].length = 1 from rfl]; omega, fun a2 n2 => ?_⟩
    rw [tn, rep0]
    have s2 : Same H (upd (upd H a1 (.lst [.int 0])) a2 (.lst ((List.replicate (9 - cs.length) (0 : Int)).map V.int))) := (same_new n1).trans (same_new n2)
    refine ⟨l, a2, _, _, rfl, rfl, s2 _ _ el, upd_same, by rw [lc, List.length_map, List.length_replicate]; omega, fun l3 n3 => ?_⟩
    rw [← List.map_append]
    have s3 := s2.trans (same_new (o := .lst ((cs ++ List.replicate (9 - cs.length) 0).map V.int)) n3)
    have hp := pl_rep cs (9 - cs.length)
    obtain ⟨c0, c1, c2, c3, c4, c5, c6, c7, c8, hc⟩ := nine (cs ++ List.replicate (9 - cs.length) 0) (by rw [List.length_append, List.length_replicate]; omega)
    rw [hc] at hp s3 ⊢
    have e3 : (upd (upd (upd H a1 (.lst [.int 0])) a2 (.lst ((List.replicate (9 - cs.length) (0 : Int)).map V.int))) l3 (.lst (([c0, c1, c2, c3, c4, c5, c6, c7, c8] : List Int).map V.int))) l3 = _ := upd_same
    refine ⟨_, rfl, l3, _, _, _, rfl, rfl, SqL.of e3, atI_nat (j := 0) rfl, _, rfl, l3, _, _, _, rfl, rfl, SqL.of e3, atI_nat (j := 1) rfl, _, rfl, l3, _, _, _, rfl, rfl, SqL.of e3, atI_nat (j := 2) rfl,
      _, rfl, l3, _, _, _, rfl, rfl, SqL.of e3, atI_nat (j := 3) rfl, _, rfl, l3, _, _, _, rfl, rfl, SqL.of e3, atI_nat (j := 4) rfl, _, rfl, l3, _, _, _, rfl, rfl, SqL.of e3, atI_nat (j := 5) rfl,
      _, rfl, l3, _, _, _, rfl, rfl, SqL.of e3, atI_nat (j := 6) rfl, _, rfl, l3, _, _, _, rfl, rfl, SqL.of e3, atI_nat (j := 7) rfl, _, rfl, l3, _, _, _, rfl, rfl, SqL.of e3, atI_nat (j := 8) rfl, ?_⟩
    exact madeP (cs := [c0, c1, c2, c3, c4, c5, c6, c7, c8]) (by show 9 ≤ 1000; decide) fun x H9 s9 r9 n9 => q x H9 (s3.trans s9) (gone s3 n9) (by rw [← hp]; exact r9)
abbrev MadeG (P : Program) (w : World) (K : Fr) (mg : Str → Option Value) (base : Heap) : Prop := ∃ f d, Gd P w K mg base 4 "_law_made" f d ["_law_row_here"] (spMade K)
end
end K70

set_option maxHeartbeats 4000000
namespace RtL
open PySem PySem.Spec PyProof.Rows L2 ErL
section
variable {K : PySem.W.Frag} {x qual : Str} {params : Arguments} {body : List Stmt} {scope : Scope} {kws : List (Str × V)} {f : Addr} {fd : FuncData} {ps : List Str}
theorem kbindsN (F : FunD K x qual params body scope [] kws f fd) (n : Nat) (ks : List Str) (g : {α : Type} → List α → List α → List α)
    (hrel : ∀ {vs zs : List V} {us ws : List Value}, Vals vs us → Vals zs ws → Vals (g vs zs) (g us ws))
    (h : ∀ (kV doc pm : Value) (an : Option Addr) (cdv ct : Value) (us ws : List Value), us.length = n → ws.length = ks.length →
      bindArgs (PySem.W.fnOf x qual params body scope .none kV doc pm an cdv ct) ⟨us, ks.zip ws⟩ = pure (ps.zip (g us ws))) :
    KBn K fd ps n ks (fun us ws => g us ws) (fun vs zs => g vs zs) := by
  obtain ⟨oc, od, dV, kV, doc, pm, an, cdv, ct, osl, rfl, lk, hcd, hD, hK⟩ := F.ex
  rcases hD with ⟨_, rfl⟩ | ⟨e, _⟩
  · exact ⟨fun s us ws X l1 l2 => .of_eq (h kV doc pm an cdv ct us ws l1 l2), fun r1 r2 => hrel r1 r2⟩
  · exact absurd rfl e
end
/-- o.m(k = v, ..) -/
def tMethK0 (C : Addr) (m : Str) (n : Nat) (sp : Sp) (gV : List V → List V → List V) (E : XK) (ta : TE) (tk : TA) : TE := fun σ H Q => ta σ H fun x H1 => ∃ a dx fs, x = .ref a ∧ H1 a = some (.ins C dx fs) ∧ fs.lookup m = none ∧ tk σ H1 fun zs H2 => zs.length = n ∧ sp (gV [.ref a] zs) H2 Q E
section
variable {X : Cx} {CX : CXT} {k : Nat} {f C : Addr} {fd : FuncData} {ps ks : List Str} {sp : Sp} {E : XK} {m : Str} {pos apos : Pos} {o : Expr} {kws : List Keyword} {ta : TE} {tk : TA} {g : List Value → List Value → List Value} {gV : List V → List V → List V}
theorem pe_methK0 {pl : Sem Bool} (he : PE X o ta) (c : Cls X.K C) (hm : Meth X.K C m f) (F : FnOk X.prog X.w X.K X.mg X.base CX k f fd ps sp) (hr : Room k X.A) (hb : KBn X.K fd ps 1 ks g gV) (hx : Passes CX X E) (hkw : PK X kws tk)
    (hall : (backToKw pos (keywordEach kws X.env)).all (·.1.isSome) = true := by rfl) (hks : (backToKw pos (keywordEach kws X.env)).filterMap (·.1) = ks := by rfl)
    (hpl : ((backTo pos (starEach [] X.env)).any (·.1) || (backToKw pos (keywordEach kws X.env)).any (·.1.isNone)) = false := by rfl)
    (ht : eval (.Call (.Attribute o m apos) [] kws pos) X.env = (do
      let ov ← eval o X.env
      standAt apos.atName
      let (f, first) ← holding [ov] (getMethod ov m pl)
      callWith pos f first (backTo pos (starEach [] X.env)) (backToKw pos (keywordEach kws X.env))) := by rfl) :
    PE X (.Call (.Attribute o m apos) [] kws pos) (tMethK0 C m ks.length sp gV E ta tk) := by
  refine ⟨fun pins s σ H Q I h => ?_⟩
  refine PySem.W.methodCall_KW (pl := pl) (thn (he.run pins s σ H _ I h) fun u s1 ⟨x, H1, I1, rx, a, dx, fs, ex, ea, l, q⟩ => ?_) ht
  subst ex
  obtain rfl : u = Value.ref a := rx
  refine getmeth_ok I1 ea c hm l ?_
  refine PySem.W.callWith_KW0 (h₀ := X.base) I.ok.mod.kin hm.kp hall (thn (hkw.run pos pins s1 σ H1 _ I1 q) fun ws s2 ⟨zs, H2, I2, rz, lz, q2⟩ => ⟨I2.kIn, ?_⟩) hpl
  rw [hks]
  exact run_fnN (us := [.ref a]) (vs := [.ref a]) F hr hb hx I2 (.cons rfl .nil) rz rfl lz q2
end
end RtL

set_option maxHeartbeats 4000000
set_option exponentiation.threshold 3000
namespace K70
open PySem PySem.Spec PyProof.Rows L2 RtL ErL StX
theorem wat_pl (d : Int) : ∀ cs : List Int, wat (pl cs) d = wat cs d
  | [] => rfl
  | c :: cs => by
    have ih := wat_pl d cs
    show wat (pl (c :: cs)) d = wat cs d * d + c
    unfold pl
    split
    · rename_i e
      rw [e] at ih
      have z : wat cs d = 0 := ih.symm
      rw [z]
      split
      · rename_i h
        show 0 = _
        omega
      · show 0 * d + c = _
        rfl
    · rename_i x xs e
      rw [e] at ih
      show wat (x :: xs) d * d + c = _
      rw [ih]
theorem pl_mem_bd {n : Nat} {row : List Int} (h : ∀ c ∈ row, Bd n c) : ∀ c ∈ pl row, Bd n c := fun c hc => h c (pl_mem hc)
def pdW (w : Int) : PyData := .list [.int w, .int w]
theorem ok_pdW {w : Int} (h : Bd 1000 w) : OkW (pdW w) := by
  obtain ⟨a1, a2⟩ := shown_i h
  refine ⟨?_, Nat.le_of_ble_eq_true rfl, ?_⟩
  · show ((PyData.int w).showable && ((PyData.int w).showable && true)) = true
    rw [a1]
    rfl
  · have l := listText_len_le [(PyData.int w).shown, (PyData.int w).shown]
    show (listText [(PyData.int w).shown, (PyData.int w).shown]).length ≤ _
    simp only [List.map_cons, List.map_nil, List.sum_cons, List.sum_nil, List.length_cons, List.length_nil] at l
    rw [sizeLine_eq]
    omega
theorem dq_pdW {H : Hp} {l : Addr} {w : Int} (h : H l = some (.lst [.int w, .int w])) : Dq H (.ref l) (pdW w) := .lst h (.cons (.int _) (.cons (.int _) .nil))
section
variable {P : Program} {w : World} {K : Fr} {mg : Str → Option Value} {base : Heap} {f : Addr} {fd : FuncData}
abbrev ValG (P : Program) (w : World) (K : Fr) (mg : Str → Option Value) (base : Heap) : Prop := ∃ f d, Gd P w K mg base 1 "_law_value" f d ["_law_row_here", "_law_place"] (spVal K)
/-- `at`, by position and by name -/
def AtG (P : Program) (w : World) (K : Fr) (mg : Str → Option Value) (base : Heap) : Prop := ∃ d, Md P w K mg base 2 (pm K "at") d ["self", "d"] (spAt K) ∧ KBn K d ["self", "d"] 1 ["d"] (fun us ws => us ++ ws) (fun vs zs => vs ++ zs)
abbrev sVr : Stmt := top 35
abbrev NVr : List Str := ["_law_rng_here", "_law_made_here", "_law_row_here", "_law_place"]
theorem scVr : FnScope NVr ["_law_rng_here", "_law_made_here", "_law_row_here"] (defScope sVr) := ⟨rfl, rfl, rfl, by decide +kernel, rfl, by decide +kernel, by decide +kernel⟩
def spVr (K : Fr) : SpG := fun vs H Q => ∃ p a l row, vs = [.ref p, .ref a, .ref l] ∧ PotAt H p ∧ PolAt K H a (pl row) ∧ H l = some (.lst (row.map V.int)) ∧ l ≠ p ∧ row.length ≤ 9 ∧ (∀ c ∈ row, Bd 100 c) ∧ ∀ H', PotAt H' p → But p H H' → Q (.bl true) H'
theorem ok_vr (F : FunD K "_law_values_right" "_law_values_right" (defArgs sVr) (defBody sVr) (defScope sVr) [] [] f fd) (T : TT K mg) (D : DrawG P w K mg base) (G : ValG P w K mg base) (M : AtG P w K mg base) : FnG P w K mg base 4 f fd ["_law_rng_here", "_law_made_here", "_law_row_here"] (spVr K) := by
  obtain ⟨fD, dD, GD⟩ := D
  obtain ⟨fV, dV, GV⟩ := G
  obtain ⟨dA, MA, KA⟩ := M
  refine fnG_D F scVr (fun vs H Q h => ?_) (fun cdv A outer s H vs Q hr hG h => ?_)
  · obtain ⟨p, a, l, row, rfl, _⟩ := h
    rfl
  · obtain ⟨p, a, l, row, rfl, hp, ha, el, lp, hl, hb, q⟩ := h
    have hu : (A.deeper (envOfC "_law_values_right" (defScope sVr) s.heap.objs.size f cdv)).units + 70 < cLine := by have := hr.un; omega
    have lz : 10000 ≤ sizeLine := by rw [sizeLine_eq]; decide
    refine ⟨_, PSs.nox (pss_cons (ps_for PassesOwn.never rfl (pi_list (pe_lst (pa_cons pe_int (pa_cons pe_int (pa_cons (pe_un un_neg pe_int) (pa_cons pe_int (pa_cons (pe_gd GD (hr.mono (by decide)) (by rfl) (pa_cons (pv 0) (pa_cons pe_int pa_nil)))
        (pa_cons (pe_un un_neg (pe_gd GD (hr.mono (by decide)) (by rfl) (pa_cons (pv 0) (pa_cons (pe_op op_pow pe_int pe_int) pa_nil)))) (pa_cons (pe_op op_add (pe_op op_pow pe_int pe_int) (pe_gd GD (hr.mono (by decide)) (by rfl) (pa_cons (pv 0) (pa_cons (pe_op op_pow pe_int pe_int) pa_nil)))) pa_nil))))))))) (pg_name (i := 3) scVr.nd rfl (Or.inl rfl))
        (pss_one (ps_if (pt_cmpR op_ne (pe_callB (call_reprW hu hG T.sys) (by rfl) T.fre (by decide +kernel) (pa_cons (pe_lst (pa_cons (pe_meth (pv 1) T.clP T.at_ MA.ok (hr.mono (by decide)) MA.bd .nil pass0 (pa_cons (pv 3) pa_nil))
            (pa_cons (pe_methK0 (pv 1) T.clP T.at_ MA.ok (hr.mono (by decide)) KA pass0 (pk_cons (pv 3) pk_nil)) pa_nil))) pa_nil))
          (pe_callB (call_reprW hu hG T.sys) (by rfl) T.fre (by decide +kernel) (pa_cons (pe_op op_rep (pe_lst (pa_cons (pe_gd GV (hr.mono (by decide)) (by rfl) (pa_cons (pv 2) (pa_cons (pv 3) pa_nil))) pa_nil)) pe_int) pa_nil)) (nomark _)) (pss_one (ps_ret pe_bl)) pss_nil)))
      (pss_one (ps_ret pe_bl))), ?_⟩
    have e9 : ((10 : Int) ^ Int.toNat 9) = 1000000000 := by decide
    have e19 : ((10 : Int) ^ Int.toNat 19) = 10000000000000000000 := by decide
    refine ⟨_, rfl, _, rfl, p, 100, rfl, hp, by decide, by decide, fun d4 H1 d40 d41 hp1 b1 => ?_⟩
    refine ⟨_, rfl, _, _, rfl, rfl, ⟨by decide, by decide, by decide⟩, p, _, rfl, hp1, by decide, by decide, fun d5 H2 d50 d51 hp2 b2 => ⟨_, rfl, ?_⟩⟩
    refine ⟨_, _, rfl, rfl, ⟨by decide, by decide, by decide⟩, _, rfl, _, _, rfl, rfl, ⟨by decide, by decide, by decide⟩, p, _, rfl, hp2, by decide, by decide, fun d6 H3 d60 d61 hp3 b3 => ⟨_, _, rfl, rfl, ?_⟩⟩
    rw [e9] at d51
    rw [e19] at d61 ⊢
    have b123 := (b1.trans b2).trans b3
    have big : ∀ z : Int, z.natAbs < 30000000000000000000 → Bd 65 z := fun z h => Nat.lt_trans h (by decide)
    have hz : ∀ z ∈ [0, 1, -1, 2, d4, -d5, 10000000000000000000 + d6], Bd 65 z := fun z h => big z (by
      simp only [List.mem_cons, List.not_mem_nil, or_false] at h
      rcases h with rfl | rfl | rfl | rfl | rfl | rfl | rfl <;> omega)
    refine ⟨by show 7 ≤ sizeLine; omega, fun L nL => ⟨L, rfl, ⟨_, SqL.of upd_same⟩, ?_⟩⟩
    have ha3 : PolAt K (upd H3 L (.lst [.int 0, .int 1, .int (-1), .int 2, .int d4, .int (-d5), .int (10000000000000000000 + d6)])) a (pl row) := (ha.but hp b123).same (same_new nL)
    have el3 : (upd H3 L (.lst [.int 0, .int 1, .int (-1), .int 2, .int d4, .int (-d5), .int (10000000000000000000 + d6)])) l = some (.lst (row.map V.int)) := same_new nL _ _ (b123 _ _ el lp)
    have eL : (upd H3 L (.lst [.int 0, .int 1, .int (-1), .int 2, .int d4, .int (-d5), .int (10000000000000000000 + d6)])) L = some (.lst (([0, 1, -1, 2, d4, -d5, 10000000000000000000 + d6] : List Int).map V.int)) := upd_same
    have hp4 := hp3.same (same_new (o := .lst [.int 0, .int 1, .int (-1), .int 2, .int d4, .int (-d5), .int (10000000000000000000 + d6)]) nL)
    have b4 := b123.trans (But.of (same_new (o := .lst [.int 0, .int 1, .int (-1), .int 2, .int d4, .int (-d5), .int (10000000000000000000 + d6)]) nL))
    refine for_list (xs := ([0, 1, -1, 2, d4, -d5, 10000000000000000000 + d6] : List Int).map V.int) (fun i σ H' => Same (upd H3 L (.lst [.int 0, .int 1, .int (-1), .int 2, .int d4, .int (-d5), .int (10000000000000000000 + d6)])) H' ∧ ∃ u, σ = [some (.ref p), some (.ref a), some (.ref l), u]) ⟨fun _ _ z => z, none, rfl⟩ (fun i σ H' _ pv => SqL.of (pv.1 _ _ eL)) ?_ ?_
    · rintro i v σ H4 hi ⟨s4, u, rfl⟩
      obtain ⟨z, hzi, rfl⟩ := getm hi
      have zb := hz z (List.mem_of_getElem? hzi)
      have z100 : Bd 100 z := bd_up zb (by decide)
      have ha4 := ha3.same s4
      obtain ⟨dx, t, ea, et⟩ := ha4
      have hb2 : ∀ c ∈ pl row, Bd 200 c := fun c hc => bd_up (hb c (pl_mem hc)) (by decide)
      have hl2 : (pl row).length ≤ 40 := Nat.le_trans (pl_length row) (by omega)
      have bw : Bd 1000 (wat row z) := bd_up (wat_bd zb hb) (by omega)
      have two : 2 ≤ sizeLine := by omega
      refine ⟨_, rfl, a, dx, _, rfl, ea, rfl, _, rfl, a, _, z, rfl, ⟨dx, t, ea, et⟩, hb2, hl2, z100, fun H5 s5 => ?_⟩
      refine ⟨_, rfl, a, dx, _, rfl, s5 _ _ ea, rfl, _, rfl, rfl, a, _, z, rfl, ⟨dx, t, s5 _ _ ea, s5 _ _ et⟩, hb2, hl2, z100, fun H6 s6 => ?_⟩
      rw [wat_pl]
      refine ⟨two, fun p1 n1 => ⟨p1, pdW (wat row z), rfl, dq_pdW upd_same, ok_pdW bw, ?_⟩⟩
      have s46 := (s5.trans s6).trans (same_new (o := .lst [.int (wat row z), .int (wat row z)]) n1)
      refine ⟨_, rfl, _, rfl, l, row, z, rfl, s46 _ _ (s4 _ _ el3), hl, hb, z100, fun H7 s7 => ⟨by show 1 ≤ sizeLine; omega, fun p2 n2 => ⟨p2, 2, _, rfl, rfl, upd_same, by decide, by decide, by show 1 * 2 ≤ sizeLine; omega, fun p3 n3 => ?_⟩⟩⟩
      refine ⟨p3, pdW (wat row z), rfl, dq_pdW upd_same, ok_pdW bw, rfl, ?_⟩
      refine ⟨false, by rw [decide_eq_true (rfl : V.str (pdW (wat row z)).shown = V.str (pdW (wat row z)).shown)]; rfl, iteF ?_⟩
      exact ⟨(((s4.trans s46).trans s7).trans (same_new n2)).trans (same_new n3), _, rfl⟩
    · rintro σ H4 ⟨s4, u, rfl⟩
      exact q _ (hp4.same s4) (b4.trans (But.of s4))
end
end K70

set_option maxHeartbeats 1000000
/-! a try with several clauses, each of which keeps the exception by a name -/
namespace RtL
open PySem PySem.Spec PyProof.Rows L2 ErL
abbrev TSa := Addr → Value → Option Addr → TS
def wAsAll (K : PySem.W.Frag) (Wo : WX) (D : Ends) : List (Value × Nat × TSa) → WX
  | [] => Wo
  | (c, i, ts) :: r => wAs K c i ts (wAsAll K Wo D r) D
inductive HdsAs (X : Cx) : List ExceptHandler → List (Value × Nat × TSa) → Prop
  | nil : HdsAs X [] []
  | cons {x n : Str} {c : Value} {i : Nat} {ts : TSa} {b : Stmt} {bs : List Stmt} {p p' : Pos} {hds : List ExceptHandler} {l : List (Value × Nat × TSa)} (names : Names X x c) (at_ : X.N[i]? = some n) (loc : X.env.kindOf n = some .local)
      (run : ∀ (a : Addr) (oe : Obj) (cls : Value) (d : Option Addr) (pn : List (Addr × Obj)), Zc cls d oe → (∃ vs, oe.data = .fields vs) → PSs (X.suite a ((a, oe) :: pn)) (b :: bs) (ts a cls d)) (rest : HdsAs X hds l) :
      HdsAs X (.ExceptHandler (some (.Name x p)) (some n) (b :: bs) p' :: hds) ((c, i, ts) :: l)
section
variable {X : Cx} {body : List Stmt} {hd : ExceptHandler} {hds : List ExceptHandler} {l : List (Value × Nat × TSa)} {pos : Pos} {tb : WX → TS} {Wo : WX}
theorem ps_try_ass (hs : X.stack = X.env :: X.outer) (hf : X.env.frame = some X.env.locals) (nd : X.N.Nodup) (tk : Takes X Wo)
    (bd : ∀ (W : WX) (pn : List (Addr × Obj)) (xe : Value → Shared → Prop), Takes (X.tr pn xe) W → PassesOwn (model X.prog X.w) X.A X.env xe → PSs (X.tr pn xe) body (tb W))
    (hh : HdsAs X (hd :: hds) l) : PS X (.Try body (hd :: hds) [] [] pos) (fun D σ H => tb (wAsAll X.K Wo D l) D σ H) := by
  refine ⟨fun pins s σ H D I h0 => wpAny_Try_except ?_⟩
  have ok := I.ok
  have fr1 : X.A.frames = some (X.env :: X.outer) := ok.frames.trans (congrArg some hs)
  have run := (bd (wAsAll X.K Wo D l) (X.pn ++ pins) (fun e s₁ => wpAny (model X.prog X.w) X.A (noteFrame e X.env) (fun _ s₂ => wpAny (model X.prog X.w) X.A (setFlight e none)
    (fun _ s₃ => wpAny (model X.prog X.w) X.A (handleBy e X.env (hd :: hds)) (SP X pins D) X.xe s₃) X.xe s₂) X.xe s₁) (fun u sK caught => ?_) PassesOwn.looking).run [] s σ H D (I.toTry _) h0
  · refine wpAny_mono run (fun fl s1 r => ?_) fun _ _ z => z
    cases fl with
    | next => exact let ⟨σ', H', J, q⟩ := r; wpAny_execs_nil ⟨σ', H', J.ofTry ok, q⟩
    | brk => exact let ⟨σ', H', J, q⟩ := r; ⟨σ', H', J.ofTry ok, q⟩
    | cont => exact let ⟨σ', H', J, q⟩ := r; ⟨σ', H', J.ofTry ok, q⟩
    | ret u => exact let ⟨v, σ', H', J, rv, q⟩ := r; ⟨v, σ', H', J.ofTry ok, rv, q⟩
  obtain ⟨e, B, sI, pins', σK, HK, cls, d, rfl, J0, new, up, sky, out, os, ag, w⟩ := caught
  have J : Inv X pins σK HK sI := J0.ofTry ok
  rw [hs] at sky
  show wpAny (model X.prog X.w) X.A (noteFrame (.ref e) X.env) _ _ sK
  refine Sky.land Zc.steady fr1 hf sky fun hL flL upL => ?_
  have upK := up.trans upL
  have JL : Inv X pins σK HK { sK with heap := hL } := J.landed new flL.1 upK os ag
  obtain ⟨oL, vsL, eL, zL, dL⟩ := flL.there
  have notF : e ∉ frs (X.env :: X.outer) := fun hm => by
    obtain ⟨_, o', e', no⟩ := flL.2.2.1.mem hm
    cases eL.symm.trans e'
    exact no _ dL
  have notL : e ≠ X.env.locals := fun z => notF (List.mem_filterMap.mpr ⟨X.env, List.mem_cons_self, z ▸ hf⟩)
  have notO : e ∉ X.fs := fun hm => let ⟨x, hx, q⟩ := List.mem_filterMap.mp hm; notF (List.mem_filterMap.mpr ⟨x, List.mem_cons_of_mem _ hx, q⟩)
  have SL := JL.suite eL dL out notL notO
  suffices go : ∀ (es : List ExceptHandler) (ls : List (Value × Nat × TSa)), HdsAs X es ls → wAsAll X.K Wo D ls cls d σK HK → wpAny (model X.prog X.w) X.A (handleBy (.ref e) X.env es) (SP X pins D) X.xe { sK with heap := hL } from go _ _ hh w
  intro es ls hk
  induction hk with
  | nil =>
    intro wish
    have up1 : wpAny (model X.prog X.w) X.A (setFlight (.ref e) X.env.frame) (fun _ s4 => wpAny (model X.prog X.w) X.A (throw (.ref e) : Sem Flow) (SP X pins D) X.xe s4) X.xe { sK with heap := hL } := by
      rw [hf]
      refine HandSPX.setFlight_upZ flL fun h4 sky4 up4 => wpAny_throw (tk _ _ ⟨e, B, sI, pins, σK, HK, cls, d, rfl, J, new, upK.trans up4, .inr (.inr ?_), out, os, ag, wish⟩)
      rw [hs]
      exact sky4
    obtain ⟨_, _, _, oe, vs, T, oT, ts', he, hz, hdt, h1, hr⟩ := id flL
    refine wpAny_handleBy_nil ?_
    unfold PySem.passOn
    refine wpAny_bind (wpAny_field he hdt h1 ?_)
    rw [if_neg (by simp : ¬ ((Value.ref T == Value.none) = true))]
    first
      | exact wpAny_bind (wpAny_pure (wpAny_bind up1))
      | exact wpAny_bind up1
  | @cons x n c i ts b bs p p' hds2 l2 names at_ loc run2 rest ih =>
    intro ⟨m, hm, yes, no⟩
    have looks : PySem.W.Looks (model X.prog X.w) hL (typeOf (.ref e)) cls := fun A Q E s k q => wpAny_typeOf_ref (k _ _ eL) (zL.1 ▸ q)
    refine wpAny_handleBy_cons (codeAny_handlers_test ?_) fun q => nomatch q
    have told : ∀ {Q E : Value → Shared → Prop}, Q c { sK with heap := hL } → wpAny (model X.prog X.w) (X.A.mark (some (.ref e))) (eval (.Name x p) X.env) Q E { sK with heap := hL } := fun {Q E} q =>
      match names with
      | ⟨hg, hdb, .inl hm⟩ => ld_glob (X := X.suite e ((e, oL) :: (X.pn ++ pins))) SL hg hm q hdb
      | ⟨hg, hdb, .inr ⟨hm, hv, hn⟩⟩ => ld_blt (X := X.suite e ((e, oL) :: (X.pn ++ pins))) SL hg hm hv q hn hdb
    refine told ((PySem.W.exm_one (M := model X.prog X.w) JL.kIn looks hm).here ?_)
    cases m with
    | false => exact ih (no rfl)
    | true =>
      refine codeAny_handlers_suite_as (HandSPX.lands_againZ flL fun h4 fl4 up4 => ?_)
      obtain ⟨o4, vs4, e4, z4, d4⟩ := fl4.there
      have S4 := (J.landed new fl4.1 (upK.trans up4) os ag : Inv X pins σK HK { sK with heap := h4 }).suite e4 d4 out notL notO
      refine store_ok (X := X.suite e ((e, o4) :: (X.pn ++ pins))) (v := .ref e) S4 nd at_ (.inl loc) rfl (fun s5 S5 => ?_) (.inr loc)
      refine wpAny_mono ((run2 e o4 cls d (X.pn ++ pins) z4 ⟨_, d4⟩).run [] s5 _ HK _ S5 (yes rfl e out)) (fun fl s6 r => ?_) fun _ _ z => z.elim
      have drop : ∀ {σ6 : L2.St} {H6 : Hp} {Q : Shared → Prop}, Inv (X.suite e ((e, o4) :: (X.pn ++ pins))) [] σ6 H6 s6 → (∀ s7, Inv X pins (σ6.set i none) H6 s7 → Q s7) →
          wpAny (model X.prog X.w) X.A (do bindName X.env n .none; unbindBehindTheSuite X.env n p') (fun _ s7 => Q s7) X.xe s6 := fun {_ _ _} S6 hq => gone_ok (S6.unsuite ok) nd at_ loc hq
      cases fl with
      | next => exact let ⟨σ6, H6, S6, q6⟩ := r; drop S6 fun s7 J7 => ⟨_, _, J7, q6⟩
      | brk => exact let ⟨σ6, H6, S6, q6⟩ := r; drop S6 fun s7 J7 => ⟨_, _, J7, q6⟩
      | cont => exact let ⟨σ6, H6, S6, q6⟩ := r; drop S6 fun s7 J7 => ⟨_, _, J7, q6⟩
      | ret u => exact let ⟨v6, σ6, H6, S6, r6, q6⟩ := r; drop S6 fun s7 J7 => ⟨_, _, _, J7, r6, q6⟩
end
end RtL

set_option maxHeartbeats 1000000
/-! a lambda without parameters handed to a def of one parameter; what it raises is told by the def's slots -/
namespace RtL
open PySem PySem.Spec PyProof.Rows L2 ErL LamX
/-- the def that calls what it got, a its name -/
def Gives1 (X : Cx) (k : Nat) (Ng : List Str) (x : Str) (sg : Scope) (g : Addr) (cdg : Value) (bg : List Stmt) (a q : Str) (TT : (XK → Hp → VK → Prop) → Hp → VK → Prop) : Prop :=
  ∀ (f c' : Addr) (s : Shared) (H : Hp) (Q : VK) (tl : XK → Hp → VK → Prop),
    Room (k + 1) (X.A.deeper (envOfC x sg s.heap.objs.size g cdg)) → (X.A.deeper (envOfC x sg s.heap.objs.size g cdg)).guards = some [] →
    (∀ (W : WX) (pn : List (Addr × Obj)) (xe : Value → Shared → Prop) (p1 p2 : Pos), Takes ((cxOf CX0 X.prog X.w X.K X.mg X.base Ng x sg g cdg X.A X.stack s H E0).tr pn xe) W →
      PE ((cxOf CX0 X.prog X.w X.K X.mg X.base Ng x sg g cdg X.A X.stack s H E0).tr pn xe) (.Call (.Name a p1) [] [] p2) (fun σZ HZ Q => σZ[0]? = some (some (.ref f)) ∧ HZ c' = some (CodeO c' q) ∧ tl (WE W σZ) HZ Q)) →
    H c' = some (CodeO c' q) → TT tl H Q →
    ∃ t, PSs (cxOf CX0 X.prog X.w X.K X.mg X.base Ng x sg g cdg X.A X.stack s H E0).nox bg t ∧ t { nx := fun _ H' => Q .non H', rt := Q } (L2.start Ng [.ref f]) H
section
variable {X : Cx}
/-- x(lambda: body) -/
theorem pe_lamcall1 {T : List (Addr × Str)} {TT : (XK → Hp → VK → Prop) → Hp → VK → Prop} {x a : Str} {g c P : Addr} {k : Nat} {pg : Arguments} {bg : List Stmt} {sg : Scope} {dV kV doc pm cdv ct oc : Value} {an od : Option Addr} {osl : Array (Option Value)} {Ng : List Str}
    {params : Arguments} {body : Expr} {scope : Scope} {t : XK → TE} {p lpos pos : Pos} (hg : Gl X x) (hm : X.mg x = some (.ref g)) (hk : PySem.W.keepIn X.K (.ref g) = true)
    (lk : X.K.lookup g = some ⟨oc, od, .func (PySem.W.fnOf x x pg bg sg dV kV doc pm an cdv ct), osl⟩) (hcg : PySem.W.codeIn X.K cdv x = true) (hb : L2.Binds X.K (PySem.W.fnOf x x pg bg sg dV kV doc pm an cdv ct) [a] []) (Sg : FnScope Ng [a] sg) (hNg : Ng[0]? = some a) (hva : Vis sg a)
    (hG : Gives1 X k Ng x sg g cdv bg a (X.env.qual ++ "<lambda>") TT)
    (TB : TabB X.base X.mg c P) (hcode : X.env.code = .ref c) (hmT : (P, X.env.qual ++ "<lambda>") ∈ T) (hu : ∀ p ∈ T, p.1 = P → p.2 = X.env.qual ++ "<lambda>") (hr : Room (k + 2) X.A) (hgd : X.A.guards = some []) (L : LamS X.env.scope scope) (hdef : defaultsOf params X.env = ([], []))
    (hbind : ∀ (q : Str) (cl : List (Str × Addr)) (pm cv ctv : Value), bindArgs (PySem.W.kla_fn "<lambda>" q params body scope cl pm cv ctv) ⟨[], []⟩ = pure [])
    (hbody : ∀ (A : Around) (outer : List Env) (s : Shared) (H : Hp) (E : XK) (f c' : Addr), Room k (A.deeper (lamEnv X scope s.heap.objs.size f c')) → PE (lamCx X A outer s H E scope f c') body (t E))
    (hdb : (x == ("__debug__" : Str)) = false := by decide) (hd : (a == ("__debug__" : Str)) = false := by decide) (hcd : (a == ("__classdict__" : Str)) = false := by decide) :
    PE X (.Call (.Name x p) [.Lambda params body scope lpos] [] pos) (tLam T TT t) := by
  refine ⟨fun pins s σ H Q I h => ?_⟩
  obtain ⟨hT, h⟩ := h
  refine wpAny_Call_Name_kw (ld_glob I hg hm ?_ hdb)
  refine PySem.W.callWith_K (h₀ := X.base) I.ok.mod.kin hk ?_ (by rfl) (by rfl)
  show wpAny _ _ (spliced ((false, eval (.Lambda params body scope lpos) X.env) :: backTo pos (starEach [] X.env))) _ _ s
  refine Calls.spliced_cons (lam_make2 I TB hcode hmT hu hT hdef (L.has I.ok) fun f c' pm' ctv H1 s' I1 eN T1 hf hfn hfr hco => ?_)
  refine Calls.spliced_nil ⟨I1.kIn, ?_⟩
  have rc : codeAny (model X.prog X.w) X.A (.call (.ref g) ⟨[.ref f], []⟩) (CR CX0 X.stack X.prog X.w H1 s' Q E0) s' := by
    refine run_ofS (N := Ng) (ps := [a]) (us := [.ref f]) (vs := [.ref f]) lk hcg Sg hr I1.env0 (hb s' [.ref f] I1.kIn rfl) (.cons rfl .nil) rfl fun hr' => ?_
    obtain ⟨t', ht', hq'⟩ := hG f c' s' H1 Q (fun E H' Q' => t E σ H' Q') hr' (guards_deeper hgd)
      (fun W pn xe p1 p2 tk => pe_act2 (i := 0) I1 L hf hfn hfr (hbind _ _ _ _ _) tk hr' (fun A outer s H E hr2 => hbody A outer s H E f c' hr2) hNg hva hd hcd) hco (h H1 eN T1)
    exact ⟨t', ht'.nox, hq'⟩
  refine wpAny_call (codeAny_mono rc fun r s3 hq => ?_)
  cases r with
  | error e => exact (show False from hq).elim
  | ok fl =>
    cases fl with
    | ret u => exact I1.after hq
    | next => exact False.elim hq
    | brk => exact False.elim hq
    | cont => exact False.elim hq
end
end RtL

set_option maxHeartbeats 4000000
set_option exponentiation.threshold 3000
namespace K70
open PySem PySem.Spec PyProof.Rows L2 RtL ErL StX LamX
section
variable {P : Program} {w : World} {K : Fr} {mg : Str → Option Value} {base : Heap} {f : Addr} {fd : FuncData}
abbrev sRf : Stmt := top 33
abbrev NRf : List Str := ["_law_call", "e"]
theorem scRf : FnScope NRf ["_law_call"] (defScope sRf) := ⟨rfl, rfl, rfl, by decide +kernel, rfl, by decide +kernel, by decide +kernel⟩
/-- which error, and how it is told -/
def Kd (K : Fr) (C : Addr) (k : Str) : Prop := (C = IN K ∧ k = "number") ∨ (C = IP K ∧ k = "polynomial")
def TTf (K : Fr) : (XK → Hp → VK → Prop) → Hp → VK → Prop := fun tl H Q => ∃ C k v, Kd K C k ∧ (∀ H0 E R, Same H H0 → Ref C H0 v E → tl E H0 R) ∧ ∀ l H', Same H H' → H l = none → H' l = some (.lst [.str k, v, .bl true]) → Q (.ref l) H'
theorem gives_ref {X : Cx} (hP : X.prog = P) (hw : X.w = w) (hK : X.K = K) (hmg : X.mg = mg) (hbase : X.base = base) {g : Addr} {cdg : Value} {qn : Str} {k : Nat} (T : TT K mg) : Gives1 X k NRf "_law_refused" (defScope sRf) g cdg (defBody sRf) "_law_call" qn (TTf K) := by
  subst hP hw hK hmg hbase
  intro f c' s H Q tl hr hG call hc' h
  obtain ⟨C, kd, v, hk, hT, q⟩ := h
  have gI := T.gl "InvalidNumber" (by decide)
  have gP := T.gl "InvalidPolynomial" (by decide)
  have three : 3 ≤ sizeLine := by rw [sizeLine_eq]; decide
  refine ⟨_, PSs.nox (pss_cons (ps_try_ass (tb := fun W => tDrop (fun σZ HZ Q => σZ[0]? = some (some (.ref f)) ∧ HZ c' = some (CodeO c' qn) ∧ tl (WE W σZ) HZ Q))
      (l := [(.ref (IN X.K), 1, fun a cls d => tRet (tLst (tCons (tC (.str "number")) (tCons (tBy1 (IN X.K) "value" a cls d (tVar 1)) (tCons (tCB (rIsS X.K (IN X.K) a cls d) (tCons (tVar 1) (tCons (tC (.ref (He.ga X.K "SlotsumsError"))) tNil))) tNil))))),
        (.ref (IP X.K), 1, fun a cls d => tRet (tLst (tCons (tC (.str "polynomial")) (tCons (tBy1 (IP X.K) "value" a cls d (tVar 1)) (tCons (tCB (rIsS X.K (IP X.K) a cls d) (tCons (tVar 1) (tCons (tC (.ref (He.ga X.K "SlotsumsError"))) tNil))) tNil)))))])
      (Wo := fun _ _ _ _ => False) rfl rfl scRf.nd L2.takes0
        (fun W pn xe tk _ => pss_one (ps_expr (call W pn xe _ _ tk)))
        (.cons ⟨rfl, by decide, .inl gI⟩ rfl rfl (fun a oe cls d pn hz hf => pss_one (ps_ret (pe_lst (pa_cons pe_str (pa_cons (pe_by1 T.en.ask T.en.va hz hf (pv 1)) (pa_cons (pe_callB (call_isS T.en.ask hz hf) (by rfl) T.fre (by decide +kernel) (pa_cons (pv 1) (pa_cons (pe_glob (v := .ref (He.ga X.K "SlotsumsError")) (by rfl) (T.gl "SlotsumsError" (by decide)) rfl) pa_nil))) pa_nil))))))
        (.cons ⟨rfl, by decide, .inl gP⟩ rfl rfl (fun a oe cls d pn hz hf => pss_one (ps_ret (pe_lst (pa_cons pe_str (pa_cons (pe_by1 T.ep.ask T.ep.va hz hf (pv 1)) (pa_cons (pe_callB (call_isS T.ep.ask hz hf) (by rfl) T.fre (by decide +kernel) (pa_cons (pv 1) (pa_cons (pe_glob (v := .ref (He.ga X.K "SlotsumsError")) (by rfl) (T.gl "SlotsumsError" (by decide)) rfl) pa_nil))) pa_nil)))))) .nil)))
      (pss_one (ps_ret (pe_lst pa_nil)))), ?_⟩
  refine ⟨rfl, hc', hT _ _ _ (fun _ _ z => z) fun d H1 s1 ed => ?_⟩
  rcases hk with ⟨rfl, rfl⟩ | ⟨rfl, rfl⟩
  · refine ⟨true, T.en.ex, fun _ c hc => ?_, fun z => nomatch z⟩
    refine ⟨_, rfl, rfl, rfl, d, v, rfl, ed, _, rfl, _, _, _, rfl, rfl, (fun dd h => by cases h; exact ⟨_, ed⟩), fun u h => h, T.en.ss, three, fun l2 n2 => ?_⟩
    exact q l2 _ (s1.trans (same_new n2)) (gone s1 n2) upd_same
  · refine ⟨false, T.exn, (fun z => by cases z), fun _ => ?_⟩
    refine ⟨true, T.ep.ex, fun _ c hc => ?_, fun z => nomatch z⟩
    refine ⟨_, rfl, rfl, rfl, d, v, rfl, ed, _, rfl, _, _, _, rfl, rfl, (fun dd h => by cases h; exact ⟨_, ed⟩), fun u h => h, T.ep.ss, three, fun l2 n2 => ?_⟩
    exact q l2 _ (s1.trans (same_new n2)) (gone s1 n2) upd_same
end
end K70

set_option maxHeartbeats 1000000
/-! repr of a list of texts, truth values, whole numbers, objects of an own class, and of lists of these -/
namespace RtL
open PySem PySem.Spec PyProof.Rows L2 ErL
open PySem.Sem (wp)
open PySem.Builtin PySem.Builtin.List
section
variable {X : Cx} {k : Nat} {f C : Addr} {fd : FuncData} {sp : Sp} {ps : List Str} {pins : List (Addr × Obj)} {σ : L2.St} {H : Hp}
/-- what stands in such a list: a whole number, an own object, a truth value -/
def ShS (C : Addr) (sp : Sp) (H : Hp) (v : V) (t : Str) : Prop := ItT C sp H v t ∨ (∃ b : Bool, v = .bl b ∧ t = (if b = true then Str.ofString "True" else Str.ofString "False")) ∨ ∃ z : Str, v = .str z ∧ t = reprText z
/-- .. or a list of these -/
def ShU (C : Addr) (sp : Sp) (H : Hp) (a : Addr) (v : V) (t : Str) : Prop := ShS C sp H v t ∨ ∃ l vs ts, v = .ref l ∧ l ≠ a ∧ H l = some (.lst vs) ∧ vs ≠ [] ∧ ts.length = vs.length ∧ (∀ (i : Nat) (w : V), vs[i]? = some w → ∃ t', ts[i]? = some t' ∧ ShS C sp H w t') ∧ t = listText ts
theorem itS_one (hs : PySem.W.findIn X.K (.ref C) "__repr__" = some (some (.ref f))) (hf : PySem.W.isFn X.K (.ref f) = true) (F : FnOk X.prog X.w X.K X.mg X.base CX0 k f fd ps sp) (hb : Binds X.K fd ps []) {A : Around} (hr : Room (k + 1) A)
    (e0 : ∀ (pins : List (Addr × Obj)) s, Inv X pins σ H s → Env0 X.prog X.w X.K X.mg X.base A X.stack s H) {a : Addr} {v : V} {t : Str} (h : ShS C sp H v t) : ItA X σ H A a v t := by
  intro rest pins base E s Q u hz ru I q
  rcases h with (⟨j, rfl, rfl, hlog⟩ | ⟨b, dx, fs, rfl, eb, hq⟩) | ⟨b, rfl, rfl⟩ | ⟨z, rfl, rfl⟩
  · obtain ⟨tk, rfl⟩ := (show ∃ tk, u = Value.int j tk from ru)
    exact ReprIs.int tk hlog base hz _ _ _ _ fun tk' => q _ (I.tok tk')
  · obtain rfl : u = Value.ref b := ru
    exact under_own hs hf F hb (Room.loop hr _) (Env0.loop (e0 _ s I) _) I eb hq (by omega) q
  · obtain rfl : u = Value.bool b := ru
    exact ReprIs.bool b base hz _ _ _ _ fun tk' => q _ (I.tok tk')
  · obtain ⟨tk, rfl⟩ := (show ∃ tk, u = Value.str z tk from ru)
    exact ReprIs.str z tk (by omega) base hz _ _ _ _ fun tk' => q _ (I.tok tk')
theorem itS_two (hs : PySem.W.findIn X.K (.ref C) "__repr__" = some (some (.ref f))) (hf : PySem.W.isFn X.K (.ref f) = true) (F : FnOk X.prog X.w X.K X.mg X.base CX0 k f fd ps sp) (hb : Binds X.K fd ps []) {A : Around} (hr : Room (k + 3) A) (hg : A.guards = some [])
    (e0 : ∀ (pins : List (Addr × Obj)) s, Inv X pins σ H s → Env0 X.prog X.w X.K X.mg X.base A X.stack s H) {a : Addr} {v : V} {t : Str} (h : ShU C sp H a v t) : ItA X σ H A a v t := by
  rcases h with h | ⟨l, vs, ts, rfl, hla, el, hne, hlen, hT, rfl⟩
  · exact itS_one hs hf F hb (hr.mono (by omega)) e0 h
  intro rest pins base E s Q u hz ru I q
  obtain rfl : u = Value.ref l := ru
  obtain ⟨_, its, nn, rv, ho⟩ := (show ObjOk X.prog X.w H s.heap l (.lst vs) from I.hok l _ el)
  have hr1 : Room (k + 2) (A.under (.builtin "list.__repr__.loop" ⟨.ref a :: rest, []⟩)) := Room.loop hr _
  have hg1 : (A.under (.builtin "list.__repr__.loop" ⟨.ref a :: rest, []⟩)).guards = some [.builtin "list.__repr__.loop" ⟨.ref a :: rest, []⟩] := guards_under_guard (isGuard_list_loop _) hg
  cases rv with
  | nil => exact absurd rfl hne
  | cons r1 r2 =>
    rename_i v vs x its
    refine wpAny_pyReprUnder_ref (by omega) ?_
    refine wpAny_pyReprObjUnder_twin (twin := "list.__repr__.under") ⟨_, ho, rfl⟩ PySem.F.slot_list_repr.toG rfl (by have := hr1.un; omega) ?_
    refine call_twin_plain PySem.F.plain_list_repr_under PySem.F.entry_list_repr_under PySem.F.check_list_repr_under ⟨_, ho, rfl⟩ PySem.F.slot_list_repr.toG (PySem.F.args_list_repr_1 _) ?_
    refine wpAny_list_repr_head hg1 (fun v' rest' kw hm => ?_) ho rfl ?_
    · cases List.mem_singleton.mp hm
      exact listSameRef_of_ne fun z => hla (Value.ref.inj z).symm
    refine wpAny_bind (m := newList []) (wpAny_newObj_type ?_)
    refine wpAny_pure ⟨PySem.F.quiet_list_repr_loop _, ?_⟩
    refine loopA (A := (A.under (.builtin "list.__repr__.loop" ⟨.ref a :: rest, []⟩))) (P := s.heap.objs.size) (base := base) el hlen (fun i w hw => ?_) (by omega) (.inr I.sz) (fun x c e z => ?_) (fun p hp z => ?_) (fun s' u I' => ?_) _ 0 _ #[] _ [] rfl (Nat.zero_le _) (ClX.pin_new I (fun b o e => Heap.get?_push_of_some _ e) (Nat.le_refl _) (Heap.get?_push_size _ rfl) (fun v z => nomatch z)) rfl (by simp)
    · obtain ⟨t', ht', hs'⟩ := hT i w hw
      exact ⟨t', ht', itS_one hs hf F hb (hr1.mono (by omega)) (fun pins s I => Env0.loop (e0 pins s I) _) hs'⟩
    · obtain ⟨v, o, hc, _⟩ := I.cell x c e
      rw [z] at hc
      exact absurd (Heap.lt_size hc) (Nat.lt_irrefl _)
    · have e := (I.pin p hp).1
      rw [z] at e
      exact absurd (Heap.lt_size e) (Nat.lt_irrefl _)
    · exact ⟨⟨_, _, rfl⟩, _, _, rfl, q s' I'⟩
/-- repr(xs), xs such a list -/
def rReprS (C : Addr) (sp : Sp) : List V → Hp → VK → Prop := fun xs H Q => ∃ a vs ts, xs = [.ref a] ∧ H a = some (.lst vs) ∧ vs ≠ [] ∧ ts.length = vs.length ∧ (∀ (i : Nat) (v : V), vs[i]? = some v → ∃ t, ts[i]? = some t ∧ ShU C sp H a v t) ∧
  (listText ts).length ≤ sizeLine ∧ Q (.str (listText ts)) H
theorem call_reprS (hs : PySem.W.findIn X.K (.ref C) "__repr__" = some (some (.ref f))) (hf : PySem.W.isFn X.K (.ref f) = true) (F : FnOk X.prog X.w X.K X.mg X.base CX0 k f fd ps sp) (hb : Binds X.K fd ps []) (hr : Room (k + 4) X.A) (hg : X.A.guards = some []) :
    CallR X (.builtin "repr") (rReprS C sp) := by
  intro pins s σ H xs us Q I r h
  obtain ⟨a, vs, ts, rfl, ea, hne, hlen, hT, hsz, q⟩ := h
  obtain ⟨u, rfl, rx⟩ := vals1 r
  cases (show u = Value.ref a from rx)
  obtain ⟨_, its, nn, rv, ho⟩ := (show ObjOk X.prog X.w H s.heap a (.lst vs) from I.hok a _ ea)
  cases rv with
  | nil => exact absurd rfl hne
  | cons r1 r2 =>
    rename_i v vs x l
    refine call_repr_slot (by have := hr.un; show X.A.units + 1 < cLine; omega) ⟨_, ho, rfl⟩ PySem.F.slot_list_repr.toG ?_
    refine wpAny_call (codeAny_call_builtin PySem.F.slot_list_repr.plain PySem.F.entry_list_repr (PySem.F.slot_list_repr.check _ _ _ _ _ _ _ _ ⟨_, ho, rfl⟩ (PySem.F.args_list_repr_1 _) ?_))
    refine wpAny_list_repr_head (g := []) hg (fun v rest kw hm => nomatch hm) ho rfl ?_
    refine wpAny_bind (m := newList []) (wpAny_newObj_type ?_)
    refine wpAny_pure ⟨PySem.F.quiet_list_repr_loop _, ?_⟩
    refine loopA (A := X.A.in1) (P := s.heap.objs.size) (base := 0) ea hlen (fun i w hw => ?_) (by omega) (.inr I.sz) (fun x c e z => ?_) (fun p hp z => ?_) (fun s' u I' => ?_) _ 0 _ #[] _ [] rfl (Nat.zero_le _) (ClX.pin_new I (fun b o e => Heap.get?_push_of_some _ e) (Nat.le_refl _) (Heap.get?_push_size _ rfl) (fun v z => nomatch z)) rfl (by simp)
    · obtain ⟨t', ht', hs'⟩ := hT i w hw
      exact ⟨t', ht', itS_two hs hf F hb hr.in1 hg (fun pins s I => I.env0.in1) hs'⟩
    · obtain ⟨v, o, hc, _⟩ := I.cell x c e
      rw [z] at hc
      exact absurd (Heap.lt_size hc) (Nat.lt_irrefl _)
    · have e := (I.pin p hp).1
      rw [z] at e
      exact absurd (Heap.lt_size e) (Nat.lt_irrefl _)
    · exact ⟨_, _, rfl, .str _, H, I', ⟨u, rfl⟩, q⟩
end
end RtL

set_option maxHeartbeats 4000000
set_option exponentiation.threshold 3000
namespace K70
open PySem PySem.Spec PyProof.Rows L2 RtL ErL
/-! ### numbers in lowest terms -/
def sg (b : Int) (g : Nat) : Int := if b < 0 then -(g : Int) else (g : Int)
def lowS (t b : Int) : Int := sg b (t.natAbs.gcd b.natAbs)
def lowT (t b : Int) : Int := t.fdiv (lowS t b)
def lowB (t b : Int) : Int := b.fdiv (lowS t b)
theorem lowS_ne {t b : Int} (h : b ≠ 0) : lowS t b ≠ 0 := by
  have g : 0 < t.natAbs.gcd b.natAbs := Nat.gcd_pos_of_pos_right _ (Int.natAbs_pos.mpr h)
  unfold lowS sg
  split <;> omega
theorem lowS_abs {t b : Int} : (lowS t b).natAbs = t.natAbs.gcd b.natAbs := by
  unfold lowS sg
  split
  · rw [Int.natAbs_neg]
    exact Int.natAbs_natCast _
  · exact Int.natAbs_natCast _
theorem lowS_bd {t b : Int} {n : Nat} (h : b ≠ 0) (hb : Bd n b) : Bd n (lowS t b) := by
  show (lowS t b).natAbs < _
  rw [lowS_abs]
  exact Nat.lt_of_le_of_lt (Nat.gcd_le_right _ (Int.natAbs_pos.mpr h)) hb
def CDivX : Int → Int → Prop := fun _ j => j ≠ 0 ∧ j.natAbs.log2 < 9000
theorem op_fdivX {X : Cx} : OpR X (binaryOp .FloorDiv) (rI CDivX fun i j => .int (i.fdiv j)) := opI fun _ _ _ _ _ _ _ hc q => floordiv_int hc.1 q (.inl (PyProof.noPylong_of_log2 hc.2))
section
variable {P : Program} {w : World} {K : Fr} {mg : Str → Option Value} {base : Heap} {f : Addr} {fd : FuncData}
/-! ### __init__ -/
abbrev s_initR : Stmt := inR 0
theorem sc_initR : FnScope ["self", "top", "bottom", "shared"] ["self", "top", "bottom"] (defScope s_initR) := ⟨rfl, rfl, rfl, by decide +kernel, rfl, by decide +kernel, by decide +kernel⟩
def spInitR (K : Fr) : Sp := fun vs H Q _ => ∃ (a dx : Addr) (t b : Int), vs = [.ref a, .int t, .int b] ∧ b ≠ 0 ∧ Bd 3000 t ∧ Bd 3000 b ∧ H a = some (.ins (RC K) dx []) ∧ Q .non (upd H a (.ins (RC K) dx [("_top", .int (lowT t b)), ("_bottom", .int (lowB t b))]))
theorem ok_initR (F : FunD K "__init__" "Ratio.__init__" (defArgs s_initR) (defBody s_initR) (defScope s_initR) [.int 1] [] f fd) (T : TT K mg) {fI : Addr} {dI : FuncData}
    (GI : FnOk P w K mg base CX0 1 fI dI ["value"] (spIsint K)) (gI : mg "is_an_integer" = some (.ref fI)) (kI : PySem.W.keepIn K (.ref fI) = true) (bI : Binds K dI ["value"] []) : FnOk P w K mg base CX0 2 f fd ["self", "top", "bottom"] (spInitR K) := by
  refine F.ok sc_initR (fun vs H Q E h => ?_) (fun cdv A outer s H vs Q E hr h => ?_)
  · obtain ⟨a, dx, t, b, rfl, _⟩ := h
    rfl
  · obtain ⟨a, dx, t, b, rfl, hb, ht1, hb1, ea, q⟩ := h
    refine ⟨_, PSs.nox (pss_cons (ps_if (pt_not (pt_val (pe_call GI hr (by rfl) gI kI bI .nil pass0 (pa_cons (pv 1) pa_nil)))) (pss_one ps_never) pss_nil)
      (pss_cons (ps_if (PW.pt (pw_or (pt_not (pt_val (pe_call GI hr (by rfl) gI kI bI .nil pass0 (pa_cons (pv 2) pa_nil)))) (pw_or1 (pt_cmpR op_eq (pv 2) pe_int (nomark _))))) (pss_one ps_never) pss_nil)
      (pss_cons (ps_set (i := 3) sc_initR.nd rfl (Or.inl rfl) (pe_callBfun cr_gcd (by rfl) T.gcd (pa_cons (pv 1) (pa_cons (pv 2) pa_nil))))
      (Evl.pss_cut (ps_if (pt_cmpR op_lt (pv 2) pe_int (nomark _)) (pss_one (ps_set (i := 3) sc_initR.nd rfl (Or.inl rfl) (pe_un un_neg (pv 3)))) pss_nil)
      (pss_cons (ps_fld (pv 0) (pe_op op_fdivX (pv 1) (pv 3)) (by rfl)) (pss_one (ps_fld (pv 0) (pe_op op_fdivX (pv 2) (pv 3)) (by rfl)))))))), ?_⟩
    refine ⟨_, rfl, _, rfl, .inl ⟨t, rfl, true, rfl, iteF ?_⟩⟩
    refine ⟨_, rfl, _, rfl, .inl ⟨b, rfl, true, rfl, iteF ?_⟩⟩
    refine ⟨_, rfl, rfl, false, congrArg V.bl (decide_eq_false fun z => hb (by injection z)), iteF ?_⟩
    refine ⟨_, rfl, _, rfl, t, b, rfl, ?_⟩
    refine ⟨fun σ' H' => H' = H ∧ σ' = [some (.ref a), some (.int t), some (.int b), some (.int (lowS t b))], ?_, ?_⟩
    · refine ⟨_, rfl, b, 0, rfl, rfl, _, rfl, ite2 (fun h => ?_) (fun h => ?_)⟩
      · refine ⟨_, rfl, _, rfl, rfl, ?_⟩
        have z : b < 0 := of_decide_eq_true h
        rw [show lowS t b = -((t.natAbs.gcd b.natAbs : Nat) : Int) from if_pos z]
        rfl
      · have z : ¬ b < 0 := fun y => h (decide_eq_true y)
        refine ⟨rfl, ?_⟩
        rw [show lowS t b = ((t.natAbs.gcd b.natAbs : Nat) : Int) from if_neg z]
        rfl
    rintro σ' H' ⟨rfl, rfl⟩
    have hd : CDivX t (lowS t b) := ⟨lowS_ne hb, bd_log (lowS_bd hb hb1) (by decide)⟩
    refine ⟨_, rfl, _, rfl, t, lowS t b, rfl, rfl, hd, _, rfl, a, _, dx, _, rfl, ea, T.cl, T.nT, by decide, ?_⟩
    refine ⟨_, rfl, _, rfl, b, lowS t b, rfl, rfl, hd, _, rfl, a, _, dx, _, rfl, upd_same, T.cl, T.nB, by show 1 < 1000; decide, ?_⟩
    rw [upd_upd]
    exact q
end
section
variable {K : Fr} {H H1 : Hp} {Q : VK}
/-- what a Ratio that is made asks of its __init__ -/
theorem madeR {p q : Int} (hq : q ≠ 0) (bp : Bd 3000 p) (bq : Bd 3000 q) (c : ∀ x H', Same H1 H' → RatAt K H' x (lowT p q) (lowB p q) → H1 x = none → Q (.ref x) H') :
    ∀ x dx, H1 x = none → H1 dx = none → dx ≠ x → spInitR K [.ref x, .int p, .int q] (upd (upd H1 dx (.own x)) x (.ins (RC K) dx [])) (fun v H2 => v = .non ∧ Q (.ref x) H2) E0 := fun x dx nx nd ne => by
  refine ⟨x, dx, p, q, rfl, hq, bp, bq, upd_same, rfl, ?_⟩
  rw [upd_upd]
  refine c x _ (fun b o e => ?_) ⟨dx, upd_same⟩ nx
  rw [upd_ne (ne_of_none e nx), upd_ne (ne_of_none e nd)]
  exact e
theorem low_one (i : Int) : lowT i 1 = i ∧ lowB i 1 = 1 := by
  have e : lowS i 1 = 1 := by
    unfold lowS sg
    rw [if_neg (by decide), show (1 : Int).natAbs = 1 from rfl, Nat.gcd_one_right]
    rfl
  unfold lowT lowB
  rw [e]
  exact ⟨Int.fdiv_one _, rfl⟩
end
section
variable {P : Program} {w : World} {K : Fr} {mg : Str → Option Value} {base : Heap} {f : Addr} {fd : FuncData}
/-- Ratio's __init__, its arguments both given | the first alone -/
structure IdR (P : Program) (w : World) (K : Fr) (mg : Str → Option Value) (base : Heap) (fd : FuncData) : Prop where
  ok : FnOk P w K mg base CX0 2 (rm K "__init__") fd ["self", "top", "bottom"] (spInitR K)
  b2 : Binds K fd ["self", "top", "bottom"] []
  b1 : ∃ ds, Vals [V.int 1] ds ∧ Binds K fd ["self", "top", "bottom"] ds
section
variable {X : Cx} {k : Nat} {x : Str} {p pos : Pos} {e : Expr} {es : List Expr} {t : TA} {ps : List Str} {sp : Sp}
theorem pe_rat2 (T : TT X.K X.mg) (I : IdR X.prog X.w X.K X.mg X.base fd) (hr : Room 3 X.A) (hg : Gl X "Ratio") (ha : PA X (e :: es) t) (he : starEach (e :: es) X.env = (false, eval e X.env) :: starEach es X.env := by rfl)
    (hpl : (backTo pos (starEach es X.env)).any (·.1) = false := by rfl) : PE X (.Call (.Name "Ratio" p) (e :: es) [] pos) (tMake (RC X.K) (spInitR X.K) [] E0 t) := pe_make T.mkr I.ok hr hg (T.gl "Ratio" (by decide)) I.b2 .nil pass0 ha (by decide) he hpl
theorem pe_rat1 (T : TT X.K X.mg) (I : IdR X.prog X.w X.K X.mg X.base fd) (hr : Room 3 X.A) (hg : Gl X "Ratio") (ha : PA X [e] t) (he : starEach [e] X.env = (false, eval e X.env) :: starEach [] X.env := by rfl)
    (hpl : (backTo pos (starEach [] X.env)).any (·.1) = false := by rfl) : PE X (.Call (.Name "Ratio" p) [e] [] pos) (tMake (RC X.K) (spInitR X.K) [.int 1] E0 t) := by
  obtain ⟨ds, hd, hb⟩ := I.b1
  exact pe_make T.mkr I.ok hr hg (T.gl "Ratio" (by decide)) hb hd pass0 ha (by decide) he hpl
end
def rrep (t b : Int) : Str := "Ratio(" ++ T_ t ++ ", " ++ T_ b ++ ")"
def spTxtR (K : Fr) (g : Int → Int → Str) : Sp := fun vs H Q _ => ∃ a t b, vs = [.ref a] ∧ RatAt K H a t b ∧ Bd 1000 t ∧ Bd 1000 b ∧ Q (.str (g t b)) H
theorem sc_repR : FnScope ["self"] ["self"] (defScope (inR 13)) := ⟨rfl, rfl, rfl, by decide +kernel, rfl, by decide +kernel, by decide +kernel⟩
theorem ok_repR (F : FunD K "__repr__" "Ratio.__repr__" (defArgs (inR 13)) (defBody (inR 13)) (defScope (inR 13)) [] [] f fd) (T : TT K mg) : FnOk P w K mg base CX0 1 f fd ["self"] (spTxtR K rrep) := by
  refine F.ok sc_repR (fun vs H Q E h => ?_) (fun cdv A outer s H vs Q E hr h => ?_)
  · obtain ⟨a, t, b, rfl, _⟩ := h
    rfl
  · obtain ⟨a, t, b, rfl, ⟨dx, ea⟩, ht, hb, q⟩ := h
    have lt := t_len ht
    have lb := t_len hb
    refine ⟨_, PSs.nox (pss_one (ps_ret (pe_joined (.cons pe_str (.cons (pe_fmt (pe_fld (pv 0) rfl)) (.cons pe_str (.cons (pe_fmt (pe_fld (pv 0) rfl)) (.cons pe_str .nil)))))))), ?_⟩
    have l1 : ("Ratio(" : Str).length = 6 := rfl
    have l2 : (", " : Str).length = 2 := rfl
    have l3 : (")" : Str).length = 1 := rfl
    refine ⟨"Ratio(", rfl, ?_, _, rfl, a, _, dx, _, _, rfl, ea, T.cl, T.nT, rfl, .inr ⟨t, rfl, log_of ht, T_ t, rfl, ?_, ", ", rfl, ?_, _, rfl, a, _, dx, _, _, rfl, ea, T.cl, T.nB, rfl, .inr ⟨b, rfl, log_of hb, T_ b, rfl, ?_, ")", rfl, ?_, ?_⟩⟩⟩
    · rw [nil_app, sizeLine_eq, l1]
      omega
    · rw [nil_app, strLen_append, sizeLine_eq, l1]
      omega
    · rw [nil_app, strLen_append, strLen_append, sizeLine_eq, l1, l2]
      omega
    · rw [nil_app, strLen_append, strLen_append, strLen_append, sizeLine_eq, l1, l2]
      omega
    · rw [nil_app, strLen_append, strLen_append, strLen_append, strLen_append, sizeLine_eq, l1, l2, l3]
      omega
    · rw [nil_app]
      exact q
theorem madeR_at {K : Fr} {H1 : Hp} {R : VK} {x dx : Addr} {p q : Int} (nx : H1 x = none) (nd : H1 dx = none) (ne : dx ≠ x) (hq : q ≠ 0) (bp : Bd 3000 p) (bq : Bd 3000 q) (c : ∀ H', Same H1 H' → RatAt K H' x (lowT p q) (lowB p q) → R .non H') :
    spInitR K [.ref x, .int p, .int q] (upd (upd H1 dx (.own x)) x (.ins (RC K) dx [])) R E0 := by
  refine ⟨x, dx, p, q, rfl, hq, bp, bq, upd_same, ?_⟩
  rw [upd_upd]
  refine c _ (fun b o e => ?_) ⟨dx, upd_same⟩
  rw [upd_ne (ne_of_none e nx), upd_ne (ne_of_none e nd)]
  exact e
end
end K70

set_option maxHeartbeats 1000000
/-! a binary operator by the left one's method, the right one an object of another own class -/
namespace RtL
open PySem PySem.Spec PyProof.Rows L2
section
variable {prog : Program} {w : World} {K : PySem.W.Frag} {A : Around} {E : Value → Shared → Prop} {s : Shared} {x f g C D : Addr} {ox : Obj} {od : Option Obj}
open PySem.W in
theorem bin_O {op : Operator} {b : Value} {Q : Value → Shared → Prop} (X : K.In s.heap) (I : InstAt s.heap x ox C od) (tb : Looks (model prog w) s.heap (typeOf b) (.ref D)) (ne : C ≠ D) (hc : selfFirst K C = true) (hd : selfFirst K D = true)
    (hs : findIn K (.ref C) (PySem.dunder op.info.2) = some (some (.ref f))) (hf : isFn K (.ref f) = true) (hr : findIn K (.ref C) (dunderR op.info.2) = some none)
    (gs : findIn K (.ref D) (PySem.dunder op.info.2) = some (some (.ref g))) (gr : findIn K (.ref D) (dunderR op.info.2) = some none) (hsub : subIn K (.ref D) (.ref C) = some false)
    (h : wpAny (model prog w) A (call (.ref f) [.ref x, b]) (PySem.W.CmpBack Q) E s) : wpAny (model prog w) A (binaryOp op (.ref x) b) Q E s := by
  obtain ⟨cd, rest, c1, c2⟩ := ksp_first hc
  obtain ⟨dd, rest', d1, d2⟩ := ksp_first hd
  rcases hi : op.info with ⟨sym, nn⟩
  rw [hi] at hs hr gs gr
  dsimp only at hs hr gs gr
  have got := ksp_try X I hs hf h
  obtain ⟨hh, gg, d, tt, os⟩ := s
  have t1 : Looks (model prog w) hh (typeOf (.ref x)) (.ref C) := I.type
  have t2 : Looks (model prog w) hh (typeOf b) (.ref D) := tb
  have t3 : Looks (model prog w) hh (fillsNumberSlot (.ref C) nn) true := fills_K X c1 c2 hs
  have t4 : Looks (model prog w) hh (fillsNumberSlot (.ref D) nn) true := fills_K X d1 d2 gs
  have t5 : Looks (model prog w) hh (isSubtype (.ref D) (.ref C)) false := looks_subIn X hsub
  have t6 : Looks (model prog w) hh (numberSlotInPython (.ref C) nn) true := ksp_inPy X hs hr (.inl rfl)
  have t7 : Looks (model prog w) hh (numberSlotInPython (.ref D) nn) true := ksp_inPy X gs gr (.inl rfl)
  have nb : (Value.ref C == Value.ref D) = false := Bool.eq_false_iff.mpr fun q => ne (Value.ref.inj (beq_iff_eq.mp q))
  simp only [binaryOp, hi]
  refine wpAny_holding (wpAny_bind ?_)
  unfold binaryOp1
  refine wpAny_bind (t1.at (wpAny_bind (t2.at (wpAny_bind (t3.at ?_)))))
  simp only [nb, Bool.false_eq_true, if_false]
  ksp_lk
  refine wpAny_mono got (fun r s' z => ?_) fun _ _ e => e
  obtain ⟨v, rfl, hq⟩ := z
  ksp_lk
  exact hq
end
section
variable {X : Cx} {CX : CXT} {k : Nat} {f C D g : Addr} {fd : FuncData} {sp : Sp} {E : XK} {ps : List Str}
/-- x op y, y an object of the class D -/
def rBin2 (C D : Addr) (sp : Sp) (E : XK) : R2 := fun x y H Q => ∃ a dx fs b dy gs, x = .ref a ∧ H a = some (.ins C dx fs) ∧ y = .ref b ∧ H b = some (.ins D dy gs) ∧ sp [.ref a, y] H Q E
theorem op_bin2 {op : Operator} (O : OpOf X.K C f (PySem.dunder op.info.2) (PySem.dunderR op.info.2)) (ne : C ≠ D) (hd : PySem.W.selfFirst X.K D = true) (gs : PySem.W.findIn X.K (.ref D) (PySem.dunder op.info.2) = some (some (.ref g)))
    (gr : PySem.W.findIn X.K (.ref D) (PySem.dunderR op.info.2) = some none) (hsub : PySem.W.subIn X.K (.ref D) (.ref C) = some false)
    (F : FnOk X.prog X.w X.K X.mg X.base CX k f fd ps sp) (hr : Room k X.A) (hb : Binds X.K fd ps []) (hx : Passes CX X E) : OpR X (binaryOp op) (rBin2 C D sp E) := by
  intro pins s σ H x y v u Q I rx ry h
  obtain ⟨a, dx, fs, b, dy, gs', rfl, ha, rfl, hb2, q⟩ := h
  cases (show v = Value.ref a from rx)
  cases (show u = Value.ref b from ry)
  obtain ⟨_, oa, _⟩ := ins_get I.hok ha
  obtain ⟨_, J, _⟩ := oa.look
  obtain ⟨_, ob, _⟩ := ins_get I.hok hb2
  obtain ⟨_, J2, _⟩ := ob.look
  refine bin_O I.kIn J J2.type ne O.me hd O.at_ O.fn O.re gs gr hsub ?_
  exact wpAny_mono (run_fn F hr hb .nil hx I (us := [.ref a, .ref b]) (vs := [.ref a, .ref b]) (.cons rfl (.cons ry .nil)) q) (fun w s' z => (by
    obtain ⟨z', H', I', rz, qz⟩ := z
    exact SlX.cmpback rz ⟨z', H', I', rz, qz⟩ : PySem.W.CmpBack (EP X pins σ Q) w s')) fun _ _ x => x
end
end RtL

set_option maxHeartbeats 4000000
set_option exponentiation.threshold 3000
namespace RtL
open PySem PySem.Spec PyProof.Rows L2 ErL
section
variable {P : Program} {w : World} {K : Fr} {mg : Str → Option Value} {base : Heap} {f : Addr} {fd : FuncData}
/-- the code object of a def -/
def codeIs (K : Fr) (f c : Addr) : Prop := ∃ oc od fd osl, K.lookup f = some ⟨oc, od, .func fd, osl⟩ ∧ fd.code = .ref c
theorem fnG_Dc {k : Nat} {ps N : List Str} {sp : SpG} {x qual : Str} {params : Arguments} {body : List Stmt} {scope : Scope} {c : Addr} (F : FunD K x qual params body scope [] [] f fd) (hc : codeIs K f c) (S : FnScope N ps scope) (len : ∀ vs H Q, sp vs H Q → vs.length = ps.length)
    (hbody : ∀ (A : Around) (outer : List Env) (s : Shared) (H : Hp) (vs : List V) (Q : VK), Room k (A.deeper (envOfC qual scope s.heap.objs.size f (.ref c))) →
      (A.deeper (envOfC qual scope s.heap.objs.size f (.ref c))).guards = some [] → sp vs H Q →
      ∃ t, PSs (cxOf CX0 P w K mg base N qual scope f (.ref c) A outer s H E0).nox body t ∧ t { nx := fun _ H' => Q .non H', rt := Q } (start N vs) H) :
    FnG P w K mg base (k + 1) f fd ps sp := by
  obtain ⟨oc, od, dV, kV, doc, pm, an, cdv, ct, osl, rfl, lk, hcd, _, _⟩ := F.ex
  obtain ⟨oc', od', fd', osl', lk', hcc⟩ := hc
  rw [lk] at lk'
  obtain rfl : cdv = .ref c := by
    injection lk' with e
    injection e with e1 e2 e3 e4
    injection e3 with e3
    rw [← hcc, ← e3]
  refine ⟨len, fun A outer s H args us vs Q hr hg e0 hb r hsp => ?_⟩
  exact LamX.run_ofS (N := N) lk hcd S hr e0 hb r (len _ _ _ hsp) fun hr' => by
    obtain ⟨t, ht, hq⟩ := hbody A outer s H vs Q hr' (guards_deeper hg) hsp
    exact ⟨t, ht.nox, hq⟩
end
end RtL
namespace K70
open PySem PySem.Spec PyProof.Rows L2 RtL ErL StX LamX
def lift_or {X : Cx} {f : Value} {R1 R2 : List V → Hp → VK → Prop} (h1 : CallR X f R1) (h2 : CallR X f R2) : CallR X f (fun xs H Q => R1 xs H Q ∨ R2 xs H Q) := fun pins s σ H xs us Q I r h => h.elim (h1 pins s σ H xs us Q I r) (h2 pins s σ H xs us Q I r)
def op_or {X : Cx} {g : Value → Value → Sem Value} {R1 R2 : R2} (h1 : OpR X g R1) (h2 : OpR X g R2) : OpR X g (fun x y H Q => R1 x y H Q ∨ R2 x y H Q) := fun pins s σ H x y v u Q I rx ry h => h.elim (h1 pins s σ H x y v u Q I rx ry) (h2 pins s σ H x y v u Q I rx ry)
section
variable {K : Fr}
theorem RatAt.ext {H H' : Hp} {a : Addr} {t b : Int} (h : RatAt K H a t b) (s : ExtN H H') : RatAt K H' a t b := let ⟨dx, e⟩ := h; ⟨dx, s _ _ e fun _ z => nomatch z⟩
theorem PolAt.ext {H H' : Hp} {a : Addr} {cs : List Int} (h : PolAt K H a cs) (s : ExtN H H') : PolAt K H' a cs := let ⟨dx, t, e, e'⟩ := h; ⟨dx, t, s _ _ e (fun _ z => nomatch z), s _ _ e' fun _ z => nomatch z⟩
theorem PotAt.ext {H H' : Hp} {p : Addr} (h : PotAt H p) (s : ExtN H H') : PotAt H' p := let ⟨x, y, e, r⟩ := h; ⟨x, y, s _ _ e (fun _ z => nomatch z), r⟩
/-- what is drawn where no number, no polynomial is due -/
inductive Val (K : Fr) (p : Addr) (H : Hp) : V → Prop
  | non : Val K p H .non
  | bl (b : Bool) : Val K p H (.bl b)
  | str (z : Str) (h : z = "1" ∨ z = "" ∨ z = "d") : Val K p H (.str z)
  | lst {a : Addr} {xs : List Int} (e : H a = some (.lst (xs.map V.int))) (n : a ≠ p) (h : xs = [] ∨ xs = [1]) : Val K p H (.ref a)
  | tup {a : Addr} {xs : List Int} (e : H a = some (.tup (xs.map V.int))) (h : xs = [1] ∨ xs = [1, 2]) : Val K p H (.ref a)
  | dct {a : Addr} (e : H a = some (.dK [])) : Val K p H (.ref a)
  | rat {a : Addr} {t b : Int} (r : RatAt K H a t b) (h : Bd 200 t) (h' : Bd 200 b) : Val K p H (.ref a)
theorem Val.but {p : Addr} {H H' : Hp} {v : V} (h : Val K p H v) (hp : PotAt H p) (s : But p H H') : Val K p H' v := by
  cases h with
  | non => exact .non
  | bl b => exact .bl b
  | str z h => exact .str z h
  | lst e n h => exact .lst (s _ _ e n) n h
  | tup e h => exact .tup (s _ _ e (hp.nt e)) h
  | dct e =>
    obtain ⟨_, _, ep, _⟩ := hp
    exact .dct (s _ _ e fun z => by rw [z, ep] at e; cases e)
  | rat r h h' =>
    obtain ⟨dx, e⟩ := r
    exact .rat ⟨dx, s _ _ e (hp.ni e)⟩ h h'
theorem Val.ext {p : Addr} {H H' : Hp} {v : V} (h : Val K p H v) (s : ExtN H H') : Val K p H' v := by
  cases h with
  | non => exact .non
  | bl b => exact .bl b
  | str z h => exact .str z h
  | lst e n h => exact .lst (s _ _ e fun _ z => nomatch z) n h
  | tup e h => exact .tup (s _ _ e fun _ z => nomatch z) h
  | dct e => exact .dct (s _ _ e fun _ z => nomatch z)
  | rat r h h' => exact .rat (r.ext s) h h'
theorem Val.odd {p : Addr} {H : Hp} {v : V} (h : Val K p H v) : Odd K H v := by
  cases h with
  | non => exact .inl ⟨_, .non⟩
  | bl b => exact .inl ⟨_, .bl b⟩
  | str z h => exact .inl ⟨_, .str z⟩
  | lst e n h => exact .inl ⟨_, .lst e⟩
  | tup e h => exact .inl ⟨_, .tup e⟩
  | dct e => exact .inl ⟨_, .dct e⟩
  | rat r h h' => exact .inr ⟨_, _, _, rfl, r⟩
/-- .. or a small whole number -/
def Far (K : Fr) (p : Addr) (H : Hp) (v : V) : Prop := Val K p H v ∨ ∃ i : Int, v = .int i ∧ (i = 0 ∨ i = 1 ∨ i = -3)
theorem Far.ext {p : Addr} {H H' : Hp} {v : V} (h : Far K p H v) (s : ExtN H H') : Far K p H' v := h.imp (fun z => z.ext s) id
theorem Far.oddP {p : Addr} {H : Hp} {v : V} (h : Far K p H v) : OddP K H v := h.elim (fun z => .inr z.odd) fun ⟨i, e, _⟩ => .inl ⟨i, e⟩
structure OkS (d : PyData) : Prop where
  sh : d.showable = true
  dp : d.depth ≤ 5
  sz : d.shown.length ≤ 100
/-- shown as data, or a ratio -/
def ShV (K : Fr) (H : Hp) (v : V) (d : PyData ⊕ (Int × Int)) : Prop := match d with
  | .inl d => Dq H v d ∧ OkS d
  | .inr (p, q) => ∃ x, v = .ref x ∧ RatAt K H x p q ∧ Bd 200 p ∧ Bd 200 q
theorem Far.shv {p : Addr} {H : Hp} {v : V} (h : Far K p H v) : ∃ d, ∀ H', ExtN H H' → ShV K H' v d := by
  have go : ∀ d : PyData, OkS d → (∀ H', ExtN H H' → Dq H' v d) → ∃ d, ∀ H', ExtN H H' → ShV K H' v d := fun d ok k => ⟨.inl d, fun H' e => ⟨k H' e, ok⟩⟩
  rcases h with h | ⟨i, rfl, h⟩
  · cases h with
    | non => exact go .none ⟨rfl, Nat.le_of_ble_eq_true rfl, Nat.le_of_ble_eq_true rfl⟩ fun _ _ => .non
    | bl b => exact go (.bool b) ⟨rfl, Nat.le_of_ble_eq_true rfl, by cases b <;> exact Nat.le_of_ble_eq_true rfl⟩ fun _ _ => .bl b
    | str z h =>
      refine go (.str z) ⟨rfl, Nat.le_of_ble_eq_true rfl, ?_⟩ fun _ _ => .str z
      rcases h with rfl | rfl | rfl
      · exact Nat.le_trans (shown_str (cps_of "1")).2 (Nat.le_of_ble_eq_true rfl)
      · exact Nat.le_trans (shown_str (cps_of "")).2 (Nat.le_of_ble_eq_true rfl)
      · exact Nat.le_trans (shown_str (cps_of "d")).2 (Nat.le_of_ble_eq_true rfl)
    | @lst a xs e n h =>
      refine go (.list (xs.map PyData.int)) ?_ fun H' s => .lst (s _ _ e fun _ z => nomatch z) (dq_ints _ _)
      rcases h with rfl | rfl
      · exact ⟨rfl, Nat.le_of_ble_eq_true rfl, Nat.le_of_ble_eq_true rfl⟩
      · exact ⟨rfl, Nat.le_of_ble_eq_true rfl, Nat.le_of_ble_eq_true rfl⟩
    | @tup a xs e h =>
      refine go (.tuple (xs.map PyData.int)) ?_ fun H' s => .tup (s _ _ e fun _ z => nomatch z) (dq_ints _ _)
      rcases h with rfl | rfl
      · exact ⟨rfl, Nat.le_of_ble_eq_true rfl, Nat.le_of_ble_eq_true rfl⟩
      · exact ⟨rfl, Nat.le_of_ble_eq_true rfl, Nat.le_of_ble_eq_true rfl⟩
    | dct e => exact go (.dict []) ⟨rfl, Nat.le_of_ble_eq_true rfl, Nat.le_of_ble_eq_true rfl⟩ fun H' s => .dct (s _ _ e fun _ z => nomatch z) .nil
    | rat r h h' => exact ⟨.inr (_, _), fun H' s => ⟨_, rfl, r.ext s, h, h'⟩⟩
  · refine go (.int i) ?_ fun _ _ => .int i
    rcases h with rfl | rfl | rfl
    · exact ⟨rfl, Nat.le_of_ble_eq_true rfl, Nat.le_of_ble_eq_true rfl⟩
    · exact ⟨rfl, Nat.le_of_ble_eq_true rfl, Nat.le_of_ble_eq_true rfl⟩
    · exact ⟨rfl, Nat.le_of_ble_eq_true rfl, Nat.le_of_ble_eq_true rfl⟩
abbrev rRepU (K : Fr) : List V → Hp → VK → Prop := fun xs H Q => rReprW xs H Q ∨ rReprS (RC K) (spTxtR K rrep) xs H Q
def Knd (k : Str) : Prop := k = "number" ∨ k = "polynomial"
theorem Knd.len {k : Str} (h : Knd k) : (reprText k).length ≤ 102 := by
  rcases h with rfl | rfl
  · exact Nat.le_trans (shown_str (cps_of "number")).2 (Nat.le_of_ble_eq_true rfl)
  · exact Nat.le_trans (shown_str (cps_of "polynomial")).2 (Nat.le_of_ble_eq_true rfl)
theorem rrep_len {p q : Int} (bp : Bd 200 p) (bq : Bd 200 q) : (rrep p q).length ≤ 2100 := by
  have lp := t_len (bd_up bp (show 200 ≤ 1000 by decide))
  have lq := t_len (bd_up bq (show 200 ≤ 1000 by decide))
  have l2 : ("Ratio(" : Str).length = 6 := rfl
  have l3 : (", " : Str).length = 2 := rfl
  have l4 : (")" : Str).length = 1 := rfl
  show ("Ratio(" ++ T_ p ++ ", " ++ T_ q ++ ")" : Str).length ≤ _
  rw [strLen_append, strLen_append, strLen_append, strLen_append]
  omega
def dRow (k : Str) (d : PyData) : PyData := .list [.str k, d, .bool true]
theorem row_len {k : Str} (hk : Knd k) {x : Str} (h : x.length ≤ 2100) : (listText [reprText k, x, Str.ofString "True"]).length ≤ 2300 := by
  have a := listText_len_le [reprText k, x, Str.ofString "True"]
  have b := hk.len
  have c : (Str.ofString "True").length = 4 := rfl
  simp only [List.map_cons, List.map_nil, List.sum_cons, List.sum_nil, List.length_cons, List.length_nil] at a
  omega
theorem depth_row {k : Str} {d : PyData} (ok : OkS d) : (dRow k d).depth ≤ 6 := by
  have := ok.dp
  show max 0 (max d.depth (max 0 0)) + 1 ≤ 6
  omega
theorem okw_row {k : Str} (hk : Knd k) {d : PyData} (ok : OkS d) : OkW (dRow k d) := by
  refine ⟨?_, Nat.le_trans (depth_row ok) (by decide), ?_⟩
  · show (true && (d.showable && (true && true))) = true
    rw [ok.sh]
    rfl
  · have := row_len hk (x := d.shown) (Nat.le_trans ok.sz (by decide))
    rw [sizeLine_eq]
    exact Nat.le_trans this (by decide)
theorem okw_row3 {k : Str} (hk : Knd k) {d : PyData} (ok : OkS d) : OkW (.list [dRow k d, dRow k d, dRow k d]) := by
  have h1 := depth_row (k := k) ok
  have h2 := row_len hk (x := d.shown) (Nat.le_trans ok.sz (by decide))
  refine ⟨?_, ?_, ?_⟩
  · have e := (okw_row hk ok).sh
    show ((dRow k d).showable && ((dRow k d).showable && ((dRow k d).showable && true))) = true
    rw [e]
    rfl
  · show max (dRow k d).depth (max (dRow k d).depth (max (dRow k d).depth 0)) + 1 ≤ 20
    omega
  · have a := listText_len_le [(dRow k d).shown, (dRow k d).shown, (dRow k d).shown]
    have e : (dRow k d).shown = listText [reprText k, d.shown, Str.ofString "True"] := rfl
    show (listText [(dRow k d).shown, (dRow k d).shown, (dRow k d).shown]).length ≤ _
    simp only [List.map_cons, List.map_nil, List.sum_cons, List.sum_nil, List.length_cons, List.length_nil] at a
    rw [e] at a ⊢
    rw [sizeLine_eq]
    omega
theorem row_items {H : Hp} {x : Addr} {p q : Int} {k : Str} (r : RatAt K H x p q) (bp : Bd 200 p) (bq : Bd 200 q) : ∀ (i : Nat) (v : V), [V.str k, .ref x, .bl true][i]? = some v → ∃ t, [reprText k, rrep p q, Str.ofString "True"][i]? = some t ∧ ShS (RC K) (spTxtR K rrep) H v t := by
  intro i v hi
  match i, hi with
  | 0, hi => cases hi; exact ⟨_, rfl, .inr (.inr ⟨k, rfl, rfl⟩)⟩
  | 1, hi =>
    cases hi
    obtain ⟨dx, ex⟩ := r
    exact ⟨_, rfl, .inl (.inr ⟨x, dx, _, rfl, ex, fun Q hq => ⟨x, p, q, rfl, ⟨dx, ex⟩, bd_up bp (by decide), bd_up bq (by decide), hq⟩⟩)⟩
  | 2, hi => cases hi; exact ⟨_, rfl, .inr (.inl ⟨true, rfl, rfl⟩)⟩
  | n + 3, hi => cases hi
theorem far_one {p : Addr} {H : Hp} {v : V} {k : Str} (hk : Knd k) (h : Far K p H v) : ∃ z : Str, ∀ (H' : Hp) (L : Addr) (Q : VK), ExtN H H' → H' L = some (.lst [.str k, v, .bl true]) → Q (.str z) H' → rRepU K [.ref L] H' Q := by
  obtain ⟨d, hd⟩ := h.shv
  match d, hd with
  | .inl d, hd =>
    refine ⟨(dRow k d).shown, fun H' L Q s e q => .inl ?_⟩
    obtain ⟨dq, ok⟩ := hd H' s
    exact ⟨L, dRow k d, rfl, .lst e (.cons (.str k) (.cons dq (.cons (.bl true) .nil))), okw_row hk ok, q⟩
  | .inr (a, b), hd =>
    refine ⟨listText [reprText k, rrep a b, Str.ofString "True"], fun H' L Q s e q => .inr ?_⟩
    obtain ⟨x, rfl, r, ba, bb⟩ := hd H' s
    refine ⟨L, _, [reprText k, rrep a b, Str.ofString "True"], rfl, e, by simp, rfl, fun i v hi => ?_, ?_, q⟩
    · obtain ⟨t, ht, sh⟩ := row_items (k := k) r ba bb i v hi
      exact ⟨t, ht, .inl sh⟩
    · rw [sizeLine_eq]
      exact Nat.le_trans (row_len hk (rrep_len ba bb)) (by decide)
theorem far_three {p : Addr} {H : Hp} {v : V} {k : Str} (hk : Knd k) (h : Far K p H v) : ∃ z : Str, ∀ (H' : Hp) (L l1 l2 l3 : Addr) (Q : VK), ExtN H H' → H' L = some (.lst [.ref l1, .ref l2, .ref l3]) → H' l1 = some (.lst [.str k, v, .bl true]) → H' l2 = some (.lst [.str k, v, .bl true]) → H' l3 = some (.lst [.str k, v, .bl true]) → Q (.str z) H' → rRepU K [.ref L] H' Q := by
  obtain ⟨d, hd⟩ := h.shv
  match d, hd with
  | .inl d, hd =>
    refine ⟨(PyData.list [dRow k d, dRow k d, dRow k d]).shown, fun H' L l1 l2 l3 Q s e e1 e2 e3 q => .inl ?_⟩
    obtain ⟨dq, ok⟩ := hd H' s
    have row : ∀ {l : Addr}, H' l = some (.lst [.str k, v, .bl true]) → Dq H' (.ref l) (dRow k d) := fun e => .lst e (.cons (.str k) (.cons dq (.cons (.bl true) .nil)))
    exact ⟨L, _, rfl, .lst e (.cons (row e1) (.cons (row e2) (.cons (row e3) .nil))), okw_row3 hk ok, q⟩
  | .inr (a, b), hd =>
    refine ⟨listText [listText [reprText k, rrep a b, Str.ofString "True"], listText [reprText k, rrep a b, Str.ofString "True"], listText [reprText k, rrep a b, Str.ofString "True"]], fun H' L l1 l2 l3 Q s e e1 e2 e3 q => .inr ?_⟩
    obtain ⟨x, rfl, r, ba, bb⟩ := hd H' s
    have row : ∀ {l : Addr}, H' l = some (.lst [.str k, .ref x, .bl true]) → ShU (RC K) (spTxtR K rrep) H' L (.ref l) (listText [reprText k, rrep a b, Str.ofString "True"]) := fun {l} el => by
      refine .inr ⟨l, _, [reprText k, rrep a b, Str.ofString "True"], rfl, fun z => ?_, el, by simp, rfl, row_items r ba bb, rfl⟩
      rw [z, e] at el
      injection el with el
      injection el with el
      injection el with el
      cases el
    refine ⟨L, _, [_, _, _], rfl, e, by simp, rfl, fun i v hi => ?_, ?_, q⟩
    · match i, hi with
      | 0, hi => cases hi; exact ⟨_, rfl, row e1⟩
      | 1, hi => cases hi; exact ⟨_, rfl, row e2⟩
      | 2, hi => cases hi; exact ⟨_, rfl, row e3⟩
      | n + 3, hi => cases hi
    · have l := row_len hk (rrep_len ba bb)
      have m := listText_len_le [listText [reprText k, rrep a b, Str.ofString "True"], listText [reprText k, rrep a b, Str.ofString "True"], listText [reprText k, rrep a b, Str.ofString "True"]]
      simp only [List.map_cons, List.map_nil, List.sum_cons, List.sum_nil, List.length_cons, List.length_nil] at m
      rw [sizeLine_eq]
      omega
end
end K70

set_option maxHeartbeats 8000000
set_option exponentiation.threshold 3000
namespace K70
open PySem PySem.Spec PyProof.Rows L2 RtL ErL StX LamX
section
variable {P : Program} {w : World} {K : Fr} {mg : Str → Option Value} {base : Heap} {f : Addr} {fd : FuncData}
structure RefD (K : Fr) (mg : Str → Option Value) : Prop where
  ex : ∃ g fd, FunD K "_law_refused" "_law_refused" (defArgs sRf) (defBody sRf) (defScope sRf) [] [] g fd ∧ mg "_law_refused" = some (.ref g) ∧ Binds K fd ["_law_call"] []
/-- what refuses what is no number, no polynomial -/
structure OpsX (P : Program) (w : World) (K : Fr) (mg : Str → Option Value) (base : Heap) : Prop where
  ini : FnR P w K mg base (L2.CX P w) 2 (pm K "__init__") (spInitX K)
  at_ : ∃ d, FnOk P w K mg base (L2.CX P w) 2 (pm K "at") d ["self", "d"] (spAtX K) ∧ Binds K d ["self", "d"] []
  add : ∃ d, FnOk P w K mg base (L2.CX P w) 4 (pm K "__add__") d ["self", "other"] (spBinX K) ∧ Binds K d ["self", "other"] []
  sub : ∃ d, FnOk P w K mg base (L2.CX P w) 4 (pm K "__sub__") d ["self", "other"] (spBinX K) ∧ Binds K d ["self", "other"] []
  mul : ∃ d, FnOk P w K mg base (L2.CX P w) 4 (pm K "__mul__") d ["self", "other"] (spBinX K) ∧ Binds K d ["self", "other"] []
abbrev sRr : Stmt := top 34
abbrev NRr : List Str := ["_law_rng_here", "_law_made_here", "_law_told", "_law_far", "_law_odd"]
theorem scRr : FnScope NRr ["_law_rng_here", "_law_made_here"] (defScope sRr) := ⟨rfl, rfl, rfl, by decide +kernel, rfl, by decide +kernel, by decide +kernel⟩
abbrev lamQ : Str := "_law_refusals_right" ++ ".<locals>." ++ "<lambda>"
abbrev rrX (P : Program) (w : World) (K : Fr) (mg : Str → Option Value) (base : Heap) (f c : Addr) (A : Around) (outer : List Env) (s : Shared) (H : Hp) : Cx := (cxOf CX0 P w K mg base NRr "_law_refusals_right" (defScope sRr) f (.ref c) A outer s H E0).nox
theorem pe_refd {c Pt : Addr} {A : Around} {outer : List Env} {s : Shared} {H : Hp} {params : Arguments} {body : Expr} {scope : Scope} {lpos p pos : Pos} {t : XK → TE} (T : TT K mg) (R : RefD K mg) (TB : TabB base mg c Pt)
    (hr : Room 7 (A.deeper (envOfC "_law_refusals_right" (defScope sRr) s.heap.objs.size f (.ref c)))) (hG : (A.deeper (envOfC "_law_refusals_right" (defScope sRr) s.heap.objs.size f (.ref c))).guards = some [])
    (L : LamS (defScope sRr) scope) (hdef : defaultsOf params (rrX P w K mg base f c A outer s H).env = ([], []))
    (hbind : ∀ (q : Str) (cl : List (Str × Addr)) (pm cv ctv : Value), bindArgs (PySem.W.kla_fn "<lambda>" q params body scope cl pm cv ctv) ⟨[], []⟩ = pure [])
    (hbody : ∀ (A1 : Around) (outer1 : List Env) (s1 : Shared) (H1 : Hp) (E : XK) (f1 c1 : Addr), Room 5 (A1.deeper (lamEnv (rrX P w K mg base f c A outer s H) scope s1.heap.objs.size f1 c1)) → PE (lamCx (rrX P w K mg base f c A outer s H) A1 outer1 s1 H1 E scope f1 c1) body (t E)) :
    PE (rrX P w K mg base f c A outer s H) (.Call (.Name "_law_refused" p) [.Lambda params body scope lpos] [] pos) (tLam [(Pt, lamQ)] (TTf K) t) := by
  obtain ⟨g, fdR, FR, gR, bR⟩ := R.ex
  obtain ⟨oc, od, dV, kV, doc, pm, an, cdv, ct, osl, rfl, lk, hcd, _, _⟩ := FR.ex
  exact pe_lamcall1 (X := rrX P w K mg base f c A outer s H) (by rfl) gR FR.kp lk hcd bR scRf rfl (.inl rfl) (gives_ref (X := rrX P w K mg base f c A outer s H) rfl rfl rfl rfl rfl T) TB rfl (List.mem_singleton.mpr rfl) (fun p hp _ => by rw [List.mem_singleton.mp hp]; rfl) hr hG L hdef hbind hbody
theorem odd_sub (T : TT K mg) : ∀ t ∈ oddT, PySem.W.subIn K (.type t) (.ref (PC K)) = some false := fun t ht => T.nto t (by revert t; decide)
theorem pc_ne (T : TT K mg) : PC K ≠ RC K := fun z => by
  have a := T.kitP
  have b := T.kitR
  rw [← z] at b
  rw [a] at b
  cases b
abbrev rFar (K : Fr) (E : XK) : R2 := fun x y H Q => rAllBin (PC K) (spBinX K) E x y H Q ∨ rBin2 (PC K) (RC K) (spBinX K) E x y H Q
theorem bin_far {p : Addr} {H : Hp} {a : Addr} {v : V} {as : List Int} {E : XK} {Q : VK} (ha : PolAt K H a as) (hv : Far K p H v) (r : Ref (IP K) H v E) : rFar K E (.ref a) v H Q := by
  have sp : spBinX K [.ref a, v] H Q E := ⟨a, v, as, rfl, ha, hv.oddP, r⟩
  obtain ⟨dx, t, ea, _⟩ := ha
  rcases hv with hv | ⟨i, rfl, _⟩
  · rcases hv.odd with ⟨t', o⟩ | ⟨b, x, y, rfl, dy, eb⟩
    · exact .inl (.inr ⟨a, dx, _, t', rfl, ea, o, sp⟩)
    · exact .inr ⟨a, dx, _, b, dy, _, rfl, ea, rfl, eb, sp⟩
  · exact .inl (.inl ⟨a, dx, _, rfl, ea, .inl ⟨i, rfl⟩, sp⟩)
def ExtP (p : Addr) (H H' : Hp) : Prop := ∀ b o, H b = some o → b ≠ p → (∀ ps, o ≠ .tbl ps) → H' b = some o
theorem ExtP.but {p : Addr} {H H' : Hp} (b : But p H H') : ExtP p H H' := fun c o e n _ => b c o e n
theorem ExtP.ext {p : Addr} {H H' : Hp} (b : ExtN H H') : ExtP p H H' := fun c o e _ n => b c o e n
theorem ExtP.trans {p : Addr} {H H1 H2 : Hp} (a : ExtP p H H1) (b : ExtP p H1 H2) : ExtP p H H2 := fun c o e n m => b c o (a c o e n m) n m
theorem tabs_but {T : List (Addr × Str)} {H H' : Hp} {p : Addr} (t : Tabs T H) (hp : PotAt H p) (b : But p H H') : Tabs T H' := by
  intro pr hpr
  obtain ⟨ps, e, tr, c⟩ := t pr hpr
  obtain ⟨_, _, ep, _⟩ := hp
  refine ⟨ps, b _ _ e (fun z => by rw [z, ep] at e; cases e), tr, fun pos cv hc => ?_⟩
  obtain ⟨c1, e1, e2⟩ := c pos cv hc
  exact ⟨c1, e1, b _ _ e2 (fun z => by rw [z, ep] at e2; cases e2)⟩
theorem tabs_lst {T : List (Addr × Str)} {H : Hp} {l : Addr} {xs ys : List V} (t : Tabs T H) (h : H l = some (.lst xs)) : Tabs T (upd H l (.lst ys)) := by
  intro pr hp
  obtain ⟨ps, e, tr, c⟩ := t pr hp
  refine ⟨ps, ?_, tr, fun pos cv hc => ?_⟩
  · rw [upd_ne (fun z => by rw [z, h] at e; cases e)]
    exact e
  · obtain ⟨c1, e1, e2⟩ := c pos cv hc
    refine ⟨c1, e1, ?_⟩
    rw [upd_ne (fun z => by rw [z, h] at e2; cases e2)]
    exact e2
def spRr (K : Fr) (Pt : Addr) : SpG := fun vs H Q => ∃ p a row, vs = [.ref p, .ref a] ∧ Tabs [(Pt, lamQ)] H ∧ PotAt H p ∧ PolAt K H a row ∧ ∀ H', PotAt H' p → ExtP p H H' → Tabs [(Pt, lamQ)] H' → Q (.bl true) H'
theorem ok_rr {c Pt : Addr} (F : FunD K "_law_refusals_right" "_law_refusals_right" (defArgs sRr) (defBody sRr) (defScope sRr) [] [] f fd) (hc : RtL.codeIs K f c) (TB : TabB base mg c Pt) (T : TT K mg) (R : RefD K mg) (C : PickG P w K mg base) (O : OpsX P w K mg base) (G : ∃ d, Md P w K mg base 1 (rm K "__repr__") d ["self"] (spTxtR K rrep)) {dI : FuncData} (I : IdR P w K mg base dI) : FnG P w K mg base 8 f fd ["_law_rng_here", "_law_made_here"] (spRr K Pt) := by
  obtain ⟨OI, ⟨dA, OA, bA⟩, ⟨dP, OP, bP⟩, ⟨dM, OM, bM⟩, ⟨dX, OX, bX⟩⟩ := O
  obtain ⟨dR, MR⟩ := G
  obtain ⟨fC, dC, GC⟩ := C
  refine RtL.fnG_Dc F hc scRr (fun vs H Q h => ?_) (fun A outer s H vs Q hr hG h => ?_)
  · obtain ⟨p, a, row, rfl, _⟩ := h
    rfl
  · obtain ⟨p, a, row, rfl, hT, hp, ha, q⟩ := h
    have hu : (A.deeper (envOfC "_law_refusals_right" (defScope sRr) s.heap.objs.size f (.ref c))).units + 70 < cLine := by have := hr.un; omega
    have PX : ∀ {A1 : Around} {outer1 : List Env} {s1 : Shared} {H1 : Hp} {E : XK} {scope : Scope} {f1 c1 : Addr}, Passes (L2.CX P w) (lamCx (rrX P w K mg base f c A outer s H) A1 outer1 s1 H1 E scope f1 c1) E := fun {_ _ _ _ _ _ _ _} => passes_call (takes_of rfl rfl rfl rfl) fun _ _ _ _ z => z
    have CU : CallR (rrX P w K mg base f c A outer s H).nox (.builtin "repr") (rRepU K) := lift_or (call_reprW hu hG T.sys) (call_reprS T.repR.1 T.repR.2 MR.ok MR.bd (hr.mono (by decide)) hG)
    refine ⟨_, PSs.nox (pss_cons (ps_set (i := 4) scRr.nd rfl (Or.inr rfl) (pe_gd GC (hr.mono (by decide)) (by rfl) (pa_cons (pv 0) (pa_cons (pe_lst (pa_cons pe_non (pa_cons pe_bl (pa_cons pe_bl (pa_cons pe_str (pa_cons pe_str (pa_cons (pe_lst pa_nil) (pa_cons (pe_tup (pa_cons pe_int pa_nil)) (pa_cons pe_dnewK (pa_cons (pe_lst (pa_cons pe_int pa_nil)) (pa_cons pe_str
        (pa_cons (pe_rat1 T I (hr.mono (by decide)) (by rfl) (pa_cons pe_int pa_nil)) (pa_cons (pe_rat1 T I (hr.mono (by decide)) (by rfl) (pa_cons pe_int pa_nil)) (pa_cons (pe_rat2 T I (hr.mono (by decide)) (by rfl) (pa_cons pe_int (pa_cons pe_int pa_nil))) pa_nil)))))))))))))) pa_nil))))
      (pss_cons (ps_if (pt_cmpR op_ne (pe_callB CU (by rfl) T.fre (by decide +kernel) (pa_cons (pe_refd T R TB hr hG (lamS_by (by decide +kernel)) rfl (fun _ _ _ _ _ => rfl)
          (t := fun E => tMakeR (PC K) (spInitX K) E (tCons (tC (.int 1)) (tCons (tVar 4) (tCons (tC .non) tNil)))) (fun _ _ _ _ _ _ _ hr1 => pe_makeR T.mkp OI (hr1.mono (by decide)) (by rfl) (T.gl "Polynomial" (by decide)) PX (pa_cons pe_int (pa_cons (pv 4) (pa_cons pe_non pa_nil))))) pa_nil))
        (pe_callB CU (by rfl) T.fre (by decide +kernel) (pa_cons (pe_lst (pa_cons pe_str (pa_cons (pv 4) (pa_cons pe_bl pa_nil)))) pa_nil)) (nomark _)) (pss_one (ps_ret pe_bl)) pss_nil)
      (pss_cons (ps_if (pt_cmpR op_ne (pe_callB CU (by rfl) T.fre (by decide +kernel) (pa_cons (pe_refd T R TB hr hG (lamS_by (by decide +kernel)) rfl (fun _ _ _ _ _ => rfl)
          (t := fun E => tMeth (PC K) "at" (spAtX K) [] E (tVar 1) (tCons (tVar 4) tNil)) (fun _ _ _ _ _ _ _ hr1 => pe_meth (pv 1) T.clP T.at_ OA (hr1.mono (by decide)) bA .nil PX (pa_cons (pv 4) pa_nil))) pa_nil))
        (pe_callB CU (by rfl) T.fre (by decide +kernel) (pa_cons (pe_lst (pa_cons pe_str (pa_cons (pv 4) (pa_cons pe_bl pa_nil)))) pa_nil)) (nomark _)) (pss_one (ps_ret pe_bl)) pss_nil)
      (pss_cons (ps_set (i := 3) scRr.nd rfl (Or.inr rfl) (pe_gd GC (hr.mono (by decide)) (by rfl) (pa_cons (pv 0) (pa_cons (pe_lst (pa_cons (pv 4) (pa_cons pe_int (pa_cons pe_int (pa_cons (pe_un un_neg pe_int) (pa_cons (pe_tup (pa_cons pe_int (pa_cons pe_int pa_nil))) pa_nil)))))) pa_nil))))
      (pss_cons (ps_set (i := 2) scRr.nd rfl (Or.inl rfl) (pe_lst (pa_cons (pe_refd T R TB hr hG (lamS_by (by decide +kernel)) rfl (fun _ _ _ _ _ => rfl)
          (t := fun E => tOp (rFar K E) (tVar 1) (tVar 3)) (fun _ _ _ _ _ _ _ hr1 => pe_op (op_or (op_allBin (op := .Add) (T.bin "__add__" "__radd__" (by decide)) rfl rfl (odd_sub T) rfl OP (hr1.mono (by decide)) bP PX) (op_bin2 (op := .Add) (T.bin "__add__" "__radd__" (by decide)) (pc_ne T) T.meR (T.opR "__add__" (by decide)).1 (T.binR "__radd__" (by decide)) T.subR OP (hr1.mono (by decide)) bP PX)) (pv 1) (pv 3))) pa_nil)))
      (pss_cons (ps_expr (pe_bm PySem.F.plainAttrs_list PySem.F.slot_list_append PySem.F.type_list_append mt_append (pv 2) (pa_cons (pe_refd T R TB hr hG (lamS_by (by decide +kernel)) rfl (fun _ _ _ _ _ => rfl)
          (t := fun E => tOp (rFar K E) (tVar 1) (tVar 3)) (fun _ _ _ _ _ _ _ hr1 => pe_op (op_or (op_allBin (op := .Sub) (T.bin "__sub__" "__rsub__" (by decide)) rfl rfl (odd_sub T) rfl OM (hr1.mono (by decide)) bM PX) (op_bin2 (op := .Sub) (T.bin "__sub__" "__rsub__" (by decide)) (pc_ne T) T.meR (T.opR "__sub__" (by decide)).1 (T.binR "__rsub__" (by decide)) T.subR OM (hr1.mono (by decide)) bM PX)) (pv 1) (pv 3))) pa_nil)))
      (pss_cons (ps_expr (pe_bm PySem.F.plainAttrs_list PySem.F.slot_list_append PySem.F.type_list_append mt_append (pv 2) (pa_cons (pe_refd T R TB hr hG (lamS_by (by decide +kernel)) rfl (fun _ _ _ _ _ => rfl)
          (t := fun E => tOp (rFar K E) (tVar 1) (tVar 3)) (fun _ _ _ _ _ _ _ hr1 => pe_op (op_or (op_allBin (op := .Mult) (T.bin "__mul__" "__rmul__" (by decide)) rfl rfl (odd_sub T) rfl OX (hr1.mono (by decide)) bX PX) (op_bin2 (op := .Mult) (T.bin "__mul__" "__rmul__" (by decide)) (pc_ne T) T.meR (T.opR "__mul__" (by decide)).1 (T.binR "__rmul__" (by decide)) T.subR OX (hr1.mono (by decide)) bX PX)) (pv 1) (pv 3))) pa_nil)))
      (pss_one (ps_ret (pe_cmpR op_eq (pe_callB CU (by rfl) T.fre (by decide +kernel) (pa_cons (pv 2) pa_nil))
        (pe_callB CU (by rfl) T.fre (by decide +kernel) (pa_cons (pe_op op_rep (pe_lst (pa_cons (pe_lst (pa_cons pe_str (pa_cons (pv 3) (pa_cons pe_bl pa_nil)))) pa_nil)) pe_int) pa_nil)) (nomark _))))))))))), ?_⟩
    have z13 : ∀ {n : Nat}, n ≤ 13 → n ≤ sizeLine := fun h => by rw [sizeLine_eq]; omega
    have b1 : Bd 3000 1 := bd_up (n := 1) (by decide) (by decide)
    have b0 : Bd 3000 0 := bd_up (n := 1) (by decide) (by decide)
    have b2 : Bd 3000 2 := bd_up (n := 2) (by decide) (by decide)
    refine ⟨_, rfl, Nat.zero_le _, fun l5 n5 => ⟨z13 (by decide), fun t6 n6 => fun d7 n7 => ⟨z13 (by decide), fun l8 n8 => ?_⟩⟩⟩
    refine fun x10 dx10 nx10 nd10 ne10 => madeR_at nx10 nd10 ne10 (by decide) b1 b1 fun H10 s10 r10 => ⟨rfl, ?_⟩
    refine fun x11 dx11 nx11 nd11 ne11 => madeR_at nx11 nd11 ne11 (by decide) b0 b1 fun H11 s11 r11 => ⟨rfl, ?_⟩
    refine fun x12 dx12 nx12 nd12 ne12 => madeR_at nx12 nd12 ne12 (by decide) b1 b2 fun H12 s12 r12 => ⟨rfl, ?_⟩
    refine ⟨z13 (Nat.le_of_ble_eq_true rfl), fun L nL => ?_⟩
    have s5 : Same H (upd H l5 (.lst [])) := same_new n5
    have s6 : Same (upd H l5 (.lst [])) (upd (upd H l5 (.lst [])) t6 (.tup [.int 1])) := same_new n6
    have s7 : Same (upd (upd H l5 (.lst [])) t6 (.tup [.int 1])) (upd (upd (upd H l5 (.lst [])) t6 (.tup [.int 1])) d7 (.dK [])) := same_new n7
    have s8 : Same (upd (upd (upd H l5 (.lst [])) t6 (.tup [.int 1])) d7 (.dK [])) (upd (upd (upd (upd H l5 (.lst [])) t6 (.tup [.int 1])) d7 (.dK [])) l8 (.lst [.int 1])) := same_new n8
    have s12L : Same H12 (upd H12 L (.lst [.non, .bl true, .bl false, .str "1", .str "", .ref l5, .ref t6, .ref d7, .ref l8, .str "d", .ref x10, .ref x11, .ref x12])) := same_new nL
    have s11L := s12.trans s12L
    have s10L := s11.trans s11L
    have s8L := s10.trans s10L
    have s7L := s8.trans s8L
    have s6L := s7.trans s7L
    have s5L := s6.trans s6L
    have s0L := s5.trans s5L
    have hpL := hp.same s0L
    have hne8 : l8 ≠ p := (((hp.same s5).same s6).same s7).ne n8
    refine ⟨p, L, _, rfl, hpL, upd_same, (((hp.same s5).same s6).same s7 |>.same s8 |>.same s10 |>.same s11 |>.same s12).ne nL, Nat.le_of_ble_eq_true rfl, Nat.le_of_ble_eq_true rfl, fun i v H2 hi hp2 bt2 => ?_⟩
    have hv : Val K p H2 v := by
      refine Val.but ?_ hpL bt2
      match i, hi with
      | 0, hi => cases hi; exact .non
      | 1, hi => cases hi; exact .bl _
      | 2, hi => cases hi; exact .bl _
      | 3, hi => cases hi; exact .str _ (.inl rfl)
      | 4, hi => cases hi; exact .str _ (.inr (.inl rfl))
      | 5, hi => cases hi; exact .lst (xs := []) (s5L _ _ upd_same) (hp.ne n5) (.inl rfl)
      | 6, hi => cases hi; exact .tup (xs := [1]) (s6L _ _ upd_same) (.inl rfl)
      | 7, hi => cases hi; exact .dct (s7L _ _ upd_same)
      | 8, hi => cases hi; exact .lst (xs := [1]) (s8L _ _ upd_same) hne8 (.inr rfl)
      | 9, hi => cases hi; exact .str _ (.inr (.inr rfl))
      | 10, hi => cases hi; exact .rat (r10.same s10L) (by decide +kernel) (by decide +kernel)
      | 11, hi => cases hi; exact .rat (r11.same s11L) (by decide +kernel) (by decide +kernel)
      | 12, hi => cases hi; exact .rat (r12.same s12L) (by decide +kernel) (by decide +kernel)
      | n + 13, hi => cases hi
    have B2 : But p H H2 := (But.of s0L).trans bt2
    have ha2 : PolAt K H2 a row := ha.but hp B2
    have T2 : Tabs [(Pt, lamQ)] H2 := tabs_but hT hp B2
    obtain ⟨z1, f1⟩ := far_one (k := "number") (.inl rfl) (.inl hv)
    clear s5L s6L s7L s8L s10L s11L s12L hi
    -- Polynomial(1, odd, None)
    refine ⟨T2, fun H3 e3 T3 => ⟨IN K, "number", v, .inl ⟨rfl, rfl⟩, fun H0 E R s0 r => ?_, fun l4 H4 s4 n4 e4 => ?_⟩⟩
    · refine ⟨_, rfl, fun x dx nx nd ne => ⟨x, [1], v, [.non], rfl, by show 1 + 1 ≤ 1000; decide, ?_, ?_⟩⟩
      · exact (((hv.ext e3).odd.same s0).same (same_new nd)).same (same_new (by rw [upd_ne (fun z => ne z.symm)]; exact nx))
      · exact ((r.same (same_new nd)).same (same_new (by rw [upd_ne (fun z => ne z.symm)]; exact nx)))
    have x4 : ExtN H2 H4 := e3.trans (ExtN.of s4)
    have T4 := T3.ext s4
    refine f1 H4 l4 _ x4 e4 ?_
    refine ⟨_, rfl, z13 (Nat.le_of_ble_eq_true rfl), fun l5' n5' => f1 _ l5' _ (x4.trans (ExtN.of (same_new n5'))) upd_same ⟨rfl, false, ?_, iteF ?_⟩⟩
    · rw [decide_eq_true (rfl : V.str z1 = V.str z1)]
      rfl
    have x5 := x4.trans (ExtN.of (same_new (o := .lst [.str "number", v, .bl true]) n5'))
    have T5 := T4.ext (same_new (o := .lst [.str "number", v, .bl true]) n5')
    revert x5 T5
    generalize upd H4 l5' (.lst [.str "number", v, .bl true]) = H5
    intro x5 T5
    -- made.at(odd)
    refine ⟨T5, fun H6 e6 T6 => ⟨IN K, "number", v, .inl ⟨rfl, rfl⟩, fun H0 E R s0 r => ?_, fun l7 H7 s7' n7' e7 => ?_⟩⟩
    · have hx := ((ha2.ext (x5.trans e6)).same s0)
      obtain ⟨dx, t, ea, et⟩ := hx
      exact ⟨_, rfl, a, dx, _, rfl, ea, rfl, _, rfl, a, row, v, rfl, ⟨dx, t, ea, et⟩, (hv.ext (x5.trans e6)).odd.same s0, r⟩
    have x7 : ExtN H2 H7 := (x5.trans e6).trans (ExtN.of s7')
    have T7 := T6.ext s7'
    refine f1 H7 l7 _ x7 e7 ?_
    refine ⟨_, rfl, z13 (Nat.le_of_ble_eq_true rfl), fun l8' n8' => f1 _ l8' _ (x7.trans (ExtN.of (same_new n8'))) upd_same ⟨rfl, false, ?_, iteF ?_⟩⟩
    · rw [decide_eq_true (rfl : V.str z1 = V.str z1)]
      rfl
    have x8 := x7.trans (ExtN.of (same_new (o := .lst [.str "number", v, .bl true]) n8'))
    have T8 := T7.ext (same_new (o := .lst [.str "number", v, .bl true]) n8')
    revert x8 T8
    generalize upd H7 l8' (.lst [.str "number", v, .bl true]) = H8
    intro x8 T8
    -- far
    have hp8 := hp2.ext x8
    refine ⟨_, rfl, _, rfl, _, rfl, z13 (by decide), fun t9 n9 => ⟨z13 (Nat.le_of_ble_eq_true rfl), fun L9 nL9 => ?_⟩⟩
    have s9 : Same H8 (upd H8 t9 (.tup [.int 1, .int 2])) := same_new n9
    have sL9 : Same (upd H8 t9 (.tup [.int 1, .int 2])) (upd (upd H8 t9 (.tup [.int 1, .int 2])) L9 (.lst [v, .int 0, .int 1, .int (-3), .ref t9])) := same_new nL9
    have hp9 := (hp8.same s9).same sL9
    refine ⟨p, L9, _, rfl, hp9, upd_same, (hp8.same s9).ne nL9, Nat.le_of_ble_eq_true rfl, Nat.le_of_ble_eq_true rfl, fun i g HA hi hpA bA' => ?_⟩
    have x9 := x8.trans (ExtN.of (s9.trans sL9))
    have hf : Far K p HA g := by
      match i, hi with
      | 0, hi => cases hi; exact .inl ((hv.ext x9).but hp9 bA')
      | 1, hi => cases hi; exact .inr ⟨0, rfl, .inl rfl⟩
      | 2, hi => cases hi; exact .inr ⟨1, rfl, .inr (.inl rfl)⟩
      | 3, hi => cases hi; exact .inr ⟨-3, rfl, .inr (.inr rfl)⟩
      | 4, hi => cases hi; exact .inl (Val.but (.tup (xs := [1, 2]) (sL9 _ _ upd_same) (.inr rfl)) hp9 bA')
      | n + 5, hi => cases hi
    have haA : PolAt K HA a row := (ha2.ext x9).but hp9 bA'
    have TA : Tabs [(Pt, lamQ)] HA := tabs_but (T8.ext (s9.trans sL9)) hp9 bA'
    have BA : ExtP p H HA := ((ExtP.but B2).trans (ExtP.ext x9)).trans (ExtP.but bA')
    obtain ⟨z3, f3⟩ := far_three (k := "polynomial") (.inr rfl) hf
    clear x9 hi bA' sL9 s9 x8 x7 x5 x4 T8 T7 T5 T4 T3 T2
    -- made + far
    refine ⟨TA, fun I1 e1 U1 => ⟨IP K, "polynomial", g, .inr ⟨rfl, rfl⟩, fun H0 E R s0 r => ⟨_, rfl, _, rfl, bin_far ((haA.ext e1).same s0) ((hf.ext e1).ext (ExtN.of s0)) r⟩, fun m1 G1 r1 nm1 em1 => ⟨z13 (Nat.le_of_ble_eq_true rfl), fun Lt nLt => ?_⟩⟩⟩
    have hl : ∀ b o, HA b = some o → (∀ ps, o ≠ .tbl ps) → b ≠ Lt := fun b o e n z => by
      have y := r1 _ _ (e1 b o e n)
      rw [z, nLt] at y
      cases y
    have F1 : ExtN HA (upd G1 Lt (.lst [.ref m1])) := (e1.trans (ExtN.of r1)).trans (ExtN.of (same_new nLt))
    have V1 : Tabs [(Pt, lamQ)] (upd G1 Lt (.lst [.ref m1])) := (U1.ext r1).ext (same_new nLt)
    have L1 : (upd G1 Lt (.lst [.ref m1])) Lt = some (.lst [.ref m1]) := upd_same
    have M1 : (upd G1 Lt (.lst [.ref m1])) m1 = some (.lst [.str "polynomial", g, .bl true]) := same_new nLt _ _ em1
    have d1 : m1 ≠ Lt := ne_of_none em1 nLt
    -- made - far
    refine ⟨_, rfl, .inl ⟨rfl, _, SqL.of L1⟩, V1, fun I2 e2 U2 => ⟨IP K, "polynomial", g, .inr ⟨rfl, rfl⟩, fun H0 E R s0 r => ⟨_, rfl, _, rfl, bin_far ((haA.ext (F1.trans e2)).same s0) ((hf.ext (F1.trans e2)).ext (ExtN.of s0)) r⟩, fun m2 G2 r2 nm2 em2 => ⟨Lt, _, _, rfl, rfl, r2 _ _ (e2 _ _ L1 (fun _ z => nomatch z)), z13 (Nat.le_of_ble_eq_true rfl), ?_⟩⟩⟩
    have K2 : G2 Lt = some (.lst [.ref m1]) := r2 _ _ (e2 _ _ L1 (fun _ z => nomatch z))
    have F2 : ExtN HA (upd G2 Lt (.lst [.ref m1, .ref m2])) := fun b o e n => by
      rw [upd_ne (hl b o e n)]
      exact r2 _ _ (e2 _ _ (F1 _ _ e n) n)
    have V2 : Tabs [(Pt, lamQ)] (upd G2 Lt (.lst [.ref m1, .ref m2])) := tabs_lst (U2.ext r2) K2
    have L2 : (upd G2 Lt (.lst [.ref m1, .ref m2])) Lt = some (.lst [.ref m1, .ref m2]) := upd_same
    have d2 : m2 ≠ Lt := fun z => by
      have y := e2 _ _ L1 (fun _ z => nomatch z)
      rw [← z, nm2] at y
      cases y
    have M12 : (upd G2 Lt (.lst [.ref m1, .ref m2])) m1 = some (.lst [.str "polynomial", g, .bl true]) := by
      rw [upd_ne d1]
      exact r2 _ _ (e2 _ _ M1 (fun _ z => nomatch z))
    have M22 : (upd G2 Lt (.lst [.ref m1, .ref m2])) m2 = some (.lst [.str "polynomial", g, .bl true]) := by
      rw [upd_ne d2]
      exact em2
    -- made * far
    refine ⟨_, rfl, .inl ⟨rfl, _, SqL.of L2⟩, V2, fun I3 e3 U3 => ⟨IP K, "polynomial", g, .inr ⟨rfl, rfl⟩, fun H0 E R s0 r => ⟨_, rfl, _, rfl, bin_far ((haA.ext (F2.trans e3)).same s0) ((hf.ext (F2.trans e3)).ext (ExtN.of s0)) r⟩, fun m3 G3 r3 nm3 em3 => ⟨Lt, _, _, rfl, rfl, r3 _ _ (e3 _ _ L2 (fun _ z => nomatch z)), z13 (Nat.le_of_ble_eq_true rfl), ?_⟩⟩⟩
    have K3 : G3 Lt = some (.lst [.ref m1, .ref m2]) := r3 _ _ (e3 _ _ L2 (fun _ z => nomatch z))
    have F3 : ExtN HA (upd G3 Lt (.lst [.ref m1, .ref m2, .ref m3])) := fun b o e n => by
      rw [upd_ne (hl b o e n)]
      exact r3 _ _ (e3 _ _ (F2 _ _ e n) n)
    have V3 : Tabs [(Pt, lamQ)] (upd G3 Lt (.lst [.ref m1, .ref m2, .ref m3])) := tabs_lst (U3.ext r3) K3
    have L3 : (upd G3 Lt (.lst [.ref m1, .ref m2, .ref m3])) Lt = some (.lst [.ref m1, .ref m2, .ref m3]) := upd_same
    have d3 : m3 ≠ Lt := fun z => by
      have y := e3 _ _ L2 (fun _ z => nomatch z)
      rw [← z, nm3] at y
      cases y
    have M13 : (upd G3 Lt (.lst [.ref m1, .ref m2, .ref m3])) m1 = some (.lst [.str "polynomial", g, .bl true]) := by
      rw [upd_ne d1]
      exact r3 _ _ (e3 _ _ M12 (fun _ z => nomatch z))
    have M23 : (upd G3 Lt (.lst [.ref m1, .ref m2, .ref m3])) m2 = some (.lst [.str "polynomial", g, .bl true]) := by
      rw [upd_ne d2]
      exact r3 _ _ (e3 _ _ M22 (fun _ z => nomatch z))
    have M33 : (upd G3 Lt (.lst [.ref m1, .ref m2, .ref m3])) m3 = some (.lst [.str "polynomial", g, .bl true]) := by
      rw [upd_ne d3]
      exact em3
    refine ⟨_, rfl, f3 _ Lt m1 m2 m3 _ F3 L3 M13 M23 M33 ?_⟩
    refine ⟨_, rfl, z13 (Nat.le_of_ble_eq_true rfl), fun w1 nw1 => ⟨z13 (Nat.le_of_ble_eq_true rfl), fun w2 nw2 => ⟨w2, 3, _, rfl, rfl, upd_same, by decide, by decide, z13 (Nat.le_of_ble_eq_true rfl), fun w3 nw3 => ?_⟩⟩⟩
    have y1 := same_new (o := .lst [.str "polynomial", g, .bl true]) nw1
    have y2 := same_new (o := .lst [.ref w1]) nw2
    have y3 := same_new (o := .lst [.ref w1, .ref w1, .ref w1]) nw3
    have F4 := F3.trans (ExtN.of ((y1.trans y2).trans y3))
    have W1 := (y2.trans y3) _ _ (upd_same (H := upd G3 Lt (.lst [.ref m1, .ref m2, .ref m3])) (a := w1) (o := .lst [.str "polynomial", g, .bl true]))
    refine f3 _ w3 w1 w1 w1 _ F4 upd_same W1 W1 W1 ⟨rfl, ?_⟩
    rw [decide_eq_true (rfl : V.str z3 = V.str z3)]
    exact q _ (hpA.ext F4) (BA.trans (ExtP.ext F4)) (V3.ext ((y1.trans y2).trans y3))
end
end K70

set_option maxHeartbeats 4000000
set_option exponentiation.threshold 3000
namespace K70
open PySem PySem.Spec PyProof.Rows L2 RtL ErL StX
/-! ### sums and products of rows without the noughts at their ends -/
theorem gd_nil (i : Nat) : ([] : List Int).getD i 0 = 0 := by simp
theorem gd_zero (x : Int) (xs : List Int) : (x :: xs).getD 0 0 = x := rfl
theorem gd_succ (x : Int) (xs : List Int) (i : Nat) : (x :: xs).getD (i + 1) 0 = xs.getD i 0 := by simp [List.getD_eq_getElem?_getD]
theorem gd_pl : ∀ (xs : List Int) (i : Nat), (pl xs).getD i 0 = xs.getD i 0
  | [], i => rfl
  | x :: xs, i => by
    have ih := gd_pl xs
    unfold pl
    split
    · rename_i e
      rw [e] at ih
      split
      · rename_i h
        cases i with
        | zero => rw [gd_nil, gd_zero, h]
        | succ i => rw [gd_nil, gd_succ, ← ih i, gd_nil]
      · cases i with
        | zero => rfl
        | succ i => rw [gd_succ, gd_succ, ← ih i]
    · rename_i d ds e
      rw [e] at ih
      cases i with
      | zero => rfl
      | succ i => rw [gd_succ, gd_succ, ih i]
theorem norm_ext {xs ys : List Int} (hx : ∀ c ∈ xs.getLast?, c ≠ 0) (hy : ∀ c ∈ ys.getLast?, c ≠ 0) (h : ∀ i, xs.getD i 0 = ys.getD i 0) : xs = ys := by
  have le : ∀ {xs ys : List Int}, (∀ c ∈ ys.getLast?, c ≠ 0) → (∀ i, xs.getD i 0 = ys.getD i 0) → ys.length ≤ xs.length := fun {xs ys} hy h => by
    rcases Nat.lt_or_ge xs.length ys.length with z | z
    · have e : ys.getLast? = some (ys[ys.length - 1]'(by omega)) := by rw [List.getLast?_eq_getElem?, List.getElem?_eq_getElem]
      have n := hy _ (by rw [e]; rfl)
      have e2 := h (ys.length - 1)
      rw [List.getD_eq_getElem?_getD, List.getElem?_eq_none (by omega), List.getD_eq_getElem?_getD, List.getElem?_eq_getElem (by omega)] at e2
      exact absurd e2.symm n
    · exact z
  have l : xs.length = ys.length := Nat.le_antisymm (le hx fun i => (h i).symm) (le hy h)
  refine List.ext_getElem l fun i h1 h2 => ?_
  have := h i
  rw [List.getD_eq_getElem?_getD, List.getD_eq_getElem?_getD, List.getElem?_eq_getElem h1, List.getElem?_eq_getElem h2] at this
  exact this
theorem pl_ext {xs ys : List Int} (h : ∀ i, xs.getD i 0 = ys.getD i 0) : pl xs = pl ys := norm_ext (pl_last' xs) (pl_last' ys) fun i => by rw [gd_pl, gd_pl, h]
theorem pl_pl (xs : List Int) : pl (pl xs) = pl xs := pl_ext (gd_pl xs)
theorem gd_map {g : Int → Int} (g0 : g 0 = 0) : ∀ (xs : List Int) (i : Nat), (xs.map g).getD i 0 = g (xs.getD i 0)
  | [], i => by rw [List.map_nil, gd_nil, g0]
  | x :: xs, 0 => rfl
  | x :: xs, i + 1 => by rw [List.map_cons, gd_succ, gd_succ, gd_map g0 xs i]
theorem neg_pl (xs : List Int) : pl ((pl xs).map (- ·)) = pl (xs.map (- ·)) := pl_ext fun i => by rw [gd_map rfl, gd_map rfl, gd_pl]
theorem gd_fill (xs : List Int) (m i : Nat) : (fill xs m).getD i 0 = xs.getD i 0 := by
  unfold fill
  rcases Nat.lt_or_ge i xs.length with h | h
  · rw [List.getD_eq_getElem?_getD, List.getElem?_append_left h, List.getD_eq_getElem?_getD]
  · rw [List.getD_eq_getElem?_getD, List.getElem?_append_right h, List.getD_eq_getElem?_getD, List.getElem?_eq_none h, List.getElem?_replicate]
    split <;> rfl
theorem gd_zw {g : Int → Int → Int} (g0 : g 0 0 = 0) : ∀ (xs ys : List Int) (i : Nat), xs.length = ys.length → (List.zipWith g xs ys).getD i 0 = g (xs.getD i 0) (ys.getD i 0)
  | [], [], i, _ => by rw [List.zipWith_nil_left, gd_nil, g0]
  | x :: xs, y :: ys, 0, _ => rfl
  | x :: xs, y :: ys, i + 1, h => by rw [List.zipWith_cons_cons, gd_succ, gd_succ, gd_succ, gd_zw g0 xs ys i (Nat.succ.inj h)]
theorem addl_ext {g g' : Int → Int → Int} (g0 : g 0 0 = 0) (h : ∀ a b, g a b = g' a b) {as bs cs ds : List Int} (h1 : ∀ i, as.getD i 0 = cs.getD i 0) (h2 : ∀ i, bs.getD i 0 = ds.getD i 0) : addl g as bs = addl g' cs ds := pl_ext fun i => by
  rw [gd_zw g0 _ _ _ (by rw [fill_len _ (Nat.le_max_left _ _), fill_len _ (Nat.le_max_right _ _)]), gd_zw (by rw [← h]; exact g0) _ _ _ (by rw [fill_len _ (Nat.le_max_left _ _), fill_len _ (Nat.le_max_right _ _)])]
  rw [gd_fill, gd_fill, gd_fill, gd_fill, h1, h2, h]
theorem addl_pl {g : Int → Int → Int} (as bs : List Int) : pl (addl g as bs) = addl g as bs := pl_pl _
theorem addl_self (cs : List Int) : addl (· - ·) cs cs = pl [] := pl_ext fun i => by
  rw [gd_zw rfl _ _ _ rfl, gd_nil]
  omega
/-- the coefficient at k of the product by the first n of the left row -/
def conv (A B : Nat → Int) (k : Nat) : Nat → Int
  | 0 => 0
  | n + 1 => conv A B k n + if n ≤ k then A n * B (k - n) else 0
theorem conv_stay {A B : Nat → Int} {k n : Nat} (h : ∀ i, n ≤ i → A i = 0) : ∀ m, conv A B k (n + m) = conv A B k n
  | 0 => rfl
  | m + 1 => by
    show conv A B k (n + m) + (if n + m ≤ k then A (n + m) * B (k - (n + m)) else 0) = _
    rw [conv_stay h m, h _ (by omega), Int.zero_mul]
    split <;> omega
theorem gd_add {xs : List Int} {i : Nat} (v : Int) (hi : i < xs.length) (k : Nat) : (addAt xs i v).getD k 0 = xs.getD k 0 + if k = i then v else 0 := by
  unfold addAt
  rw [List.getD_eq_getElem?_getD, List.getElem?_set]
  by_cases h : i = k
  · subst h
    rw [if_pos rfl, if_pos hi, if_pos rfl]
    rfl
  · rw [if_neg h, if_neg (fun z => h z.symm), List.getD_eq_getElem?_getD]
    omega
theorem gd_in (a : Int) (i : Nat) (bs : List Int) : ∀ (j : Nat) (xs : List Int) (k : Nat), i + j ≤ xs.length → (mulIn a i bs j xs).getD k 0 = xs.getD k 0 + if i ≤ k ∧ k < i + j then a * bs.getD (k - i) 0 else 0
  | 0, xs, k, _ => by
    rw [if_neg (by omega)]
    show xs.getD k 0 = _
    omega
  | j + 1, xs, k, h => by
    show (addAt (mulIn a i bs j xs) (i + j) (a * bs.getD j 0)).getD k 0 = _
    rw [gd_add _ (by rw [mulIn_len]; omega), gd_in a i bs j xs k (by omega)]
    by_cases h1 : k = i + j
    · subst h1
      rw [if_neg (by omega), if_pos rfl, if_pos (by omega), Nat.add_sub_cancel_left]
      omega
    · rw [if_neg h1]
      by_cases h2 : i ≤ k ∧ k < i + j
      · rw [if_pos h2, if_pos (by omega)]
        omega
      · rw [if_neg h2, if_neg (by omega)]
        omega
theorem gd_out (as bs : List Int) (k : Nat) : ∀ n, n ≤ as.length → (mulOut as bs n).getD k 0 = conv (fun i => as.getD i 0) (fun i => bs.getD i 0) k n
  | 0, _ => by
    show (List.replicate (as.length + bs.length) 0).getD k 0 = 0
    rw [List.getD_eq_getElem?_getD, List.getElem?_replicate]
    split <;> rfl
  | n + 1, h => by
    show (mulIn (as.getD n 0) n bs bs.length (mulOut as bs n)).getD k 0 = _
    rw [gd_in _ _ _ _ _ _ (by rw [mulOut_len]; omega), gd_out as bs k n (by omega)]
    show _ = conv _ _ k n + if n ≤ k then as.getD n 0 * bs.getD (k - n) 0 else 0
    by_cases h1 : n ≤ k
    · rw [if_pos h1]
      by_cases h2 : k < n + bs.length
      · rw [if_pos ⟨h1, h2⟩]
      · have z : bs.getD (k - n) 0 = 0 := by rw [List.getD_eq_getElem?_getD, List.getElem?_eq_none (by omega)]; rfl
        rw [if_neg (fun z => h2 z.2), z, Int.mul_zero]
    · rw [if_neg (fun z => h1 z.1), if_neg h1]
theorem gd_none {xs : List Int} {i : Nat} (h : xs.length ≤ i) : xs.getD i 0 = 0 := by rw [List.getD_eq_getElem?_getD, List.getElem?_eq_none h]; rfl
theorem mull_pl (as bs : List Int) : mull (pl as) (pl bs) = mull as bs := pl_ext fun k => by
  rw [gd_out _ _ _ _ (Nat.le_refl _), gd_out _ _ _ _ (Nat.le_refl _)]
  have eA : (fun i => (pl as).getD i 0) = fun i => as.getD i 0 := funext (gd_pl as)
  have eB : (fun i => (pl bs).getD i 0) = fun i => bs.getD i 0 := funext (gd_pl bs)
  rw [eA, eB]
  have l := pl_length as
  have z : ∀ i, (pl as).length ≤ i → as.getD i 0 = 0 := fun i h => by rw [← gd_pl, gd_none h]
  have := conv_stay (A := fun i => as.getD i 0) (B := fun i => bs.getD i 0) (k := k) z (as.length - (pl as).length)
  rw [← this, show (pl as).length + (as.length - (pl as).length) = as.length by omega]
theorem mull_idem (as bs : List Int) : pl (mull as bs) = mull as bs := pl_pl _
theorem add_row (as bs : List Int) : addl (· + ·) (pl as) (pl bs) = pl (addl (fun a b => a + 1 * b) as bs) := by
  rw [addl_pl]
  exact addl_ext rfl (fun a b => by rw [Int.one_mul]) (gd_pl as) (gd_pl bs)
theorem sub_row (as bs : List Int) : addl (· - ·) (pl as) (pl bs) = pl (addl (fun a b => a + -1 * b) as bs) := by
  rw [addl_pl]
  exact addl_ext rfl (fun a b => by omega) (gd_pl as) (gd_pl bs)
/-! ### bounds -/
theorem addl_len {g : Int → Int → Int} (as bs : List Int) : (addl g as bs).length ≤ max as.length bs.length := by
  refine Nat.le_trans (pl_length _) ?_
  rw [List.length_zipWith, fill_len _ (Nat.le_max_left _ _), fill_len _ (Nat.le_max_right _ _)]
  omega
theorem fill_bd {n m : Nat} {xs : List Int} (h : ∀ c ∈ xs, Bd n c) : ∀ c ∈ fill xs m, Bd n c := fun c hc => by
  rcases List.mem_append.mp hc with z | z
  · exact h c z
  · rw [List.eq_of_mem_replicate z]
    exact Nat.two_pow_pos _
theorem zw_bd {g : Int → Int → Int} {n m : Nat} (hg : ∀ a b, Bd n a → Bd n b → Bd m (g a b)) : ∀ (xs ys : List Int), (∀ c ∈ xs, Bd n c) → (∀ c ∈ ys, Bd n c) → ∀ c ∈ List.zipWith g xs ys, Bd m c
  | [], _, _, _, c, hc => by cases hc
  | _ :: _, [], _, _, c, hc => by cases hc
  | x :: xs, y :: ys, h1, h2, c, hc => by
    rcases List.mem_cons.mp hc with z | z
    · rw [z]
      exact hg _ _ (h1 _ List.mem_cons_self) (h2 _ List.mem_cons_self)
    · exact zw_bd hg xs ys (fun c hc => h1 c (List.mem_cons_of_mem _ hc)) (fun c hc => h2 c (List.mem_cons_of_mem _ hc)) c z
theorem addl_bd {g : Int → Int → Int} {n m : Nat} (hg : ∀ a b, Bd n a → Bd n b → Bd m (g a b)) {as bs : List Int} (h1 : ∀ c ∈ as, Bd n c) (h2 : ∀ c ∈ bs, Bd n c) : ∀ c ∈ addl g as bs, Bd m c := fun c hc => zw_bd hg _ _ (fill_bd h1) (fill_bd h2) c (pl_mem hc)
theorem mull_len (as bs : List Int) : (mull as bs).length ≤ as.length + bs.length := by
  have := pl_length (mulOut as bs as.length)
  rw [mulOut_len] at this
  exact this
theorem mull_bd {as bs : List Int} (h1 : ∀ c ∈ as, Bd 200 c) (h2 : ∀ c ∈ bs, Bd 200 c) (l1 : as.length ≤ 40) (l2 : bs.length ≤ 40) : ∀ c ∈ mull as bs, Bd 1000 c := fun c hc => by
  have l := lim_out (as := as) (bs := bs) (B := 2 ^ 400) (fun a ha b hb => Nat.le_of_lt (bd_mul (h1 a ha) (h2 b hb))) (Nat.le_refl _) c (pl_mem hc)
  have k : as.length * bs.length ≤ 1600 := Nat.le_trans (Nat.mul_le_mul l1 l2) (by decide)
  have m : as.length * bs.length * 2 ^ 400 ≤ 1600 * 2 ^ 400 := Nat.mul_le_mul_right _ k
  exact Nat.lt_of_le_of_lt (Nat.le_trans l m) (by decide +kernel)
end K70

set_option maxHeartbeats 1000000
/-! != of an own class that has __eq__ alone; repr of a truth value -/
namespace RtL
open PySem PySem.Spec PyProof.Rows L2
open PySem.Builtin
section
variable {prog : Program} {w : World} {K : PySem.W.Frag} {A : Around} {E : Value → Shared → Prop} {s : Shared} {x f C : Addr} {ox : Obj} {od : Option Obj} {b tb : Value}
/-- what is asked of the class -/
structure NeOf (K : PySem.W.Frag) (C f : Addr) : Prop where
  ne : PySem.W.findIn K (.ref C) "__ne__" = some (some (.builtin "object.__ne__"))
  mo : PySem.W.mroIn K C (.type "object") = some true
theorem ifBound_B {M : Model} {args : List Value} {Q : Option Value → Shared → Prop} {name : Str} {id T : String} (X : K.In s.heap) (I : PySem.W.InstAt s.heap x ox C od) (hs : PySem.W.findIn K (.ref C) name = some (some (.builtin id))) (S : Slot T name id)
    (h : wpAny M A (call (.builtin id) (.ref x :: args)) (fun v => Q (some v)) E s) : wpAny M A (callSpecialIfBound? (.ref x) name args) Q E s := by
  simp only [callSpecialIfBound?, bindSpecialIfBound?]
  refine wpAny_holding (wpAny_bind (wpAny_bind (wpAny_bind (I.type.here ((PySem.W.looks_findIn X hs).here ?_)))))
  refine wpAny_bind (wpAny_askSetting (wpAny_ite ?_))
  have fin : wpAny M A (call (.builtin id) ([.ref x] ++ args) >>= fun v => pure (some v)) Q E s := wpAny_bind (wpAny_mono h (fun v s' h' => wpAny_pure h') fun _ _ h' => h')
  rw [S.bind]
  split
  · exact wpAny_bind (wpAny_pure (wpAny_pure (by exact fin)))
  · exact wpAny_tryCatch (wpAny_bind (wpAny_pure (wpAny_pure (by exact fin))))
theorem ne_K {Q : Value → Shared → Prop} (hu : A.units + 1 < cLine) (X : K.In s.heap) (I : PySem.W.InstAt s.heap x ox C od) (hb : PySem.W.Looks (model prog w) s.heap (typeOf b) tb) (hn : PySem.W.notFirst K C tb = true) (N : NeOf K C f)
    (hs : PySem.W.findIn K (.ref C) "__eq__" = some (some (.ref f))) (hf : PySem.W.isFn K (.ref f) = true) (h : wpAny (model prog w) A.in1 (call (.ref f) [.ref x, b]) (fun v s' => ∃ c, v = .bool c ∧ Q (.bool (!c)) s') E s) :
    wpAny (model prog w) A (richCompare .NotEq (.ref x) b) Q E s := by
  have one : wpAny (model prog w) A (tryCompare (.ref x) (cmpInfo .NotEq).2.1 b) (fun r s' => ∃ v, r = some v ∧ Q v s') E s := by
    unfold tryCompare
    refine wpAny_bind (ifBound_B (T := "object") (name := "__ne__") X I N.ne PySem.F.cmp_object.ne (wpAny_call (codeAny_call_builtin PySem.F.cmp_object.ne.plain PySem.F.cmpEntry_ne
      (PySem.W.check_slot PySem.F.cmpKind_ne PySem.F.cmpSplit_ne (I.type.andThen (PySem.W.looks_mroIn X N.mo)) (PySem.F.cmpArgs_ne _ _) ?_))))
    unfold Builtin.«object.__ne__»
    refine wpAny_bind (m := slotArgs "__ne__" 1 ⟨[.ref x, b], []⟩) (wpAny_pure ?_)
    refine wpAny_bind (wpAny_cRoomFor (by show A.units + 1 < cLine; exact hu) ?_)
    refine wpAny_bind (m := callSpecialIfBound? (.ref x) (Str.ofString "__eq__") [b]) (PySem.W.ifBound_K X I hs hf (wpAny_mono h (fun v s' hv => ?_) fun _ _ e => e))
    obtain ⟨c, rfl, hq⟩ := hv
    refine wpAny_bind (m := truthy (.bool c)) (wpAny_truthy_bool ?_)
    exact wpAny_pure (wpAny_pure ⟨_, rfl, hq⟩)
  unfold richCompare
  simp only [oneThing_ref]
  refine wpAny_holding (wpAny_bind (wpAny_cRoomFor (by omega) ?_))
  refine wpAny_bind (I.type.here (wpAny_bind (hb.here ?_)))
  split
  · rename_i q
    have e : PySem.W.subIn K tb (.ref C) = some false := by
      rcases Bool.or_eq_true_iff.mp hn with e | e
      · rw [beq_iff_eq.mp e] at q; simp at q
      · exact beq_iff_eq.mp e
    refine wpAny_bind ((PySem.W.looks_subIn X e).here ?_)
    simp only [Bool.false_eq_true, if_false]
    refine wpAny_bind (wpAny_mono one (fun r s' z => ?_) fun _ _ e => e)
    obtain ⟨v, rfl, hq⟩ := z
    exact wpAny_pure hq
  · refine wpAny_bind (wpAny_pure ?_)
    simp only [Bool.false_eq_true, if_false]
    refine wpAny_bind (wpAny_mono one (fun r s' z => ?_) fun _ _ e => e)
    obtain ⟨v, rfl, hq⟩ := z
    exact wpAny_pure hq
end
section
variable {X : Cx} {CX : CXT} {k : Nat} {f C : Addr} {fd : FuncData} {sp : Sp} {E : XK} {ps : List Str}
/-- x != y by the method __eq__ of x's class -/
def rOwnNe (C : Addr) (sp : Sp) (E : XK) : R2 := fun x y H Q => rOwnEq C sp E x y H fun v H' => ∃ c, v = .bl c ∧ Q (.bl (!c)) H'
theorem op_ownNe (O : EqOf X.K C f) (N : NeOf X.K C f) (F : FnOk X.prog X.w X.K X.mg X.base CX k f fd ps sp) (hr : Room (k + 1) X.A) (hb : Binds X.K fd ps []) (hx : Passes CX X E) : OpR X (compareOp .NotEq) (rOwnNe C sp E) := by
  intro pins s σ H x y v u Q I rx ry h
  obtain ⟨a, dx, fs, rfl, ha, hy, q⟩ := h
  cases (show v = Value.ref a from rx)
  obtain ⟨mA, oa, _⟩ := ins_get I.hok ha
  obtain ⟨od, J, _⟩ := oa.look
  have nf : ∀ t ∈ ["int", "str", "NoneType", "bool"], PySem.W.notFirst X.K C (.type t) = true := fun t ht => by
    unfold PySem.W.notFirst
    rw [O.nt t ht]
    simp
  have hl : ([Value.ref a, u] ++ []).length = ps.length := by
    rw [← F.len _ _ _ _ q]
    rfl
  have go : wpAny (model X.prog X.w) X.A.in1 (call (.ref f) [.ref a, u]) (fun v s' => ∃ c, v = .bool c ∧ EP X pins σ Q (.bool (!c)) s') X.xe s := by
    refine wpAny_call (codeAny_mono (F.run X.A.in1 X.stack s H ⟨[.ref a, u], []⟩ [.ref a, u] [.ref a, y] _ E hr.in1 I.env0.in1 (hb s [.ref a, u] I.kIn hl) (.cons rfl (.cons ry .nil)) q) fun r s' hq => ?_)
    match r, hq with
    | .ok (.ret z), hq =>
      obtain ⟨v, H', I3, rv, c, ev, q3⟩ := I.after hq
      subst ev
      cases (show z = Value.bool c from rv)
      exact ⟨c, rfl, .bl (!c), H', I3, rfl, q3⟩
    | .ok .next, hq => exact False.elim hq
    | .ok .brk, hq => exact False.elim hq
    | .ok .cont, hq => exact False.elim hq
    | .error e, hq => exact hx pins σ H s e s' I hq
  have hu : X.A.units + 1 < cLine := by have := hr.un; omega
  show wpAny _ _ (richCompare .NotEq _ _) _ _ _
  rcases hy with ⟨b, dy, gs, rfl, hb'⟩ | ⟨i, rfl⟩ | ⟨z, rfl⟩ | rfl | ⟨c, rfl⟩
  · cases (show u = Value.ref b from ry)
    obtain ⟨mB, ob, _⟩ := ins_get I.hok hb'
    obtain ⟨od', J', _⟩ := ob.look
    exact ne_K (tb := .ref C) hu I.kIn J J'.type (by unfold PySem.W.notFirst; simp) N O.at_ O.fn go
  · obtain ⟨t, e⟩ := (show ∃ t, u = Value.int i t from ry)
    subst e
    exact ne_K (tb := .type "int") hu I.kIn J (PySem.W.Looks.of_pure rfl) (nf _ (by decide)) N O.at_ O.fn go
  · obtain ⟨t, e⟩ := (show ∃ t, u = Value.str z t from ry)
    subst e
    exact ne_K (tb := .type "str") hu I.kIn J (PySem.W.Looks.of_pure rfl) (nf _ (by decide)) N O.at_ O.fn go
  · cases (show u = Value.none from ry)
    exact ne_K (tb := .type "NoneType") hu I.kIn J (PySem.W.Looks.of_pure rfl) (nf _ (by decide)) N O.at_ O.fn go
  · cases (show u = Value.bool c from ry)
    exact ne_K (tb := .type "bool") hu I.kIn J (PySem.W.Looks.of_pure rfl) (nf _ (by decide)) N O.at_ O.fn go
/-- repr(b), b a truth value -/
theorem call_reprB : CallR X (.builtin "repr") (fun xs H Q => ∃ b, xs = [.bl b] ∧ Q (.str (if b then "True" else "False")) H) := by
  intro pins s σ H xs us Q I r h
  obtain ⟨b, rfl, q⟩ := h
  obtain ⟨u, rfl, rx⟩ := vals1 r
  cases (show u = Value.bool b from rx)
  refine PySem.P.repr_of_bool ⟨.str _, H, I.tok _, ⟨s.toks, rfl⟩, q⟩
end
end RtL

set_option maxHeartbeats 8000000
set_option exponentiation.threshold 3000
namespace K70
open PySem PySem.Spec PyProof.Rows L2 RtL ErL StX LamX
section
variable {P : Program} {w : World} {K : Fr} {mg : Str → Option Value} {base : Heap} {f : Addr} {fd : FuncData}
abbrev IsG (P : Program) (w : World) (K : Fr) (mg : Str → Option Value) (base : Heap) : Prop := ∃ f d, GdG P w K mg base 7 "_law_is" f d ["_law_made_here", "_law_row_here"] (spIs K)
abbrev VrG (P : Program) (w : World) (K : Fr) (mg : Str → Option Value) (base : Heap) : Prop := ∃ f d, GdG P w K mg base 4 "_law_values_right" f d ["_law_rng_here", "_law_made_here", "_law_row_here"] (spVr K)
abbrev RrG (P : Program) (w : World) (K : Fr) (mg : Str → Option Value) (base : Heap) (Pt : Addr) : Prop := ∃ f d, GdG P w K mg base 8 "_law_refusals_right" f d ["_law_rng_here", "_law_made_here"] (spRr K Pt)
/-- the operators of two polynomials -/
structure OpsP (P : Program) (w : World) (K : Fr) (mg : Str → Option Value) (base : Heap) : Prop where
  add : ∃ d, Md P w K mg base 4 (pm K "__add__") d ["self", "other"] (spBin K (addl (· + ·)))
  sub : ∃ d, Md P w K mg base 4 (pm K "__sub__") d ["self", "other"] (spBin K (addl (· - ·)))
  mul : ∃ d, Md P w K mg base 4 (pm K "__mul__") d ["self", "other"] (spBin K mull)
  neg : ∃ d, Md P w K mg base 4 (pm K "__neg__") d ["self"] (spNeg K)
  eq : ∃ d, Md P w K mg base 1 (pm K "__eq__") d ["self", "other"] (spEq K)
abbrev sRt : Stmt := top 36
abbrev NRt : List Str := ["_law_rng_here", "_law_one", "_law_two", "_law_three", "_law_spot", "_law_row_here", "_law_made_here", "_law_turn", "_law_some", "_law_alike", "_law_others", "_law_number", "_law_thing"]
theorem scRt : FnScope NRt ["_law_rng_here"] (defScope sRt) := ⟨rfl, rfl, rfl, by decide +kernel, rfl, by decide +kernel, by decide +kernel⟩
def spRt (Pt : Addr) : SpG := fun vs H Q => ∃ p, vs = [.ref p] ∧ Tabs [(Pt, lamQ)] H ∧ PotAt H p ∧ ∀ H', PotAt H' p → ExtP p H H' → Tabs [(Pt, lamQ)] H' → Q (.bl true) H'
/-- the rows and what is made of them -/
structure RtSt (K : Fr) (l1 l2 l3 lm x1 x2 x3 : Addr) (one two three : List Int) (H : Hp) : Prop where
  r1 : H l1 = some (.lst (one.map V.int))
  r2 : H l2 = some (.lst (two.map V.int))
  r3 : H l3 = some (.lst (three.map V.int))
  m : H lm = some (.lst [.ref x1, .ref x2, .ref x3])
  p1 : PolAt K H x1 (pl one)
  p2 : PolAt K H x2 (pl two)
  p3 : PolAt K H x3 (pl three)
theorem RtSt.same {l1 l2 l3 lm x1 x2 x3 : Addr} {one two three : List Int} {H H' : Hp} (h : RtSt K l1 l2 l3 lm x1 x2 x3 one two three H) (s : Same H H') : RtSt K l1 l2 l3 lm x1 x2 x3 one two three H' := ⟨s _ _ h.r1, s _ _ h.r2, s _ _ h.r3, s _ _ h.m, h.p1.same s, h.p2.same s, h.p3.same s⟩
theorem okw_b3 (A B C : Bool) : OkW (.list [.bool A, .bool B, .bool C]) := by
  have h : ∀ x : Bool, (PyData.bool x).shown.length ≤ 5 := fun x => by cases x <;> exact Nat.le_of_ble_eq_true rfl
  refine ⟨rfl, Nat.le_of_ble_eq_true rfl, ?_⟩
  have l := listText_len_le [(PyData.bool A).shown, (PyData.bool B).shown, (PyData.bool C).shown]
  show (listText [(PyData.bool A).shown, (PyData.bool B).shown, (PyData.bool C).shown]).length ≤ _
  simp only [List.map_cons, List.map_nil, List.sum_cons, List.sum_nil, List.length_cons, List.length_nil] at l
  have a := h A
  have b := h B
  have c := h C
  rw [sizeLine_eq]
  omega
theorem ok_rt {Pt : Addr} (F : FunD K "_law_right" "_law_right" (defArgs sRt) (defBody sRt) (defScope sRt) [] [] f fd) (T : TT K mg) (D : DrawG P w K mg base) (RW : RowG P w K mg base) (PL : PlG P w K mg base) (MD : MadeG P w K mg base) (SU : SumG P w K mg base) (PR : ProG P w K mg base) (IS : IsG P w K mg base) (VR : VrG P w K mg base) (RR : RrG P w K mg base Pt) (G : GtP P w K mg base) (O : OpsP P w K mg base) : FnG P w K mg base 9 f fd ["_law_rng_here"] (spRt Pt) := by
  obtain ⟨fD, dD, GD⟩ := D
  obtain ⟨fW, dW, GW⟩ := RW
  obtain ⟨fL, dL, GL⟩ := PL
  obtain ⟨fM, dM, GM⟩ := MD
  obtain ⟨fS, dS, GS⟩ := SU
  obtain ⟨fP, dP, GP⟩ := PR
  obtain ⟨fI, dI, GI⟩ := IS
  obtain ⟨fV, dV, GV⟩ := VR
  obtain ⟨fR, dR, GR⟩ := RR
  obtain ⟨_, _, ⟨dSt, MSt⟩, ⟨dRp, MRp⟩⟩ := G
  obtain ⟨⟨dA, MA⟩, ⟨dB, MB⟩, ⟨dX, MX⟩, ⟨dN, MN⟩, ⟨dE, ME⟩⟩ := O
  have NE : NeOf K (PC K) (pm K "__eq__") := ⟨T.ne.1, T.ne.2⟩
  refine fnG_D F scRt (fun vs H Q h => ?_) (fun cdv A outer s H vs Q hr hG h => ?_)
  · obtain ⟨p, rfl, _⟩ := h
    rfl
  · obtain ⟨p, rfl, hT, hp, q⟩ := h
    have hu : (A.deeper (envOfC "_law_right" (defScope sRt) s.heap.objs.size f cdv)).units + 70 < cLine := by have := hr.un; omega
    refine ⟨_, PSs.nox (pss_cons (ps_par (i := 1) (j := 2) rfl scRt.nd rfl rfl (by decide) rfl rfl (pa_cons (pe_gd GW (hr.mono (by decide)) (by rfl) (pa_cons (pv 0) pa_nil)) (pa_cons (pe_gd GW (hr.mono (by decide)) (by rfl) (pa_cons (pv 0) pa_nil)) pa_nil)) (by rfl))
      (pss_cons (ps_set (i := 3) scRt.nd rfl (Or.inl rfl) (pe_callTy call_list_of (by rfl) T.fre (by decide +kernel) (pa_cons (pv 1) pa_nil)))
      (Evl.pss_cut (ps_if (PW.pt (pw_and (pt_cmpR (op_neD hr.units) (pv 1) (pe_lst pa_nil) (nomark _)) (pw_and1 (pt_cmpR op_eq (pe_gd GD (hr.mono (by decide)) (by rfl) (pa_cons (pv 0) (pa_cons pe_int pa_nil))) pe_int (nomark _)))))
        (pss_cons (ps_set (i := 4) scRt.nd rfl (Or.inl rfl) (pe_gd GD (hr.mono (by decide)) (by rfl) (pa_cons (pv 0) (pa_cons (pe_callB call_len_seq (by rfl) T.fre (by decide +kernel) (pa_cons (pv 1) pa_nil)) pa_nil))))
        (pss_one (ps_asg (pe_op op_add (pe_op op_add (pe_ix ix_list (pv 1) (pv 4) (fun _ _ => rfl)) pe_int) (pe_gd GD (hr.mono (by decide)) (by rfl) (pa_cons (pv 0) (pa_cons pe_int pa_nil)))) (pg_sub (pv 3) (pv 4) set_list)))) pss_nil)
      (pss_cons (ps_set (i := 6) scRt.nd rfl (Or.inr rfl) (pe_lc (own := [("_law_row_here", 5)]) (g := gName 5) (tt := tYes) (by rfl) scRt.nd (pi_list (pe_lst (pa_cons (pv 1) (pa_cons (pv 2) (pa_cons (pv 3) pa_nil))))) (blkOk_by (N := NRt) (sc := defScope sRt) (by decide +kernel)) (fun _ _ _ _ _ => pg_name (i := 5) scRt.nd rfl (Or.inl rfl)) (fun _ _ _ _ _ => pts_nil) (fun _ _ _ _ _ => pe_gd GM (hr.mono (by decide)) (by rfl) (pa_cons (pv 5) pa_nil))))
      (Evl.pss_cut (ps_for PassesOwn.never rfl (pi_range1 (by rfl) T.fre (pa_cons pe_int pa_nil)) (pg_name (i := 7) scRt.nd rfl (Or.inl rfl))
        (pss_cons (ps_for PassesOwn.never rfl (pi_zip (by rfl) T.fre (pa_cons (pv 6) (pa_cons (pe_lst (pa_cons (pv 1) (pa_cons (pv 2) (pa_cons (pv 3) pa_nil)))) pa_nil))) (pg_tup (by rfl) (pgs_cons (pg_name (i := 8) scRt.nd rfl (.inl rfl)) (pgs_cons (pg_name (i := 5) scRt.nd rfl (.inl rfl)) pgs_nil)))
          (pss_one (ps_if (PW.pt (pw_or (pt_not (pt_val (pe_gg GI (hr.mono (by decide)) hG (by rfl) (pa_cons (pv 8) (pa_cons (pv 5) pa_nil)))))
            (pw_or1 (pt_not (pt_val (pe_gg GI (hr.mono (by decide)) hG (by rfl) (pa_cons (pe_un (un_own (T.spc "__neg__" (by decide)).1 (T.spc "__neg__" (by decide)).2 MN.ok (hr.mono (by decide)) MN.bd pass0) (pv 8))
              (pa_cons (pe_lc (own := [("_law_number", 11)]) (g := gName 11) (tt := tYes) (by rfl) scRt.nd (pi_list (pv 5)) (blkOk_by (N := NRt) (sc := defScope sRt) (by decide +kernel)) (fun _ _ _ _ _ => pg_name (i := 11) scRt.nd rfl (Or.inl rfl)) (fun _ _ _ _ _ => pts_nil) (fun _ _ _ _ _ => pe_un un_neg (pv 11))) pa_nil)))))))) (pss_one (ps_ret pe_bl)) pss_nil)))
        (pss_cons (ps_if (pt_not (pt_val (pe_gg GI (hr.mono (by decide)) hG (by rfl) (pa_cons (pe_op (op_ownBin (op := .Add) (T.bin "__add__" "__radd__" (by decide)) rfl rfl MA.ok (hr.mono (by decide)) MA.bd pass0) (pe_ix ix_list (pv 6) pe_int (fun _ _ => rfl)) (pe_ix ix_list (pv 6) pe_int (fun _ _ => rfl)))
            (pa_cons (pe_gd GS (hr.mono (by decide)) (by rfl) (pa_cons (pv 1) (pa_cons (pv 2) (pa_cons pe_int pa_nil)))) pa_nil))))) (pss_one (ps_ret pe_bl)) pss_nil)
        (pss_cons (ps_if (pt_not (pt_val (pe_gg GI (hr.mono (by decide)) hG (by rfl) (pa_cons (pe_op (op_ownBin (op := .Sub) (T.bin "__sub__" "__rsub__" (by decide)) rfl rfl MB.ok (hr.mono (by decide)) MB.bd pass0) (pe_ix ix_list (pv 6) pe_int (fun _ _ => rfl)) (pe_ix ix_list (pv 6) pe_int (fun _ _ => rfl)))
            (pa_cons (pe_gd GS (hr.mono (by decide)) (by rfl) (pa_cons (pv 1) (pa_cons (pv 2) (pa_cons (pe_un un_neg pe_int) pa_nil)))) pa_nil))))) (pss_one (ps_ret pe_bl)) pss_nil)
        (pss_one (ps_if (PW.pt (pw_or (pt_not (pt_val (pe_gg GI (hr.mono (by decide)) hG (by rfl) (pa_cons (pe_op (op_ownBin (op := .Mult) (T.bin "__mul__" "__rmul__" (by decide)) rfl rfl MX.ok (hr.mono (by decide)) MX.bd pass0) (pe_ix ix_list (pv 6) pe_int (fun _ _ => rfl)) (pe_ix ix_list (pv 6) pe_int (fun _ _ => rfl)))
            (pa_cons (pe_gd GP (hr.mono (by decide)) (by rfl) (pa_cons (pv 1) (pa_cons (pv 2) pa_nil))) pa_nil)))))
            (pw_or1 (pt_not (pt_val (pe_gg GI (hr.mono (by decide)) hG (by rfl) (pa_cons (pe_op (op_ownBin (op := .Sub) (T.bin "__sub__" "__rsub__" (by decide)) rfl rfl MB.ok (hr.mono (by decide)) MB.bd pass0) (pe_ix ix_list (pv 6) pe_int (fun _ _ => rfl)) (pe_ix ix_list (pv 6) pe_int (fun _ _ => rfl)))
            (pa_cons (pe_lst pa_nil) pa_nil)))))))) (pss_one (ps_ret pe_bl)) pss_nil))))))
      (pss_cons (ps_set (i := 9) scRt.nd rfl (Or.inl rfl) (pe_cmpR (op_eqD hr.units) (pe_gd GL (hr.mono (by decide)) (by rfl) (pa_cons (pv 1) pa_nil)) (pe_gd GL (hr.mono (by decide)) (by rfl) (pa_cons (pv 3) pa_nil)) (nomark _)))
      (pss_cons (ps_if (pt_cmpR op_ne (pe_callB (call_reprW hu hG T.sys) (by rfl) T.fre (by decide +kernel) (pa_cons (pe_lst (pa_cons (pe_cmpR (op_ownEq T.eq ME.ok (hr.mono (by decide)) ME.bd pass0) (pe_ix ix_list (pv 6) pe_int (fun _ _ => rfl)) (pe_ix ix_list (pv 6) pe_int (fun _ _ => rfl)) (nomark _))
            (pa_cons (pe_cmpR (op_ownNe T.eq NE ME.ok (hr.mono (by decide)) ME.bd pass0) (pe_ix ix_list (pv 6) pe_int (fun _ _ => rfl)) (pe_ix ix_list (pv 6) pe_int (fun _ _ => rfl)) (nomark _))
            (pa_cons (pe_cmpR (op_ownEq T.eq ME.ok (hr.mono (by decide)) ME.bd pass0) (pe_ix ix_list (pv 6) pe_int (fun _ _ => rfl)) (pe_gd GM (hr.mono (by decide)) (by rfl) (pa_cons (pe_gd GL (hr.mono (by decide)) (by rfl) (pa_cons (pv 2) pa_nil)) pa_nil)) (nomark _)) pa_nil)))) pa_nil))
          (pe_callB (call_reprW hu hG T.sys) (by rfl) T.fre (by decide +kernel) (pa_cons (pe_lst (pa_cons (pv 9) (pa_cons (pe_not (pv 9)) (pa_cons pe_bl pa_nil)))) pa_nil)) (nomark _)) (pss_one (ps_ret pe_bl)) pss_nil)
      (pss_cons (ps_set (i := 10) scRt.nd rfl (Or.inl rfl) (pe_lst (pa_cons pe_non (pa_cons pe_int (pa_cons (pe_callTy call_tuple_of (by rfl) T.fre (by decide +kernel) (pa_cons (pv 1) pa_nil)) (pa_cons (pe_callTy call_list_of (by rfl) T.fre (by decide +kernel) (pa_cons (pv 1) pa_nil))
          (pa_cons (pe_callTy (call_strOwn (T.spc "__str__" (by decide)).1 (T.spc "__str__" (by decide)).2 MSt.ok (hr.mono (by decide)) MSt.bd) (by rfl) T.fre (by decide +kernel) (pa_cons (pe_ix ix_list (pv 6) pe_int (fun _ _ => rfl)) pa_nil))
          (pa_cons (pe_callB (call_reprOwn (T.spc "__repr__" (by decide)).1 (T.spc "__repr__" (by decide)).2 MRp.ok (hr.mono (by decide)) MRp.bd) (by rfl) T.fre (by decide +kernel) (pa_cons (pe_ix ix_list (pv 6) pe_int (fun _ _ => rfl)) pa_nil))
          (pa_cons (pe_lst (pa_cons (pe_ix ix_list (pv 6) pe_int (fun _ _ => rfl)) pa_nil)) pa_nil)))))))))
      (pss_cons (ps_if (pt_val (pe_callB (cr_any (by rfl)) (by rfl) T.fre (by decide +kernel) (pa_cons (pe_lc (own := [("_law_thing", 12)]) (g := gName 12) (tt := tYes) (by rfl) scRt.nd (pi_list (pv 10)) (blkOk_by (N := NRt) (sc := defScope sRt) (by decide +kernel)) (fun _ _ _ _ _ => pg_name (i := 12) scRt.nd rfl (Or.inl rfl)) (fun _ _ _ _ _ => pts_nil)
          (fun _ _ _ _ _ => pe_cmpR (op_eqAll T.eq (odd_sub T) ME.ok (hr.mono (by decide)) ME.bd pass0) (pe_ix (r := rIxL K) ix_list (pv 6) pe_int (fun _ _ => rfl)) (pv 12) (nomark _))) pa_nil))) (pss_one (ps_ret pe_bl)) pss_nil)
      (pss_one (ps_ret (pe_and (pe_gg GV (hr.mono (by decide)) hG (by rfl) (pa_cons (pv 0) (pa_cons (pe_ix ix_list (pv 6) pe_int (fun _ _ => rfl)) (pa_cons (pv 1) pa_nil))))
        (pe_one (pe_gg GR hr hG (by rfl) (pa_cons (pv 0) (pa_cons (pe_ix ix_list (pv 6) pe_int (fun _ _ => rfl)) pa_nil)))))))))))))))), ?_⟩
    have lz : 100 ≤ sizeLine := by rw [sizeLine_eq]; decide
    refine ⟨_, rfl, p, rfl, hp, fun l1 one H1 n1 e1 ne1 len1 bd1 hp1 b1 => ⟨_, rfl, p, rfl, hp1, fun l2 two H2 n2 e2 ne2 len2 bd2 hp2 b2 => ⟨_, _, rfl, ?_⟩⟩⟩
    have e12 := b2 _ _ e1 ne1
    refine ⟨_, rfl, l1, _, rfl, .inl (SqL.of e12), fun l3 n3 => ?_⟩
    have s3 : Same H2 (upd H2 l3 (.lst (one.map V.int))) := same_new n3
    have hp3 := hp2.same s3
    have ne3 : l3 ≠ p := hp2.ne n3
    have B3 : But p H (upd H2 l3 (.lst (one.map V.int))) := (b1.trans b2).trans (But.of s3)
    have T3 : Tabs [(Pt, lamQ)] (upd H2 l3 (.lst (one.map V.int))) := (tabs_but (tabs_but hT hp b1) hp1 b2).ext s3
    have d13 : l1 ≠ l3 := ne_of_none e12 n3
    have d23 : l2 ≠ l3 := ne_of_none e2 n3
    have h3n : H l3 = none := (b1.trans b2).gone n3 ne3
    refine ⟨fun σ' H' => ∃ (u4 : Option V) (three : List Int), σ' = [some (.ref p), some (.ref l1), some (.ref l2), some (.ref l3), u4, none, none, none, none, none, none, none, none] ∧ H' l1 = some (.lst (one.map V.int)) ∧ H' l2 = some (.lst (two.map V.int)) ∧ H' l3 = some (.lst (three.map V.int)) ∧ three.length ≤ 9 ∧ (∀ c ∈ three, Bd 101 c) ∧ PotAt H' p ∧ But p H H' ∧ Tabs [(Pt, lamQ)] H', ?_, ?_⟩
    · refine ⟨_, rfl, by show 0 ≤ sizeLine; omega, fun z nz => ?_⟩
      have sz : Same (upd H2 l3 (.lst (one.map V.int))) (upd (upd H2 l3 (.lst (one.map V.int))) z (.lst [])) := same_new nz
      have f1 := sz _ _ (s3 _ _ e12)
      have f2 := sz _ _ (s3 _ _ e2)
      have f3 := sz _ _ (upd_same (H := H2) (a := l3) (o := .lst (one.map V.int)))
      have hpz := hp3.same sz
      have Bz := B3.trans (But.of sz)
      have Tz := T3.ext sz
      have bd3 : ∀ c ∈ one, Bd 101 c := fun c hc => bd_up (bd1 c hc) (by decide)
      refine ⟨_, _, .lst (SqL.of f1) (dp_ints K _ one), .lst (SqL.of upd_same) .nil, shp_lst one, rfl, ?_⟩
      revert f1 f2 f3 hpz Bz Tz
      generalize upd (upd H2 l3 (.lst (one.map V.int))) z (.lst []) = Hz
      intro f1 f2 f3 hpz Bz Tz
      refine ⟨_, rfl, ?_⟩
      cases one with
      | nil => exact iteF ⟨none, [], rfl, f1, f2, f3, by decide, (fun c hc => by cases hc), hpz, Bz, Tz⟩
      | cons c cs =>
        refine iteT ⟨_, rfl, p, 2, rfl, hpz, by decide, by decide, fun d Hd d0 d1 hpd bd => ⟨rfl, _, rfl, ite2 (fun _ => ?_) (fun _ => ?_)⟩⟩
        rotate_left
        · exact ⟨none, c :: cs, rfl, bd _ _ f1 ne1, bd _ _ f2 ne2, bd _ _ f3 ne3, len1, bd3, hpd, Bz.trans bd, tabs_but Tz hpz bd⟩
        have ll : (((c :: cs).map V.int).length : Int) = ((cs.length + 1 : Nat) : Int) := by rw [List.length_map]; rfl
        have l9 : cs.length + 1 ≤ 9 := len1
        refine ⟨_, rfl, _, rfl, l1, _, rfl, .inl (SqL.of (bd _ _ f1 ne1)), p, _, rfl, hpd, by rw [ll]; omega, Nat.lt_of_le_of_lt (show (((c :: cs).map V.int).length : Int).natAbs ≤ 9 by rw [ll]; omega) (Nat.lt_of_lt_of_le (show 9 < 2 ^ 4 by decide) (Nat.pow_le_pow_right (by decide) (by decide))), fun sp Hs sp0 sp1 hps bs => ?_⟩
        rw [ll] at sp1
        obtain ⟨k, rfl⟩ := Int.eq_ofNat_of_zero_le sp0
        have hk : k < (c :: cs).length := by show k < cs.length + 1; omega
        have g1 := bs _ _ (bd _ _ f1 ne1) ne1
        have hgk : (c :: cs)[k]? = some (c :: cs)[k] := List.getElem?_eq_getElem hk
        refine ⟨_, rfl, _, rfl, l1, _, _, _, rfl, rfl, SqL.of g1, atI_nat (getM hgk), _, _, rfl, rfl, _, rfl, p, 3, rfl, hps, by decide, by decide, fun x Hx x0 x1 hpx bx => ⟨_, _, rfl, rfl, ?_⟩⟩
        have bt := (bd.trans bs).trans bx
        have h3x := bt _ _ f3 ne3
        have Tx := tabs_but (tabs_but (tabs_but Tz hpz bd) hpd bs) hps bx
        refine ⟨_, rfl, _, rfl, l3, _, _, k, rfl, rfl, h3x, ?_, ?_⟩
        · rw [List.length_map]
          unfold ixN
          rw [if_pos (by omega), if_pos (by omega), Int.toNat_natCast]
        · have bk := bd1 _ (List.getElem_mem hk)
          refine ⟨some (.int k), (c :: cs).set k ((c :: cs)[k] + 1 + x), rfl, ?_, ?_, ?_, by rw [List.length_set]; exact len1, fun y hy => ?_, ?_, ?_, tabs_lst Tx h3x⟩
          · rw [upd_ne d13]
            exact bt _ _ f1 ne1
          · rw [upd_ne d23]
            exact bt _ _ f2 ne2
          · rw [upd_same, List.map_set]
          · rcases List.mem_or_eq_of_mem_set hy with z | z
            · exact bd3 y z
            · have b' : ((c :: cs)[k]).natAbs < 2 ^ 100 := bk
              rw [z]
              show _ < 2 ^ 101
              have e : (2 : Nat) ^ 101 = 2 * 2 ^ 100 := by decide +kernel
              have f : (2 : Nat) ^ 100 ≥ 10 := by decide +kernel
              omega
          · obtain ⟨x', y', ep, r⟩ := hpx
            exact ⟨x', y', by rw [upd_ne (fun z => ne3 z.symm)]; exact ep, r⟩
          · intro b o e n
            rw [upd_ne (ne_of_none e h3n)]
            exact bt _ _ (Bz _ _ e n) n
    rintro σ' H4 ⟨u4, three, rfl, f1, f2, f3, len3, bd3, hp4, B4, T4⟩
    refine ⟨_, rfl, _, rfl, _, rfl, by show 3 ≤ sizeLine; omega, fun L nL => ⟨L, rfl, ⟨_, SqL.of upd_same⟩, fun D nD => ?_⟩⟩
    have sL : Same H4 (upd H4 L (.lst [.ref l1, .ref l2, .ref l3])) := same_new nL
    have eL : (upd H4 L (.lst [.ref l1, .ref l2, .ref l3])) L = some (.lst [.ref l1, .ref l2, .ref l3]) := upd_same
    refine lc_it (walk_list (xs := [V.ref l1, .ref l2, .ref l3])) (fun i H' => Same (upd H4 L (.lst [.ref l1, .ref l2, .ref l3])) H' ∧ ∃ ys : List Addr, ys.length = i ∧ H' D = some (.lst (ys.map V.ref)) ∧ ∀ (j : Nat) (a : Addr), ys[j]? = some a → ∃ row, [one, two, three][j]? = some row ∧ PolAt K H' a (pl row)) ⟨same_new nD, [], rfl, upd_same, fun j a h => by cases h⟩ (fun i H' _ pv => SqL.of (pv.1 _ _ eL)) ?_ ?_
    · rintro i v H7 H8 hi ⟨s7, ys, ly, e7, hy⟩ ⟨rfl, hx⟩
      have s47 := sL.trans s7
      obtain ⟨l, row, rfl, hrow, el, lr⟩ : ∃ l row, v = .ref l ∧ [one, two, three][i]? = some row ∧ H8 l = some (.lst (row.map V.int)) ∧ row.length ≤ 9 := by
        match i, hx with
        | 0, hx => cases hx; exact ⟨_, _, rfl, rfl, s47 _ _ f1, len1⟩
        | 1, hx => cases hx; exact ⟨_, _, rfl, rfl, s47 _ _ f2, len2⟩
        | 2, hx => cases hx; exact ⟨_, _, rfl, rfl, s47 _ _ f3, len3⟩
        | n + 3, hx => cases hx
      refine ⟨rfl, _, rfl, l, row, rfl, el, lr, fun x H9 s9 n9 r9 => ⟨_, s9 _ _ e7, ?_, ?_, ys ++ [x], ?_, ?_, ?_⟩⟩
      · rw [List.length_map, ly]
        have : i < 3 := hi
        omega
      · intro b o e
        rw [upd_ne (ne_of_none e nD)]
        exact s9 _ _ (s7 _ _ e)
      · rw [List.length_append, ly]
        rfl
      · rw [upd_same, List.map_append]
        rfl
      · have keep : ∀ {a : Addr} {cs : List Int}, PolAt K H9 a cs → PolAt K (upd H9 D (.lst (ys.map V.ref ++ [.ref x]))) a cs := fun {a cs} h => by
          obtain ⟨dx, t, ea, et⟩ := h
          have e9 := s9 _ _ e7
          exact ⟨dx, t, by rw [upd_ne (fun z => by rw [z, e9] at ea; cases ea)]; exact ea, by rw [upd_ne (fun z => by rw [z, e9] at et; cases et)]; exact et⟩
        intro j a hj
        rcases Nat.lt_or_ge j ys.length with h | h
        · rw [List.getElem?_append_left h] at hj
          obtain ⟨row', h1, h2⟩ := hy j a hj
          exact ⟨row', h1, keep (h2.same s9)⟩
        · rw [List.getElem?_append_right h] at hj
          have hj0 : j - ys.length = 0 := by
            rcases Nat.eq_zero_or_pos (j - ys.length) with z | z
            · exact z
            · rw [List.getElem?_eq_none (by show 1 ≤ _; omega)] at hj
              cases hj
          rw [hj0] at hj
          cases hj
          have hji : j = i := by omega
          rw [hji]
          exact ⟨row, hrow, keep r9⟩
    rintro H5 ⟨s5, ys, ly, e5, hy⟩
    obtain ⟨x1, x2, x3, rfl⟩ : ∃ x1 x2 x3, ys = [x1, x2, x3] := by
      match ys, ly with
      | [a, b, c], _ => exact ⟨a, b, c, rfl⟩
    have s45 := sL.trans s5
    have ST : RtSt K l1 l2 l3 D x1 x2 x3 one two three H5 := by
      obtain ⟨_, h1, q1⟩ := hy 0 x1 rfl
      obtain ⟨_, h2, q2⟩ := hy 1 x2 rfl
      obtain ⟨_, h3, q3⟩ := hy 2 x3 rfl
      cases h1
      cases h2
      cases h3
      exact ⟨s45 _ _ f1, s45 _ _ f2, s45 _ _ f3, e5, q1, q2, q3⟩
    clear hy eL sL
    refine ⟨fun σ' H' => Same H5 H' ∧ ∃ u5 u7 u8 : Option V, σ' = [some (.ref p), some (.ref l1), some (.ref l2), some (.ref l3), u4, u5, some (.ref D), u7, u8, none, none, none, none], ?_, ?_⟩
    · refine ⟨_, rfl, by decide, by decide, ?_⟩
      have bP1 : ∀ c ∈ one, Bd 200 c := fun c hc => bd_up (bd1 c hc) (by decide)
      have bP2 : ∀ c ∈ two, Bd 200 c := fun c hc => bd_up (bd2 c hc) (by decide)
      have bP3 : ∀ c ∈ three, Bd 200 c := fun c hc => bd_up (bd3 c hc) (by decide)
      have len1' : one.length ≤ 40 := by omega
      have len2' : two.length ≤ 40 := by omega
      have len3' : three.length ≤ 40 := by omega
      have lp1 : (pl one).length ≤ 40 := Nat.le_trans (pl_length one) len1'
      have lp2 : (pl two).length ≤ 40 := Nat.le_trans (pl_length two) len2'
      have lp3 : (pl three).length ≤ 40 := Nat.le_trans (pl_length three) len3'
      have bsum : ∀ {g : Int → Int → Int}, (∀ a b, Bd 100 a → Bd 100 b → Bd 1000 (g a b)) → ∀ c ∈ addl g one two, Bd 1000 c := fun hg => addl_bd hg bd1 bd2
      have lsum : ∀ {g : Int → Int → Int}, (addl g one two).length ≤ 40 := fun {g} => Nat.le_trans (addl_len one two) (by omega)
      refine for_it walk_range (fun i σ H' => Same H5 H' ∧ ∃ u5 u7 u8 : Option V, σ = [some (.ref p), some (.ref l1), some (.ref l2), some (.ref l3), u4, u5, some (.ref D), u7, u8, none, none, none, none]) ⟨fun _ _ z => z, none, none, none, rfl⟩ (fun _ _ _ _ _ => trivial) ?_ ?_
      rotate_left
      · rintro σ H6 ⟨s6, u5, u7, u8, rfl⟩
        exact ⟨s6, _, _, _, rfl⟩
      rintro i v σ H7 H8 hi ⟨s7, u5, u7, u8, rfl⟩ ⟨rfl, rfl⟩
      have S7 := ST.same s7
      refine ⟨_, rfl, _, rfl, _, rfl, _, rfl, by show 3 ≤ sizeLine; omega, fun L2 nL2 => ?_⟩
      have e2z : (upd H8 L2 (.lst [.ref l1, .ref l2, .ref l3])) L2 = some (.lst [.ref l1, .ref l2, .ref l3]) := upd_same
      have s82 : Same H8 (upd H8 L2 (.lst [.ref l1, .ref l2, .ref l3])) := same_new nL2
      have S8 := S7.same s82
      have s58 := s7.trans s82
      revert e2z S8 s58
      clear s82
      generalize upd H8 L2 (.lst [.ref l1, .ref l2, .ref l3]) = H9
      intro e2z S8 s58
      refine ⟨D, L2, _, _, rfl, SqL.of S8.m, SqL.of e2z, ?_⟩
      refine for_it (walk_zip (xs := [.ref x1, .ref x2, .ref x3]) (ys := [.ref l1, .ref l2, .ref l3]) (n := 3) rfl) (fun i' σ H' => Same H9 H' ∧ ∃ u5 u8 : Option V, σ = [some (.ref p), some (.ref l1), some (.ref l2), some (.ref l3), u4, u5, some (.ref D), some (.int (0 + (i : Nat))), u8, none, none, none, none]) ⟨fun _ _ z => z, _, _, rfl⟩ (fun i σ H' _ pv => ⟨SqL.of (pv.1 _ _ S8.m), SqL.of (pv.1 _ _ e2z)⟩) ?_ ?_
      · rintro j v σ H10 H11 hj ⟨s10, u5, u8, rfl⟩ ⟨t, y1, y2, rfl, nt, rfl, hx, hy⟩
        dsimp only at hx hy
        have S10 := S8.same s10
        obtain ⟨x, l, row, rfl, rfl, hP, hR, lr, br⟩ : ∃ x l row, y1 = .ref x ∧ y2 = .ref l ∧ PolAt K H10 x (pl row) ∧ H10 l = some (.lst (row.map V.int)) ∧ row.length ≤ 40 ∧ ∀ c ∈ row, Bd 200 c := by
          match j, hx, hy with
          | 0, hx, hy => cases hx; cases hy; exact ⟨_, _, one, rfl, rfl, S10.p1, S10.r1, len1', bP1⟩
          | 1, hx, hy => cases hx; cases hy; exact ⟨_, _, two, rfl, rfl, S10.p2, S10.r2, len2', bP2⟩
          | 2, hx, hy => cases hx; cases hy; exact ⟨_, _, three, rfl, rfl, S10.p3, S10.r3, len3', bP3⟩
          | n + 3, hx, hy => cases hx
        have st : Same H10 (upd H10 t (.tup [.ref x, .ref l])) := same_new nt
        refine ⟨t, _, rfl, SqT.of upd_same, rfl, _, _, rfl, _, _, rfl, rfl, ?_⟩
        have br1 : ∀ c ∈ row, Bd 1000 c := fun c hc => bd_up (br c hc) (by decide)
        refine ⟨_, rfl, _, rfl, x, l, row, rfl, hP.same st, st _ _ hR, lr, br1, fun H12 s12 => ⟨true, rfl, iteF ?_⟩⟩
        have st12 := st.trans s12
        obtain ⟨dx, tx, ex, etx⟩ := hP.same st12
        refine ⟨_, rfl, x, dx, _, rfl, ex, x, pl row, rfl, ⟨dx, tx, ex, etx⟩, Nat.le_trans (Nat.le_trans (pl_length row) lr) (by decide), fun y H13 s13 n13 r13 => ?_⟩
        rw [neg_pl] at r13
        have s1013 := st12.trans s13
        refine ⟨_, rfl, l, rfl, ⟨_, SqL.of (s1013 _ _ hR)⟩, fun E nE => ?_⟩
        refine lc_it (walk_list (xs := row.map V.int)) (fun i H' => Same H13 H' ∧ H' E = some (.lst (((row.map (- ·)).take i).map V.int))) ⟨same_new nE, upd_same⟩ (fun i H' _ pv => SqL.of (pv.1 _ _ (s1013 _ _ hR))) ?_ ?_
        · rintro i v H14 H15 hi ⟨s14, e14⟩ ⟨rfl, hx⟩
          obtain ⟨c, hc, rfl⟩ := getm hx
          refine ⟨rfl, _, rfl, _, rfl, _, e14, ?_, ?_, ?_⟩
          · rw [List.length_map, List.length_take, List.length_map]
            omega
          · intro b' o' e'
            rw [upd_ne (ne_of_none e' nE)]
            exact s14 _ _ e'
          · have hm : (row.map (- ·))[i]? = some (-c) := by rw [List.getElem?_map, hc]; rfl
            rw [upd_same, take_succ' hm, List.map_append]
            rfl
        rintro H14 ⟨s14, e14⟩
        rw [List.take_of_length_le (by rw [List.length_map, List.length_map]; exact Nat.le_refl _)] at e14
        refine ⟨y, E, row.map (- ·), rfl, r13.same s14, e14, by rw [List.length_map]; exact lr, fun c hc => ?_, fun H15 s15 => ⟨true, rfl, iteF ?_⟩⟩
        · obtain ⟨c', hc', rfl⟩ := List.mem_map.mp hc
          exact bd_neg (br1 c' hc')
        · exact ⟨(s10.trans s1013).trans (s14.trans s15), _, _, rfl⟩
      rintro σ H10 ⟨s10, u5, u8, rfl⟩
      have S10 := S8.same s10
      -- made[0] + made[1]
      obtain ⟨dx1, t1, ex1, et1⟩ := S10.p1
      obtain ⟨dx2, t2, ex2, et2⟩ := S10.p2
      refine ⟨_, rfl, D, _, _, _, rfl, rfl, SqL.of S10.m, atI_nat (j := 0) rfl, _, rfl, D, _, _, _, rfl, rfl, SqL.of S10.m, atI_nat (j := 1) rfl, x1, dx1, _, rfl, ex1, .inr ⟨x2, dx2, _, rfl, ex2⟩, x1, x2, pl one, pl two, rfl, S10.p1, S10.p2, lp1, lp2, pl_mem_bd bP1, pl_mem_bd bP2, fun y Ha sa na ra => ?_⟩
      rw [add_row] at ra
      have Sa := S10.same sa
      refine ⟨_, rfl, _, rfl, l1, l2, one, two, 1, rfl, Sa.r1, Sa.r2, len1', len2', by decide, by decide, fun la Hb sb nb eb => ?_⟩
      refine ⟨y, la, _, rfl, ra.same sb, eb, lsum, bsum (fun a b ha hb => by rw [Int.one_mul]; exact bd_up (bd_add ha hb) (by decide)), fun Hc sc => ⟨true, rfl, iteF ?_⟩⟩
      have Sc := (Sa.same sb).same sc
      have s10c := ((s10.trans sa).trans sb).trans sc
      revert Sc s10c
      clear ra sb eb nb sc sa na Sa ex1 et1 ex2 et2
      intro Sc s10c
      -- made[0] - made[1]
      obtain ⟨dx1, t1, ex1, et1⟩ := Sc.p1
      obtain ⟨dx2, t2, ex2, et2⟩ := Sc.p2
      refine ⟨_, rfl, D, _, _, _, rfl, rfl, SqL.of Sc.m, atI_nat (j := 0) rfl, _, rfl, D, _, _, _, rfl, rfl, SqL.of Sc.m, atI_nat (j := 1) rfl, x1, dx1, _, rfl, ex1, .inr ⟨x2, dx2, _, rfl, ex2⟩, x1, x2, pl one, pl two, rfl, Sc.p1, Sc.p2, lp1, lp2, pl_mem_bd bP1, pl_mem_bd bP2, fun y Ha sa na ra => ?_⟩
      rw [sub_row] at ra
      have Sa := Sc.same sa
      refine ⟨_, rfl, _, rfl, _, rfl, l1, l2, one, two, -1, rfl, Sa.r1, Sa.r2, len1', len2', by decide, by decide, fun la Hb sb nb eb => ?_⟩
      refine ⟨y, la, _, rfl, ra.same sb, eb, lsum, bsum (fun a b ha hb => by rw [show a + -1 * b = a - b by omega]; exact bd_up (bd_sub ha hb) (by decide)), fun Hd sd => ⟨true, rfl, iteF ?_⟩⟩
      have Sd := (Sa.same sb).same sd
      have s10d := ((s10c.trans sa).trans sb).trans sd
      clear ra sb eb nb sd sa na Sa ex1 et1 ex2 et2
      -- made[0] * made[1]
      obtain ⟨dx1, t1, ex1, et1⟩ := Sd.p1
      obtain ⟨dx2, t2, ex2, et2⟩ := Sd.p2
      refine ⟨_, rfl, D, _, _, _, rfl, rfl, SqL.of Sd.m, atI_nat (j := 0) rfl, _, rfl, D, _, _, _, rfl, rfl, SqL.of Sd.m, atI_nat (j := 1) rfl, x1, dx1, _, rfl, ex1, .inr ⟨x2, dx2, _, rfl, ex2⟩, x1, x2, pl one, pl two, rfl, Sd.p1, Sd.p2, lp1, lp2, pl_mem_bd bP1, pl_mem_bd bP2, fun y Ha sa na ra => ?_⟩
      rw [mull_pl, ← mull_idem] at ra
      have Sa := Sd.same sa
      refine ⟨_, rfl, _, rfl, l1, l2, one, two, rfl, Sa.r1, Sa.r2, len1', len2', bP1, bP2, fun la Hb sb nb eb => ?_⟩
      refine ⟨y, la, _, rfl, ra.same sb, eb, Nat.le_trans (mull_len one two) (by omega), mull_bd bP1 bP2 len1' len2', fun He se => ⟨true, rfl, iteF ?_⟩⟩
      have Se := (Sa.same sb).same se
      have s10e := ((s10d.trans sa).trans sb).trans se
      clear ra sb eb nb se sa na Sa ex1 et1 ex2 et2
      -- made[2] - made[2]
      obtain ⟨dx3, t3, ex3, et3⟩ := Se.p3
      refine ⟨_, rfl, D, _, _, _, rfl, rfl, SqL.of Se.m, atI_nat (j := 2) rfl, _, rfl, D, _, _, _, rfl, rfl, SqL.of Se.m, atI_nat (j := 2) rfl, x3, dx3, _, rfl, ex3, .inr ⟨x3, dx3, _, rfl, ex3⟩, x3, x3, pl three, pl three, rfl, Se.p3, Se.p3, lp3, lp3, pl_mem_bd bP3, pl_mem_bd bP3, fun y Ha sa na ra => ?_⟩
      rw [addl_self] at ra
      refine ⟨by show 0 ≤ sizeLine; omega, fun la nla => ?_⟩
      have sl : Same Ha (upd Ha la (.lst [])) := same_new nla
      refine ⟨y, la, [], rfl, ra.same sl, upd_same, by decide, (fun c hc => by cases hc), fun Hf sf => ⟨true, rfl, iteF ?_⟩⟩
      exact ⟨((s58.trans s10e).trans sa).trans (sl.trans sf), _, _, _, rfl⟩
    rintro σ' H6 ⟨s6, u5, u7, u8, rfl⟩
    have S6 := ST.same s6
    have sT := s45.trans s6
    -- alike
    refine ⟨_, rfl, l1, one, rfl, S6.r1, by omega, fun la Ha sa na ea => ⟨_, rfl, l3, three, rfl, (S6.same sa).r3, by omega, fun lb Hb sb nb eb => ?_⟩⟩
    refine ⟨_, _, .lst (SqL.of (sb _ _ ea)) (dp_ints K _ (pl one)), .lst (SqL.of eb) (dp_ints K _ (pl three)), shp_lst _, shp_lst _, ?_⟩
    rw [show (PyData.list (List.map PyData.int (pl one))).eqv (PyData.list (List.map PyData.int (pl three))) = decide (pl one = pl three) from eqv_ints _ _]
    have Sb := (S6.same sa).same sb
    have sTb := (sT.trans sa).trans sb
    clear ea eb na nb
    -- the three comparisons
    obtain ⟨dx1, t1, ex1, et1⟩ := Sb.p1
    obtain ⟨dx2, t2, ex2, et2⟩ := Sb.p2
    obtain ⟨dx3, t3, ex3, et3⟩ := Sb.p3
    refine ⟨_, rfl, D, _, _, _, rfl, rfl, SqL.of Sb.m, atI_nat (j := 0) rfl, _, rfl, D, _, _, _, rfl, rfl, SqL.of Sb.m, atI_nat (j := 2) rfl, x1, dx1, _, rfl, ex1, .inl ⟨x3, dx3, _, rfl, ex3⟩, x1, .ref x3, pl one, rfl, Sb.p1, .inl ⟨x3, pl three, rfl, Sb.p3, ?_⟩⟩
    refine ⟨_, rfl, D, _, _, _, rfl, rfl, SqL.of Sb.m, atI_nat (j := 0) rfl, _, rfl, D, _, _, _, rfl, rfl, SqL.of Sb.m, atI_nat (j := 2) rfl, x1, dx1, _, rfl, ex1, .inl ⟨x3, dx3, _, rfl, ex3⟩, x1, .ref x3, pl one, rfl, Sb.p1, .inl ⟨x3, pl three, rfl, Sb.p3, _, rfl, ?_⟩⟩
    refine ⟨_, rfl, D, _, _, _, rfl, rfl, SqL.of Sb.m, atI_nat (j := 1) rfl, _, rfl, l2, two, rfl, Sb.r2, by omega, fun lc Hc sc nc ec => ⟨lc, pl two, rfl, ec, Nat.le_trans (pl_length two) len2, fun x4 Hd sd nd rd => ?_⟩⟩
    have Sd := (Sb.same sc).same sd
    have sTd := (sTb.trans sc).trans sd
    obtain ⟨dx4, t4, ex4, et4⟩ := id rd
    refine ⟨x2, dx2, _, rfl, sd _ _ (sc _ _ ex2), .inl ⟨x4, dx4, _, rfl, ex4⟩, x2, .ref x4, pl two, rfl, Sd.p2, .inl ⟨x4, pl (pl two), rfl, rd, ?_⟩⟩
    rw [pl_pl, decide_eq_true (rfl : pl two = pl two)]
    refine ⟨by show 3 ≤ sizeLine; omega, fun lr nr => ?_⟩
    generalize decide (pl one = pl three) = al
    refine ⟨lr, _, rfl, .lst upd_same (.cons (.bl _) (.cons (.bl _) (.cons (.bl _) .nil))), okw_b3 al (!al) true, ?_⟩
    have sr : Same Hd (upd Hd lr (.lst [.bl al, .bl (!al), .bl true])) := same_new nr
    refine ⟨_, rfl, _, rfl, _, rfl, by show 3 ≤ sizeLine; omega, fun lr2 nr2 => ?_⟩
    refine ⟨lr2, _, rfl, .lst upd_same (.cons (.bl _) (.cons (.bl _) (.cons (.bl _) .nil))), okw_b3 al (!al) true, rfl, ?_⟩
    refine ⟨false, by rw [decide_eq_true (rfl : V.str (PyData.list [.bool al, .bool (!al), .bool true]).shown = V.str (PyData.list [.bool al, .bool (!al), .bool true]).shown)]; rfl, iteF ?_⟩
    have sr2 : Same (upd Hd lr (.lst [.bl al, .bl (!al), .bl true])) (upd (upd Hd lr (.lst [.bl al, .bl (!al), .bl true])) lr2 (.lst [.bl al, .bl (!al), .bl true])) := same_new nr2
    have Se := (Sd.same sr).same sr2
    have sTe := (sTd.trans sr).trans sr2
    revert Se sTe
    generalize upd (upd Hd lr (.lst [.bl al, .bl (!al), .bl true])) lr2 (.lst [.bl al, .bl (!al), .bl true]) = He
    intro Se sTe
    clear sr2 sr nr nr2 rd ex4 et4 ex1 et1 ex2 et2 ex3 et3 nd ec nc
    -- others
    have bx1 : ∀ c ∈ pl one, Bd 1000 c := fun c hc => bd_up (bd1 c (pl_mem hc)) (by decide)
    have lx1 : (pl one).length ≤ 40 := Nat.le_trans (pl_length one) (by omega)
    refine ⟨_, rfl, l1, _, rfl, .inl ⟨SqL.of Se.r1, fun tt ntt => ?_⟩⟩
    have sf1 : Same He (upd He tt (.tup (one.map V.int))) := same_new ntt
    refine ⟨_, rfl, l1, _, rfl, .inl (SqL.of (Se.same sf1).r1), fun ll nll => ?_⟩
    have sf2 : Same (upd He tt (.tup (one.map V.int))) (upd (upd He tt (.tup (one.map V.int))) ll (.lst (one.map V.int))) := same_new nll
    have Sf := (Se.same sf1).same sf2
    have ett := sf2 _ _ (upd_same (H := He) (a := tt) (o := .tup (one.map V.int)))
    have ell : (upd (upd He tt (.tup (one.map V.int))) ll (.lst (one.map V.int))) ll = some (.lst (one.map V.int)) := upd_same
    have sTf := (sTe.trans sf1).trans sf2
    revert Sf ett ell sTf
    generalize upd (upd He tt (.tup (one.map V.int))) ll (.lst (one.map V.int)) = Hf
    intro Sf ett ell sTf
    clear sf1 sf2 ntt nll
    obtain ⟨dx1, t1, ex1, et1⟩ := Sf.p1
    refine ⟨_, rfl, D, _, _, _, rfl, rfl, SqL.of Sf.m, atI_nat (j := 0) rfl, x1, dx1, _, rfl, ex1, x1, pl one, rfl, Sf.p1, bx1, lx1, fun Hg sg => ⟨⟨_, rfl⟩, ?_⟩⟩
    have Sg := Sf.same sg
    refine ⟨_, rfl, D, _, _, _, rfl, rfl, SqL.of Sg.m, atI_nat (j := 0) rfl, x1, dx1, _, rfl, sg _ _ ex1, x1, pl one, rfl, Sg.p1, bx1, lx1, fun Hh sh => ⟨⟨_, rfl⟩, ?_⟩⟩
    have Sh := Sg.same sh
    refine ⟨_, rfl, D, _, _, _, rfl, rfl, SqL.of Sh.m, atI_nat (j := 0) rfl, by show 1 ≤ sizeLine; omega, fun lm1 nlm1 => ⟨by show 7 ≤ sizeLine; omega, fun lo nlo => ?_⟩⟩
    have si : Same Hh (upd Hh lm1 (.lst [.ref x1])) := same_new nlm1
    have sj : Same (upd Hh lm1 (.lst [.ref x1])) (upd (upd Hh lm1 (.lst [.ref x1])) lo (.lst [.non, .int 0, .ref tt, .ref ll, .str (polyT (pl one)), .str (repT (pl one)), .ref lm1])) := same_new nlo
    have Sj := (Sh.same si).same sj
    have eo : (upd (upd Hh lm1 (.lst [.ref x1])) lo (.lst [.non, .int 0, .ref tt, .ref ll, .str (polyT (pl one)), .str (repT (pl one)), .ref lm1])) lo = some (.lst [.non, .int 0, .ref tt, .ref ll, .str (polyT (pl one)), .str (repT (pl one)), .ref lm1]) := upd_same
    have em1 := sj _ _ (upd_same (H := Hh) (a := lm1) (o := .lst [.ref x1]))
    have sfj := ((sg.trans sh).trans si).trans sj
    have ett2 := sfj _ _ ett
    have ell2 := sfj _ _ ell
    have sTj := sTf.trans sfj
    revert Sj eo em1 ett2 ell2 sTj
    generalize upd (upd Hh lm1 (.lst [.ref x1])) lo (.lst [.non, .int 0, .ref tt, .ref ll, .str (polyT (pl one)), .str (repT (pl one)), .ref lm1]) = Hj
    intro Sj eo em1 ett2 ell2 sTj
    clear sfj si sj
    -- none of them is equal
    refine ⟨_, rfl, lo, rfl, ⟨_, SqL.of eo⟩, fun D2 nD2 => ?_⟩
    refine lc_it (walk_list (xs := [.non, .int 0, .ref tt, .ref ll, .str (polyT (pl one)), .str (repT (pl one)), .ref lm1])) (fun i H' => Same Hj H' ∧ H' D2 = some (.lst ((List.replicate i false).map V.bl))) ⟨same_new nD2, upd_same⟩ (fun i H' _ pv => SqL.of (pv.1 _ _ eo)) ?_ ?_
    · rintro i v H14 H15 hi ⟨s14, e14⟩ ⟨rfl, hx⟩
      have Sk := Sj.same s14
      obtain ⟨dx1, t1, ex1, et1⟩ := Sk.p1
      have ho : (∃ j, v = .int j) ∨ ∃ t, OddV H15 v t := by
        match i, hx with
        | 0, hx => cases hx; exact .inr ⟨_, .non⟩
        | 1, hx => cases hx; exact .inl ⟨_, rfl⟩
        | 2, hx => cases hx; exact .inr ⟨_, .tup (s14 _ _ ett2)⟩
        | 3, hx => cases hx; exact .inr ⟨_, .lst (s14 _ _ ell2)⟩
        | 4, hx => cases hx; exact .inr ⟨_, .str _⟩
        | 5, hx => cases hx; exact .inr ⟨_, .str _⟩
        | 6, hx => cases hx; exact .inr ⟨_, .lst (s14 _ _ em1)⟩
        | n + 7, hx => cases hx
      have fin : ∀ {Q' : VK}, Q' (.bl false) H15 → rEqAll (PC K) (spEq K) E0 (.ref x1) v H15 Q' := fun {Q'} hq => by
        have sp : spEq K [.ref x1, v] H15 Q' E0 := ⟨x1, v, pl one, rfl, Sk.p1, .inr ⟨ho, hq⟩⟩
        rcases ho with ⟨j, rfl⟩ | ⟨t, o⟩
        · exact .inl ⟨x1, dx1, _, rfl, ex1, .inr (.inl ⟨j, rfl⟩), sp⟩
        · exact .inr ⟨x1, dx1, _, t, rfl, ex1, o, sp⟩
      refine ⟨rfl, _, rfl, D, _, _, _, rfl, rfl, SqL.of Sk.m, atI_nat (j := 0) rfl, _, rfl, fin ⟨_, e14, ?_, ?_, ?_⟩⟩
      · have : i < 7 := hi
        rw [List.length_map, List.length_replicate]
        omega
      · intro b' o' e'
        rw [upd_ne (ne_of_none e' nD2)]
        exact s14 _ _ e'
      · rw [upd_same, List.replicate_succ', List.map_append]
        rfl
    rintro Hl ⟨sl, el⟩
    refine ⟨D2, List.replicate 7 false, rfl, SqL.of el, false, rfl, iteF ?_⟩
    have Sl := Sj.same sl
    have sTl := sTj.trans sl
    have hpl := hp4.same sTl
    have Tl := T4.ext sTl
    -- values, refusals
    refine ⟨_, rfl, _, rfl, D, _, _, _, rfl, rfl, SqL.of Sl.m, atI_nat (j := 0) rfl, _, rfl, p, x1, l1, one, rfl, hpl, Sl.p1, Sl.r1, ne1, len1, bd1, fun Hm hpm bm => ⟨true, rfl, iteT ?_⟩⟩
    have pm' : Hm D = _ := bm _ _ Sl.m (fun z => by obtain ⟨a, b, e, _⟩ := hpl; rw [← z, Sl.m] at e; cases e)
    refine ⟨_, rfl, _, rfl, D, _, _, _, rfl, rfl, SqL.of pm', atI_nat (j := 1) rfl, p, x2, pl two, rfl, tabs_but Tl hpl bm, hpm, Sl.p2.but hpl bm, fun Hn hpn xn Tn => ?_⟩
    exact q Hn hpn (((ExtP.but B4).trans (ExtP.ext (ExtN.of sTl))).trans ((ExtP.but bm).trans xn)) Tn
end
end K70

set_option maxHeartbeats 4000000
namespace K70
open PySem PySem.Spec PyProof.Rows L2 RtL ErL LamX
theorem sq_keepN {K : Fr} {H H' : Hp} {a : Addr} {xs : List V} (h : SqL K H a xs) (k : ∀ o, H a = some o → (∀ ps, o ≠ .tbl ps) → H' a = some o) : SqL K H' a xs := by
  rcases h with h | h
  · rcases h with h | ⟨o, h⟩
    · exact .inl (.inl (k _ h (fun _ z => nomatch z)))
    · exact .inl (.inr ⟨o, k _ h (fun _ z => nomatch z)⟩)
  · exact .inr h
section
variable {P : Program} {w : World} {K : Fr} {mg : Str → Option Value} {base : Heap} {f : Addr} {fd : FuncData}
abbrev RtG (P : Program) (w : World) (K : Fr) (mg : Str → Option Value) (base : Heap) (Pt : Addr) : Prop := ∃ f d, GdG P w K mg base 9 "_law_right" f d ["_law_rng_here"] (spRt Pt)
abbrev sLaw : Stmt := top 37
abbrev NLw : List Str := ["_law_script", "_law_k"]
theorem scLaw : FnScope NLw ["_law_script"] (defScope sLaw) := ⟨rfl, rfl, rfl, by decide +kernel, rfl, by decide +kernel, by decide +kernel⟩
def spLaw (K : Fr) (Pt : Addr) : SpG := fun vs H Q => ∃ (a : Addr) (ns : List Int), vs = [.ref a] ∧ SqL K H a (ns.map V.int) ∧ ns.length ≤ 63 ∧ Tabs [(Pt, lamQ)] H ∧ ∀ H', Q (.bl true) H'
theorem ok_law {Pt : Addr} (F : FunD K "law" "law" (defArgs sLaw) (defBody sLaw) (defScope sLaw) [] [] f fd) (T : TT K mg) (CR : RtG P w K mg base Pt) (CP : RngG P w K mg base) : FnG P w K mg base 10 f fd ["_law_script"] (spLaw K Pt) := by
  obtain ⟨fR, dR, GR⟩ := CR
  obtain ⟨fP, dP, GP⟩ := CP
  refine fnG_D F scLaw (fun vs H Q h => ?_) (fun cdv A outer s H vs Q hr hG h => ?_)
  · obtain ⟨a, ns, rfl, _⟩ := h
    rfl
  · obtain ⟨a, ns, rfl, hS, hl, hT, q⟩ := h
    refine ⟨_, PSs.nox (pss_one (ps_ret (pe_callB (cr_all (by rfl)) (by rfl) T.fre (by decide +kernel) (pa_cons (pe_lc (own := [("_law_k", 1)]) (g := gName 1) (tt := tYes) (by rfl) scLaw.nd
      (pi_range1 (by rfl) T.fre (pa_cons (pe_callB (call_max2 rfl) (by rfl) T.fre (by decide +kernel) (pa_cons pe_int (pa_cons (pe_callB (call_min2 rfl) (by rfl) T.fre (by decide +kernel) (pa_cons (pe_callB call_len_seq (by rfl) T.fre PySem.boot_len (pa_cons (pv 0) pa_nil)) (pa_cons pe_int pa_nil))) pa_nil))) pa_nil))
      (blkOk_by (N := NLw) (sc := defScope sLaw) (by decide +kernel)) (fun _ _ _ _ _ => pg_name (i := 1) scLaw.nd rfl (Or.inl rfl)) (fun _ _ _ _ _ => pts_nil)
      (fun _ _ _ _ _ => pe_gg GR hr hG (by rfl) (pa_cons (pe_gd GP (hr.mono (by decide)) (by rfl) (pa_cons (pv 0) (pa_cons (pv 1) pa_nil))) pa_nil))) pa_nil)))), ?_⟩
    refine ⟨_, rfl, a, _, rfl, .inl hS, ?_⟩
    refine ⟨_, _, rfl, _, _, rfl, ?_⟩
    obtain ⟨j, hj, j0, j3⟩ : ∃ j : Int, (if (if (4 : Int) < ((ns.map V.int).length : Int) then (4 : Int) else ((ns.map V.int).length : Int)) > 1 then (if (4 : Int) < ((ns.map V.int).length : Int) then (4 : Int) else ((ns.map V.int).length : Int)) else (1 : Int)) = j ∧ 0 ≤ j ∧ j ≤ 4 := ⟨_, rfl, by split <;> split <;> omega, by split <;> split <;> omega⟩
    rw [hj]
    refine ⟨j, rfl, by omega, by omega, fun D hD => ?_⟩
    refine lc_range (lo := 0) (n := j.toNat) (fun i H' => (∀ o, H a = some o → (∀ ps, o ≠ .tbl ps) → H' a = some o) ∧ Tabs [(Pt, lamQ)] H' ∧ H' D = some (.lst ((List.replicate i true).map V.bl))) ⟨fun o e _ => same_new hD _ _ e, hT.ext (same_new hD), upd_same⟩ (fun i H' hi pv => ?_) (fun H' pv => ?_)
    · obtain ⟨kS, kT, eD⟩ := pv
      refine ⟨rfl, _, rfl, _, rfl, a, ns, i, by rw [Int.zero_add]; rfl, sq_keepN hS kS, hl, by omega, fun p H1 np s1 hp => ⟨p, rfl, kT.ext s1, hp, fun H2 _ b2 T2 => ?_⟩⟩
      have eD2 : H2 D = some (.lst ((List.replicate i true).map V.bl)) := b2 _ _ (s1 _ _ eD) (ne_of_none eD np) (fun _ z => nomatch z)
      refine ⟨_, eD2, ?_, fun o e nt => ?_, tabs_lst T2 eD2, ?_⟩
      · rw [List.length_map, List.length_replicate, sizeLine_eq]
        omega
      · rw [upd_ne (ne_of_none e hD)]
        exact b2 _ _ (s1 _ _ (kS o e nt)) (ne_of_none (kS o e nt) np) nt
      · rw [upd_same, List.replicate_succ', List.map_append]
        rfl
    · exact ⟨D, List.replicate j.toNat true, rfl, SqL.of pv.2.2, by rw [show (List.replicate j.toNat true).all id = true by simp]; exact q _⟩
end
end K70

set_option maxHeartbeats 4000000
namespace K70
open PySem PySem.Spec PyProof.Rows L2 RtL ErL LamX
/-- the script as an object of the heap; an empty table of code objects -/
abbrev scO (us : List Value) : Obj := { cls := .type "list", data := .seq us.toArray }
abbrev tbO : Obj := { cls := .none, data := .fields #[] }
/-- a def of one parameter, called on a script where nothing is being shown; one table of code objects is empty and written while it runs -/
theorem lawGT {P : Program} {w : World} {K : Fr} {mg mb : Str → Option Value} {k : Nat} {fl sc c Pt : Addr} {fd : FuncData} {x : Str} {sp : SpG} {st : Shared} {us : List Value} {zs : List Int}
    (kin : K.In st.heap) (n1 : st.heap.Ns mainGlobals mg) (n2 : st.heap.Ns builtinsNs mb) (n3 : ∀ y : Str, y ≠ "__name__" → mb y = bootBuiltins y) (nl : st.heap.NoLimit) (ng : st.gens = #[])
    (tb : st.heap.get? Pt = some tbO) (tk : K.lookup Pt = none) (ch : PySem.W.CodeHd st.heap c Pt)
    (bm : ∃ (m : Addr) (o : Obj), mg "__builtins__" = some (.ref m) ∧ m ≠ builtinsNs ∧ st.heap.get? m = some o ∧ o.cls = .type "module" ∧ o.dict = some builtinsNs ∧ o.data = .plain)
    (here : st.heap.get? sc = some (scO us)) (iz : IntsAre us zs) (lz : zs.length ≤ sizeLine) (rm : Room k callerA) (F : ∀ b : Heap, K.In b → b.Ns mainGlobals mg → TabB b mg c Pt → FnG P w K mg b k fl fd [x] sp) (bd : Binds K fd [x] [])
    (pr : ∀ H : Hp, H Pt = some (.tbl #[]) → SqL K H sc (zs.map V.int) → sp [.ref sc] H (fun v _ => v = .bl true)) :
    codeAny (model P w) callerA (.call (.ref fl) ⟨[.ref sc], []⟩) (fun r s' => r = .ok (.ret (.bool true)) ∧ OldK st.heap s'.heap ∧ s'.os = st.os ∧ AllBare s'.gens) st := by
  have vz := vals_ints iz
  have lu : (zs.map V.int).length ≤ sizeLine := by
    rw [List.length_map]
    exact lz
  have ap : sc ≠ Pt := fun z => by
    rw [← z, here] at tb
    have e : Data.seq us.toArray _ = Data.fields #[] := congrArg Obj.data (Option.some.inj tb)
    cases e
  -- tracked: the table, and the script if it is no object of the written part
  obtain ⟨H, on, hP, sq⟩ : ∃ H : Hp, (∀ b y, H b = some y → (b = Pt ∧ y = .tbl #[]) ∨ (b = sc ∧ K.lookup sc = none ∧ y = .frz (scO us) (.lst (zs.map V.int)))) ∧ H Pt = some (.tbl #[]) ∧ SqL K H sc (zs.map V.int) := by
    cases own : K.lookup sc with
    | some y =>
      have e := kin sc y own
      rw [here] at e
      cases e
      refine ⟨upd (fun _ => none) Pt (.tbl #[]), fun b y z => ?_, upd_same, .inr ⟨_, us.toArray, _, own, rfl, rfl, rfl, ?_, by simpa using vz⟩⟩
      · by_cases hb : b = Pt
        · subst hb
          rw [upd_same] at z
          exact .inl ⟨rfl, (Option.some.inj z).symm⟩
        · rw [upd_ne hb] at z
          cases z
      · rw [List.size_toArray, iz.length]
        exact lz
    | none =>
      refine ⟨upd (upd (fun _ => none) sc (.frz (scO us) (.lst (zs.map V.int)))) Pt (.tbl #[]), fun b y z => ?_, upd_same, .inl (.inr ⟨scO us, ?_⟩)⟩
      · by_cases hb : b = Pt
        · subst hb
          rw [upd_same] at z
          exact .inl ⟨rfl, (Option.some.inj z).symm⟩
        · rw [upd_ne hb] at z
          by_cases hs : b = sc
          · subst hs
            rw [upd_same] at z
            exact .inr ⟨rfl, rfl, (Option.some.inj z).symm⟩
          · rw [upd_ne hs] at z
            cases z
      · rw [upd_ne ap, upd_same]
  have ok : HOk P w H st.heap := fun b y z => by
    rcases on b y z with ⟨rfl, rfl⟩ | ⟨rfl, _, rfl⟩
    · exact tb
    · exact ⟨here, lu, us, _, vz, here⟩
  -- what is neither a list nor an empty row of fields is not tracked
  have out : ∀ {b : Addr} {o : Obj}, st.heap.get? b = some o → (∀ xs n, o.data ≠ .seq xs n) → o.data ≠ .fields #[] → H b = none := fun {b o} e d1 d2 => by
    cases q : H b with
    | none => rfl
    | some y =>
      rcases on b y q with ⟨rfl, _⟩ | ⟨rfl, _, _⟩
      · rw [tb] at e
        cases e
        exact absurd rfl d2
      · rw [here] at e
        cases e
        exact absurd rfl (d1 _ _)
  have keep : ∀ {b : Addr} {o : Obj}, st.heap.get? b = some o → (∀ xs n, o.data ≠ .seq xs n) → o.data ≠ .fields #[] → (hidT st.heap H).get? b = some o := fun e d1 d2 => hidT_get e (out e d1 d2)
  have ns : ∀ {b : Addr} {m : Str → Option Value}, st.heap.Ns b m → (hidT st.heap H).Ns b m := by
    rintro b m ⟨o, es, ep, e, d, r⟩
    exact ⟨o, es, ep, keep e (fun xs n z => by rw [d] at z; cases z) (fun z => by rw [d] at z; cases z), d, r⟩
  have kb : K.In (hidT st.heap H) := fun b o e => hidT_get (kin b o e) (by
    cases q : H b with
    | none => rfl
    | some y =>
      rcases on b y q with ⟨rfl, _⟩ | ⟨rfl, z, _⟩
      · rw [tk] at e
        cases e
      · rw [z] at e
        cases e)
  have notG : mainGlobals ≠ Pt := fun z => by
    obtain ⟨o, es, ep, e, d, _⟩ := n1
    rw [z, tb] at e
    cases e
    cases d
  have TB : TabB (hidT st.heap H) mg c Pt := by
    refine ⟨?_, ?_, notG⟩
    · obtain ⟨o, u, g1, g2, g3, g4, g5, g6, g7, e, h1, h2, h3, rest⟩ := ch
      exact ⟨o, u, g1, g2, g3, g4, g5, g6, g7, keep e (fun xs n z => by rw [h2] at z; cases z) (fun z => by rw [h2] at z; cases z; simp at h3), h1, h2, h3, rest⟩
    · obtain ⟨m, o, h1, h2, h3, h4, h5, h6⟩ := bm
      have a1 : m ≠ mainGlobals := fun z => by
        obtain ⟨o', es, ep, e, d, _⟩ := n1
        rw [← z, h3] at e
        cases e
        rw [h6] at d
        cases d
      have a2 : m ≠ Pt := fun z => by
        rw [z, tb] at h3
        cases h3
        cases h6
      exact ⟨m, o, h1, h2, a1, a2, keep h3 (fun xs n z => by rw [h6] at z; cases z) (fun z => by rw [h6] at z; cases z), h4, h5, h6⟩
  obtain ⟨ml, l1, l2⟩ := nl
  have env : Env0 P w K mg (hidT st.heap H) callerA [] st H :=
    { frames := rfl, mod := { kin := kb, glob := ns n1, blt := ⟨mb, ns n2, n3⟩, nolimit := ⟨ml, ns l1, l2⟩ }, bs := fun b o e => of_hidT e, bsz := Nat.le_of_eq (hidT_size _ _), funs := trivial, frf := fun b hb => (nomatch (show b ∈ ([] : List Addr) from hb)), hok := ok, bare := .of_eq ng }
  refine codeAny_mono ((F _ kb (ns n1) TB).run callerA [] st H ⟨[.ref sc], []⟩ [.ref sc] [.ref sc] _ rm rfl env (bd st [.ref sc] kin rfl) (.cons rfl .nil) (pr H hP sq)) ?_
  intro r s' h
  match r, h with
  | .ok (.ret u), h =>
    obtain ⟨v, H', os, ba, un, ok', rv, q⟩ := h
    cases (show v = .bl true from q)
    cases (show u = Value.bool true from rv)
    obtain ⟨more, hm⟩ := un.tbls Pt #[] hP
    have tb' : s'.heap.get? Pt = some { cls := .none, data := .fields (#[] ++ more) } := ok' Pt _ hm
    have old : ∀ b o, b ≠ Pt → st.heap.get? b = some o → s'.heap.get? b = some o := fun b o hb e => by
      cases q : H b with
      | none => exact un.keep b o e q (fun z => (nomatch (show b ∈ ([] : List Addr) from z))) (by simp)
      | some y =>
        rcases on b y q with ⟨z, _⟩ | ⟨rfl, _, rfl⟩
        · exact absurd z hb
        · rw [here] at e
          cases e
          exact (ok' _ _ (un.frzs _ _ _ q)).1
    refine ⟨rfl, ⟨fun b o e => ?_, fun b o e => ?_⟩, os, ba⟩
    · by_cases hb : b = Pt
      · subst hb
        rw [tb] at e
        cases e
        exact .inr (.inl ⟨(ch.tab tb).isCodeTable, rfl, #[], more, rfl, tb'⟩)
      · exact .inl (old b o hb e)
    · by_cases hb : b = Pt
      · subst hb
        exact ⟨_, tb'⟩
      · exact ⟨o, old b o hb e⟩
  | .ok .next, h => exact False.elim h
  | .ok .brk, h => exact False.elim h
  | .ok .cont, h => exact False.elim h
  | .error e, h => exact False.elim h
end K70

set_option maxHeartbeats 4000000
namespace K70
open PySem PySem.Spec PyProof.Rows L2 RtL ErL LamX
section
variable {P : Program} {w : World} {K : Fr} {mg : Str → Option Value}
/-- all defs together -/
theorem law_G {c Pt : Addr} (T : TT K mg) (hc : codeIs K (He.ga K "_law_refusals_right") c) : ∃ fd, Binds K fd ["_law_script"] [] ∧ ∀ base : Heap, TabB base mg c Pt → FnG P w K mg base 10 (He.ga K "law") fd ["_law_script"] (spLaw K Pt) := by
  obtain ⟨d2, F2⟩ := T.df 2
  obtain ⟨d3, F3⟩ := T.df 3
  obtain ⟨d4, F4⟩ := T.df 4
  obtain ⟨d5, F5⟩ := T.df 5
  obtain ⟨d6, F6⟩ := T.df 6
  obtain ⟨d7, F7⟩ := T.df 7
  obtain ⟨d8, F8⟩ := T.df 8
  obtain ⟨d9, F9⟩ := T.df 9
  obtain ⟨d10, F10⟩ := T.df 10
  obtain ⟨d11, F11⟩ := T.df 11
  obtain ⟨d12, F12⟩ := T.df 12
  obtain ⟨d13, F13⟩ := T.df 13
  obtain ⟨d14, F14⟩ := T.df 14
  obtain ⟨d15, F15⟩ := T.df 15
  obtain ⟨d16, F16⟩ := T.df 16
  obtain ⟨d17, F17⟩ := T.df 17
  obtain ⟨d18, F18⟩ := T.df 18
  obtain ⟨d19, F19⟩ := T.df 19
  obtain ⟨d20, F20⟩ := T.df 20
  obtain ⟨d21, F21⟩ := T.df 21
  obtain ⟨d22, F22⟩ := T.df 22
  obtain ⟨d23, F23⟩ := T.df 23
  obtain ⟨d24, F24⟩ := T.df 24
  obtain ⟨d25, F25⟩ := T.df 25
  obtain ⟨d26, F26⟩ := T.df 26
  obtain ⟨d27, F27⟩ := T.df 27
  obtain ⟨d28, F28⟩ := T.df 28
  obtain ⟨d29, F29⟩ := T.df 29
  obtain ⟨d30, F30⟩ := T.df 30
  obtain ⟨d31, F31⟩ := T.df 31
  obtain ⟨d32, F32⟩ := T.df 32
  obtain ⟨d33, F33⟩ := T.df 33
  obtain ⟨d34, F34⟩ := T.df 34
  obtain ⟨d35, F35⟩ := T.df 35
  obtain ⟨d36, F36⟩ := T.df 36
  obtain ⟨d37, F37⟩ := T.df 37
  obtain ⟨e0, G0⟩ := T.rd 0
  have bN : ∀ {x q : Str} {ar : Arguments} {bd : List Stmt} {sc : Scope} {f : Addr} {fd : FuncData} {ps : List Str}, FunD K x q ar bd sc [] [] f fd →
      (∀ (kV doc pm : Value) (an : Option Addr) (cdv ct : Value) (us : List Value), us.length = ps.length → bindArgs (PySem.W.fnOf x q ar bd sc .none kV doc pm an cdv ct) ⟨us, []⟩ = pure (ps.zip us)) → Binds K fd ps [] := fun F h => F.bindsN h
  refine ⟨d37, bN F37 fun _ _ _ _ _ _ us hl => match us, hl with | [_], _ => rfl, fun base TB => ?_⟩
  have gII : Gd P w K mg base 1 "is_an_integer" _ d2 ["value"] (spIsint K) := ⟨ok_isint F2 T, T.gl "is_an_integer" (by decide), F2.kp, bN F2 fun _ _ _ _ _ _ us hl => match us, hl with | [_], _ => rfl⟩
  have gI : IsintG P w K mg base := ⟨_, d2, gII⟩
  have gWo : WorthG P w K mg base := ⟨_, d3, ok_worth F3 T, T.gl "worth_at" (by decide), F3.kp, bN F3 fun _ _ _ _ _ _ us hl => match us, hl with | [_, _], _ => rfl⟩
  have gPow : PowG P w K mg base := ⟨_, d4, ok_pow F4 T, T.gl "power_text" (by decide), F4.kp, bN F4 fun _ _ _ _ _ _ us hl => match us, hl with | [_, _], _ => rfl⟩
  have gSgt : SgtG P w K mg base := ⟨_, d5, ok_sgt F5 T gPow, T.gl "signed_text" (by decide), F5.kp, bN F5 fun _ _ _ _ _ _ us hl => match us, hl with | [_, _, _], _ => rfl⟩
  have gPtx : PtxG P w K mg base := ⟨_, d6, ok_ptx F6 T gSgt, T.gl "polynomial_text" (by decide), F6.kp, bN F6 fun _ _ _ _ _ _ us hl => match us, hl with | [_], _ => rfl⟩
  have gLst : LstG P w K mg base := ⟨_, d7, ok_lst F7 T, T.gl "listed_numbers" (by decide), F7.kp, bN F7 fun _ _ _ _ _ _ us hl => match us, hl with | [_], _ => rfl⟩
  have gFi : FillG P w K mg base := ⟨_, d8, ok_fill F8 T, T.gl "filled_up" (by decide), F8.kp, bN F8 fun _ _ _ _ _ _ us hl => match us, hl with | [_, _], _ => rfl⟩
  have I : PId P w K mg base := ok_init F9 T gI
  have bAt : Binds K d11 ["self", "d"] [] := bN F11 fun _ _ _ _ _ _ us hl => match us, hl with | [_, _], _ => rfl
  have bAd : Binds K d12 ["self", "other"] [] := bN F12 fun _ _ _ _ _ _ us hl => match us, hl with | [_, _], _ => rfl
  have bSu : Binds K d13 ["self", "other"] [] := bN F13 fun _ _ _ _ _ _ us hl => match us, hl with | [_, _], _ => rfl
  have bMu : Binds K d14 ["self", "other"] [] := bN F14 fun _ _ _ _ _ _ us hl => match us, hl with | [_, _], _ => rfl
  have gt : GtP P w K mg base := ⟨⟨d10, ok_coef F10 T, bN F10 fun _ _ _ _ _ _ us hl => match us, hl with | [_], _ => rfl⟩, ⟨e0, ok_deg G0 T, bN G0 fun _ _ _ _ _ _ us hl => match us, hl with | [_], _ => rfl⟩,
    ⟨d17, ok_str F17 T gPtx, bN F17 fun _ _ _ _ _ _ us hl => match us, hl with | [_], _ => rfl⟩, ⟨d18, ok_rep F18 T gLst, bN F18 fun _ _ _ _ _ _ us hl => match us, hl with | [_], _ => rfl⟩⟩
  have ops : OpsP P w K mg base := ⟨⟨d12, ok_add F12 T I gFi, bAd⟩, ⟨d13, ok_sub F13 T I gFi, bSu⟩, ⟨d14, ok_mul F14 T I, bMu⟩, ⟨d15, ok_neg F15 T I, bN F15 fun _ _ _ _ _ _ us hl => match us, hl with | [_], _ => rfl⟩, ⟨d16, ok_eq F16 T, bN F16 fun _ _ _ _ _ _ us hl => match us, hl with | [_, _], _ => rfl⟩⟩
  have opx : OpsX P w K mg base := ⟨ok_initX F9 T gI, ⟨d11, ok_atX F11 T gI gWo, bAt⟩, ⟨d12, ok_addX F12 T I gFi, bAd⟩, ⟨d13, ok_subX F13 T I gFi, bSu⟩, ⟨d14, ok_mulX F14 T I, bMu⟩⟩
  have gAt : AtG P w K mg base := ⟨d11, ⟨ok_at F11 T gI gWo, bAt⟩, kbindsN (ps := ["self", "d"]) F11 1 ["d"] (fun us ws => us ++ ws) (fun r1 r2 => r1.append r2) fun _ _ _ _ _ _ us ws h1 h2 => match us, ws, h1, h2 with | [_], [_], _, _ => rfl⟩
  have iniR : IdR P w K mg base d19 := by
    have one : ∃ ds, Vals [V.int 1] ds ∧ Binds K d19 ["self", "top", "bottom"] ds := FunD.binds1 (ps := ["self", "top", "bottom"]) F19 2 0 (by intro z; cases z) rfl fun T kV doc pm an cdv ct us its h1 h2 => match us, its, h1, h2 with | [a, b], [d], _, _ => ⟨_, rfl, rfl⟩
    refine ⟨ok_initR F19 T gII.ok gII.gl gII.kp gII.bd, ?_, one⟩
    obtain ⟨ds, hv, hb⟩ := FunD.binds1 (ps := ["self", "top", "bottom"]) F19 3 1 (by intro z; cases z) rfl fun T kV doc pm an cdv ct us its h1 h2 => match us, its, h1, h2 with | [a, b, c], [d], _, _ => ⟨_, rfl, rfl⟩
    cases hv
    exact hb
  have repR : ∃ d, Md P w K mg base 1 (rm K "__repr__") d ["self"] (spTxtR K rrep) := ⟨d20, ok_repR F20 T, bN F20 fun _ _ _ _ _ _ us hl => match us, hl with | [_], _ => rfl⟩
  have gRng : RngG P w K mg base := ⟨_, d21, ok_rng F21 T, T.gl "_law_rng" (by decide), F21.kp, bN F21 fun _ _ _ _ _ _ us hl => match us, hl with | [_, _], _ => rfl⟩
  have gDraw : DrawG P w K mg base := ⟨_, d22, ok_draw F22 T, T.gl "_law_draw" (by decide), F22.kp, bN F22 fun _ _ _ _ _ _ us hl => match us, hl with | [_, _], _ => rfl⟩
  have gPick : PickG P w K mg base := ⟨_, d23, ok_pick F23 T gDraw, T.gl "_law_choice" (by decide), F23.kp, bN F23 fun _ _ _ _ _ _ us hl => match us, hl with | [_, _], _ => rfl⟩
  have gCo : CoG P w K mg base := ⟨_, d24, ok_co F24 T gDraw gPick, T.gl "_law_coefficient" (by decide), F24.kp, bN F24 fun _ _ _ _ _ _ us hl => match us, hl with | [_], _ => rfl⟩
  have gRow : RowG P w K mg base := ⟨_, d25, ok_row F25 T gDraw gPick gCo, T.gl "_law_row" (by decide), F25.kp, bN F25 fun _ _ _ _ _ _ us hl => match us, hl with | [_], _ => rfl⟩
  have gPl : PlG P w K mg base := ⟨_, d26, ok_pl F26 T, T.gl "_law_plain" (by decide), F26.kp, bN F26 fun _ _ _ _ _ _ us hl => match us, hl with | [_], _ => rfl⟩
  have gSum : SumG P w K mg base := ⟨_, d27, ok_sum F27 T gPl, T.gl "_law_sum" (by decide), F27.kp, bN F27 fun _ _ _ _ _ _ us hl => match us, hl with | [_, _, _], _ => rfl⟩
  have gPro : ProG P w K mg base := ⟨_, d28, ok_pro F28 T gPl, T.gl "_law_product" (by decide), F28.kp, bN F28 fun _ _ _ _ _ _ us hl => match us, hl with | [_, _], _ => rfl⟩
  have gVal : ValG P w K mg base := ⟨_, d29, ok_val F29 T, T.gl "_law_value" (by decide), F29.kp, bN F29 fun _ _ _ _ _ _ us hl => match us, hl with | [_, _], _ => rfl⟩
  have gTx : TxG P w K mg base := ⟨_, d30, ok_tx F30 T, T.gl "_law_text" (by decide), F30.kp, bN F30 fun _ _ _ _ _ _ us hl => match us, hl with | [_], _ => rfl⟩
  have gIs : IsG P w K mg base := ⟨_, d31, ok_is F31 T gPl gTx gt, T.gl "_law_is" (by decide), F31.kp, bN F31 fun _ _ _ _ _ _ us hl => match us, hl with | [_, _], _ => rfl⟩
  have gMade : MadeG P w K mg base := ⟨_, d32, ok_made F32 T I, T.gl "_law_made" (by decide), F32.kp, bN F32 fun _ _ _ _ _ _ us hl => match us, hl with | [_], _ => rfl⟩
  have rd : RefD K mg := ⟨_, d33, F33, T.gl "_law_refused" (by decide), bN F33 fun _ _ _ _ _ _ us hl => match us, hl with | [_], _ => rfl⟩
  have gRr : RrG P w K mg base Pt := ⟨_, d34, ok_rr F34 hc TB T rd gPick opx repR iniR, T.gl "_law_refusals_right" (by decide), F34.kp, bN F34 fun _ _ _ _ _ _ us hl => match us, hl with | [_, _], _ => rfl⟩
  have gVr : VrG P w K mg base := ⟨_, d35, ok_vr F35 T gDraw gVal gAt, T.gl "_law_values_right" (by decide), F35.kp, bN F35 fun _ _ _ _ _ _ us hl => match us, hl with | [_, _, _], _ => rfl⟩
  have gRt : RtG P w K mg base Pt := ⟨_, d36, ok_rt F36 T gDraw gRow gPl gMade gSum gPro gIs gVr gRr gt ops, T.gl "_law_right" (by decide), F36.kp, bN F36 fun _ _ _ _ _ _ us hl => match us, hl with | [_], _ => rfl⟩
  exact ok_law F37 T gRt gRng
/-- the table of refusals_right's code object -/
theorem tab_K {h : Heap} {c Pt : Addr} (X : K.In h) (G : h.Ns mainGlobals mg) (T : TT K mg) (s : Says K) (e : PySem.W.tabIn K "_law_refusals_right" = some (c, Pt)) : codeIs K (He.ga K "_law_refusals_right") c ∧ PySem.W.CodeHd h c Pt ∧ K.lookup Pt = none := by
  have c1 : (((fa.all fun f => f.ok K) && fn.all fun d => d.ok K) && (chk K && tabB K)) = true := congrArg (fun z : AlX => z.1.1) s
  have k := (He.ba (He.ba c1).2).2
  unfold tabB at k
  rw [e] at k
  obtain ⟨k1, k2⟩ := He.ba k
  refine ⟨?_, PySem.W.codeHd_of_K X k1, by simpa using k2⟩
  unfold PySem.W.tabIn at e
  split at e
  · rename_i f hf
    have e1 := PySem.W.mg_of X G hf
    rw [T.gl "_law_refusals_right" (by decide)] at e1
    cases e1
    split at e
    · rename_i oc od fd osl hfo
      split at e
      · rename_i c2 hcd
        split at e
        · split at e
          · cases e
            exact ⟨_, _, _, _, hfo, hcd⟩
          · cases e
        · cases e
      · cases e
    · cases e
  · cases e
end
end K70

set_option maxHeartbeats 0
namespace K70
open PySem PySem.Spec PyProof.Rows L2 HandSHeadRun PySem.W
theorem run_obs (w : World) : (wholeF (fun p => stepQ (denQ tabQ) p w) fenceQ 20000 R.prog).map (fun x => ob x.2) = some (valX, some (PySem.W.tabObj #[])) := by
  kernel_rfl
end K70

set_option maxHeartbeats 0
namespace K70
open PySem PySem.Spec PyProof.Rows L2 HandSHeadRun PySem.W
theorem run_look (w : World) : (wholeF (fun p => stepQ (denQ tabQ) p w) fenceQ 20000 R.prog).map (fun x => (looksF R.prog x.1.heap x.2.abs, seenQ (view R.prog [0, 37]) names (importedModules R.prog.main.body) (fun s => xlAt (view R.prog [0, 37]) [] s && recOk R.toRowW.records s) x.2.abs)) = some (true, openGood (view R.prog [0, 37]) names) := by
  kernel_rfl
end K70

set_option maxHeartbeats 0
namespace K70
open PySem PySem.Spec PyProof.Rows L2 RtL ErL HandSHeadRun PySem.W
theorem run (w : World) : RunEqI R (view R.prog [0, 37]) hk ob 20000 names w := by
  have a := run_look w
  have b := run_obs w
  unfold RunEqI
  cases e : wholeF (fun p => stepQ (denQ tabQ) p w) fenceQ 20000 R.prog with
  | none =>
    rw [e] at a
    cases a
  | some x =>
    rw [e] at a b
    have a' := Option.some.inj a
    have b' : ob x.2 = (valX, some (PySem.W.tabObj #[])) := Option.some.inj b
    show some (_, _, ob x.2) = some (true, openGood (view R.prog [0, 37]) names, (valX, some (PySem.W.tabObj #[])))
    rw [b']
    have a1 := congrArg Prod.fst a'
    have a2 := congrArg Prod.snd a'
    exact congrArg some (Prod.ext a1 (Prod.ext a2 rfl))
end K70
open PySem PySem.W PySem.Calls PyProof.Rows
theorem PySem.Challenge.cw_slotsums_k70_polynomials_holds : PySem.Challenge.rw_slotsums_k70_polynomials.Holds := by
  w_on; o_law
  refine HandSHeadRun.head_imp (r := K70.R) (q := view K70.R.prog [0, 37]) (H := K70.hk) (ob := K70.ob) (M := 20000) (loose := K70.names) (d := HandSHeadRun.topDef K70.R.prog 37) (kwd := []) K70.ob_eq
    K70.run (by kernel_rfl) (by kernel_rfl) (by kernel_rfl) (by rfl) (by first | assumption | decide +kernel) (by decide +kernel) ⟨rfl, rfl, rfl, rfl, rfl, by decide +kernel⟩ ?hw ?hc
  case hw => w_witness2
  case hc =>
    refine Att.attach_call (l := PySem.Challenge.rw_slotsums_k70_polynomials) (n := 63) rfl (by kernel_rfl) fun w s0 st mg mb fl o pm cd doc sc us zs G Y ho hd hcd hmg here iz lz ng => ?_
    obtain ⟨K, kin, cK, c, Pt, tI, tO⟩ := Y
    have T := K70.tt_of kin G.T.g cK
    obtain ⟨hc, ch, tk⟩ := K70.tab_K kin G.T.g T cK tI
    obtain ⟨fd, bd, F⟩ := K70.law_G (P := (PySem.Challenge.rw_slotsums_k70_polynomials).prog) (w := w) (Pt := Pt) T hc
    have e1 : (HandSHeadRun.topDef K70.R.prog 37).name = ("law" : PySem.Str) := by kernel_rfl
    have e2 := (T.gl "law" (by decide)).symm.trans ((congrArg mg e1).symm.trans hmg)
    cases e2
    exact K70.lawGT kin G.T.g G.T.b G.T.builtins G.T.nolimit ng tO tk ch G.T.bmain here iz (Nat.le_trans lz (by decide)) ⟨rfl, by decide, by decide⟩ (fun b _ _ TB => F b TB) bd fun H hP q => ⟨sc, zs, rfl, q, lz, fun p hp => by rw [List.mem_singleton.mp hp]; exact LamX.TabS.nil hP, fun _ => rfl⟩


import PyProof.Rows.All
import Wide.All
import OpenK.AllK
import Wide.FinOn
import KE.KOpsOwn
import HandS.ForMost
import HandS.SlotsOwn
import HandS.Defaults
import HandS.Property
import HandS.ClsMeth
import HandS.Gcd
import HandS.IsInst
import HandS.FStr
import HandS.Head0
import HandS.Head1
import HandS.Head2
import HandS.Head3
import HandS.HeadEnd
import HandS.HeadHook1
import HandS.HeadHook2
import PyProof.EqAt
import PyProof.EqKinds
import PyProof.TupleCall
import KE.KExcInit
import KE.KExcStr
import HandS.Exc
import KE.KExcIs
import HandS.ExcOwn
import KE.KNest
import KE.KNestM
import PyProof.ReprNest
import PyProof.ReprRoads
import HandS.ForExc
import HandS.TryOnly
import HandS.ExcIs
import HandS.Lambda
import HandS.Zip0
import HandS.Walk
import HandS.TupSets
import KE.KeyNested
import HandS.Strs
import HandS.SetFor
import KE.SortData
import HandS.Evl
import HandS.Wide
import HandS.Star
import HandS.Conv
import HandS.Words
import HandS.TupAny
import HandS.StrMore
import HandS.Text
import HandS.AnyAll
import HandS.Deep
import HandS.FStrTup
import HandS.SetBool
import HandS.WideBits
import HandS.Codes
import HandS.EndTab
import HandS.TryMany
import KE.DataMinMax
import PyProof.P3Eq
import HandS.TupLe
import PySem.Challenge.RW_slotsums_k11_symmetric_and_alternating
set_option Elab.async false
set_option linter.all false
set_option maxRecDepth 100000
set_option maxHeartbeats 1000000
/-! operators of an own class over the layer: a method of two operands, a method of one, == -/
namespace RtL
open PySem PySem.Spec PyProof.Rows L2
section
variable {X : Cx} {CX : CXT} {k : Nat} {f C : Addr} {fd : FuncData} {sp : Sp} {E : XK} {ps : List Str}
/-- x op y by the method of x's class, y of the same class or a whole number -/
def rOwnBin (C : Addr) (sp : Sp) (E : XK) : R2 := fun x y H Q => ∃ a dx fs, x = .ref a ∧ H a = some (.ins C dx fs) ∧ ((∃ i, y = .int i) ∨ ∃ b dy gs, y = .ref b ∧ H b = some (.ins C dy gs)) ∧ sp [.ref a, y] H Q E
/-- what is asked of the class -/
structure OpOf (K : PySem.W.Frag) (C f : Addr) (d r : Str) : Prop where
  me : PySem.W.selfFirst K C = true
  at_ : PySem.W.findIn K (.ref C) d = some (some (.ref f))
  fn : PySem.W.isFn K (.ref f) = true
  re : PySem.W.findIn K (.ref C) r = some none
  nt : PySem.W.subIn K (.type "int") (.ref C) = some false
theorem op_ownBin {op : Operator} {fo ro : Option Value} (O : OpOf X.K C f (PySem.dunder op.info.2) (PySem.dunderR op.info.2)) (h1 : PySem.W.findIn X.K (.type "int") (PySem.dunder op.info.2) = some fo) (h2 : PySem.W.findIn X.K (.type "int") (PySem.dunderR op.info.2) = some ro)
    (F : FnOk X.prog X.w X.K X.mg X.base CX k f fd ps sp) (hr : Room k X.A) (hb : Binds X.K fd ps []) (hx : Passes CX X E) : OpR X (binaryOp op) (rOwnBin C sp E) := by
  intro pins s σ H x y v u Q I rx ry h
  obtain ⟨a, dx, fs, rfl, ha, hy, q⟩ := h
  cases (show v = Value.ref a from rx)
  obtain ⟨mA, oa, _⟩ := ins_get I.hok ha
  obtain ⟨od, J, _⟩ := oa.look
  obtain ⟨m, hF⟩ := I.fr
  have go := wpAny_mono (run_fn F hr hb .nil hx I (us := [.ref a, u]) (vs := [.ref a, y]) (.cons rfl (.cons ry .nil)) q) (fun w s' z => (by
    obtain ⟨z', H', I', rz, qz⟩ := z
    exact SlX.cmpback rz ⟨z', H', I', rz, qz⟩ : PySem.W.CmpBack (EP X pins σ Q) w s')) fun _ _ x => x
  rcases hy with ⟨i, rfl⟩ | ⟨b, dy, gs, rfl, hb'⟩
  · obtain ⟨t, e⟩ := (show ∃ t, u = Value.int i t from ry)
    subst e
    exact PySem.W.ksp_binT hF I.ok.mod.kin J rfl O.me O.at_ O.fn O.re (.inl rfl) h1 h2 O.nt go
  · cases (show u = Value.ref b from ry)
    obtain ⟨mB, ob, _⟩ := ins_get I.hok hb'
    obtain ⟨od', J', _⟩ := ob.look
    exact PySem.W.binop_K hF I.ok.mod.kin J J'.type O.me O.at_ O.fn go
/-- - x by the method of x's class -/
def rOwnUn (C : Addr) (sp : Sp) (E : XK) : V → Hp → VK → Prop := fun x H Q => ∃ a dx fs, x = .ref a ∧ H a = some (.ins C dx fs) ∧ sp [.ref a] H Q E
theorem un_own (hs : PySem.W.findIn X.K (.ref C) "__neg__" = some (some (.ref f))) (hf : PySem.W.isFn X.K (.ref f) = true) (F : FnOk X.prog X.w X.K X.mg X.base CX k f fd ps sp) (hr : Room k X.A) (hb : Binds X.K fd ps []) (hx : Passes CX X E) :
    UnR X (unaryOp .USub) (rOwnUn C sp E) := by
  intro pins s σ H x v Q I rx h
  obtain ⟨a, dx, fs, rfl, ha, q⟩ := h
  cases (show v = Value.ref a from rx)
  obtain ⟨mA, oa, _⟩ := ins_get I.hok ha
  obtain ⟨od, J, _⟩ := oa.look
  obtain ⟨m, hF⟩ := I.fr
  exact PySem.W.ksp_neg hF I.ok.mod.kin J hs hf (run_fn F hr hb .nil hx I (us := [.ref a]) (vs := [.ref a]) (.cons rfl .nil) q)
/-- x == y by the method of x's class, y of the same class, a whole number, a text, None or a truth value -/
def rOwnEq (C : Addr) (sp : Sp) (E : XK) : R2 := fun x y H Q => ∃ a dx fs, x = .ref a ∧ H a = some (.ins C dx fs) ∧ ((∃ b dy gs, y = .ref b ∧ H b = some (.ins C dy gs)) ∨ (∃ i, y = .int i) ∨ (∃ z, y = .str z) ∨ y = .non ∨ ∃ c, y = .bl c) ∧ sp [.ref a, y] H Q E
structure EqOf (K : PySem.W.Frag) (C f : Addr) : Prop where
  at_ : PySem.W.findIn K (.ref C) "__eq__" = some (some (.ref f))
  fn : PySem.W.isFn K (.ref f) = true
  nt : ∀ t ∈ ["int", "str", "NoneType", "bool"], PySem.W.subIn K (.type t) (.ref C) = some false
theorem op_ownEq (O : EqOf X.K C f) (F : FnOk X.prog X.w X.K X.mg X.base CX k f fd ps sp) (hr : Room k X.A) (hb : Binds X.K fd ps []) (hx : Passes CX X E) : OpR X (compareOp .Eq) (rOwnEq C sp E) := by
  intro pins s σ H x y v u Q I rx ry h
  obtain ⟨a, dx, fs, rfl, ha, hy, q⟩ := h
  cases (show v = Value.ref a from rx)
  obtain ⟨mA, oa, _⟩ := ins_get I.hok ha
  obtain ⟨od, J, _⟩ := oa.look
  obtain ⟨m, hF⟩ := I.fr
  have go := wpAny_mono (run_fn F hr hb .nil hx I (us := [.ref a, u]) (vs := [.ref a, y]) (.cons rfl (.cons ry .nil)) q) (fun w s' z => (by
    obtain ⟨z', H', I', rz, qz⟩ := z
    exact SlX.cmpback rz ⟨z', H', I', rz, qz⟩ : PySem.W.CmpBack (EP X pins σ Q) w s')) fun _ _ x => x
  have nf : ∀ t ∈ ["int", "str", "NoneType", "bool"], PySem.W.notFirst X.K C (.type t) = true := fun t ht => by
    unfold PySem.W.notFirst
    rw [O.nt t ht]
    simp
  show wpAny _ _ (richCompare .Eq _ _) _ _ _
  rcases hy with ⟨b, dy, gs, rfl, hb'⟩ | ⟨i, rfl⟩ | ⟨z, rfl⟩ | rfl | ⟨c, rfl⟩
  · cases (show u = Value.ref b from ry)
    obtain ⟨mB, ob, _⟩ := ins_get I.hok hb'
    obtain ⟨od', J', _⟩ := ob.look
    exact PySem.W.cmp_K (op := .Eq) (tb := .ref C) hr.units0 hF I.ok.mod.kin J J'.type (by unfold PySem.W.notFirst; simp) O.at_ O.fn go
  · obtain ⟨t, e⟩ := (show ∃ t, u = Value.int i t from ry)
    subst e
    exact PySem.W.cmp_K (op := .Eq) (tb := .type "int") hr.units0 hF I.ok.mod.kin J (PySem.W.Looks.of_pure rfl) (nf _ (by decide)) O.at_ O.fn go
  · obtain ⟨t, e⟩ := (show ∃ t, u = Value.str z t from ry)
    subst e
    exact PySem.W.cmp_K (op := .Eq) (tb := .type "str") hr.units0 hF I.ok.mod.kin J (PySem.W.Looks.of_pure rfl) (nf _ (by decide)) O.at_ O.fn go
  · cases (show u = Value.none from ry)
    exact PySem.W.cmp_K (op := .Eq) (tb := .type "NoneType") hr.units0 hF I.ok.mod.kin J (PySem.W.Looks.of_pure rfl) (nf _ (by decide)) O.at_ O.fn go
  · cases (show u = Value.bool c from ry)
    exact PySem.W.cmp_K (op := .Eq) (tb := .type "bool") hr.units0 hF I.ok.mod.kin J (PySem.W.Looks.of_pure rfl) (nf _ (by decide)) O.at_ O.fn go
end
end RtL

set_option maxHeartbeats 1000000
/-! a def that stands anywhere (a property's getter, a classmethod's def): what the head's look says of it -/
namespace RtL
open PySem PySem.Spec PyProof.Rows L2
abbrev Fr := PySem.W.Frag
def lookA (K : Fr) (a : Addr) : He.FnW := match K.lookup a with
  | some ⟨_, _, .func d, _⟩ => some (d.name, d.qualname, d.params, d.body, d.scope, d.globals, d.closure, d.builtins)
  | _ => none
def wellA (K : Fr) (a : Addr) (q : Str) (ds : List He.Dv) : Bool := PySem.W.keepIn K (.ref a) && match K.lookup a with
  | some ⟨_, _, .func d, _⟩ => PySem.W.codeIn K d.code q && (He.dflB K d.defaults (ds.map (He.Dv.v K)) && He.kwdB K d.kwdefaults [])
  | _ => false
theorem def_at {K : Fr} {a : Addr} {x q : Str} {ps : Arguments} {bd : List Stmt} {sc : Scope} {ds : List He.Dv} (e : lookA K a = some (x, q, ps, .stmts bd, sc, mainGlobals, [], builtinsNs)) (c : wellA K a q ds = true) :
    ∃ fd, FunD K x q ps bd sc (ds.map (He.Dv.v K)) [] a fd := by
  have c1 := (Bool.and_eq_true_iff.mp c).1
  have c2 := (Bool.and_eq_true_iff.mp c).2
  unfold lookA at e
  cases hl : K.lookup a with
  | none => rw [hl] at e; cases e
  | some o =>
    obtain ⟨o1, o2, dt, o3⟩ := o
    rw [hl] at e c2
    cases dt with
    | func d =>
      obtain ⟨m1, m2, m3, m4, m5, m6, m7, m8, m9, m10, m11, m12, m13, m14, m15⟩ := d
      have e' : (some (m1, m2, m3, m4, m5, m6, m7, m15) : He.FnW) = some (x, q, ps, .stmts bd, sc, mainGlobals, [], builtinsNs) := e
      injection e' with e'
      simp only [Prod.mk.injEq] at e'
      obtain ⟨rfl, rfl, rfl, rfl, rfl, rfl, rfl, rfl⟩ := e'
      have c3 : (PySem.W.codeIn K m13 m2 && (He.dflB K m8 (ds.map (He.Dv.v K)) && He.kwdB K m9 [])) = true := c2
      have c4 := (Bool.and_eq_true_iff.mp c3).2
      exact ⟨_, ⟨o1, o2, m8, m9, m10, m11, m12, m13, m14, o3, rfl, hl, (Bool.and_eq_true_iff.mp c3).1, He.dflB_ok (Bool.and_eq_true_iff.mp c4).1, He.kwdB_ok (Bool.and_eq_true_iff.mp c4).2⟩, c1⟩
    | _ => cases c2
/-- the def of a record (a property, a classmethod) that a class has under a name -/
def recA (K : Fr) (C : Addr) (f : Str) (T : String) : Addr := match PySem.W.recIn K (He.ma K C f) T with
  | some (.ref g :: _) => g
  | _ => 0
def propB (K : Fr) (C : Addr) (f : Str) : Bool := He.eqO (PySem.W.findIn K (.ref C) f) (some (some (.ref (He.ma K C f)))) && (He.eqO (PySem.W.specialIn K (.ref (He.ma K C f)) "__get__") (some (some (.builtin "property.__get__"))) &&
  (decide (PySem.W.takesIn K (.ref (He.ma K C f)) = some true) && match PySem.W.recIn K (He.ma K C f) "property" with
    | some (.ref _ :: _) => true
    | _ => false))
theorem prop_ok {K : Fr} {C : Addr} {f : Str} (h : propB K C f = true) : PropOf K C f (He.ma K C f) (recA K C f "property") := by
  have h1 := (Bool.and_eq_true_iff.mp h).1
  have h2 := (Bool.and_eq_true_iff.mp (Bool.and_eq_true_iff.mp h).2).1
  have h3 := (Bool.and_eq_true_iff.mp (Bool.and_eq_true_iff.mp (Bool.and_eq_true_iff.mp h).2).2).1
  have h4 := (Bool.and_eq_true_iff.mp (Bool.and_eq_true_iff.mp (Bool.and_eq_true_iff.mp h).2).2).2
  refine ⟨He.eqO_ok h1, He.eqO_ok h2, of_decide_eq_true h3, ?_⟩
  unfold recA
  split at h4
  · rename_i g r e
    exact ⟨r, by rw [e]⟩
  · cases h4
end RtL

set_option maxHeartbeats 4000000
namespace PySem
namespace Er
open PySem.W PySem.Calls PyProof.Rows PySem.HandSPX
section
variable {M : Model} {A : Around} {E : Value → Shared → Prop} {h : Heap} {g : Array GenState} {d : Drawn} {t : Nat} {os : OsState}
variable {nm q : Str} {C N : Addr} {bs bm bmB : List Value} {hdct : Bool} {sn : List Str} {sub : List Value} {ab : Bool} {col : Option Bool}
variable {dd : Option Addr} {k0 k1 k2 k3 k5 : Option Value} {B newId initId : String}
variable {prog : Program} {w : World} {R : Result → Shared → Prop}

theorem check_newK (FB : ExcBaseFacts B newId initId bmB) (hT : ∀ T : String, bm.contains (.type T) = bmB.contains (.type T)) {rest : List Value}
    {kw : List (Str × Value)} {Q : Unit → Shared → Prop}
    (hC : h.get? C = some (excClassObj nm q C N bs bm hdct sn sub ab col dd k0 k1 k2 k3 k5 newId))
    (hq : Q () ⟨h, g, d, t, os⟩) : wpAny M A (checkBuiltinCall newId ⟨.ref C :: rest, kw⟩) Q E ⟨h, g, d, t, os⟩ := by
  have hcont : (Value.ref C :: bm).contains (.type B) = true := by
    rw [List.contains_cons, hT, FB.hasB, Bool.or_true]
  have hstar := FB.noStar
  simp only [checkBuiltinCall, FB.newKind, FB.newSplit, FB.newRow]
  repeat (first
    | refine wpAny_loadPart_at hC ?_
    | (refine wpAny_isSubtype_exc hC ?_; rw [hcont])
    | refine wpAny_staticBase_exc hC ?_
    | refine wpAny_madeBy_exc hC ?_
    | simp only [bne_self_eq_false, Bool.false_eq_true, if_false]
    | wp_step)
  exact hq

theorem newK (FB : ExcBaseFacts B newId initId bmB) (hT : ∀ T : String, bm.contains (.type T) = bmB.contains (.type T)) {rest : List Value} {kw : List (Str × Value)}
    (hC : h.get? C = some (excClassObj nm q C N bs bm hdct sn sub ab col dd k0 k1 k2 k3 k5 newId))
    (hq : R (.ok (.ret (.ref (h.objs.size + 1)))) ⟨(h.push (kdv_tup rest)).push (excO C h.objs.size), g, d, t, os⟩) (hrest : rest.length ≤ sizeLine) :
    codeAny (model prog w) A (.builtin newId ⟨.ref C :: rest, kw⟩) R ⟨h, g, d, t, os⟩ := by
  have hends := FB.ends
  have hcB : (Value.ref C :: bm).contains (.type B) = true := by
    rw [List.contains_cons, hT, FB.hasB, Bool.or_true]
  have hcA : (Value.ref C :: bm).contains (.type "AttributeError") = false := by
    rw [List.contains_cons, hT, FB.noAttr]
    rfl
  have hcN : (Value.ref C :: bm).contains (.type "NameError") = false := by
    rw [List.contains_cons, hT, FB.noName]
    rfl
  refine codeAny_builtinAt FB.entry ?_
  unfold Builtin.«BaseException.__new__»
  refine wpAt_bind ?_
  show wpAt _ _ _ (stack >>= _) _ _ _
  refine wpAt_bind (wpAt_stack fun p below => wpAt_of_wpAny ?_)
  wp_walk
  refine wpAt_of_wpAny ?_
  rw [FB.owner]
  repeat (first
    | with_reducible refine wpAny_madeHere_exc FB.canon hC ?_
    | with_reducible refine wpAny_loadPart_at hC ?_
    | (with_reducible refine wpAny_isSubtype_exc hC ?_; first | rw [hcB] | rw [hcA] | rw [hcN])
    | wp_step)
  show R _ _
  rw [Heap.size_push]
  exact hq

theorem type_callK (FB : ExcBaseFacts B newId initId bmB) (hT : ∀ T : String, bm.contains (.type T) = bmB.contains (.type T)) {rest : List Value} {kw : List (Str × Value)} {fI : Addr} {Q : Fin → Shared → Prop}
    (hC : h.get? C = some (excClassObj nm q C N bs bm hdct sn sub ab col dd k0 k1 k2 k3 k5 newId))
    (hi : W.Looks (model prog w) h (typeLookup (.ref C) "__init__") (some (.ref fI)))
    (hb : ∀ self, W.Looks (model prog w) h (bindSpecial (.ref fI) self) (.ref fI, [self])) (hrest : rest.length ≤ sizeLine)
    (hq : codeAny (model prog w) A (.call (.ref fI) ⟨.ref (h.objs.size + 1) :: rest, kw⟩)
      (fun r s' => match r with | .ok (.ret v) => v = .none ∧ Q (.done (.ret (.ref (h.objs.size + 1)))) s' | .ok _ => False | .error e => E e s')
      ⟨(h.push (kdv_tup rest)).push (excO C h.objs.size), g, d, t, os⟩) :
    wpAny (model prog w) A (Builtin.«type.__call__» ⟨.ref C :: rest, kw⟩) Q E ⟨h, g, d, t, os⟩ := by
  repeat (first
    | with_reducible refine wpAny_loadPart_at hC ?_
    | with_reducible refine wpAny_madeBy_exc hC ?_
    | wp_step)
  refine codeAny_call_builtin_code (Code.quiet_builtin _ FB.quiet) (check_newK FB hT hC ?_)
  refine newK FB hT hC ?_ hrest
  show wpAny _ _ _ _ _ _
  have k : ∀ b o, h.get? b = some o → ((h.push (kdv_tup rest)).push (excO C h.objs.size)).get? b = some o :=
    fun b o e => Heap.get?_push_of_some _ (Heap.get?_push_of_some _ e)
  have hC1 := k _ _ hC
  have hget : ((h.push (kdv_tup rest)).push (excO C h.objs.size)).get? (h.objs.size + 1) = some (excO C h.objs.size) := by heap_get
  have hcC : (Value.ref C :: bm).contains (.ref C) = true := by simp
  have i1 := hi.keeps k
  have b1 := (hb (.ref (h.objs.size + 1))).keeps k
  unfold isInstance
  repeat (first
    | with_reducible refine wpAny_loadPart_at hget ?_
    | (with_reducible refine wpAny_isSubtype_exc hC1 ?_; rw [hcC])
    | wp_step)
  show wpAny _ _ (typeLookup (.ref C) _) _ _ _
  refine i1.at ?_
  refine wpAny_holding (wpAny_bind (b1.at ?_))
  refine wpAny_bind (wpAny_call (codeAny_mono hq fun r s' z => ?_))
  rcases r with e | (v | _ | _ | _) <;> first | exact z | exact z.elim | skip
  obtain ⟨rfl, z⟩ := z
  first
    | exact wpAny_pure (wpAny_pure z)
    | (wp_walk; exact z)

theorem call_ownK (FB : ExcBaseFacts B newId initId bmB) (hT : ∀ T : String, bm.contains (.type T) = bmB.contains (.type T)) {rest : List Value} {kw : List (Str × Value)} {fI : Addr}
    (hC : h.get? C = some (excClassObj nm q C N bs bm hdct sn sub ab col dd k0 k1 k2 k3 k5 newId))
    (hi : W.Looks (model prog w) h (typeLookup (.ref C) "__init__") (some (.ref fI)))
    (hb : ∀ self, W.Looks (model prog w) h (bindSpecial (.ref fI) self) (.ref fI, [self])) (hrest : rest.length ≤ sizeLine)
    (hq : codeAny (model prog w) (A.under (.builtin "type.__call__" ⟨.ref C :: rest, kw⟩)) (.call (.ref fI) ⟨.ref (h.objs.size + 1) :: rest, kw⟩)
      (W.InitBack (h.objs.size + 1) R) ⟨(h.push (kdv_tup rest)).push (excO C h.objs.size), g, d, t, os⟩) :
    codeAny (model prog w) A (.call (.ref C) ⟨rest, kw⟩) R ⟨h, g, d, t, os⟩ := by
  have f1 := tc_lookup
  have f2 := tc_bind (.ref C)
  have hTy : (⟨h, g, d, t, os⟩ : Shared).TypeIs (.ref C) "type" := ⟨_, hC, rfl⟩
  refine codeAny_of_tree ?_
  show wpAny _ _ (callAny (.ref C) _) _ _ _
  repeat (any_goals (first
    | assumption
    | with_reducible refine wpAny_loadPart_at hC ?_
    | wp_step))
  refine ⟨rfl, ?_⟩
  refine codeAny_call_builtin_at (Code.quiet_builtin _ (by decide +kernel)) entry_typeCall (wpAny_check_type_call_sub hC (type_callK FB hT hC hi hb hrest ?_))
  refine codeAny_mono hq fun r s' z => ?_
  rcases r with e | (v | _ | _ | _) <;> exact z
end
end Er
end PySem

set_option maxHeartbeats 4000000
namespace PySem
namespace Er
open PySem.W PySem.Calls PyProof.Rows Builtin Builtin.ObjectAttr
open PySem.HandSPX (excO)
section
variable {prog : Program} {w : World} {A : Around} {E : Value → Shared → Prop} {R : Result → Shared → Prop} {hp : Heap} {g : Array GenState} {d : Drawn} {t : Nat} {os : OsState}
variable {K : Frag} {C : Addr} {B : String} {bmB : List Value}

/-- the first field of an error -/
theorem put_new {name : Str} {tk : Tok} {v : Value} {x t0 : Addr} (SF : StoreFacts B bmB "object.__setattr__" "object") (X : K.In hp)
    (hx : hp.get? x = some (excO C t0)) (ho : excOver K C bmB = true) (ht : takerIn K C name = some none) (hh : hasDictIn K C = true)
    (hq : ∀ h' tk' dx, (∀ b o, b ≠ x → hp.get? b = some o → h'.get? b = some o) → hp.objs.size ≤ dx → dx ≠ x →
      h'.get? x = some { cls := .ref C, dict := some dx, data := .fields #[.ref t0, .none, .none, .none, .bool false, .none] } →
      h'.Ns1 dx (fun y => if y = name then some v else none) → R (.ok (.ret .none)) ⟨h', g, d, tk', os⟩) :
    codeAny (model prog w) A (.call (.builtin "object.__setattr__") ⟨[.ref x, .str name tk, v], []⟩) R ⟨hp, g, d, t, os⟩ := by
  have hxs : x ≠ hp.objs.size := Nat.ne_of_lt (Heap.lt_size hx)
  refine osa_openX (od := none) SF X ⟨hx, rfl, rfl, trivial⟩ ho ht fun b => ?_
  obtain ⟨cd, hc, hd'⟩ := any_some hh
  have hcls : W.Looks (model prog w) hp (classData C) cd := looks_clsIn X hc
  obtain ⟨nm, bs, mro, ns, qn, hd, sn, sb, ab, col, del⟩ := cd
  dsimp only at hd'
  subst hd'
  unfold storeInOwnDict ownDictForStores
  repeat (first
    | with_reducible refine PX.store_in_new ?_ ?_
    | with_reducible refine wpAny_loadPart_at hx ?_
    | with_reducible refine hcls.at ?_
    | wp_step)
  · exact ⟨_, #[], _, (Heap.get?_update_ne _ _ _ _ hxs.symm).trans (Heap.get?_push_at rfl rfl), rfl, fun e he => absurd he (by simp), fun _ => rfl⟩
  · intro h' tk' hn' hs
    have hx1 : (hp.push { cls := .type "dict", data := .dict #[] }).get? x = some (excO C t0) := Heap.get?_push_of_some _ hx
    refine hq h' tk' hp.objs.size (fun b o hb ho => ?_) (Nat.le_refl _) hxs.symm ?_ hn'
    · exact (hs.2 b (Nat.ne_of_lt (Heap.lt_size ho))).trans ((Heap.get?_update_ne _ _ _ _ hb).trans (Heap.get?_push_of_some _ ho))
    · exact (hs.2 x hxs).trans (Heap.get?_update_self _ hx1 rfl)

/-- a further one -/
theorem put_old {name : Str} {tk : Tok} {v : Value} {x dx : Addr} {fv : Array Value} {m0 : Str → Option Value} {nl : List Str} (SF : StoreFacts B bmB "object.__setattr__" "object") (X : K.In hp)
    (hx : hp.get? x = some { cls := .ref C, dict := some dx, data := .fields fv }) (hns : hp.Ns1 dx m0) (hw : Within m0 nl) (hz : nl.length ≤ 1000)
    (ho : excOver K C bmB = true) (ht : takerIn K C name = some none) (hh : hasDictIn K C = true)
    (hq : ∀ h' tk', (∀ b o, b ≠ dx → hp.get? b = some o → h'.get? b = some o) → h'.Ns1 dx (fun y => if y = name then some v else m0 y) →
      R (.ok (.ret .none)) ⟨h', g, d, tk', os⟩) :
    codeAny (model prog w) A (.call (.builtin "object.__setattr__") ⟨[.ref x, .str name tk, v], []⟩) R ⟨hp, g, d, t, os⟩ := by
  obtain ⟨oD, esD, epD, hoD, hdD, _⟩ := hns.count hw
  refine osa_openX (od := some oD) SF X ⟨hx, rfl, rfl, hoD⟩ ho ht fun b => ?_
  obtain ⟨cd, hc, hd'⟩ := any_some hh
  have hcls : W.Looks (model prog w) hp (classData C) cd := looks_clsIn X hc
  obtain ⟨nm, bs, mro, ns, qn, hd, sn, sb, ab, col, del⟩ := cd
  dsimp only at hd'
  subst hd'
  unfold storeInOwnDict ownDictForStores
  repeat (first
    | with_reducible refine PX.store_in_old hns hw hz ?_
    | with_reducible refine wpAny_loadPart_at hx ?_
    | with_reducible refine hcls.at ?_
    | wp_step)
  intro h' tk' hn' hs
  exact hq h' tk' (fun b o hb ho => (hs.2 b hb).trans ho) hn'
end

/-! ### the texts of the two kinds of __init__ -/
def iA1 (f : Str) (p1 p2 : Pos) : Arguments :=
  { posonlyargs := [], args := [{ arg := "self", annotation := none, pos := p1 }, { arg := f, annotation := none, pos := p2 }], vararg := none, kwonlyargs := [], kw_defaults := [], kwarg := none, defaults := [] }
def iB1 (f : Str) (q1 q2 q3 q4 : Pos) : List Stmt := [.Assign [.Attribute (.Name "self" q1) f q2] (.Name f q3) q4]
def iS1 (f : Str) : Scope := { kind := .function, names := [(PySem.Str.ofString "self", .local), (f, .local)], isGenerator := false, isCoroutine := false, more := [] }
def iA2 (f f' : Str) (p1 p2 p3 : Pos) : Arguments :=
  { posonlyargs := [], args := [{ arg := "self", annotation := none, pos := p1 }, { arg := f, annotation := none, pos := p2 }, { arg := f', annotation := none, pos := p3 }], vararg := none, kwonlyargs := [], kw_defaults := [], kwarg := none, defaults := [] }
def iB2 (f f' : Str) (q1 q2 q3 q4 r1 r2 r3 r4 : Pos) : List Stmt :=
  [.Assign [.Attribute (.Name "self" q1) f q2] (.Name f q3) q4, .Assign [.Attribute (.Name "self" r1) f' r2] (.Name f' r3) r4]
def iS2 (f f' : Str) : Scope := { kind := .function, names := [(PySem.Str.ofString "self", .local), (f, .local), (f', .local)], isGenerator := false, isCoroutine := false, more := [] }

/-- a local name is read -/
theorem ld {M : Model} {s : Shared} {name : Str} {scope : Scope} {L a : Addr} {cd : Value} {m : Str → Option Value} {x : Str} {pos : Pos} {v : Value} {Q : Value → Shared → Prop} {A : Around} {E : Value → Shared → Prop}
    (hn : s.heap.Ns L m) (hv : m x = some v) (h : Q v s) (hk : scope.kind = .function) (hl : (envOfC name scope L a cd).kindOf x = some .local) (hd : (x == ("__debug__" : Str)) = false) :
    wpAny M A (eval (.Name x pos) (envOfC name scope L a cd)) Q E s := wpAny_Name (wpAny_loadName_local hk hl hn hv h) hd

/-- what the class at C says of making and storing -/
structure Cl (K : Frag) (C : Addr) (B newId initId : String) (bmB : List Value) : Prop where
  FB : ExcBaseFacts B newId initId bmB
  SF : StoreFacts B bmB "object.__setattr__" "object"
  ini : excInitIn K C bmB newId = true
  ov : excOver K C bmB = true
  hd : hasDictIn K C = true
  sa : findIn K (.ref C) "__setattr__" = some (some (.builtin "object.__setattr__"))
  kC : keepIn K (.ref C) = true
/-- of its __init__ with one field -/
structure In1 (K : Frag) (C : Addr) (f : Str) : Prop where
  tk : takerIn K C f = some none
  nd : (f == ("__debug__" : Str)) = false
  ns : (f == ("self" : Str)) = false
  fn : ∃ (fI : Addr) (qual : Str) (oc : Value) (od : Option Addr) (kV doc pm : Value) (an : Option Addr) (cdv ct : Value) (osl : Array (Option Value)) (p1 p2 q1 q2 q3 q4 : Pos),
    findIn K (.ref C) "__init__" = some (some (.ref fI)) ∧ typeIn K (.ref fI) = some (.type "function") ∧
    K.lookup fI = some ⟨oc, od, .func (fnOf "__init__" qual (iA1 f p1 p2) (iB1 f q1 q2 q3 q4) (iS1 f) .none kV doc pm an cdv ct), osl⟩ ∧ codeIn K cdv qual = true
/-- of its __init__ with two fields -/
structure In2 (K : Frag) (C : Addr) (f f' : Str) : Prop where
  tk : takerIn K C f = some none
  tk' : takerIn K C f' = some none
  nd : (f == ("__debug__" : Str)) = false
  nd' : (f' == ("__debug__" : Str)) = false
  ns : (f == ("self" : Str)) = false
  ns' : (f' == ("self" : Str)) = false
  nf : (f' == f) = false
  fn : ∃ (fI : Addr) (qual : Str) (oc : Value) (od : Option Addr) (kV doc pm : Value) (an : Option Addr) (cdv ct : Value) (osl : Array (Option Value)) (p1 p2 p3 q1 q2 q3 q4 r1 r2 r3 r4 : Pos),
    findIn K (.ref C) "__init__" = some (some (.ref fI)) ∧ typeIn K (.ref fI) = some (.type "function") ∧
    K.lookup fI = some ⟨oc, od, .func (fnOf "__init__" qual (iA2 f f' p1 p2 p3) (iB2 f f' q1 q2 q3 q4 r1 r2 r3 r4) (iS2 f f') .none kV doc pm an cdv ct), osl⟩ ∧ codeIn K cdv qual = true

/-- a made error: e of the class C, its dict d, its arguments' tuple t -/
structure Made (h h' : Heap) (e C d t : Addr) (args : List Value) (m : Str → Option Value) : Prop where
  keep : ∀ b o, h.get? b = some o → h'.get? b = some o
  be : h.objs.size ≤ e
  bt : h.objs.size ≤ t
  bd : h.objs.size ≤ d
  te : t ≠ e
  de : d ≠ e
  dt : d ≠ t
  obj : h'.get? e = some { cls := .ref C, dict := some d, data := .fields #[.ref t, .none, .none, .none, .bool false, .none] }
  tup : h'.get? t = some (kdv_tup args)
  ns : h'.Ns1 d m
end Er
end PySem

set_option maxHeartbeats 4000000
namespace PySem
namespace Er
open PySem.W PySem.Calls PyProof.Rows Builtin Builtin.ObjectAttr
open PySem.HandSPX (excO)
section
variable {prog : Program} {w : World} {A : Around} {E : Value → Shared → Prop} {R : Result → Shared → Prop} {s : Shared}
variable {K : Frag} {C : Addr} {B newId initId : String} {bmB : List Value} {f f' : Str}

theorem kind1 {f : Str} (ns : (f == ("self" : Str)) = false) : (iS1 f).names.lookup f = some .local := by
  show List.lookup f [(PySem.Str.ofString "self", NameKind.local), (f, NameKind.local)] = some NameKind.local
  have e : (f == PySem.Str.ofString "self") = false := ns
  simp [List.lookup, e]
theorem kind2 {f f' : Str} (ns : (f == ("self" : Str)) = false) : (iS2 f f').names.lookup f = some .local := by
  show List.lookup f [(PySem.Str.ofString "self", NameKind.local), (f, NameKind.local), (f', NameKind.local)] = some NameKind.local
  have e : (f == PySem.Str.ofString "self") = false := ns
  simp [List.lookup, e]
theorem kind2' {f f' : Str} (ns : (f' == ("self" : Str)) = false) (nf : (f' == f) = false) : (iS2 f f').names.lookup f' = some .local := by
  show List.lookup f' [(PySem.Str.ofString "self", NameKind.local), (f, NameKind.local), (f', NameKind.local)] = some NameKind.local
  have e : (f' == PySem.Str.ofString "self") = false := ns
  simp [List.lookup, e, nf]

theorem ne_of_beq {a b : Str} (h : (a == b) = false) : a ≠ b := fun e => by
  subst e
  simp at h

/-- the body of an __init__ with one field -/
theorem body1 (c : Cl K C B newId initId bmB) (i : In1 K C f) {x t0 L a : Addr} {cd v : Value} {qual : Str} {q1 q2 q3 q4 : Pos} {m : Str → Option Value} (X : K.In s.heap)
    (hx : s.heap.get? x = some (excO C t0)) (hn : s.heap.Ns L m) (m1 : m "self" = some (.ref x)) (m2 : m f = some v) {Q : Flow → Shared → Prop}
    (hq : ∀ h' tk' dx, (∀ b o, b ≠ x → s.heap.get? b = some o → h'.get? b = some o) → s.heap.objs.size ≤ dx → dx ≠ x →
      h'.get? x = some { cls := .ref C, dict := some dx, data := .fields #[.ref t0, .none, .none, .none, .bool false, .none] } →
      h'.Ns1 dx (fun y => if y = f then some v else none) → Q .next { s with heap := h', toks := tk' }) :
    wpAny (model prog w) A (execs (iB1 f q1 q2 q3 q4) (envOfC qual (iS1 f) L a cd)) Q E s := by
  show wpAny _ _ (execs _ _) _ _ _
  refine wpAny_execs_cons (plainObj_wpAny_Assign_Attribute ?_)
  refine ld (v := v) hn m2 (ld (v := .ref x) hn m1 ?_ rfl rfl (by decide)) rfl (kind1 i.ns) i.nd
  refine set_plain X (ox := excO C t0) (od := none) ⟨hx, rfl, rfl, trivial⟩ c.sa ?_
  refine put_new c.SF X hx c.ov i.tk c.hd (fun h' tk' dx k dn dne hx' hns => ?_)
  show wpAny _ _ (execs _ _) _ _ _
  exact wpAny_execs_nil (hq h' tk' dx k dn dne hx' hns)
/-- .. with two -/
theorem body2 (c : Cl K C B newId initId bmB) (i : In2 K C f f') {x t0 L a : Addr} {cd v v' : Value} {qual : Str} {q1 q2 q3 q4 r1 r2 r3 r4 : Pos} {m : Str → Option Value} (X : K.In s.heap)
    (hx : s.heap.get? x = some (excO C t0)) (hLx : L ≠ x) (hKx : K.lookup x = none) (hn : s.heap.Ns L m) (m1 : m "self" = some (.ref x)) (m2 : m f = some v) (m3 : m f' = some v') {Q : Flow → Shared → Prop}
    (hq : ∀ h' tk' dx, (∀ b o, b ≠ x → s.heap.get? b = some o → h'.get? b = some o) → s.heap.objs.size ≤ dx → dx ≠ x →
      h'.get? x = some { cls := .ref C, dict := some dx, data := .fields #[.ref t0, .none, .none, .none, .bool false, .none] } →
      h'.Ns1 dx (fun y => if y = f' then some v' else if y = f then some v else none) → Q .next { s with heap := h', toks := tk' }) :
    wpAny (model prog w) A (execs (iB2 f f' q1 q2 q3 q4 r1 r2 r3 r4) (envOfC qual (iS2 f f') L a cd)) Q E s := by
  show wpAny _ _ (execs _ _) _ _ _
  refine wpAny_execs_cons (plainObj_wpAny_Assign_Attribute ?_)
  refine ld (v := v) hn m2 (ld (v := .ref x) hn m1 ?_ rfl rfl (by decide)) rfl (kind2 i.ns) i.nd
  refine set_plain X (ox := excO C t0) (od := none) ⟨hx, rfl, rfl, trivial⟩ c.sa ?_
  refine put_new c.SF X hx c.ov i.tk c.hd (fun h' tk' dx k dn dne hx' hns => ?_)
  have X' : K.In h' := fun b o e => k b o (fun z => by rw [z, hKx] at e; cases e) (X b o e)
  have hn' : h'.Ns L m := by
    obtain ⟨o, es, ep, ho, r⟩ := hn
    exact ⟨o, es, ep, k _ _ hLx ho, r⟩
  show wpAny _ _ (execs _ _) _ _ _
  refine wpAny_execs_cons (plainObj_wpAny_Assign_Attribute ?_)
  refine ld (v := v') hn' m3 (ld (v := .ref x) hn' m1 ?_ rfl rfl (by decide)) rfl (kind2' i.ns' i.nf) i.nd'
  obtain ⟨oD, esD, epD, hoD, hdD, _⟩ := hns.count (Within.cons f v Within.nil)
  refine set_plain X' (ox := { cls := .ref C, dict := some dx, data := .fields #[.ref t0, .none, .none, .none, .bool false, .none] }) (od := some oD) ⟨hx', rfl, rfl, hoD⟩ c.sa ?_
  refine put_old c.SF X' hx' hns (Within.cons f v Within.nil) (by simp) c.ov i.tk' c.hd (fun h2 tk2 k2 hns2 => ?_)
  show wpAny _ _ (execs _ _) _ _ _
  exact wpAny_execs_nil (hq h2 tk2 dx (fun b o hb e => k2 b o (fun z => absurd (Heap.lt_size e) (by rw [z]; exact Nat.not_lt.mpr dn)) (k b o hb e)) dn dne (k2 x _ (Ne.symm dne) hx') hns2)

theorem map1 {kindOf : Str → Option NameKind} {x v : Value} {f : Str} (e0 : kindOf "self" = some .local) (e1 : kindOf f = some .local) (ns : (f == ("self" : Str)) = false) :
    bindL kindOf [("self", x), (f, v)] (fun _ => none) "self" = some x ∧ bindL kindOf [("self", x), (f, v)] (fun _ => none) f = some v := by
  have n1 : ¬ (("self" : Str) = f) := fun e => ne_of_beq ns e.symm
  constructor
  · show (if kindOf f = some .local then fun y => if y = f then some v else (if kindOf "self" = some .local then fun y => if y = ("self" : Str) then some x else none else fun _ => none) y else _) ("self" : Str) = some x
    rw [if_pos e1, if_pos e0]
    simp [n1]
  · show (if kindOf f = some .local then fun y => if y = f then some v else (if kindOf "self" = some .local then fun y => if y = ("self" : Str) then some x else none else fun _ => none) y else _) f = some v
    rw [if_pos e1]
    simp
theorem map2 {kindOf : Str → Option NameKind} {x v v' : Value} {f f' : Str} (e0 : kindOf "self" = some .local) (e1 : kindOf f = some .local) (e2 : kindOf f' = some .local) (ns : (f == ("self" : Str)) = false) (ns' : (f' == ("self" : Str)) = false) (nf : (f' == f) = false) :
    bindL kindOf [("self", x), (f, v), (f', v')] (fun _ => none) "self" = some x ∧ bindL kindOf [("self", x), (f, v), (f', v')] (fun _ => none) f = some v ∧ bindL kindOf [("self", x), (f, v), (f', v')] (fun _ => none) f' = some v' := by
  have n1 : ¬ (("self" : Str) = f) := fun e => ne_of_beq ns e.symm
  have n2 : ¬ (("self" : Str) = f') := fun e => ne_of_beq ns' e.symm
  have n3 : ¬ (f = f') := fun e => ne_of_beq nf e.symm
  refine ⟨?_, ?_, ?_⟩
  all_goals simp [bindL, e0, e1, e2, n1, n2, n3]

/-- a call of the class, one field -/
theorem made1 (c : Cl K C B newId initId bmB) (i : In1 K C f) {rest : List Value} {kw : List (Str × Value)} {v : Value} (X : K.In s.heap) (hlim : s.heap.NoLimit) (hroom : A.depth + 1 < recursionLimit) (hz : rest.length ≤ sizeLine)
    (hb : ∀ (s : Shared) (qual : Str) (p1 p2 q1 q2 q3 q4 : Pos) (kV doc pm : Value) (an : Option Addr) (cdv ct x : Value),
      BindsTo s (fnOf "__init__" qual (iA1 f p1 p2) (iB1 f q1 q2 q3 q4) (iS1 f) .none kV doc pm an cdv ct) ⟨x :: rest, kw⟩ [("self", x), (f, v)])
    (hq : ∀ h' tk e d t, Made s.heap h' e C d t rest (fun y => if y = f then some v else none) → R (.ok (.ret (.ref e))) { s with heap := h', toks := tk }) :
    codeAny (model prog w) A (.call (.ref C) ⟨rest, kw⟩) R s := by
  obtain ⟨fI, qual, oc, od, kV, doc, pm, an, cdv, ct, osl, p1, p2, q1, q2, q3, q4, hi, ht, ho, hcd⟩ := i.fn
  obtain ⟨nm, N, qn, bs, bm, hdct, sn, sub, ab, col, dd, k0, k1, k2, k3, k5, hC, hT⟩ := excInit_of X c.ini
  obtain ⟨hp, g, dr, tk, os⟩ := s
  have k : ∀ b o, hp.get? b = some o → ((hp.push (kdv_tup rest)).push (excO C hp.objs.size)).get? b = some o := fun b o e => Heap.get?_push_of_some _ (Heap.get?_push_of_some _ e)
  have hget : ((hp.push (kdv_tup rest)).push (excO C hp.objs.size)).get? (hp.objs.size + 1) = some (excO C hp.objs.size) := by heap_get
  have hget0 : ((hp.push (kdv_tup rest)).push (excO C hp.objs.size)).get? hp.objs.size = some (kdv_tup rest) := by heap_get
  have hsz : ((hp.push (kdv_tup rest)).push (excO C hp.objs.size)).objs.size = hp.objs.size + 1 + 1 := by rw [Heap.size_push, Heap.size_push]
  refine call_ownK c.FB hT hC (looks_findIn X hi) (fun self => bind_fn X self ht) hz ?_
  refine Att.call_fn (s := ⟨(hp.push (kdv_tup rest)).push (excO C hp.objs.size), g, dr, tk, os⟩) (binds := [("self", .ref (hp.objs.size + 1)), (f, v)]) (X.keeps k) (hlim.keeps k) ho hcd ?_ (hb _ _ _ _ _ _ _ _ _ _ _ _ _ _ _) ?_ (fun s1 IC => ?_) rfl rfl rfl
  · show A.depth + 1 < recursionLimit
    exact hroom
  · have e1 : (iS1 f).names.lookup f = some .local := kind1 i.ns
    have e0 : (iS1 f).names.lookup ("self" : Str) = some NameKind.local := rfl
    simp [List.all, e1, e0]
  obtain ⟨h1, tk1, rfl⟩ := IC.toInCall.same
  have ks : ∀ b o, ((hp.push (kdv_tup rest)).push (excO C hp.objs.size)).get? b = some o → h1.get? b = some o := IC.toInCall.keep
  have hn := IC.toInCall.ns
  obtain ⟨m1, m2⟩ := map1 (kindOf := (envOfC qual (iS1 f) ((hp.push (kdv_tup rest)).push (excO C hp.objs.size)).objs.size fI cdv).kindOf) (x := .ref (hp.objs.size + 1)) (v := v) rfl (kind1 i.ns) i.ns
  refine wpAny_mono (body1 c i ((X.keeps k).keeps ks) (ks _ _ hget) hn m1 m2 (Q := fun fl s' => fl = .next ∧ ∃ h' tk' dx, s' = ⟨h', g, dr, tk', os⟩ ∧ Made hp h' (hp.objs.size + 1) C dx hp.objs.size rest (fun y => if y = f then some v else none)) (fun h' tk' dx k' dn dne hx hns => ⟨rfl, h', tk', dx, rfl, ?_⟩)) (fun fl s' hh => ?_) (fun e s' hh => hh)
  · have lt1 : hp.objs.size + 1 < h1.objs.size := Heap.lt_size (ks _ _ hget)
    have z2 : h1.objs.size ≤ dx := dn
    have z3 : hp.objs.size < dx := by omega
    exact ⟨fun b o e => k' b o (Nat.ne_of_lt (Nat.lt_succ_of_lt (Heap.lt_size e))) (ks _ _ (k _ _ e)), Nat.le_succ _, Nat.le_refl _, Nat.le_of_lt z3, Nat.ne_of_lt (Nat.lt_succ_self _), dne, Nat.ne_of_gt z3, hx, k' _ _ (Nat.ne_of_lt (Nat.lt_succ_self _)) (ks _ _ hget0), hns⟩
  · obtain ⟨rfl, h', tk', dx, rfl, M⟩ := hh
    exact ⟨rfl, hq h' tk' (hp.objs.size + 1) dx hp.objs.size M⟩
/-- .. two -/
theorem made2 (c : Cl K C B newId initId bmB) (i : In2 K C f f') {rest : List Value} {kw : List (Str × Value)} {v v' : Value} (X : K.In s.heap) (hlim : s.heap.NoLimit) (hroom : A.depth + 1 < recursionLimit) (hz : rest.length ≤ sizeLine)
    (hb : ∀ (s : Shared) (qual : Str) (p1 p2 p3 q1 q2 q3 q4 r1 r2 r3 r4 : Pos) (kV doc pm : Value) (an : Option Addr) (cdv ct x : Value),
      BindsTo s (fnOf "__init__" qual (iA2 f f' p1 p2 p3) (iB2 f f' q1 q2 q3 q4 r1 r2 r3 r4) (iS2 f f') .none kV doc pm an cdv ct) ⟨x :: rest, kw⟩ [("self", x), (f, v), (f', v')])
    (hq : ∀ h' tk e d t, Made s.heap h' e C d t rest (fun y => if y = f' then some v' else if y = f then some v else none) → R (.ok (.ret (.ref e))) { s with heap := h', toks := tk }) :
    codeAny (model prog w) A (.call (.ref C) ⟨rest, kw⟩) R s := by
  obtain ⟨fI, qual, oc, od, kV, doc, pm, an, cdv, ct, osl, p1, p2, p3, q1, q2, q3, q4, r1, r2, r3, r4, hi, ht, ho, hcd⟩ := i.fn
  obtain ⟨nm, N, qn, bs, bm, hdct, sn, sub, ab, col, dd, k0, k1, k2, k3, k5, hC, hT⟩ := excInit_of X c.ini
  obtain ⟨hp, g, dr, tk, os⟩ := s
  have k : ∀ b o, hp.get? b = some o → ((hp.push (kdv_tup rest)).push (excO C hp.objs.size)).get? b = some o := fun b o e => Heap.get?_push_of_some _ (Heap.get?_push_of_some _ e)
  have hget : ((hp.push (kdv_tup rest)).push (excO C hp.objs.size)).get? (hp.objs.size + 1) = some (excO C hp.objs.size) := by heap_get
  have hget0 : ((hp.push (kdv_tup rest)).push (excO C hp.objs.size)).get? hp.objs.size = some (kdv_tup rest) := by heap_get
  have hsz : ((hp.push (kdv_tup rest)).push (excO C hp.objs.size)).objs.size = hp.objs.size + 1 + 1 := by rw [Heap.size_push, Heap.size_push]
  have hKx : K.lookup (hp.objs.size + 1) = none := by
    cases e : K.lookup (hp.objs.size + 1) with
    | none => rfl
    | some o =>
      have z : hp.get? (hp.objs.size + 1) = some o := X _ _ e
      exact absurd (Nat.lt_of_succ_lt (Heap.lt_size z)) (Nat.lt_irrefl _)
  refine call_ownK c.FB hT hC (looks_findIn X hi) (fun self => bind_fn X self ht) hz ?_
  refine Att.call_fn (s := ⟨(hp.push (kdv_tup rest)).push (excO C hp.objs.size), g, dr, tk, os⟩) (binds := [("self", .ref (hp.objs.size + 1)), (f, v), (f', v')]) (X.keeps k) (hlim.keeps k) ho hcd ?_ (hb _ _ _ _ _ _ _ _ _ _ _ _ _ _ _ _ _ _ _ _) ?_ (fun s1 IC => ?_) rfl rfl rfl
  · show A.depth + 1 < recursionLimit
    exact hroom
  · have e1 : (iS2 f f').names.lookup f = some .local := kind2 i.ns
    have e2 : (iS2 f f').names.lookup f' = some .local := kind2' i.ns' i.nf
    have e0 : (iS2 f f').names.lookup ("self" : Str) = some NameKind.local := rfl
    simp [List.all, e1, e2, e0]
  obtain ⟨h1, tk1, rfl⟩ := IC.toInCall.same
  have ks : ∀ b o, ((hp.push (kdv_tup rest)).push (excO C hp.objs.size)).get? b = some o → h1.get? b = some o := IC.toInCall.keep
  have hn := IC.toInCall.ns
  obtain ⟨m1, m2, m3⟩ := map2 (kindOf := (envOfC qual (iS2 f f') ((hp.push (kdv_tup rest)).push (excO C hp.objs.size)).objs.size fI cdv).kindOf) (x := .ref (hp.objs.size + 1)) (v := v) (v' := v') rfl (kind2 i.ns) (kind2' i.ns' i.nf) i.ns i.ns' i.nf
  have hLx : ((hp.push (kdv_tup rest)).push (excO C hp.objs.size)).objs.size ≠ hp.objs.size + 1 := by omega
  refine wpAny_mono (body2 c i ((X.keeps k).keeps ks) (ks _ _ hget) hLx hKx hn m1 m2 m3 (Q := fun fl s' => fl = .next ∧ ∃ h' tk' dx, s' = ⟨h', g, dr, tk', os⟩ ∧ Made hp h' (hp.objs.size + 1) C dx hp.objs.size rest (fun y => if y = f' then some v' else if y = f then some v else none)) (fun h' tk' dx k' dn dne hx hns => ⟨rfl, h', tk', dx, rfl, ?_⟩)) (fun fl s' hh => ?_) (fun e s' hh => hh)
  · have lt1 : hp.objs.size + 1 < h1.objs.size := Heap.lt_size (ks _ _ hget)
    have z2 : h1.objs.size ≤ dx := dn
    have z3 : hp.objs.size < dx := by omega
    exact ⟨fun b o e => k' b o (Nat.ne_of_lt (Nat.lt_succ_of_lt (Heap.lt_size e))) (ks _ _ (k _ _ e)), Nat.le_succ _, Nat.le_refl _, Nat.le_of_lt z3, Nat.ne_of_lt (Nat.lt_succ_self _), dne, Nat.ne_of_gt z3, hx, k' _ _ (Nat.ne_of_lt (Nat.lt_succ_self _)) (ks _ _ hget0), hns⟩
  · obtain ⟨rfl, h', tk', dx, rfl, M⟩ := hh
    exact ⟨rfl, hq h' tk' (hp.objs.size + 1) dx hp.objs.size M⟩
end
end Er
end PySem

set_option maxHeartbeats 4000000
namespace ErL
open PySem PySem.Spec PyProof.Rows L2
open PySem.Er (Made Cl In1 In2)
/-- an error object at e: its class, its dict (or none), its arguments' tuple -/
def erO (e C : Addr) (d : Option Addr) (t : Addr) : HO := .ext fun h =>
  h.get? e = some ({ cls := .ref C, dict := d, data := .fields #[.ref t, .none, .none, .none, .bool false, .none] } : Obj)
/-- an error of the class at C with these fields, made with these arguments -/
def ErAt (H : Hp) (e C : Addr) (fs : List (Str × V)) (args : List V) : Prop :=
  ∃ (d : Option Addr) (t : Addr), H e = some (erO e C d t) ∧ H t = some (.tup args) ∧ match d with
    | some dx => H dx = some (.xd fs)
    | none => fs = []
theorem ErAt.same {H H' : Hp} {e C : Addr} {fs : List (Str × V)} {args : List V} (x : ErAt H e C fs args) (s : Same H H') : ErAt H' e C fs args := by
  obtain ⟨d, t, h1, h2, h3⟩ := x
  refine ⟨d, t, s _ _ h1, s _ _ h2, ?_⟩
  cases d with
  | none => exact h3
  | some dx => exact s _ _ h3

theorem erO_ok {P : Program} {w : World} {H : Hp} {h : Heap} {e C t : Addr} {d : Option Addr} (he : h.get? e = some ({ cls := .ref C, dict := d, data := .fields #[.ref t, .none, .none, .none, .bool false, .none] } : Obj)) :
    ObjOk P w H h e (erO e C d t) := ⟨he, ⟨_, he⟩, fun _ _ z k => k _ z⟩

section
variable {X : Cx} {pins : List (Addr × Obj)} {σ : L2.St} {H : Hp} {s : Shared} {h' : Heap} {t' : Nat}
/-- several objects laid at once, all of them new -/
theorem laidMany {H' : Hp} (I : Inv X pins σ H s) (k : ∀ b o, s.heap.get? b = some o → h'.get? b = some o) (sm : Same H H') (fr : ∀ b, b < s.heap.objs.size → H b = none → H' b = none)
    (new : ∀ b o, H' b = some o → H b = none → ObjOk X.prog X.w H' h' b o) : Inv X pins σ H' { s with heap := h', toks := t' } := by
  refine I.un ⟨fun b o q _ _ _ => k b o q, fun b o q _ _ _ => ⟨o.slots, k b o q⟩, fun b o q n _ => fr b (Heap.lt_size q) n, fun b o q _ => ⟨o, k b o q⟩, fun b xs q => sm _ _ q, fun b o u q => sm _ _ q, fun b ps q => ⟨#[], by rw [sm _ _ q]; simp⟩⟩ ?_
  intro b o q
  cases e : H b with
  | none => exact new b o q e
  | some o' =>
    have q2 := sm _ _ e
    rw [q] at q2
    cases q2
    exact (I.hok b o e).stay (fun c v _ z => k c v z) (fun c z => sm _ _ z) fun c xs z => sm _ _ z

/-- a made error is tracked -/
theorem made_inv {e C d t : Addr} {args : List Value} {vs : List V} {m : Str → Option Value} {fs : List (Str × V)} {Q : VK} (I : Inv X pins σ H s) (M : Made s.heap h' e C d t args m) (r : Vals vs args) (hz : vs.length ≤ sizeLine)
    (hf : ∀ f, RelO (fs.lookup f) (m f)) (q : ∀ H', ErAt H' e C fs vs → Same H H' → H e = none → Q (.ref e) H') : EP X pins σ Q (.ref e) { s with heap := h', toks := t' } := by
  have ne : H e = none := I.hok.fresh M.be
  have nt : H t = none := I.hok.fresh M.bt
  have nd : H d = none := I.hok.fresh M.bd
  have sm : Same H (upd (upd (upd H t (.tup vs)) d (.xd fs)) e (erO e C (some d) t)) := fun b o z => by
    rw [upd_ne (ne_of_none z ne), upd_ne (ne_of_none z nd), upd_ne (ne_of_none z nt)]
    exact z
  have at_e : (upd (upd (upd H t (.tup vs)) d (.xd fs)) e (erO e C (some d) t)) e = some (erO e C (some d) t) := upd_same
  have at_d : (upd (upd (upd H t (.tup vs)) d (.xd fs)) e (erO e C (some d) t)) d = some (.xd fs) := by rw [upd_ne M.de, upd_same]
  have at_t : (upd (upd (upd H t (.tup vs)) d (.xd fs)) e (erO e C (some d) t)) t = some (.tup vs) := by rw [upd_ne M.te, upd_ne (Ne.symm M.dt), upd_same]
  refine ⟨.ref e, _, laidMany (H' := upd (upd (upd H t (.tup vs)) d (.xd fs)) e (erO e C (some d) t)) I M.keep sm (fun b lt n => ?_) (fun b o z n => ?_), rfl, q _ ⟨some d, t, at_e, at_t, at_d⟩ sm ne⟩
  · rw [upd_ne (Nat.ne_of_lt (Nat.lt_of_lt_of_le lt M.be)), upd_ne (Nat.ne_of_lt (Nat.lt_of_lt_of_le lt M.bd)), upd_ne (Nat.ne_of_lt (Nat.lt_of_lt_of_le lt M.bt))]
    exact n
  · by_cases be : b = e
    · subst be
      rw [at_e] at z
      cases z
      exact erO_ok M.obj
    · by_cases bd : b = d
      · subst bd
        rw [at_d] at z
        cases z
        exact ⟨m, M.ns, hf⟩
      · by_cases bt : b = t
        · subst bt
          rw [at_t] at z
          cases z
          exact ⟨hz, args, r, ⟨_, M.tup, rfl, _, rfl⟩⟩
        · rw [upd_ne be, upd_ne bd, upd_ne bt, n] at z
          cases z
end
theorem rel1 {f : Str} {v : V} {u : Value} (r : RelV v u) (y : Str) : RelO (List.lookup y [(f, v)]) (if y = f then some u else none) := by
  by_cases e : y = f
  · subst e
    simp [List.lookup]
    exact r
  · have e2 : (y == f) = false := by simpa using e
    simp [List.lookup, e, e2]
    trivial
theorem rel2 {f f' : Str} {v v' : V} {u u' : Value} (nf : (f' == f) = false) (r : RelV v u) (r' : RelV v' u') (y : Str) : RelO (List.lookup y [(f, v), (f', v')]) (if y = f' then some u' else if y = f then some u else none) := by
  have n1 : f' ≠ f := PySem.Er.ne_of_beq nf
  by_cases e : y = f
  · subst e
    have n2 : ¬ (y = f') := fun z => n1 z.symm
    simp [List.lookup, n2]
    exact r
  · have e2 : (y == f) = false := by simpa using e
    by_cases e' : y = f'
    · subst e'
      simp [List.lookup, e2]
      exact r'
    · have e3 : (y == f') = false := by simpa using e'
      simp [List.lookup, e, e2, e', e3]
      trivial

section
variable {X : Cx} {C : Addr} {B newId initId : String} {bmB : List Value} {f f' : Str} {x : Str} {p pos : Pos} {a b : Expr} {ta tb : TE}
/-- how the parameters of the two kinds of __init__ are bound -/
abbrev Bd1 (f : Str) (g : Value → List Value × List (Str × Value)) : Prop := ∀ (qual : Str) (p1 p2 q1 q2 q3 q4 : Pos) (kV doc pm : Value) (an : Option Addr) (cdv ct x u : Value),
  bindArgs (PySem.W.fnOf "__init__" qual (PySem.Er.iA1 f p1 p2) (PySem.Er.iB1 f q1 q2 q3 q4) (PySem.Er.iS1 f) .none kV doc pm an cdv ct) ⟨x :: (g u).1, (g u).2⟩ = pure [(("self" : Str), x), (f, u)]
abbrev Bd2 (f f' : Str) (g : Value → Value → List Value × List (Str × Value)) : Prop := ∀ (qual : Str) (p1 p2 p3 q1 q2 q3 q4 r1 r2 r3 r4 : Pos) (kV doc pm : Value) (an : Option Addr) (cdv ct x u u' : Value),
  bindArgs (PySem.W.fnOf "__init__" qual (PySem.Er.iA2 f f' p1 p2 p3) (PySem.Er.iB2 f f' q1 q2 q3 q4 r1 r2 r3 r4) (PySem.Er.iS2 f f') .none kV doc pm an cdv ct) ⟨x :: (g u u').1, (g u u').2⟩ = pure [(("self" : Str), x), (f, u), (f', u')]
abbrev gP1 : Value → List Value × List (Str × Value) := fun u => ([u], [])
abbrev gK1 (f : Str) : Value → List Value × List (Str × Value) := fun u => ([], [(f, u)])
abbrev gP2 : Value → Value → List Value × List (Str × Value) := fun u u' => ([u, u'], [])
abbrev gK2 (f f' : Str) : Value → Value → List Value × List (Str × Value) := fun u u' => ([], [(f', u'), (f, u)])
theorem bd1_value : Bd1 "value" gP1 := by first | (unfold Bd1; intros; first | rfl | with_unfolding_all rfl) | (unfold Bd2; intros; first | rfl | with_unfolding_all rfl)
theorem bd1_position : Bd1 "position" gP1 := by first | (unfold Bd1; intros; first | rfl | with_unfolding_all rfl) | (unfold Bd2; intros; first | rfl | with_unfolding_all rfl)
theorem bd1_name : Bd1 "name" gP1 := by first | (unfold Bd1; intros; first | rfl | with_unfolding_all rfl) | (unfold Bd2; intros; first | rfl | with_unfolding_all rfl)
theorem bd1_line : Bd1 "line" gP1 := by first | (unfold Bd1; intros; first | rfl | with_unfolding_all rfl) | (unfold Bd2; intros; first | rfl | with_unfolding_all rfl)
theorem bk1_value : Bd1 "value" (gK1 "value") := by first | (unfold Bd1; intros; first | rfl | with_unfolding_all rfl) | (unfold Bd2; intros; first | rfl | with_unfolding_all rfl)
theorem bk1_position : Bd1 "position" (gK1 "position") := by first | (unfold Bd1; intros; first | rfl | with_unfolding_all rfl) | (unfold Bd2; intros; first | rfl | with_unfolding_all rfl)
theorem bk1_name : Bd1 "name" (gK1 "name") := by first | (unfold Bd1; intros; first | rfl | with_unfolding_all rfl) | (unfold Bd2; intros; first | rfl | with_unfolding_all rfl)
theorem bk1_line : Bd1 "line" (gK1 "line") := by first | (unfold Bd1; intros; first | rfl | with_unfolding_all rfl) | (unfold Bd2; intros; first | rfl | with_unfolding_all rfl)
theorem bd2_places : Bd2 "position" "places" gP2 := by first | (unfold Bd1; intros; first | rfl | with_unfolding_all rfl) | (unfold Bd2; intros; first | rfl | with_unfolding_all rfl)
theorem bd2_kind : Bd2 "kind" "limit" gP2 := by first | (unfold Bd1; intros; first | rfl | with_unfolding_all rfl) | (unfold Bd2; intros; first | rfl | with_unfolding_all rfl)
theorem bk2_places : Bd2 "position" "places" (gK2 "position" "places") := by first | (unfold Bd1; intros; first | rfl | with_unfolding_all rfl) | (unfold Bd2; intros; first | rfl | with_unfolding_all rfl)
theorem bk2_kind : Bd2 "kind" "limit" (gK2 "kind" "limit") := by first | (unfold Bd1; intros; first | rfl | with_unfolding_all rfl) | (unfold Bd2; intros; first | rfl | with_unfolding_all rfl)
/-- C(a) -/
def tEr1 (C : Addr) (f : Str) (t : TA) : TE := fun σ H Q => t σ H fun vs H1 => ∃ v, vs = [v] ∧ ∀ e H', ErAt H' e C [(f, v)] [v] → Same H1 H' → H1 e = none → Q (.ref e) H'
/-- C(a, b) -/
def tEr2 (C : Addr) (f f' : Str) (t : TA) : TE := fun σ H Q => t σ H fun vs H1 => ∃ v v', vs = [v, v'] ∧ ∀ e H', ErAt H' e C [(f, v), (f', v')] [v, v'] → Same H1 H' → H1 e = none → Q (.ref e) H'
theorem pe_er1 {k : Nat} (c : Cl X.K C B newId initId bmB) (i : In1 X.K C f) (hb : Bd1 f gP1) (hr : Room k X.A) (hg : Gl X x) (hm : X.mg x = some (.ref C)) (ha : PA X [a] (tCons ta tNil))
    (hdb : (x == ("__debug__" : Str)) = false := by decide) (he : starEach [a] X.env = (false, eval a X.env) :: starEach [] X.env := by rfl) (hpl : (backTo pos (starEach [] X.env)).any (·.1) = false := by rfl) :
    PE X (.Call (.Name x p) [a] [] pos) (tEr1 C f (tCons ta tNil)) := by
  refine ⟨fun pins s σ H Q I h => ?_⟩
  refine wpAny_Call_Name_kw (ld_glob I hg hm ?_ hdb)
  refine PySem.W.callWith_K (h₀ := X.base) I.ok.mod.kin c.kC (thn (ha.run pos pins s σ H _ I h) fun us s1 ⟨vs, H1, I1, r, v, ev, q⟩ => ⟨I1.kIn, ?_⟩) he hpl
  subst ev
  obtain ⟨u, rfl, ru⟩ := vals1 r
  show wpAny _ _ (call (.ref C) [u]) _ _ _
  exact wpAny_call (PySem.Er.made1 c i (v := u) I1.kIn I1.nolimit (by have := hr.dp; omega) (by show 1 ≤ sizeLine; rw [sizeLine_eq]; omega) (fun _ ql p1 p2 q1 q2 q3 q4 kv dc pm an cv ct y => .of_eq (hb ql p1 p2 q1 q2 q3 q4 kv dc pm an cv ct y u))
    fun h' tk e d t M => made_inv I1 M r (by show 1 ≤ sizeLine; rw [sizeLine_eq]; omega) (rel1 ru) fun H' z1 z2 z3 => q e H' z1 z2 z3)
theorem pe_er2 {k : Nat} (c : Cl X.K C B newId initId bmB) (i : In2 X.K C f f') (hb : Bd2 f f' gP2) (hr : Room k X.A) (hg : Gl X x) (hm : X.mg x = some (.ref C)) (ha : PA X [a, b] (tCons ta (tCons tb tNil)))
    (hdb : (x == ("__debug__" : Str)) = false := by decide) (he : starEach [a, b] X.env = (false, eval a X.env) :: starEach [b] X.env := by rfl) (hpl : (backTo pos (starEach [b] X.env)).any (·.1) = false := by rfl) :
    PE X (.Call (.Name x p) [a, b] [] pos) (tEr2 C f f' (tCons ta (tCons tb tNil))) := by
  refine ⟨fun pins s σ H Q I h => ?_⟩
  refine wpAny_Call_Name_kw (ld_glob I hg hm ?_ hdb)
  refine PySem.W.callWith_K (h₀ := X.base) I.ok.mod.kin c.kC (thn (ha.run pos pins s σ H _ I h) fun us s1 ⟨vs, H1, I1, r, v, v', ev, q⟩ => ⟨I1.kIn, ?_⟩) he hpl
  subst ev
  obtain ⟨u, u', rfl, ru, ru'⟩ := vals2 r
  show wpAny _ _ (call (.ref C) [u, u']) _ _ _
  exact wpAny_call (PySem.Er.made2 c i (v := u) (v' := u') I1.kIn I1.nolimit (by have := hr.dp; omega) (by show 2 ≤ sizeLine; rw [sizeLine_eq]; omega) (fun _ ql p1 p2 p3 q1 q2 q3 q4 r1 r2 r3 r4 kv dc pm an cv ct y => .of_eq (hb ql p1 p2 p3 q1 q2 q3 q4 r1 r2 r3 r4 kv dc pm an cv ct y u u'))
    fun h' tk e d t M => made_inv I1 M r (by show 2 ≤ sizeLine; rw [sizeLine_eq]; omega) (rel2 i.nf ru ru') fun H' z1 z2 z3 => q e H' z1 z2 z3)
end
end ErL

set_option maxHeartbeats 4000000
namespace PySem
namespace Er
open Sem (wp)
open Builtin Builtin.Str Builtin.BaseException Builtin.Exceptions
open PySem.W (Looks Frag findIn subIn looks_findIn looks_subIn)
theorem text_eq (x : Value) : bexcText "__str__" x = pyStrObj x := by
  cases x <;> rfl
section
variable {prog : Program} {w : World} {M : Model} {A : Around} {E : Value → Shared → Prop} {s : Shared} {K : Frag} {C e t0 : Addr}
theorem bstr_two {u u' : Value} {rest : List Value} {Q : Fin → Shared → Prop} (x : ExcC K C e t0 s.heap) (ht : s.heap.TupAt t0 (u :: u' :: rest))
    (hq : wpAny (model prog w) A (pyStrObj (.ref t0)) (fun v s' => Q (.done (.ret v)) s') E s) :
    wpAny (model prog w) A (Builtin.«BaseException.__str__» ⟨[.ref e], []⟩) Q E s := by
  unfold Builtin.«BaseException.__str__»
  refine wpAny_bind (wpAny_of_eq (a := ((Value.ref e : Value), ([] : List Value))) (by first | rfl | (simp only [slotArgs]; rfl)) ?_)
  refine wpAny_bind (bexcArgs_C x ht ?_)
  show wpAny (model prog w) A (bexcText "__str__" (.ref t0) >>= fun r => ret r) _ _ _
  rw [text_eq]
  refine wpAny_bind (wpAny_mono hq (fun v s' z => ?_) fun _ _ z => z)
  exact wpAny_pure z
theorem bstr_one {u : Value} {Q : Fin → Shared → Prop} (x : ExcC K C e t0 s.heap) (ht : s.heap.TupAt t0 [u])
    (hq : wpAny (model prog w) A (pyStrObj u) (fun v s' => Q (.done (.ret v)) s') E s) :
    wpAny (model prog w) A (Builtin.«BaseException.__str__» ⟨[.ref e], []⟩) Q E s := by
  unfold Builtin.«BaseException.__str__»
  repeat (first
    | with_reducible refine bexcArgs_C x ht ?_
    | (rw [text_eq]; refine wpAny_bind (wpAny_mono hq (fun v s' z => ?_) fun _ _ z => z))
    | wp_step)
  exact z
end
end Er
end PySem
namespace PySem
namespace Er
open Sem (wp)
open Builtin Builtin.Str Builtin.BaseException Builtin.Exceptions
open PySem.W (Looks Frag findIn subIn looks_findIn looks_subIn)
section
variable {prog : Program} {w : World} {M : Model} {A : Around} {E : Value → Shared → Prop} {s : Shared} {K : Frag} {C e t0 : Addr}
/-- a value whose text is told -/
structure Shw (h : Heap) (u : Value) (d : PyData) : Prop where
  rd : ∃ as, Reads h u d as ∧ sysModules ∉ as
  sh : d.showable = true
  dp : d.depth ≤ 20
  sz : d.shown.length ≤ 5000
theorem Shw.keeps {h h' : Heap} {u : Value} {d : PyData} (x : Shw h u d) (k : ∀ b o, h.get? b = some o → h'.get? b = some o) : Shw h' u d := by
  obtain ⟨as, r, n⟩ := x.rd
  exact ⟨⟨as, PyProof.Rows.Reads.keeps k r, n⟩, x.sh, x.dp, x.sz⟩
/-- str of it is some text -/
theorem text_of {u : Value} {d : PyData} {Q : Value → Shared → Prop} (x : Shw s.heap u d) (hg : A.guards = some []) (hu : A.units + 60 < cLine)
    (hq : ∀ y t h' tk, (∀ b o, s.heap.get? b = some o → h'.get? b = some o) → Q (.str y t) { s with heap := h', toks := tk }) : wpAny (model prog w) A (pyStrObj u) Q E s := by
  obtain ⟨⟨as, r, n⟩, sh, dp, sz⟩ := x
  have lz : (5000 : Nat) ≤ sizeLine := by rw [sizeLine_eq]; omega
  cases d with
  | none =>
    cases r
    exact PySem.pyStrObj_none (hq _ _ _ _ fun _ _ z => z)
  | bool b =>
    cases r
    exact PySem.pyStrObj_bool (hq _ _ _ _ fun _ _ z => z)
  | int i =>
    cases r
    exact PySem.pyStrObj_int (of_decide_eq_true sh) (hq _ _ _ _ fun _ _ z => z)
  | str x =>
    cases r
    exact wpAny_pure (hq _ _ _ _ fun _ _ z => z)
  | list xs =>
    obtain ⟨a, rfl⟩ : ∃ a, u = .ref a := by cases r; exact ⟨_, rfl⟩
    exact pyStrObj_of_reads r sh (fun _ => n) hg (by omega) (fun _ _ z => z) (fun h' y tk k => hq _ _ _ _ k) (Nat.le_trans sz lz)
  | tuple xs =>
    obtain ⟨a, rfl⟩ : ∃ a, u = .ref a := by cases r; exact ⟨_, rfl⟩
    exact pyStrObj_of_reads r sh (fun _ => n) hg (by omega) (fun _ _ z => z) (fun h' y tk k => hq _ _ _ _ k) (Nat.le_trans sz lz)
  | dict xs =>
    obtain ⟨a, rfl⟩ : ∃ a, u = .ref a := by cases r; exact ⟨_, rfl⟩
    exact pyStrObj_of_reads r sh (fun _ => n) hg (by omega) (fun _ _ z => z) (fun h' y tk k => hq _ _ _ _ k) (Nat.le_trans sz lz)
end
end Er
end PySem

set_option maxHeartbeats 400000
namespace PySem
namespace Er
open Sem (wp)
open Builtin Builtin.Str Builtin.BaseException Builtin.Exceptions
open PySem.W (Looks Frag findIn subIn looks_findIn looks_subIn)
section
variable {prog : Program} {w : World} {M : Model} {A : Around} {E : Value → Shared → Prop} {s : Shared} {K : Frag} {C e t0 : Addr}
/-- what str(error) leans on -/
structure Str0 (K : Frag) (C e t0 : Addr) (args : List Value) (ds : List PyData) (h : Heap) : Prop where
  at_ : ExcC K C e t0 h
  tup : h.TupAt t0 args
  all : args = [] ∨ (∃ u d, args = [u] ∧ Shw h u d) ∨ ∃ d, 2 ≤ args.length ∧ Shw h (.ref t0) d
theorem strOf_er {args : List Value} {ds : List PyData} (hg : A.guards = some []) (hu : A.units + 62 < cLine) (x : Str0 K C e t0 args ds s.heap)
    (hs : findIn K (.ref C) "__str__" = some (some (.builtin "BaseException.__str__"))) (hB : subIn K (.ref C) (.type "BaseException") = some true) {Q : Value → Shared → Prop}
    (hq : ∀ y t h' tk, (∀ b o, s.heap.get? b = some o → h'.get? b = some o) → Q (.str y t) { s with heap := h', toks := tk }) : wpAny (model prog w) A (strOf (.ref e)) Q E s := by
  have hf : Looks (model prog w) s.heap (typeLookup (.ref C) "__str__") (some (.builtin "BaseException.__str__")) := looks_findIn x.at_.1 hs
  have hb : wpAny (model prog w) A.in1 (Builtin.«BaseException.__str__» ⟨[.ref e], []⟩) (fun fin s' => ∃ v, fin = .done (.ret v) ∧ ∃ y t h' tk, v = .str y t ∧ s' = { s with heap := h', toks := tk } ∧ ∀ b o, s.heap.get? b = some o → h'.get? b = some o) E s := by
    rcases x.all with rfl | ⟨u, d, rfl, z⟩ | ⟨d, l, z⟩
    · exact bexcStr_C_none x.at_ x.tup ⟨_, rfl, _, _, _, _, rfl, rfl, fun _ _ z => z⟩
    · exact bstr_one x.at_ x.tup (text_of (A := A.in1) z hg (by show A.units + 1 + 60 < cLine; omega) fun y t h' tk k => ⟨_, rfl, y, t, h', tk, rfl, rfl, k⟩)
    · obtain ⟨u, u', rest, rfl⟩ : ∃ u u' rest, args = u :: u' :: rest := by
        cases args with
        | nil => exact absurd l (Nat.not_succ_le_zero 1)
        | cons u r =>
          cases r with
          | nil => exact absurd (Nat.le_of_succ_le_succ l) (Nat.not_succ_le_zero 0)
          | cons u' rest => exact ⟨u, u', rest, rfl⟩
      exact bstr_two x.at_ x.tup (text_of (A := A.in1) z hg (by show A.units + 1 + 60 < cLine; omega) fun y t h' tk k => ⟨_, rfl, y, t, h', tk, rfl, rfl, k⟩)
  have hu0 : A.units < cLine := by omega
  have hc : wpAny (model prog w) A (call (.builtin "BaseException.__str__") [.ref e]) (fun v s' => ∃ y t h' tk, v = .str y t ∧ s' = { s with heap := h', toks := tk } ∧ ∀ b o, s.heap.get? b = some o → h'.get? b = some o) E s := by
    refine call_bexcStr_C x.at_ hB (wpAny_mono hb (fun fin s' z => ?_) fun _ _ z => z)
    exact z
  clear hb
  unfold strOf
  rw [show isExactStr (.ref e) = false from rfl]
  refine wpAny_bind (m := cRoomFor _ _) (wpAny_cRoomFor hu0 ?_)
  refine wpAny_bind (m := callSpecial? (.ref e) (Str.ofString "__str__")) (callSpecial_C x.at_.LT hf (F.excStr_Exception.str.bind _) (wpAny_mono hc (fun v s' z => ?_) fun _ _ z => z))
  obtain ⟨y, t, h', tk, rfl, rfl, k⟩ := z
  exact wpAny_pure (hq y t h' tk k)
theorem str_of_er {args : List Value} {ds : List PyData} (hg : A.guards = some []) (hu : A.units + 64 < cLine) (x : Str0 K C e t0 args ds s.heap)
    (hs : findIn K (.ref C) "__str__" = some (some (.builtin "BaseException.__str__"))) (hB : subIn K (.ref C) (.type "BaseException") = some true) {Q : Value → Shared → Prop}
    (hq : ∀ y t h' tk, (∀ b o, s.heap.get? b = some o → h'.get? b = some o) → Q (.str y t) { s with heap := h', toks := tk }) : wpAny (model prog w) A (call (.type "str") [.ref e]) Q E s :=
  callType_new F.called_str (by decide) (F.typeCall_str_1 _) (F.newCall_str_1 _) (fun obj => F.args_object_init_2 obj _) F.entry_str_new
    (meets_str_new (S := fun A' R s' => A'.guards = some [] ∧ A'.units + 63 < cLine ∧ Str0 K C e t0 args ds s'.heap ∧
        ∀ y t h' tk, (∀ b o, s'.heap.get? b = some o → h'.get? b = some o) → R (.ok (.ret (.str y t))) { s' with heap := h', toks := tk })
      fun _ _ A' _ _ h => strOf_er (A := A'.in1) h.1 (by show A'.units + 1 + 62 < cLine; have := h.2.1; omega) h.2.2.1 hs hB h.2.2.2)
    ⟨hg, (show A.units + 1 + 63 < cLine by omega), x, fun y t h' tk k => ⟨typeIs_str _ _ _, hq y t h' tk k⟩⟩
end
end Er
end PySem

set_option maxHeartbeats 1000000
namespace ErL
open PySem PySem.Spec PyProof.Rows L2
open PySem.Er (Made Cl In1 In2 Shw)
/-! ### data that stand in the abstract heap -/
mutual
inductive Dq (H : Hp) : V → PyData → Prop
  | non : Dq H .non .none
  | bl (b : Bool) : Dq H (.bl b) (.bool b)
  | int (i : Int) : Dq H (.int i) (.int i)
  | str (x : Str) : Dq H (.str x) (.str x)
  | lst {a : Addr} {xs : List V} {ds : List PyData} : H a = some (.lst xs) → DqAll H xs ds → Dq H (.ref a) (.list ds)
  | tup {a : Addr} {xs : List V} {ds : List PyData} : H a = some (.tup xs) → DqAll H xs ds → Dq H (.ref a) (.tuple ds)
  | dct {a : Addr} {kvs : List (Key × V)} {ps : List (PyData × PyData)} : H a = some (.dK kvs) → DqKv H kvs ps → Dq H (.ref a) (.dict ps)
inductive DqAll (H : Hp) : List V → List PyData → Prop
  | nil : DqAll H [] []
  | cons {v : V} {vs : List V} {d : PyData} {ds : List PyData} : Dq H v d → DqAll H vs ds → DqAll H (v :: vs) (d :: ds)
inductive DqKv (H : Hp) : List (Key × V) → List (PyData × PyData) → Prop
  | nil : DqKv H [] []
  | cons {x : Str} {v : V} {kvs : List (Key × V)} {d : PyData} {ps : List (PyData × PyData)} : Dq H v d → DqKv H kvs ps → DqKv H ((.inr x, v) :: kvs) ((.str x, d) :: ps)
end
mutual
theorem Dq.same {H H' : Hp} (s : Same H H') : ∀ {v : V} {d : PyData}, Dq H v d → Dq H' v d
  | _, _, .non => .non
  | _, _, .bl b => .bl b
  | _, _, .int i => .int i
  | _, _, .str x => .str x
  | _, _, .lst e a => .lst (s _ _ e) (DqAll.same s a)
  | _, _, .tup e a => .tup (s _ _ e) (DqAll.same s a)
  | _, _, .dct e a => .dct (s _ _ e) (DqKv.same s a)
theorem DqAll.same {H H' : Hp} (s : Same H H') : ∀ {vs : List V} {ds : List PyData}, DqAll H vs ds → DqAll H' vs ds
  | _, _, .nil => .nil
  | _, _, .cons a b => .cons (Dq.same s a) (DqAll.same s b)
theorem DqKv.same {H H' : Hp} (s : Same H H') : ∀ {kvs : List (Key × V)} {ps : List (PyData × PyData)}, DqKv H kvs ps → DqKv H' kvs ps
  | _, _, .nil => .nil
  | _, _, .cons a b => .cons (Dq.same s a) (DqKv.same s b)
end
section
variable {X : Cx} {pins : List (Addr × Obj)} {σ : L2.St} {H : Hp} {s : Shared}
/-- read at the heap; the addresses are tracked -/
def Rds (H : Hp) (h : Heap) (u : Value) (d : PyData) : Prop := ∃ as, Reads h u d as ∧ ∀ b ∈ as, ∃ o, H b = some o
def RdsAll (H : Hp) (h : Heap) (us : List Value) (ds : List PyData) : Prop := ∃ as, ReadsAll h us ds as ∧ ∀ b ∈ as, ∃ o, H b = some o
mutual
theorem Dq.reads (I : Inv X pins σ H s) : ∀ {v : V} {d : PyData} {u : Value}, Dq H v d → RelV v u → Rds H s.heap u d
  | _, _, _, .non, r => by
    cases r
    exact ⟨_, Reads.none, fun b z => nomatch z⟩
  | _, _, _, .bl b, r => by
    cases r
    exact ⟨_, Reads.bool b, fun b z => nomatch z⟩
  | _, _, _, .int i, r => by
    obtain ⟨t, rfl⟩ := r
    exact ⟨_, Reads.int i t, fun b z => nomatch z⟩
  | _, _, _, .str x, r => by
    obtain ⟨t, rfl⟩ := r
    exact ⟨_, Reads.str x t, fun b z => nomatch z⟩
  | _, _, _, .lst (a := a) (xs := xs) e q, r => by
    cases r
    obtain ⟨_, its, n, rv, ho⟩ := (show ObjOk X.prog X.w H s.heap a (.lst xs) from I.hok a _ e)
    obtain ⟨as, ra, ta⟩ := DqAll.reads I q rv
    refine ⟨_, Reads.list ho rfl rfl ra, fun b z => ?_⟩
    rcases List.mem_cons.mp z with rfl | z
    · exact ⟨_, e⟩
    · exact ta b z
  | _, _, _, .tup (a := a) (xs := xs) e q, r => by
    cases r
    obtain ⟨_, its, rv, o, ho, hc, n, hd⟩ := (show ObjOk X.prog X.w H s.heap a (.tup xs) from I.hok a _ e)
    obtain ⟨as, ra, ta⟩ := DqAll.reads I q rv
    exact ⟨_, Reads.tuple ho hc hd ra, ta⟩
  | _, _, _, .dct (a := a) (kvs := kvs) e q, r => by
    cases r
    obtain ⟨_, _, vs, rv, o, es, ep, ho, hx, hd, _, hp, _⟩ := (show ObjOk X.prog X.w H s.heap a (.dK kvs) from I.hok a _ e)
    obtain ⟨⟨as, ra, ta⟩, ⟨bs, rb, tb⟩⟩ := DqKv.reads I q rv hp
    refine ⟨_, Reads.dict ho hx.1 hd ra rb, fun b z => ?_⟩
    rcases List.mem_append.mp z with z | z
    · rcases List.mem_cons.mp z with rfl | z
      · exact ⟨_, e⟩
      · exact ta b z
    · exact tb b z
theorem DqAll.reads (I : Inv X pins σ H s) : ∀ {vs : List V} {ds : List PyData} {us : List Value}, DqAll H vs ds → Vals vs us → RdsAll H s.heap us ds
  | _, _, _, .nil, r => by
    cases r
    exact ⟨_, ReadsAll.nil, fun b z => nomatch z⟩
  | _, _, _, .cons a b, r => by
    cases r with
    | cons r1 r2 =>
      obtain ⟨as, x1, t1⟩ := Dq.reads I a r1
      obtain ⟨bs, x2, t2⟩ := DqAll.reads I b r2
      exact ⟨_, ReadsAll.cons x1 x2, fun c z => (List.mem_append.mp z).elim (t1 c) (t2 c)⟩
theorem DqKv.reads (I : Inv X pins σ H s) : ∀ {kvs : List (Key × V)} {ps : List (PyData × PyData)} {vs : List (Key × Value)} {es : List DictEntry}, DqKv H kvs ps → KV kvs vs → Pairs (mixKind X.prog X.w) es vs →
    RdsAll H s.heap (es.map (·.key)) (ps.map (·.1)) ∧ RdsAll H s.heap (es.map (·.val)) (ps.map (·.2))
  | _, _, _, _, .nil, r, p => by
    cases r
    cases p
    exact ⟨⟨_, ReadsAll.nil, fun b z => nomatch z⟩, ⟨_, ReadsAll.nil, fun b z => nomatch z⟩⟩
  | _, _, _, _, .cons (x := x) a b, r, p => by
    cases r with
    | cons r1 r2 =>
      cases p with
      | cons p1 p2 p3 =>
        rename_i kv0 vs0 en es0
        obtain ⟨k0, v0⟩ := kv0
        obtain ⟨ek, ev⟩ := r1
        dsimp only at ek ev p1 p2
        subst ek
        obtain ⟨⟨as, x1, t1⟩, ⟨bs, x2, t2⟩⟩ := DqKv.reads I b r2 p3
        obtain ⟨cs, x3, t3⟩ := Dq.reads I a ev
        rcases keyIs_shape (show keyIs (.inr x) en.key = true from p1) with ⟨i, t, z, _⟩ | ⟨y, t, z, ey⟩
        · cases z
        · cases z
          refine ⟨⟨[] ++ as, ?_, fun c z => t1 c (by simpa using z)⟩, ⟨cs ++ bs, ?_, fun c z => (List.mem_append.mp z).elim (t3 c) (t2 c)⟩⟩
          · show ReadsAll s.heap (en.key :: _) (PyData.str x :: _) _
            rw [ey]
            exact ReadsAll.cons (Reads.str x t) x1
          · show ReadsAll s.heap (en.val :: _) (_ :: _) _
            rw [p2]
            exact ReadsAll.cons x3 x2
end
/-- the module of modules stands in the written part -/
def SysIn (K : PySem.W.Frag) : Prop := ∃ o, K.lookup sysModules = some o
/-- small enough to be shown -/
structure Ok (d : PyData) : Prop where
  sh : d.showable = true
  dp : d.depth ≤ 20
  sz : d.shown.length ≤ 5000
theorem Dq.shw (I : Inv X pins σ H s) (y : SysIn X.K) {v : V} {d : PyData} {u : Value} (q : Dq H v d) (r : RelV v u) (k : Ok d) : Shw s.heap u d := by
  obtain ⟨as, ra, ta⟩ := q.reads I r
  obtain ⟨o, ho⟩ := y
  refine ⟨⟨as, ra, fun z => ?_⟩, k.sh, k.dp, k.sz⟩
  obtain ⟨o', e⟩ := ta _ z
  have n := (I.bs _ o (I.ok.mod.kin _ _ ho)).2
  rw [n] at e
  cases e
end
end ErL

set_option maxHeartbeats 1000000
namespace ErL
open PySem PySem.Spec PyProof.Rows L2
open PySem.Er (Made Cl In1 In2 Shw)
/-- what isinstance, a field's reading and str ask of an error's class -/
structure Asks (K : PySem.W.Frag) (C : Addr) : Prop where
  cl : (PySem.W.clsIn K C).isSome = true
  hd : PySem.W.hasDictIn K C = true
  ga : PySem.W.findIn K (.ref C) "__getattribute__" = some (some (.builtin "BaseException.__getattribute__"))
  gg : PySem.W.findIn K (.ref C) "__getattr__" = some none
  ex : PySem.W.subIn K (.ref C) (.type "BaseException") = some true
  cs : PySem.W.findIn K (.ref C) "__class__" = some (some (.builtin "object.__class__"))
  gs : PySem.W.specialIn K (.builtin "object.__class__") "__get__" = some (some (.builtin "getset_descriptor.__get__"))
  tk : PySem.W.takesIn K (.builtin "object.__class__") = some true
  mo : PySem.W.mroIn K C (.type "object") = some true
  st : PySem.W.findIn K (.ref C) "__str__" = some (some (.builtin "BaseException.__str__"))
section
variable {X : Cx} {pins : List (Addr × Obj)} {σ : L2.St} {H : Hp} {s : Shared} {e C : Addr} {fs : List (Str × V)} {args : List V}
theorem er_inst (I : Inv X pins σ H s) (x : ErAt H e C fs args) : ∃ (ox : Obj) (od : Option Obj), PySem.W.InstAt s.heap e ox C od ∧
    ∀ f v, fs.lookup f = some v → ∃ d u, od = some d ∧ PySem.W.lookIn f d = some (some u) ∧ RelV v u := by
  obtain ⟨d, t, h1, h2, h3⟩ := x
  have q : s.heap.get? e = some ({ cls := .ref C, dict := d, data := .fields #[.ref t, .none, .none, .none, .bool false, .none] } : Obj) := (show ObjOk X.prog X.w H s.heap e (erO e C d t) from I.hok e _ h1).1
  cases d with
  | none =>
    refine ⟨_, none, ⟨q, rfl, rfl, trivial⟩, fun f v z => ?_⟩
    have h3' : fs = [] := h3
    rw [h3'] at z
    cases z
  | some dx =>
    obtain ⟨mA, hns, rel⟩ := (show ObjOk X.prog X.w H s.heap dx (.xd fs) from I.hok dx _ h3)
    obtain ⟨od, ho, hl⟩ := lookIn_ns hns
    refine ⟨_, some od, ⟨q, rfl, rfl, ho⟩, fun f v z => ?_⟩
    obtain ⟨u, hu, ru⟩ := RelO.some_of (v := v) (o := mA f) (by rw [← z]; exact rel f)
    exact ⟨od, u, rfl, by rw [hl, hu], ru⟩
theorem er_exc (I : Inv X pins σ H s) (x : ErAt H e C fs args) : ∃ (t : Addr) (us : List Value), H t = some (.tup args) ∧ PySem.ExcC X.K C e t s.heap ∧ s.heap.TupAt t us ∧ Vals args us := by
  obtain ⟨d, t, h1, h2, h3⟩ := x
  have q : s.heap.get? e = some ({ cls := .ref C, dict := d, data := .fields #[.ref t, .none, .none, .none, .bool false, .none] } : Obj) := (show ObjOk X.prog X.w H s.heap e (erO e C d t) from I.hok e _ h1).1
  obtain ⟨_, us, rv, o, ho, hc, n, hd⟩ := (show ObjOk X.prog X.w H s.heap t (.tup args) from I.hok t _ h2)
  exact ⟨t, us, h2, ⟨I.kIn, _, _, q, rfl, rfl, rfl⟩, ⟨o, n, ho, hc, hd⟩, rv⟩
end
section
variable {X : Cx} {f : Str} {te : TE} {pos : Pos} {e : Expr}
/-- e.f of an error -/
def tErF (K : PySem.W.Frag) (f : Str) (te : TE) : TE := fun σ H Q => te σ H fun x H1 => ∃ a C fs args v, x = .ref a ∧ ErAt H1 a C fs args ∧ Asks K C ∧ PySem.W.findIn K (.ref C) f = some none ∧ fs.lookup f = some v ∧ Q v H1
theorem pe_erF (he : PE X e te) (hb : attributeBase e f X.env (eval e X.env) = eval e X.env := by rfl) : PE X (.Attribute e f pos) (tErF X.K f te) := by
  refine ⟨fun pins s σ H Q I h => ?_⟩
  refine attr_of hb (thn (he.run pins s σ H _ I h) fun u s1 hh => ?_)
  obtain ⟨x, H1, I1, rx, a, C, fs, args, v, rfl, hx, A, hn, hl, q⟩ := hh
  obtain rfl : u = Value.ref a := rx
  obtain ⟨ox, od, J, hf⟩ := er_inst I1 hx
  obtain ⟨d, w, rfl, l, rw⟩ := hf f v hl
  exact PySem.PX.exc_get I1.kIn J A.ga A.gg A.ex (PySem.W.findObj_own A.hd hn rfl l) (handed_of rw) ⟨v, H1, I1.tok _, rw, q⟩
/-- isinstance(e, c), e an error -/
def rIsEr (K : PySem.W.Frag) : List V → Hp → VK → Prop := fun xs H Q => ∃ a C fs args c cv b, xs = [.ref a, c] ∧ ErAt H a C fs args ∧ Asks K C ∧ (∀ u, RelV c u → u = cv) ∧ PySem.W.kitOne K (.ref C) cv = some b ∧ Q (.bl b) H
theorem call_isEr : CallR X (.builtin "isinstance") (rIsEr X.K) := by
  intro pins s σ H xs us Q I r h
  obtain ⟨a, C, fs, args, c, cv, b, rfl, hx, A, hc, e, q⟩ := h
  obtain ⟨u, u', rfl, ru, ru'⟩ := vals2 r
  obtain rfl : u = Value.ref a := ru
  obtain rfl := hc _ ru'
  obtain ⟨ox, od, J, _⟩ := er_inst I hx
  exact PySem.W.kia_one (PySem.W.kitx_exc A.cl A.ga A.gg A.ex A.cs A.gs A.tk A.mo) I.kIn J e (fun z => nomatch z) fun tk => ⟨.bl b, H, I.kept (t' := tk) fun _ _ z => z, rfl, q⟩
/-- str(e), e an error -/
def rStrEr (K : PySem.W.Frag) : List V → Hp → VK → Prop := fun xs H Q => ∃ a C fs args ds, xs = [.ref a] ∧ ErAt H a C fs args ∧ Asks K C ∧ DqAll H args ds ∧
    (∀ d ∈ ds, Ok d) ∧ Ok (.tuple ds) ∧ ∀ z, Q (.str z) H
theorem call_strEr (hu : X.A.units + 70 < cLine) (hg : X.A.guards = some []) (y : SysIn X.K) : CallR X (.type "str") (rStrEr X.K) := by
  intro pins s σ H xs us Q I r h
  obtain ⟨a, C, fs, args, ds, rfl, hx, A, hd, ok1, ok2, q⟩ := h
  obtain ⟨u, rfl, ru⟩ := vals1 r
  obtain rfl : u = Value.ref a := ru
  obtain ⟨t, vs, ht, hE, hT, rv⟩ := er_exc I hx
  refine PySem.Er.str_of_er (args := vs) (ds := ds) hg (by omega) ⟨hE, hT, ?_⟩ A.st A.ex fun y t h' tk k => ⟨.str y, H, I.kept k, ⟨t, rfl⟩, q y⟩
  cases hd with
  | nil =>
    cases rv
    exact .inl rfl
  | cons d1 d2 =>
    rename_i v vs' d ds'
    cases d2 with
    | nil =>
      cases rv with
      | cons r1 r2 =>
        cases r2
        exact .inr (.inl ⟨_, d, rfl, d1.shw I y r1 (ok1 d List.mem_cons_self)⟩)
    | cons d3 d4 =>
      cases rv with
      | cons r1 r2 =>
        cases r2 with
        | cons r3 r4 =>
          refine .inr (.inr ⟨_, by show 2 ≤ _; simp, Dq.shw I y (Dq.tup ht (.cons d1 (.cons d3 d4))) rfl ok2⟩)
/-- repr(x), x data -/
def rReprD : List V → Hp → VK → Prop := fun xs H Q => ∃ a d, xs = [.ref a] ∧ Dq H (.ref a) d ∧ Ok d ∧ Q (.str d.shown) H
theorem call_reprD (hu : X.A.units + 70 < cLine) (hg : X.A.guards = some []) (y : SysIn X.K) : CallR X (.builtin "repr") rReprD := by
  intro pins s σ H xs us Q I r h
  obtain ⟨a, d, rfl, hd, ok, q⟩ := h
  obtain ⟨u, rfl, ru⟩ := vals1 r
  obtain rfl : u = Value.ref a := ru
  obtain ⟨⟨as, ra, n⟩, sh, dp, sz⟩ := hd.shw I y (u := .ref a) rfl ok
  exact repr_of_reads' ra sh (fun _ => n) hg (by omega) (fun _ _ z => z) (fun h' t tk k => ⟨.str d.shown, H, I.kept k, ⟨t, rfl⟩, q⟩) (Nat.le_trans sz (by rw [sizeLine_eq]; omega))
end
end ErL

set_option maxHeartbeats 1000000
namespace ErL
open PySem PySem.Spec PyProof.Rows L2
open PySem.Er (Made Cl In1 In2 Shw)
section
variable {X : Cx} {pins : List (Addr × Obj)} {σ : L2.St} {H : Hp} {s : Shared} {h' : Heap} {t' : Nat}
theorem laidMany2 {H' : Hp} (I : Inv X pins σ H s) (k : ∀ b o, s.heap.get? b = some o → h'.get? b = some o) (sm : Same H H') (fr : ∀ b o, s.heap.get? b = some o → H b = none → H' b = none)
    (new : ∀ b o, H' b = some o → H b = none → ObjOk X.prog X.w H' h' b o) : Inv X pins σ H' { s with heap := h', toks := t' } := by
  refine I.un ⟨fun b o q _ _ _ => k b o q, fun b o q _ _ _ => ⟨o.slots, k b o q⟩, fun b o q n _ => fr b o q n, fun b o q _ => ⟨o, k b o q⟩, fun b xs q => sm _ _ q, fun b o u q => sm _ _ q, fun b ps q => ⟨#[], by rw [sm _ _ q]; simp⟩⟩ ?_
  intro b o q
  cases e : H b with
  | none => exact new b o q e
  | some o' =>
    have q2 := sm _ _ e
    rw [q] at q2
    cases q2
    exact (I.hok b o e).stay (fun c v _ z => k c v z) (fun c z => sm _ _ z) fun c xs z => sm _ _ z
end
section
variable {X : Cx} {C : Addr} {B newId initId : String} {bmB : List Value} {f f' : Str} {x : Str} {p pos : Pos} {a b : Expr} {ta tb : TE} {kp1 kp2 : Pos}
/-- C(), a class without an __init__ of its own -/
def tEr0 (C : Addr) : TE := fun _ H Q => ∀ e H', ErAt H' e C [] [] → Same H H' → H e = none → Q (.ref e) H'
theorem pe_er0 (F : ExcBaseFacts B newId initId bmB) (q : PySem.W.excIn X.K C bmB newId = true) (kC : PySem.W.keepIn X.K (.ref C) = true) (hg : Gl X x) (hm : X.mg x = some (.ref C)) (hdb : (x == ("__debug__" : Str)) = false := by decide) :
    PE X (.Call (.Name x p) [] [] pos) (tEr0 C) := by
  refine ⟨fun pins s σ H Q I h => ?_⟩
  refine wpAny_Call_Name_kw (ld_glob I hg hm ?_ hdb)
  refine PySem.W.callWith_K0 I.kIn kC ?_
  show wpAny _ _ (call (.ref C) []) _ _ _
  obtain ⟨bm, N, nm, qn, bs, hdct, sn, sub, ab, col, dd, k0, k1, k2, k3, k5, mN, hC, hN, hni, T⟩ := exc_obj I.kIn q
  obtain ⟨hp, g, dr, tk, os⟩ := s
  refine wpAny_call_exc_subT F T hC hN hni (fun h' e hm => ?_) (by show 0 ≤ sizeLine; omega)
  obtain ⟨t, ht, nt0, htup⟩ := hm.there
  have ne : H e = none := I.hok.gone hm.new
  have nt : H t = none := I.hok.gone nt0
  have te : t ≠ e := fun z => by
    subst z
    rw [ht] at htup
    cases htup
  have sm : Same H (upd (upd H t (.tup [])) e (erO e C none t)) := fun b o z => by
    rw [upd_ne (ne_of_none z ne), upd_ne (ne_of_none z nt)]
    exact z
  have at_e : (upd (upd H t (.tup [])) e (erO e C none t)) e = some (erO e C none t) := upd_same
  have at_t : (upd (upd H t (.tup [])) e (erO e C none t)) t = some (.tup []) := by rw [upd_ne te, upd_same]
  refine ⟨.ref e, _, laidMany2 (H' := upd (upd H t (.tup [])) e (erO e C none t)) I hm.keeps sm (fun b o z n => ?_) (fun b o z n => ?_), rfl, h e _ ⟨none, t, at_e, at_t, rfl⟩ sm ne⟩
  · rw [upd_ne (fun y => by rw [y, hm.new] at z; cases z), upd_ne (fun y => by rw [y, nt0] at z; cases z)]
    exact n
  · by_cases be : b = e
    · subst be
      rw [at_e] at z
      cases z
      exact erO_ok ht
    · by_cases bt : b = t
      · subst bt
        rw [at_t] at z
        cases z
        exact ⟨by show 0 ≤ sizeLine; omega, [], .nil, ⟨_, htup, rfl, _, rfl⟩⟩
      · rw [upd_ne be, upd_ne bt, n] at z
        cases z
/-- C(f = a) -/
def tErK1 (C : Addr) (f : Str) (t : TA) : TE := fun σ H Q => t σ H fun vs H1 => ∃ v, vs = [v] ∧ ∀ e H', ErAt H' e C [(f, v)] [] → Same H1 H' → H1 e = none → Q (.ref e) H'
theorem pe_erK1 {k : Nat} (c : Cl X.K C B newId initId bmB) (i : In1 X.K C f) (hb : Bd1 f (gK1 f)) (hr : Room k X.A) (hg : Gl X x) (hm : X.mg x = some (.ref C)) (ha : PK X [⟨some f, a, kp1⟩] (tCons ta tNil))
    (hdb : (x == ("__debug__" : Str)) = false := by decide) (hall : (backToKw pos (keywordEach [⟨some f, a, kp1⟩] X.env)).all (·.1.isSome) = true := by rfl) (hks : (backToKw pos (keywordEach [⟨some f, a, kp1⟩] X.env)).filterMap (·.1) = [f] := by rfl)
    (hpl : ((backTo pos (starEach [] X.env)).any (·.1) || (backToKw pos (keywordEach [⟨some f, a, kp1⟩] X.env)).any (·.1.isNone)) = false := by rfl) :
    PE X (.Call (.Name x p) [] [⟨some f, a, kp1⟩] pos) (tErK1 C f (tCons ta tNil)) := by
  refine ⟨fun pins s σ H Q I h => ?_⟩
  refine wpAny_Call_Name_kw (ld_glob I hg hm ?_ hdb)
  refine PySem.W.callWith_KW0 (h₀ := X.base) I.ok.mod.kin c.kC hall ?_ hpl
  refine thn (ha.run pos pins s σ H _ I h) fun ws s1 ⟨zs, H1, I1, rz, v, ev, q⟩ => ⟨I1.kIn, ?_⟩
  subst ev
  obtain ⟨u, rfl, ru⟩ := vals1 rz
  rw [hks]
  show wpAny _ _ (call (.ref C) [] [(f, u)]) _ _ _
  exact wpAny_call (PySem.Er.made1 c i (v := u) I1.kIn I1.nolimit (by have := hr.dp; omega) (by show 0 ≤ sizeLine; omega) (fun _ ql p1 p2 q1 q2 q3 q4 kv dc pm an cv ct y => .of_eq (hb ql p1 p2 q1 q2 q3 q4 kv dc pm an cv ct y u))
    fun h' tk e d t M => made_inv (vs := []) I1 M .nil (by show 0 ≤ sizeLine; omega) (rel1 ru) fun H' z1 z2 z3 => q e H' z1 z2 z3)
/-- C(f' = a, f = b): the second parameter first -/
def tErK2 (C : Addr) (f f' : Str) (t : TA) : TE := fun σ H Q => t σ H fun vs H1 => ∃ v v', vs = [v', v] ∧ ∀ e H', ErAt H' e C [(f, v), (f', v')] [] → Same H1 H' → H1 e = none → Q (.ref e) H'
theorem pe_erK2 {k : Nat} (c : Cl X.K C B newId initId bmB) (i : In2 X.K C f f') (hb : Bd2 f f' (gK2 f f')) (hr : Room k X.A) (hg : Gl X x) (hm : X.mg x = some (.ref C)) (ha : PK X [⟨some f', a, kp1⟩, ⟨some f, b, kp2⟩] (tCons ta (tCons tb tNil)))
    (hdb : (x == ("__debug__" : Str)) = false := by decide) (hall : (backToKw pos (keywordEach [⟨some f', a, kp1⟩, ⟨some f, b, kp2⟩] X.env)).all (·.1.isSome) = true := by rfl)
    (hks : (backToKw pos (keywordEach [⟨some f', a, kp1⟩, ⟨some f, b, kp2⟩] X.env)).filterMap (·.1) = [f', f] := by rfl)
    (hpl : ((backTo pos (starEach [] X.env)).any (·.1) || (backToKw pos (keywordEach [⟨some f', a, kp1⟩, ⟨some f, b, kp2⟩] X.env)).any (·.1.isNone)) = false := by rfl) :
    PE X (.Call (.Name x p) [] [⟨some f', a, kp1⟩, ⟨some f, b, kp2⟩] pos) (tErK2 C f f' (tCons ta (tCons tb tNil))) := by
  refine ⟨fun pins s σ H Q I h => ?_⟩
  refine wpAny_Call_Name_kw (ld_glob I hg hm ?_ hdb)
  refine PySem.W.callWith_KW0 (h₀ := X.base) I.ok.mod.kin c.kC hall ?_ hpl
  refine thn (ha.run pos pins s σ H _ I h) fun ws s1 ⟨zs, H1, I1, rz, v, v', ev, q⟩ => ⟨I1.kIn, ?_⟩
  subst ev
  obtain ⟨u', u, rfl, ru', ru⟩ := vals2 rz
  rw [hks]
  show wpAny _ _ (call (.ref C) [] [(f', u'), (f, u)]) _ _ _
  exact wpAny_call (PySem.Er.made2 c i (v := u) (v' := u') I1.kIn I1.nolimit (by have := hr.dp; omega) (by show 0 ≤ sizeLine; omega) (fun _ ql p1 p2 p3 q1 q2 q3 q4 r1 r2 r3 r4 kv dc pm an cv ct y => .of_eq (hb ql p1 p2 p3 q1 q2 q3 q4 r1 r2 r3 r4 kv dc pm an cv ct y u u'))
    fun h' tk e d t M => made_inv (vs := []) I1 M .nil (by show 0 ≤ sizeLine; omega) (rel2 i.nf ru ru') fun H' z1 z2 z3 => q e H' z1 z2 z3)
end
end ErL

set_option maxHeartbeats 1000000
namespace ErL
open PySem PySem.Spec PyProof.Rows L2
theorem guards_deeper {A : Around} {env : Env} (h : A.guards = some []) : (A.deeper env).guards = some [] := by
  first | exact h | (simpa [Around.deeper, pushGuards] using h)
/-- a promise without exceptions: the arguments, the heap, what follows -/
abbrev SpG := List V → Hp → VK → Prop
/-- a def keeps its promise wherever nothing is being shown -/
structure FnG (P : Program) (w : World) (K : PySem.W.Frag) (mg : Str → Option Value) (base : Heap) (k : Nat) (f : Addr) (fd : FuncData) (ps : List Str) (sp : SpG) : Prop where
  len : ∀ vs H Q, sp vs H Q → vs.length = ps.length
  run : ∀ (A : Around) (outer : List Env) (s : Shared) (H : Hp) (args : Args) (us : List Value) (vs : List V) (Q : VK), Room k A → A.guards = some [] →
    Env0 P w K mg base A outer s H → BindsTo s fd args (ps.zip us) → Vals vs us → sp vs H Q → codeAny (model P w) A (.call (.ref f) args) (CR CX0 outer P w H s Q E0) s

section
variable {P : Program} {w : World} {K : PySem.W.Frag} {mg : Str → Option Value} {base : Heap} {k : Nat} {f : Addr} {ps N : List Str} {sp : SpG}
theorem fnG_mk {x qual : Str} {st : Stmt} {fd : FuncData} (F : Fun K x qual st f fd) (S : FnScope N ps (defScope st)) (len : ∀ vs H Q, sp vs H Q → vs.length = ps.length)
    (hbody : ∀ (cdv : Value) (A : Around) (outer : List Env) (s : Shared) (H : Hp) (vs : List V) (Q : VK), Room k (A.deeper (envOfC qual (defScope st) s.heap.objs.size f cdv)) →
      (A.deeper (envOfC qual (defScope st) s.heap.objs.size f cdv)).guards = some [] → sp vs H Q →
      ∃ t, PSs (cxOf CX0 P w K mg base N qual (defScope st) f cdv A outer s H E0).nox (defBody st) t ∧ t { nx := fun _ H' => Q .non H', rt := Q } (start N vs) H) :
    FnG P w K mg base (k + 1) f fd ps sp := by
  obtain ⟨oc, od, kV, doc, pm, an, cdv, ct, osl, rfl, lk, hcd⟩ := F.ex
  refine ⟨len, fun A outer s H args us vs Q hr hg e0 hb r hsp => ?_⟩
  have hl := len _ _ _ hsp
  have KX : K.In s.heap := e0.mod.kin.keeps fun b o e => (e0.bs b o e).1
  have lim : s.heap.NoLimit := e0.mod.nolimit.keeps fun b o e => (e0.bs b o e).1
  have kinds : ∀ y ∈ ps.zip us, (defScope st).names.lookup y.1 = some .local ∨
      ((defScope st).names.lookup y.1 = some .cell ∧ ((cellsFrom (s.heap.objs.size + 1) (defScope st).names []).lookup y.1).isSome = true) := by
    rintro ⟨n, v⟩ hy
    rcases S.par n (List.of_mem_zip hy).1 with q | q
    · exact .inl q
    · exact .inr ⟨q, PySem.W.cellsFrom_some _ _ _ (.inl q)⟩
  refine codeAny_call_function hr.depth (KX _ _ lk) rfl S.co S.gen rfl (PySem.W.codeRec_of KX hcd) (hb _ _ _ _ ?_)
  refine wpAny_newFunctionEnv_cells S.kind kinds fun env he s1 x => ?_
  subst he
  refine ⟨lim.keeps x.toInCall.keep, codeAny_func ?_⟩
  obtain ⟨t, ht, hq⟩ := hbody cdv A outer s H vs Q (hr.deeper _) (guards_deeper hg) hsp
  have I := inv_start (CX := CX0) (E := E0) (P := P) (w := w) (K := K) (mg := mg) (base := base) S hr.hd e0 hl r x
  refine wpAny_mono (ht.nox.run [] s1 (start N vs) H _ I hq) (fun fl s' hs => ?_) fun e s' hs => hs
  cases fl with
  | ret u =>
    obtain ⟨v, σ', H', J, rv, q⟩ := hs
    exact ⟨v, H', J.os, J.bare, J.base, J.hok, rv, q⟩
  | next =>
    obtain ⟨σ', H', J, q⟩ := hs
    exact ⟨.non, H', J.os, J.bare, J.base, J.hok, rfl, q⟩
  | brk =>
    obtain ⟨_, _, _, q⟩ := hs
    exact q.elim
  | cont =>
    obtain ⟨_, _, _, q⟩ := hs
    exact q.elim
theorem FnG.mono {fd : FuncData} {j : Nat} (F : FnG P w K mg base j f fd ps sp) (h : j ≤ k) : FnG P w K mg base k f fd ps sp :=
  ⟨F.len, fun A outer s H args us vs Q hr => F.run A outer s H args us vs Q (hr.mono h)⟩
/-- what holds wherever, holds here -/
theorem FnG.of {fd : FuncData} {sp0 : Sp} (F : FnOk P w K mg base CX0 k f fd ps sp0) (h : ∀ vs H Q, sp vs H Q → sp0 vs H Q E0) : FnG P w K mg base k f fd ps sp :=
  ⟨fun vs H Q q => F.len vs H Q E0 (h _ _ _ q), fun A outer s H args us vs Q hr _ e0 hb r hsp => F.run A outer s H args us vs Q E0 hr e0 hb r (h _ _ _ hsp)⟩
end
section
variable {X : Cx} {k : Nat} {f : Addr} {fd : FuncData} {ps : List Str} {sp : SpG} {x : Str} {p pos : Pos} {e : Expr} {es : List Expr} {t : TA}
/-- f(..) -/
def tCallG (sp : SpG) (t : TA) : TE := fun σ H Q => t σ H fun vs H1 => sp vs H1 Q
theorem pe_callG (F : FnG X.prog X.w X.K X.mg X.base k f fd ps sp) (hr : Room k X.A) (hG : X.A.guards = some []) (hg : Gl X x) (hm : X.mg x = some (.ref f)) (hk : PySem.W.keepIn X.K (.ref f) = true) (hb : Binds X.K fd ps [])
    (ha : PA X (e :: es) t) (hdb : (x == ("__debug__" : Str)) = false := by decide) (he : starEach (e :: es) X.env = (false, eval e X.env) :: starEach es X.env := by rfl)
    (hpl : (backTo pos (starEach es X.env)).any (·.1) = false := by rfl) : PE X (.Call (.Name x p) (e :: es) [] pos) (tCallG sp t) := by
  refine ⟨fun pins s σ H Q I h => ?_⟩
  refine wpAny_Call_Name_kw (ld_glob I hg hm ?_ hdb)
  refine PySem.W.callWith_K (h₀ := X.base) I.ok.mod.kin hk (thn (ha.run pos pins s σ H _ I h) fun us s1 ⟨vs, H1, I1, r, q⟩ => ⟨I1.kIn, ?_⟩) he hpl
  have hl : (us ++ []).length = ps.length := by
    rw [List.append_nil, ← r.length]
    exact F.len _ _ _ q
  have hb1 := hb s1 us I1.kIn hl
  rw [List.append_nil] at hb1
  show wpAny _ _ (call (.ref f) us) _ _ _
  refine wpAny_call (codeAny_mono (F.run X.A X.stack s1 H1 ⟨us, []⟩ us vs Q hr hG I1.env0 hb1 r q) fun r' s' hq => ?_)
  cases r' with
  | error e => exact False.elim hq
  | ok fl =>
    cases fl with
    | ret u => exact I1.after hq
    | next => exact False.elim hq
    | brk => exact False.elim hq
    | cont => exact False.elim hq
end
end ErL




set_option maxHeartbeats 0
namespace K11
open PySem PySem.Spec PyProof.Rows L2 RtL ErL
def top (i : Nat) : Stmt := PySem.Challenge.pw_slotsums_k11_symmetric_and_alternating.main.body.getD i (.Pass ⟨0, 0, 0, 0⟩)
abbrev inT (i : Nat) : Stmt := inClass (top 29) i
/-! ### the defs -/
def glD (i : Nat) (x : Str) : He.DefD := ⟨(x, none), x, x, defArgs (top i), defBody (top i), defScope (top i), [], []⟩
def mtD (i : Nat) (m : Str) : He.DefD := ⟨("Table", some m), m, "Table." ++ m, defArgs (inT i), defBody (inT i), defScope (inT i), [], []⟩
def ln : List Str := ["_law_pot", "_law_draw", "_law_pick", "_law_name", "_law_orders", "_law_parity", "_law_moved", "_law_least", "_law_places", "_law_is", "_law_other_way", "_law_group_right", "_law_places_refused", "_law_makers_refused", "_law_named_right", "law"]
def gn : List Str := ["SlotsumsError", "InvalidName", "InvalidCount", "InvalidPlaces", "Vanishing", "is_an_integer", "is_count", "is_name", "is_list", "is_pair", "is_order", "are_counts", "turned", "in_succession", "group_of", "parity", "least_of", "check_name", "check_slots", "is_turn", "check_even_slots", "Table"]
def erD (i : Nat) (x : Str) : He.DefD := ⟨(x, some "__init__"), "__init__", x ++ ".__init__", defArgs (inClass (top i) 0), defBody (inClass (top i) 0), defScope (inClass (top i) 0), [], []⟩
def vaD : He.DefD := erD 8 "Vanishing"
def fn : List He.DefD := [vaD, glD 10 "is_an_integer", glD 11 "is_count", glD 12 "is_name", glD 13 "is_list", glD 14 "is_pair", glD 15 "is_order", glD 16 "are_counts", glD 18 "turned", glD 19 "in_succession", glD 20 "group_of", glD 22 "least_of", glD 25 "check_name", glD 26 "check_slots", glD 27 "is_turn",
  mtD 0 "__init__", mtD 4 "slots", mtD 5 "turns", mtD 6 "is_slot_places", mtD 7 "least", mtD 8 "class_of", mtD 9 "renamed", mtD 10 "__eq__", mtD 11 "__repr__", erD 3 "InvalidName", erD 4 "InvalidCount", erD 7 "InvalidPlaces", glD 21 "parity", glD 28 "check_even_slots"] ++ (List.range 16).map (fun i => glD (31 + i) (ln.getD i ""))
/-- the defs of the class's records: the attribute, the record's type, the place in the class's text -/
def rc : List (Str × String × Nat) := [("changes_sign", "property", 3), ("symmetric", "classmethod", 1), ("alternating", "classmethod", 2)]
def fr : List Str := ["abs", "len", "max", "min", "int", "divmod", "isinstance", "range", "bool", "all", "any", "list", "tuple", "enumerate", "repr", "sorted", "set", "str"]
def fa : List He.Fa := (gn ++ ln).map He.Fa.glo ++ (fr.map He.Fa.free ++ [He.Fa.int "MOST_SLOTS" 4, He.Fa.cls "Table", He.Fa.mkr "Table", He.Fa.noat "Table" "name", He.Fa.noat "Table" "_slots", He.Fa.noat "Table" "_group", He.Fa.meth "Table" "slots", He.Fa.meth "Table" "turns", He.Fa.meth "Table" "is_slot_places", He.Fa.meth "Table" "least", He.Fa.meth "Table" "class_of", He.Fa.meth "Table" "renamed"])
def recV (K : Fr) (r : Str × String × Nat) : He.FnW := lookA K (recA K (He.ga K "Table") r.1 r.2.1)
def recW (r : Str × String × Nat) : He.FnW := some (r.1, "Table." ++ r.1, defArgs (inT r.2.2), .stmts (defBody (inT r.2.2)), defScope (inT r.2.2), mainGlobals, [], builtinsNs)
/-! ### what is asked of the class -/
def spcB (K : Fr) (C : Str) (m : Str) : Bool := He.eqO (PySem.W.findIn K (.ref (He.ga K C)) m) (some (some (.ref (He.ma K (He.ga K C) m)))) && PySem.W.isFn K (.ref (He.ma K (He.ga K C) m))
def claB (K : Fr) (C : Str) : Bool := He.eqO (PySem.W.findIn K (.ref (He.ga K C)) "__class__") (some (some (.builtin "object.__class__"))) && (He.eqO (PySem.W.specialIn K (.builtin "object.__class__") "__get__") (some (some (.builtin "getset_descriptor.__get__"))) &&
  (decide (PySem.W.takesIn K (.builtin "object.__class__") = some true) && (decide (PySem.W.mroIn K (He.ga K C) (.type "object") = some true) && (decide (PySem.W.kitOne K (.ref (He.ga K C)) (.type "int") = some false) && decide (PySem.W.kitOne K (.ref (He.ga K C)) (.type "bool") = some false)))))
def eqB (a b : Option (Option Value)) : Bool := decide (a = b)
def askB (K : Fr) (C : Addr) : Bool := (PySem.W.clsIn K C).isSome && (PySem.W.hasDictIn K C && (eqB (PySem.W.findIn K (.ref C) "__getattribute__") (some (some (.builtin "BaseException.__getattribute__"))) &&
  (eqB (PySem.W.findIn K (.ref C) "__getattr__") (some none) && (decide (PySem.W.subIn K (.ref C) (.type "BaseException") = some true) && (eqB (PySem.W.findIn K (.ref C) "__class__") (some (some (.builtin "object.__class__"))) &&
  (eqB (PySem.W.specialIn K (.builtin "object.__class__") "__get__") (some (some (.builtin "getset_descriptor.__get__"))) && (decide (PySem.W.takesIn K (.builtin "object.__class__") = some true) &&
  (decide (PySem.W.mroIn K C (.type "object") = some true) && eqB (PySem.W.findIn K (.ref C) "__str__") (some (some (.builtin "BaseException.__str__")))))))))))
theorem ask_ok {K : Fr} {C : Addr} (h : askB K C = true) : Asks K C := by
  simp only [askB, eqB, Bool.and_eq_true, decide_eq_true_eq] at h
  obtain ⟨h1, h2, h3, h4, h5, h6, h7, h8, h9, h10⟩ := h
  exact ⟨h1, h2, h3, h4, h5, h6, h7, h8, h9, h10⟩
abbrev bmV : List Value := [.type "ValueError", .type "Exception", .type "BaseException", .type "object"]
def clB (K : Fr) (C : Addr) : Bool := PySem.W.excInitIn K C bmV "ValueError.__new__" && (PySem.W.excOver K C bmV && (PySem.W.hasDictIn K C && (eqB (PySem.W.findIn K (.ref C) "__setattr__") (some (some (.builtin "object.__setattr__"))) && PySem.W.keepIn K (.ref C))))
theorem cl_ok {K : Fr} {C : Addr} (h : clB K C = true) : PySem.Er.Cl K C "ValueError" "ValueError.__new__" "ValueError.__init__" bmV := by
  simp only [clB, eqB, Bool.and_eq_true, decide_eq_true_eq] at h
  obtain ⟨h1, h2, h3, h4, h5⟩ := h
  exact ⟨PySem.F.excBase_ValueError, PySem.F.store_ValueError, h1, h2, h3, h4, h5⟩
/-- of an error of one field -/
def errB (K : Fr) (C f : Str) : Bool := askB K (He.ga K C) && (clB K (He.ga K C) && (decide (PySem.W.typeIn K (.ref (He.ma K (He.ga K C) "__init__")) = some (.type "function")) && (eqB (PySem.W.findIn K (.ref (He.ga K C)) "__init__") (some (some (.ref (He.ma K (He.ga K C) "__init__")))) &&
  (decide (PySem.W.takerIn K (He.ga K C) f = some none) && (eqB (PySem.W.findIn K (.ref (He.ga K C)) f) (some none) && (decide (PySem.W.subIn K (.ref (He.ga K C)) (.type "BaseException") = some true) && (decide (PySem.W.typeIn K (.ref (He.ga K C)) = some (.type "type")) &&
  (decide (PySem.W.exmOne K (.ref (He.ga K C)) (.ref (He.ga K C)) = some true)))))))))
def tys : List String := ["int", "str", "NoneType", "bool", "list", "tuple", "dict"]
def cmB (K : Fr) (m : Str) : Bool := PySem.W.readsIn K (He.ga K "Table") (.type "type") && (He.eqO (PySem.W.specialIn K (.ref (He.ga K "Table")) "__getattribute__") (some (some (.builtin "type.__getattribute__"))) &&
  ((match PySem.W.findCls K (.ref (He.ga K "Table")) (.type "type") m with
    | some (.get (.builtin b) (.ref p) .none (.ref c)) => b == "classmethod.__get__" && (p == He.ma K (He.ga K "Table") m && c == He.ga K "Table")
    | _ => false) && (match PySem.W.recIn K (He.ma K (He.ga K "Table") m) "classmethod" with
    | some (.ref g :: _) => PySem.W.fnIn K g
    | _ => false)))
def ern : List Str := ["InvalidName", "InvalidCount", "InvalidPlaces"]
def chk (K : Fr) : Bool := ([(K.lookup sysModules).isSome, PySem.W.selfFirst K (He.ga K "Table"), spcB K "Table" "__eq__", spcB K "Table" "__repr__", propB K (He.ga K "Table") "changes_sign", He.eqO (PySem.W.findIn K (.ref (He.ga K "Table")) "__ne__") (some (some (.builtin "object.__ne__"))), errB K "Vanishing" "name",
  tys.all (fun t => decide (PySem.W.kitOne K (.type t) (.ref (He.ga K "Table")) = some false)), tys.all (fun t => decide (PySem.W.subIn K (.type t) (.ref (He.ga K "Table")) = some false)), decide (PySem.W.kitOne K (.ref (He.ga K "Table")) (.ref (He.ga K "Table")) = some true), claB K "Table",
  rc.all (fun r => wellA K (recA K (He.ga K "Table") r.1 r.2.1) ("Table." ++ r.1) []), ern.all (fun x => errB K x "value"), ern.all (fun x => decide (PySem.W.kitOne K (.ref (He.ga K x)) (.ref (He.ga K "SlotsumsError")) = some true)), ern.all (fun x => ern.all fun y => x == y || decide (PySem.W.exmOne K (.ref (He.ga K x)) (.ref (He.ga K y)) = some false)),
  cmB K "symmetric", cmB K "alternating", decide (PySem.W.nsIn K mainGlobals "permutations" = some (some (.type "itertools.permutations")))] : List Bool).all id
/-! ### the tables of code objects of the defs with a lambda -/
def tabN : List Str := ["_law_places_refused", "_law_makers_refused", "law"]
def frY (g : Addr → Option Obj) : Fr := He.frG g (sysModules :: cStatics :: He.asD g 5)
/-- .. without those tables -/
def frX (g : Addr → Option Obj) : Fr := match tabN.filterMap (PySem.W.tabIn (frY g)) with
  | [a, b, c] => (frY g).filter fun e => e.1 != a.2 && (e.1 != b.2 && e.1 != c.2)
  | _ => frY g
theorem lkF (p : Addr → Bool) : ∀ (l : List (Addr × Obj)) {a : Addr} {o : Obj}, (l.filter fun e => p e.1).lookup a = some o → l.lookup a = some o
  | [], a, o, h => by cases h
  | (k, v) :: t, a, o, h => by
    by_cases hk : p k = true
    · rw [List.filter_cons_of_pos (by simpa using hk), List.lookup_cons] at h
      rw [List.lookup_cons]
      by_cases ha : a = k
      · subst ha
        rw [beq_self_eq_true] at h ⊢
        exact h
      · rw [beq_false_of_ne ha] at h ⊢
        exact lkF p t h
    · rw [List.filter_cons_of_neg (by simpa using hk)] at h
      have e1 := lkF p t h
      have n : a ≠ k := by
        rintro rfl
        have m : (a, o) ∈ t.filter fun e => p e.1 := by
          clear e1 hk
          induction t with
          | nil => cases h
          | cons x t ih =>
            obtain ⟨k', v'⟩ := x
            by_cases hk' : p k' = true
            · rw [List.filter_cons_of_pos (by simpa using hk'), List.lookup_cons] at h
              rw [List.filter_cons_of_pos (by simpa using hk')]
              by_cases ha : a = k'
              · subst ha
                rw [beq_self_eq_true] at h
                cases h
                exact List.mem_cons_self
              · rw [beq_false_of_ne ha] at h
                exact List.mem_cons_of_mem _ (ih h)
            · rw [List.filter_cons_of_neg (by simpa using hk')] at h ⊢
              exact ih h
        exact hk (by simpa using (List.mem_filter.mp m).2)
      rw [List.lookup_cons, beq_false_of_ne n]
      exact e1
theorem frX_in {h : Heap} : (frX h.get?).In h := by
  unfold frX
  split
  · rename_i a b c _
    intro x o e
    exact He.frG_in x o (lkF (fun k => k != a.2 && (k != b.2 && k != c.2)) _ e)
  · exact He.frG_in
/-! ### the Hook -/
/-- of those tables: where they are, none of the written part, each its own -/
def tabB (K : Fr) : Bool := (tabN.all fun x => match PySem.W.tabIn K x with
  | some q => PySem.W.codeHdIn K q.1 q.2 && (K.lookup q.2).isNone
  | none => false) && match tabN.filterMap (PySem.W.tabIn K) with
  | [a, b, c] => a.2 != b.2 && (a.2 != c.2 && b.2 != c.2)
  | _ => false
abbrev AlX : Type := He.AlD × List He.FnW
def obsX (K : Fr) : AlX := ((((fa.all fun f => f.ok K) && fn.all fun d => d.ok K) && (chk K && tabB K), fn.map fun d => He.fnW K d.at_), rc.map (recV K))
def valX : AlX := (He.valD fn, rc.map recW)
def Says (K : Fr) : Prop := obsX K = valX
def tabT (g : Addr → Option Obj) : List (Option Obj) := tabN.map fun x => match PySem.W.tabIn (frX g) x with
  | some q => g q.2
  | none => none
def tabV : List (Option Obj) := tabN.map fun _ => some (PySem.W.tabObj #[])
def hk : PySem.W.Hook where
  α := AlX × List (Option Obj)
  obs := fun s => (obsX (frX s.heap.get?), tabT s.heap.get?)
  val := fun _ => (valX, tabV)
  says := fun _ h => ∃ K : Fr, K.In h ∧ Says K ∧ ∀ x ∈ tabN, ∃ c P, PySem.W.tabIn K x = some (c, P) ∧ h.get? P = some (PySem.W.tabObj #[])
  of := fun _ s e => by
    have e1 : obsX (frX s.heap.get?) = valX := congrArg Prod.fst e
    have e2 : tabT s.heap.get? = tabV := congrArg Prod.snd e
    refine ⟨_, frX_in, e1, fun x hx => ?_⟩
    have e3 := List.map_inj_left.mp e2 x hx
    split at e3
    · rename_i q hq
      exact ⟨q.1, q.2, hq, e3⟩
    · cases e3
  keeps := fun _ _ _ ⟨K, hK, c, q⟩ k => ⟨K, PySem.W.Frag.In.keeps hK k, c, fun x hx => by
    obtain ⟨c', P, h1, h2⟩ := q x hx
    exact ⟨c', P, h1, k _ _ h2⟩⟩
def ob (s : PySem.W.SharedT) : AlX × List (Option Obj) := (obsX (frX (HandSHeadRun.getT s)), tabT (HandSHeadRun.getT s))
theorem ob_eq (s : PySem.W.SharedT) : ob s = hk.obs s.abs := by
  have e : HandSHeadRun.getT s = s.abs.heap.get? := funext (HandSHeadRun.getT_eq s)
  show (obsX (frX (HandSHeadRun.getT s)), tabT (HandSHeadRun.getT s)) = (obsX (frX s.abs.heap.get?), tabT s.abs.heap.get?)
  rw [e]
def names : List Str := (["InvalidSlots", "InvalidTurn", "MOST_SLOTS"] : List Str) ++ gn ++ ln.take 15
abbrev R : PySem.W.OpenRow := PySem.W.OpenLaw.row PySem.Challenge.rw_slotsums_k11_symmetric_and_alternating
end K11

set_option maxHeartbeats 4000000
namespace K11
open PySem PySem.Spec PyProof.Rows L2 RtL ErL
open PySem.Er (Cl In1 iA1 iB1 iS1)
abbrev TC (K : Fr) : Addr := He.ga K "Table"
abbrev VC (K : Fr) : Addr := He.ga K "Vanishing"
abbrev tm (K : Fr) (m : Str) : Addr := He.ma K (TC K) m
/-- what is known of an error of one field -/
structure ErrT (K : Fr) (C : Addr) (f : Str) : Prop where
  ask : Asks K C
  cl : Cl K C "ValueError" "ValueError.__new__" "ValueError.__init__" bmV
  ty : PySem.W.typeIn K (.ref (He.ma K C "__init__")) = some (.type "function")
  fi : PySem.W.findIn K (.ref C) "__init__" = some (some (.ref (He.ma K C "__init__")))
  tk : PySem.W.takerIn K C f = some none
  va : PySem.W.findIn K (.ref C) f = some none
  be : PySem.W.subIn K (.ref C) (.type "BaseException") = some true
  tc : PySem.W.typeIn K (.ref C) = some (.type "type")
  ex : PySem.W.exmOne K (.ref C) (.ref C) = some true
def msN : List Str := ["slots", "turns", "is_slot_places", "least", "class_of", "renamed"]
def atN : List Str := ["name", "_slots", "_group"]
structure TT (K : Fr) (mg : Str → Option Value) : Prop where
  sys : ∃ o, K.lookup sysModules = some o
  me : PySem.W.selfFirst K (TC K) = true
  cl : Cls K (TC K)
  mkr : Mk K (TC K) (tm K "__init__")
  no : ∀ f ∈ atN, NoAttr K (TC K) f
  meth : ∀ m ∈ msN, Meth K (TC K) m (tm K m)
  chg : PropOf K (TC K) "changes_sign" (tm K "changes_sign") (recA K (TC K) "changes_sign" "property")
  spc : ∀ m ∈ (["__eq__", "__repr__"] : List Str), PySem.W.findIn K (.ref (TC K)) m = some (some (.ref (tm K m))) ∧ PySem.W.isFn K (.ref (tm K m)) = true
  eq : EqOf K (TC K) (tm K "__eq__")
  ne : PySem.W.findIn K (.ref (TC K)) "__ne__" = some (some (.builtin "object.__ne__")) ∧ PySem.W.mroIn K (TC K) (.type "object") = some true
  ev : ErrT K (VC K) "name"
  er : ∀ x ∈ ern, ErrT K (He.ga K x) "value"
  sub : ∀ x ∈ ern, PySem.W.kitOne K (.ref (He.ga K x)) (.ref (He.ga K "SlotsumsError")) = some true
  exn : ∀ x ∈ ern, ∀ y ∈ ern, x ≠ y → PySem.W.exmOne K (.ref (He.ga K x)) (.ref (He.ga K y)) = some false
  cm : ∀ m ∈ (["symmetric", "alternating"] : List Str), ClX.CRead K (TC K) (.type "type") ∧ ClX.CMet K (TC K) (.type "type") m (tm K m) (recA K (TC K) m "classmethod")
  perm : mg "permutations" = some (.type "itertools.permutations")
  kitT : ∀ t ∈ tys, PySem.W.kitOne K (.type t) (.ref (TC K)) = some false
  nto : ∀ t ∈ tys, PySem.W.subIn K (.type t) (.ref (TC K)) = some false
  kitS : PySem.W.kitOne K (.ref (TC K)) (.ref (TC K)) = some true
  ty : ∀ {H : Hp} {a dx : Addr} {fs : List (Str × V)}, H a = some (.ins (TC K) dx fs) → TyX K H (.ref a) (.ref (TC K))
  most : ∃ t, mg "MOST_SLOTS" = some (.int 4 t)
  free : ∀ x ∈ fr, mg x = none
  dfs : ∀ d ∈ fn, ∃ fd, FunD K d.name d.qual d.params d.body d.scope (d.dvs K) (d.kws K) (He.fAd K d.at_) fd
  rcs : ∀ r ∈ rc, ∃ fd, FunD K r.1 ("Table." ++ r.1) (defArgs (inT r.2.2)) (defBody (inT r.2.2)) (defScope (inT r.2.2)) [] [] (recA K (TC K) r.1 r.2.1) fd
  gl : ∀ x ∈ gn ++ ln, mg x = some (.ref (He.ga K x))
theorem err_ok {K : Fr} {C f : Str} (h : errB K C f = true) : ErrT K (He.ga K C) f := by
  unfold errB at h
  simp only [eqB, Bool.and_eq_true, decide_eq_true_eq] at h
  obtain ⟨q1, q2, q3, q4, q5, q6, q7, q8, q9⟩ := h
  exact ⟨ask_ok q1, cl_ok q2, q3, q4, q5, q6, q7, q8, q9⟩
theorem tt_of {K : Fr} {h : Heap} {mg : Str → Option Value} (X : K.In h) (G : h.Ns mainGlobals mg) (c : Says K) : TT K mg := by
  have c1 : (((fa.all fun f => f.ok K) && fn.all fun d => d.ok K) && (chk K && tabB K)) = true := congrArg (fun z : AlX => z.1.1) c
  have c2 : fn.map (fun d => He.fnW K d.at_) = fn.map He.DefD.val := congrArg (fun z : AlX => z.1.2) c
  have c3 : rc.map (recV K) = rc.map recW := congrArg (fun z : AlX => z.2) c
  obtain ⟨c1, k⟩ := He.ba c1
  obtain ⟨k, _⟩ := He.ba k
  obtain ⟨ca, cd⟩ := He.ba c1
  unfold chk at k
  simp only [List.all_cons, List.all_nil, id, Bool.and_eq_true, Bool.and_true] at k
  obtain ⟨k1, k2, k3, k4, k5, k6, k7, k8, k9, k10, k11, k12, k13, k14, k15, k16, k17, k18⟩ := k
  have cmx : ∀ m : Str, cmB K m = true → ClX.CRead K (TC K) (.type "type") ∧ ClX.CMet K (TC K) (.type "type") m (tm K m) (recA K (TC K) m "classmethod") := fun m km => by
    unfold cmB at km
    simp only [Bool.and_eq_true] at km
    obtain ⟨m1, m2, m3, m4⟩ := km
    refine ⟨⟨m1, He.eqO_ok m2⟩, ?_, ?_, ?_⟩
    · split at m3
      · rename_i b p c e
        simp only [Bool.and_eq_true, beq_iff_eq] at m3
        obtain ⟨rfl, rfl, rfl⟩ := m3
        exact e
      · cases m3
    · unfold recA
      split at m4
      · rename_i g r e
        exact ⟨r, by rw [e]⟩
      · cases m4
    · unfold recA
      split at m4
      · rename_i g r e
        rw [e]
        exact m4
      · cases m4
  unfold claB at k11
  simp only [Bool.and_eq_true] at k11
  obtain ⟨a1, a2, a3, a4, _, _⟩ := k11
  have fac : ∀ f ∈ fa, f.ok K = true := fun f hf => List.all_eq_true.mp ca f hf
  have lst : ∀ f ∈ [He.Fa.int "MOST_SLOTS" 4, He.Fa.cls "Table", He.Fa.mkr "Table", He.Fa.noat "Table" "name", He.Fa.noat "Table" "_slots", He.Fa.noat "Table" "_group", He.Fa.meth "Table" "slots", He.Fa.meth "Table" "turns", He.Fa.meth "Table" "is_slot_places", He.Fa.meth "Table" "least", He.Fa.meth "Table" "class_of", He.Fa.meth "Table" "renamed"], f.ok K = true :=
    fun f hf => fac f (List.mem_append_right _ (List.mem_append_right _ hf))
  have CT : Cls K (TC K) := He.cls_ok (lst (.cls "Table") (by simp))
  have nt : ∀ t ∈ tys, PySem.W.subIn K (.type t) (.ref (TC K)) = some false := fun t ht => of_decide_eq_true (List.all_eq_true.mp k9 t ht)
  have sp0 : ∀ m : Str, spcB K "Table" m = true → PySem.W.findIn K (.ref (TC K)) m = some (some (.ref (tm K m))) ∧ PySem.W.isFn K (.ref (tm K m)) = true := fun m z => by
    unfold spcB at z
    exact ⟨He.eqO_ok (He.ba z).1, (He.ba z).2⟩
  refine ⟨Option.isSome_iff_exists.mp k1, k2, CT, He.mkr_ok (lst (.mkr "Table") (by simp)), fun f hf => ?_, fun m hm => ?_, prop_ok k5, fun m hm => ?_, ⟨(sp0 _ k3).1, (sp0 _ k3).2, fun t ht => nt t (by revert t; decide)⟩, ⟨He.eqO_ok k6, of_decide_eq_true a4⟩, err_ok k7, fun x hx => err_ok (List.all_eq_true.mp k13 x hx), fun x hx => of_decide_eq_true (List.all_eq_true.mp k14 x hx), fun x hx y hy n => ?_, fun m hm => ?_, PySem.W.mg_of X G (of_decide_eq_true k18),
    fun t ht => of_decide_eq_true (List.all_eq_true.mp k8 t ht), nt, of_decide_eq_true k10, fun ha => .base (.ins ha CT (He.eqO_ok a1) (He.eqO_ok a2) (of_decide_eq_true a3) (of_decide_eq_true a4)), He.int_ok X G (lst (.int "MOST_SLOTS" 4) (by simp)),
    fun x hx => He.free_ok X G (fac (.free x) (List.mem_append_right _ (List.mem_append_left _ (List.mem_map.mpr ⟨x, hx, rfl⟩)))), fun d hd => ?_, fun r hr => ?_, fun x hx => He.glo_ok X G (fac (.glo x) (List.mem_append_left _ (List.mem_map.mpr ⟨x, hx, rfl⟩)))⟩
  · simp only [atN, List.mem_cons, List.not_mem_nil, or_false] at hf
    rcases hf with rfl | rfl | rfl
    · exact He.noat_ok (lst (.noat "Table" "name") (by simp))
    · exact He.noat_ok (lst (.noat "Table" "_slots") (by simp))
    · exact He.noat_ok (lst (.noat "Table" "_group") (by simp))
  · simp only [msN, List.mem_cons, List.not_mem_nil, or_false] at hm
    rcases hm with rfl | rfl | rfl | rfl | rfl | rfl
    · exact He.meth_ok (lst (.meth "Table" "slots") (by simp))
    · exact He.meth_ok (lst (.meth "Table" "turns") (by simp))
    · exact He.meth_ok (lst (.meth "Table" "is_slot_places") (by simp))
    · exact He.meth_ok (lst (.meth "Table" "least") (by simp))
    · exact He.meth_ok (lst (.meth "Table" "class_of") (by simp))
    · exact He.meth_ok (lst (.meth "Table" "renamed") (by simp))
  · simp only [List.mem_cons, List.not_mem_nil, or_false] at hm
    rcases hm with rfl | rfl
    · exact sp0 _ k3
    · exact sp0 _ k4
  · have z := List.all_eq_true.mp (List.all_eq_true.mp k15 x hx) y hy
    rw [beq_false_of_ne n, Bool.false_or] at z
    exact of_decide_eq_true z
  · simp only [List.mem_cons, List.not_mem_nil, or_false] at hm
    rcases hm with rfl | rfl
    · exact cmx _ k16
    · exact cmx _ k17
  · obtain ⟨i, hi⟩ := List.getElem?_of_mem hd
    have e2 : (fn.map fun d => He.fnW K d.at_)[i]? = (fn.map He.DefD.val)[i]? := by rw [c2]
    rw [List.getElem?_map, List.getElem?_map, hi] at e2
    exact He.DefD.funD (Option.some.inj e2) (List.all_eq_true.mp cd d hd)
  · obtain ⟨i, hi⟩ := List.getElem?_of_mem hr
    have e2 : (rc.map (recV K))[i]? = (rc.map recW)[i]? := by rw [c3]
    rw [List.getElem?_map, List.getElem?_map, hi] at e2
    exact def_at (ds := []) (Option.some.inj e2) (List.all_eq_true.mp k12 r hr)
section
variable {K : Fr} {mg : Str → Option Value}
theorem TT.df (T : TT K mg) (i : Nat) (h : i < fn.length := by decide) : ∃ fd, FunD K fn[i].name fn[i].qual fn[i].params fn[i].body fn[i].scope (fn[i].dvs K) (fn[i].kws K) (He.fAd K fn[i].at_) fd := T.dfs _ (List.getElem_mem h)
theorem TT.rd (T : TT K mg) (i : Nat) (h : i < rc.length := by decide) : ∃ fd, FunD K rc[i].1 ("Table." ++ rc[i].1) (defArgs (inT rc[i].2.2)) (defBody (inT rc[i].2.2)) (defScope (inT rc[i].2.2)) [] [] (recA K (TC K) rc[i].1 rc[i].2.1) fd := T.rcs _ (List.getElem_mem h)
theorem TT.fre (T : TT K mg) {x : Str} (h : x ∈ fr := by decide) : mg x = none := T.free x h
theorem in1_of {C : Addr} {q f : Str} {st : Stmt} (hb1 : (f == ("__debug__" : Str)) = false := by decide) (hb2 : (f == ("self" : Str)) = false := by decide) (E : ErrT K C f) (hs : ∃ p1 p2 q1 q2 q3 q4, defArgs st = iA1 f p1 p2 ∧ defBody st = iB1 f q1 q2 q3 q4 ∧ defScope st = iS1 f) {fd : FuncData}
    (F : FunD K "__init__" q (defArgs st) (defBody st) (defScope st) [] [] (He.ma K C "__init__") fd) : In1 K C f := by
  obtain ⟨oc, od, dV, kV, doc, pm, an, cdv, ct, osl, rfl, lk, hcd, hD, _⟩ := F.ex
  obtain rfl : dV = Value.none := hD.elim (fun z => z.2) fun z => absurd rfl z.1
  obtain ⟨p1, p2, q1, q2, q3, q4, e1, e2, e3⟩ := hs
  rw [e1, e2, e3] at lk
  exact ⟨E.tk, hb1, hb2, _, _, oc, od, kV, doc, pm, an, cdv, ct, osl, p1, p2, q1, q2, q3, q4, E.fi, E.ty, lk, hcd⟩
theorem TT.va1 (T : TT K mg) : In1 K (VC K) "name" := by
  obtain ⟨fd, F⟩ := T.dfs vaD (by simp [fn])
  exact in1_of (q := "Vanishing.__init__") (st := inClass (top 8) 0) (E := T.ev) (hs := ⟨_, _, _, _, _, _, rfl, rfl, rfl⟩) (F := F)
theorem TT.in1 (T : TT K mg) {x : Str} (h : x ∈ ern) : In1 K (He.ga K x) "value" := by
  simp only [ern, List.mem_cons, List.not_mem_nil, or_false] at h
  rcases h with rfl | rfl | rfl
  · obtain ⟨fd, F⟩ := T.dfs (erD 3 "InvalidName") (by simp [fn])
    exact in1_of (q := "InvalidName.__init__") (st := inClass (top 3) 0) (E := T.er _ (by decide)) (hs := ⟨_, _, _, _, _, _, rfl, rfl, rfl⟩) (F := F)
  · obtain ⟨fd, F⟩ := T.dfs (erD 4 "InvalidCount") (by simp [fn])
    exact in1_of (q := "InvalidCount.__init__") (st := inClass (top 4) 0) (E := T.er _ (by decide)) (hs := ⟨_, _, _, _, _, _, rfl, rfl, rfl⟩) (F := F)
  · obtain ⟨fd, F⟩ := T.dfs (erD 7 "InvalidPlaces") (by simp [fn])
    exact in1_of (q := "InvalidPlaces.__init__") (st := inClass (top 7) 0) (E := T.er _ (by decide)) (hs := ⟨_, _, _, _, _, _, rfl, rfl, rfl⟩) (F := F)
end
end K11

set_option maxHeartbeats 1000000
/-! repr of a list that holds whole numbers and objects of an own class with __repr__ -/
namespace RtL
open PySem PySem.Spec PyProof.Rows L2
open PySem.Sem (wp)
open PySem.Builtin PySem.Builtin.List
section
variable {M : Model} {K : PySem.W.Frag} {A : Around} {E : Value → Shared → Prop} {s : Shared} {x f C : Addr} {ox : Obj} {od : Option Obj}
theorem ifBoundBy_K {last : Value → List Value → Sem Value} {name : Str} {Q : Option Value → Shared → Prop} (X : K.In s.heap) (I : PySem.W.InstAt s.heap x ox C od) (hs : PySem.W.findIn K (.ref C) name = some (some (.ref f))) (hf : PySem.W.isFn K (.ref f) = true)
    (h : wpAny M A (last (.ref f) [.ref x]) (fun v => Q (some v)) E s) : wpAny M A (callSpecialIfBoundBy? last (.ref x) name) Q E s := by
  simp only [callSpecialIfBoundBy?, bindSpecialIfBound?]
  refine wpAny_holding (wpAny_bind (wpAny_bind (wpAny_bind (I.type.here ((PySem.W.looks_findIn X hs).here ?_)))))
  refine wpAny_bind (wpAny_askSetting (wpAny_ite ?_))
  have fin : wpAny M A (last (.ref f) [.ref x] >>= fun v => pure (some v)) Q E s := wpAny_bind (wpAny_mono h (fun v s' h' => wpAny_pure h') fun _ _ h' => h')
  split
  · exact wpAny_bind ((PySem.W.bind_fn X _ (beq_iff_eq.mp hf)).here (wpAny_pure (by exact fin)))
  · exact wpAny_tryCatch (wpAny_bind ((PySem.W.bind_fn X _ (beq_iff_eq.mp hf)).here (wpAny_pure (by exact fin))))
end
theorem loop_depth (A : Around) (args : Args) : (A.under (.builtin "list.__repr__.loop" args)).depth ≤ A.depth + 1 := by
  first
  | exact Nat.le_of_eq rfl
  | (simp [Around.under, Code.weight, Code.isCreation, Code.isGuard, Code.isCaller, Code.frames, Code.isFrame, guardIds]; done)
  | (simp [Around.under, Code.weight, Code.isCreation, Code.isGuard, Code.isCaller, Code.frames, Code.isFrame, guardIds] <;> omega)
theorem Room.loop {k : Nat} {A : Around} (r : Room (k + 1) A) (args : Args) : Room k (A.under (.builtin "list.__repr__.loop" args)) :=
  ⟨r.hd, by have := r.dp; have := loop_depth A args; omega, by have := r.un; rw [units_under_list_loop]; omega⟩
theorem Env0.loop {P : Program} {w : World} {K : PySem.W.Frag} {mg : Str → Option Value} {base : Heap} {A : Around} {outer : List Env} {s : Shared} {H : Hp} (e : Env0 P w K mg base A outer s H) (args : Args) :
    Env0 P w K mg base (A.under (.builtin "list.__repr__.loop" args)) outer s H := ⟨by first | exact e.frames | (simpa [Around.under, Code.envs, Code.isFrame, pushEnvs] using e.frames), e.mod, e.bs, e.bsz, e.funs, e.frf, e.hok, e.bare⟩
/-- an item and its text -/
def ItT (C : Addr) (sp : Sp) (H : Hp) (v : V) (t : Str) : Prop := (∃ i : Int, v = .int i ∧ t = toString i ∧ i.natAbs.log2 < 1920) ∨ ∃ a dx fs, v = .ref a ∧ H a = some (.ins C dx fs) ∧ ∀ Q : VK, Q (.str t) H → sp [.ref a] H Q E0
section
variable {X : Cx} {k : Nat} {f C : Addr} {fd : FuncData} {sp : Sp} {ps : List Str} {pins : List (Addr × Obj)} {σ : L2.St} {H : Hp}
theorem under_own (hs : PySem.W.findIn X.K (.ref C) "__repr__" = some (some (.ref f))) (hf : PySem.W.isFn X.K (.ref f) = true) (F : FnOk X.prog X.w X.K X.mg X.base CX0 k f fd ps sp) (hb : Binds X.K fd ps []) {A : Around} {s : Shared} {E : Value → Shared → Prop} (hr : Room k A)
    (e0 : Env0 X.prog X.w X.K X.mg X.base A X.stack s H) (I : Inv X pins σ H s) {a dx : Addr} {fs : List (Str × V)} {t : Str} {base : Nat} {Q : Str → Shared → Prop} (ha : H a = some (.ins C dx fs)) (hq : ∀ Q : VK, Q (.str t) H → sp [.ref a] H Q E0) (hz : base ≤ sizeLine)
    (h : ∀ s', Inv X pins σ H s' → Q t s') : wpAny (model X.prog X.w) A (pyReprUnder base (.ref a)) Q E s := by
  obtain ⟨mA, oa, _⟩ := ins_get I.hok ha
  obtain ⟨od, J, _⟩ := oa.look
  have q := hq (fun v H' => v = .str t ∧ H' = H) ⟨rfl, rfl⟩
  have hl : ([Value.ref a] ++ []).length = ps.length := by
    rw [← F.len _ _ _ _ q]
    rfl
  refine wpAny_pyReprUnder_ref hz ?_
  unfold pyReprObjUnder pyReprObjBy
  refine wpAny_bind (wpAny_cRoomFor (by have := hr.un; omega) ?_)
  refine wpAny_bind (wpAny_bind (J.type.here ((PySem.W.looks_findIn I.kIn hs).here ?_)))
  show wpAny _ _ (if (some (Value.ref f)).isNone = true then _ else _) _ _ _
  rw [if_neg (by simp)]
  refine wpAny_bind (ifBoundBy_K I.kIn J hs hf ?_)
  show wpAny _ _ (call (.ref f) [.ref a]) _ _ _
  refine wpAny_call (codeAny_mono (F.run A X.stack s H ⟨[.ref a], []⟩ [.ref a] [.ref a] _ E0 hr e0 (hb s [.ref a] I.kIn hl) (.cons rfl .nil) q) fun r s' hq => ?_)
  match r, hq with
  | .ok (.ret u), hq =>
    obtain ⟨v, H', I3, rv, ev, eH⟩ := I.after hq
    subst ev eH
    obtain ⟨tk, e⟩ := rv
    subst e
    exact wpAny_bind (wpAny_isInstance (T := "str") (b := true) rfl isSubtype_str_str (wpAny_pure ⟨_, _, rfl, h s' I3⟩))
  | .ok .next, hq => exact False.elim hq
  | .ok .brk, hq => exact False.elim hq
  | .ok .cont, hq => exact False.elim hq
  | .error e, hq => exact False.elim hq
abbrev pL (P : Addr) (acc : Array Value) (c : Nat) : Addr × Obj := (P, { cls := .type "list", dict := none, data := .seq acc c, slots := #[] })
/-- the list of the parts grows -/
theorem pin_push {P : Addr} {acc acc' : Array Value} {c c' : Nat} {s : Shared} {h' : Heap} {t' : Nat} (I : Inv X (pL P acc c :: pins) σ H s) (h1 : P ∈ X.ex ∨ X.s_0.heap.objs.size ≤ P) (h2 : ∀ x c, X.env.cells.lookup x = some c → c ≠ P) (h3 : ∀ p ∈ X.pn ++ pins, p.1 ≠ P)
    (k : ∀ b o, b ≠ P → s.heap.get? b = some o → h'.get? b = some o) (hP : h'.get? P = some (pL P acc' c').2) : Inv X (pL P acc' c' :: pins) σ H { s with heap := h', toks := t' } := by
  obtain ⟨p1, p2, p3, p4, p5⟩ := I.pin (pL P acc c) (List.mem_append_right _ List.mem_cons_self)
  have J := (ClX.unpin I).turned (t' := t') k p2 p3 h1 h2 h3
  refine J.pins_of fun p hp => ?_
  rcases List.mem_cons.mp hp with e | e
  · subst e
    exact ⟨hP, p2, p3, p4, fun v z => nomatch z⟩
  · exact J.pin p (List.mem_append_right _ e)
theorem loopI (hs : PySem.W.findIn X.K (.ref C) "__repr__" = some (some (.ref f))) (hf : PySem.W.isFn X.K (.ref f) = true) (F : FnOk X.prog X.w X.K X.mg X.base CX0 k f fd ps sp) (hb : Binds X.K fd ps []) {A : Around} (hr : Room (k + 1) A)
    (e0 : ∀ s, Inv X pins σ H s → Env0 X.prog X.w X.K X.mg X.base A X.stack s H) {a P : Addr} {vs : List V} {ts : List Str} {base : Nat} {R : Result → Shared → Prop} (ea : H a = some (.lst vs)) (hlen : ts.length = vs.length)
    (hT : ∀ (i : Nat) (v : V), vs[i]? = some v → ∃ t, ts[i]? = some t ∧ ItT C sp H v t) (hsz : base + (listText ts).length ≤ sizeLine)
    (h1 : P ∈ X.ex ∨ X.s_0.heap.objs.size ≤ P) (h2 : ∀ x c, X.env.cells.lookup x = some c → c ≠ P) (h3 : ∀ p ∈ X.pn ++ pins, p.1 ≠ P) (hR : ∀ s' u, Inv X pins σ H s' → R (.ok (.ret (.str (listText ts) u))) s') :
    ∀ (n i : Nat) (s : Shared) (acc : Array Value) (c : Nat) (done : List (Str × Tok)), vs.length - i = n → i ≤ vs.length → Inv X (pL P acc c :: pins) σ H s → acc.toList = strValues done → done.map (·.1) = ts.take i →
      codeAny (model X.prog X.w) A (.builtin "list.__repr__.loop" ⟨[.ref a, rawInt i, .ref P, rawInt ((base + piled (ts.take i) : Nat) : Int)], []⟩) R s := by
  have hX : (listText ts).length = (textFrom 0 "[" ts).length + 1 := by
    show (textFrom 0 "[" ts ++ "]").length = _
    rw [strLen_append]; rfl
  have hL := textFrom_len ts 0 "["
  have hsz1 : vs.length ≤ sizeLine := by
    have h1 := hL.1
    rw [if_neg (Nat.lt_irrefl 0)] at h1
    omega
  have hsz2 : ∀ t ∈ ts, t.length ≤ sizeLine := fun t ht => by
    have h2 := hL.2.1 t ht
    omega
  have hsz3 : (listText ts).length ≤ sizeLine := by omega
  have hp3 := piled_le_listText ts
  intro n
  induction n with
  | zero =>
    intro i s acc c done hk hi I hacc hdone
    obtain ⟨_, its, nn, rv, ho⟩ := (show ObjOk X.prog X.w H s.heap a (.lst vs) from I.hok a _ ea)
    have hin : i = its.length := by rw [← rv.length]; omega
    refine codeAny_builtin PySem.F.entry_list_repr_loop ?_
    show wpAny _ _ («list.__repr__.loop» ⟨[.ref a, .int i 0, .ref P, .int ((base + piled (ts.take i) : Nat) : Int) 0], []⟩) _ _ s
    rw [repr_loop_tree]
    refine wpAny_bind (wpAny_listItems ho rfl ?_)
    have hnone : its.toArray[(i : Int).toNat]? = none := by simp [hin]
    simp only [hnone]
    unfold reprEnd
    refine wpAny_bind (wpAny_listItems (ClX.pin_at I) rfl ?_)
    rw [hacc, repr_fold]
    refine wpAny_bind (wpAny_pure ?_)
    have hall : done.map (·.1) = ts := by rw [hdone, hin, ← rv.length, ← hlen, List.take_length]
    rw [hall]
    refine wpAny_bind (wpAny_mkStr (wpAny_pure ?_) hsz3)
    exact hR _ _ ((ClX.unpin I).tok _)
  | succ n ih =>
    intro i s acc c done hk hi I hacc hdone
    have hlt : i < vs.length := by omega
    obtain ⟨_, its, nn, rv, ho⟩ := (show ObjOk X.prog X.w H s.heap a (.lst vs) from I.hok a _ ea)
    have hlt' : i < its.length := by rw [← rv.length]; exact hlt
    obtain ⟨t, ht, hit⟩ := hT i vs[i] (by simp [hlt])
    obtain ⟨u, hu, ru⟩ := rv.get (i := i) (x := vs[i]) (by simp [hlt])
    have hp1 := piled_take_succ ht
    have hp2 := piled_take_le ts (i + 1)
    refine codeAny_builtin PySem.F.entry_list_repr_loop ?_
    show wpAny _ _ («list.__repr__.loop» ⟨[.ref a, .int i 0, .ref P, .int ((base + piled (ts.take i) : Nat) : Int) 0], []⟩) _ _ s
    rw [repr_loop_tree]
    refine wpAny_bind (wpAny_listItems ho rfl ?_)
    have hsome : its.toArray[(i : Int).toNat]? = some u := by
      rw [Int.toNat_natCast, List.getElem?_toArray]
      exact hu
    simp only [hsome]
    rw [Int.toNat_natCast]
    have go : ∀ s', Inv X (pL P acc c :: pins) σ H s' → wpAny (model X.prog X.w) (A.under (.builtin "list.__repr__.loop" ⟨[.ref a, .int i 0, .ref P, .int ((base + piled (ts.take i) : Nat) : Int) 0], []⟩)) (do
        let signs := base + piled (ts.take i) + (t.length + 2)
        let r ← mkStr t
        listUpdate (.ref P) (·.push r)
        again (.builtin "list.__repr__.loop" ⟨[.ref a, rawInt ((i : Int) + 1), .ref P, rawInt signs], []⟩))
        (fun fin s' => match fin with | .done fl => R (.ok fl) s' | .again c' => c'.quiet = true ∧ codeAny (model X.prog X.w) A c' R s') (fun e s' => R (.error e) s') s' := fun s' I' => by
      refine wpAny_bind (wpAny_mkStr ?_ (hsz2 t (List.mem_of_getElem? ht)))
      refine wpAny_bind ?_
      show wpAny _ _ (updateSeq P _) _ _ _
      have hasz : acc.size ≤ sizeLine := by
        have e1 : acc.toList.length = acc.size := by simp
        have e2 : (strValues done).length = done.length := by simp [strValues]
        have e3 : done.length = (ts.take i).length := by rw [← hdone, List.length_map]
        have e4 : (ts.take i).length ≤ i := by rw [List.length_take]; omega
        rw [hacc] at e1; omega
      refine wpAny_updateSeq (ClX.pin_at I') rfl (wpAny_pure ⟨PySem.F.quiet_list_repr_loop _, ?_⟩) hasz
      have e1 : ((i : Int) + 1) = ((i + 1 : Nat) : Int) := by omega
      have e2 : base + piled (ts.take i) + (t.length + 2) = base + piled (ts.take (i + 1)) := by omega
      rw [e1, e2]
      refine ih (i + 1) _ (acc.push (.str t s'.toks)) _ (done ++ [(t, s'.toks)]) (by omega) hlt (pin_push (I'.tok (s'.toks + 1)) h1 h2 h3 (fun b o hne e => (Heap.get?_update_other _ _ (fun h : P = b => hne h.symm)).trans e) (Heap.get?_update_self _ (ClX.pin_at I') rfl)) (by simp [hacc, strValues]) (by simp [List.take_add_one, ht, hdone])
    rcases hit with ⟨j, ev, et, hlog⟩ | ⟨b, dx, fs, ev, eb, hq⟩
    · rw [ev] at ru
      obtain ⟨tk, eu⟩ := (show ∃ tk, u = Value.int j tk from ru)
      subst et
      rw [eu]
      refine wpAny_bind (wpAny_holding (ReprIs.int tk hlog (base + piled (ts.take i) + 1) (by omega) _ _ _ _ fun tk' => ?_))
      exact go _ (I.tok tk')
    · rw [ev] at ru
      rw [show u = Value.ref b from ru]
      refine wpAny_bind (wpAny_holding (under_own hs hf F hb (Room.loop hr _) (Env0.loop (e0 s (ClX.unpin I)) _) I eb hq (by omega) fun s' I' => ?_))
      exact go s' I'
/-- repr(xs), xs a list of these -/
def rReprL (C : Addr) (sp : Sp) : List V → Hp → VK → Prop := fun xs H Q => ∃ a vs ts, xs = [.ref a] ∧ H a = some (.lst vs) ∧ vs ≠ [] ∧ ts.length = vs.length ∧ (∀ (i : Nat) (v : V), vs[i]? = some v → ∃ t, ts[i]? = some t ∧ ItT C sp H v t) ∧
  (listText ts).length ≤ sizeLine ∧ Q (.str (listText ts)) H
theorem call_reprL (hs : PySem.W.findIn X.K (.ref C) "__repr__" = some (some (.ref f))) (hf : PySem.W.isFn X.K (.ref f) = true) (F : FnOk X.prog X.w X.K X.mg X.base CX0 k f fd ps sp) (hb : Binds X.K fd ps []) (hr : Room (k + 3) X.A) (hg : X.A.guards = some []) :
    CallR X (.builtin "repr") (rReprL C sp) := by
  intro pins s σ H xs us Q I r h
  obtain ⟨a, vs, ts, rfl, ea, hne, hlen, hT, hsz, q⟩ := h
  obtain ⟨u, rfl, rx⟩ := vals1 r
  cases (show u = Value.ref a from rx)
  obtain ⟨_, its, nn, rv, ho⟩ := (show ObjOk X.prog X.w H s.heap a (.lst vs) from I.hok a _ ea)
  cases rv with
  | nil => exact absurd rfl hne
  | cons r1 r2 =>
    rename_i v vs x l
    refine call_repr_slot (by have := hr.un; show X.A.units + 1 < cLine; omega) ⟨_, ho, rfl⟩ PySem.F.slot_list_repr.toG ?_
    refine wpAny_call (codeAny_call_builtin PySem.F.slot_list_repr.plain PySem.F.entry_list_repr (PySem.F.slot_list_repr.check _ _ _ _ _ _ _ _ ⟨_, ho, rfl⟩ (PySem.F.args_list_repr_1 _) ?_))
    refine wpAny_list_repr_head (g := []) hg (fun v rest kw hm => nomatch hm) ho rfl ?_
    refine wpAny_bind (m := newList []) (wpAny_newObj_type ?_)
    refine wpAny_pure ⟨PySem.F.quiet_list_repr_loop _, ?_⟩
    have I1 := I.lt
    refine loopI (A := X.A.in1) (P := s.heap.objs.size) hs hf F hb (Room.in1 (hr.mono (by omega) : Room (k + 2) X.A)) (fun s' I' => I'.env0.in1) (base := 0) ea hlen hT (by omega) (.inr I.sz) (fun x c e z => ?_) (fun p hp z => ?_) (fun s' u I' => ?_) _ 0 _ #[] _ [] rfl (Nat.zero_le _) (ClX.pin_new I (fun b o e => Heap.get?_push_of_some _ e) (Nat.le_refl _) (Heap.get?_push_size _ rfl) (fun v z => nomatch z)) rfl (by simp)
    · obtain ⟨v, o, hc, _⟩ := I.cell x c e
      rw [z] at hc
      exact absurd (Heap.lt_size hc) (Nat.lt_irrefl _)
    · have e := (I.pin p hp).1
      rw [z] at e
      exact absurd (Heap.lt_size e) (Nat.lt_irrefl _)
    · exact ⟨_, _, rfl, .str _, H, I', ⟨u, rfl⟩, q⟩
end
end RtL

set_option maxHeartbeats 1000000
/-! an own error with one field: raised, caught, its field read -/
namespace RtL
open PySem PySem.Spec PyProof.Rows L2 ErL
open PySem.Er (Made Cl In1 In2 Shw)
section
variable {X : Cx} {B newId initId : String} {bmB : List Value} {C : Addr} {f x : Str} {p pos : Pos} {a : Expr} {ta : TA} {k : Nat}
/-- C(a), raised -/
def tMk1 (C : Addr) (f : Str) (ta : TA) : L2.St → Hp → XK → Prop := fun σ H Q => ta σ H fun vs H1 => ∃ v, vs = [v] ∧ ∀ d, H1 d = none → Q (.ref C) (some d) (upd H1 d (.xd [(f, v)]))
theorem pmk_er1 (c : Cl X.K C B newId initId bmB) (i : In1 X.K C f) (hb : Bd1 f gP1) (hr : Room k X.A) (hg : Gl X x) (hm : X.mg x = some (.ref C)) (rs : Raises X (.ref C)) (ha : PA X [a] ta)
    (hdb : (x == ("__debug__" : Str)) = false := by decide) (he : starEach [a] X.env = (false, eval a X.env) :: starEach [] X.env := by rfl) (hpl : (backTo pos (starEach [] X.env)).any (·.1) = false := by rfl) :
    PMk X (.Call (.Name x p) [a] [] pos) (tMk1 C f ta) := by
  intro pins s σ H Q I h
  refine wpAny_Call_Name_kw (ld_glob I hg hm ?_ hdb)
  refine PySem.W.callWith_K (h₀ := X.base) I.ok.mod.kin c.kC (thn (ha.run pos pins s σ H _ I h) fun us s1 hh => ?_) he hpl
  obtain ⟨vs, H1, I1, r, v, rfl, q⟩ := hh
  refine ⟨I1.kIn, ?_⟩
  obtain ⟨u, rfl, ru⟩ := vals1 r
  show wpAny _ _ (call (.ref C) [u]) _ _ _
  refine wpAny_call (PySem.Er.made1 c i (v := u) I1.kIn I1.nolimit (by have := hr.dp; omega) (by show 1 ≤ sizeLine; rw [sizeLine_eq]; omega) (fun _ ql p1 p2 q1 q2 q3 q4 kv dc pm an cv ct y => .of_eq (hb ql p1 p2 q1 q2 q3 q4 kv dc pm an cv ct y u)) fun h' tk e d t M => ?_)
  obtain ⟨hp, g, dr, tk0, os⟩ := s1
  obtain ⟨G', g1, g2⟩ := restrict h' fun b => decide (b ≠ e)
  have keepG : ∀ b, b ≠ e → G'.get? b = h'.get? b := fun b hb => g1 b (decide_eq_true hb)
  have goneG : G'.get? e = none := g2 e (by simp)
  have old : ∀ b o, hp.get? b = some o → G'.get? b = some o := fun b o z => (keepG b (Nat.ne_of_lt (Nat.lt_of_lt_of_le (Heap.lt_size z) M.be))).trans (M.keep b o z)
  have ob : ObjOk X.prog X.w (upd H1 d (.xd [(f, v)])) G' d (.xd [(f, v)]) := ⟨_, M.ns.at (fun o z => (keepG d M.de).trans z), rel1 ru⟩
  refine ⟨e, _, _, ⟨G', g, dr, tk, os⟩, _, .ref C, some d, rfl, I1.laid (t' := tk) old M.bd ob, fun b o z => ?_, goneG, M.obj, ⟨rfl, rfl⟩, rfl, rfl, ?_, rfl, I1.bare, rs, q d (I1.hok.fresh M.bd)⟩
  · by_cases hb : b = e
    · have z' : G'.get? b = some o := z
      rw [hb, goneG] at z'
      cases z'
    · exact (keepG b hb).symm.trans z
  · rw [upd_ne (Ne.symm M.de)]
    exact I1.hok.fresh M.be
/-- e.f of the error that the suite holds -/
def tBy1 (C : Addr) (f : Str) (a : Addr) (cls : Value) (d : Option Addr) (te : TE) : TE := fun σ H Q => te σ H fun x H1 => x = .ref a ∧ cls = .ref C ∧ ∃ (dd : Addr) (v : V), d = some dd ∧ H1 dd = some (.xd [(f, v)]) ∧ Q v H1
theorem pe_by1 {b : Addr} {oe : Obj} {cls : Value} {d : Option Addr} {pn : List (Addr × Obj)} {te : TE} {e : Expr} (A : Asks X.K C) (hn : PySem.W.findIn X.K (.ref C) f = some none) (hz : Zc cls d oe) (hf : ∃ vs, oe.data = .fields vs) (he : PE (X.suite b ((b, oe) :: pn)) e te)
    (hb : attributeBase e f X.env (eval e X.env) = eval e X.env := by rfl) : PE (X.suite b ((b, oe) :: pn)) (.Attribute e f pos) (tBy1 C f b cls d te) := by
  refine ⟨fun pins s σ H Q I h => ?_⟩
  refine attr_of hb (thn (he.run pins s σ H _ I h) fun u s1 hh => ?_)
  obtain ⟨y, H1, I1, ry, rfl, rfl, dd, v, rfl, ea, q⟩ := hh
  obtain rfl : u = Value.ref b := ry
  obtain ⟨hb1, _⟩ := I1.pin (b, oe) (List.mem_append_left _ List.mem_cons_self)
  obtain ⟨vs, hd⟩ := hf
  obtain ⟨mA, hns, rel⟩ := (show ObjOk X.prog X.w H1 s1.heap dd (.xd [(f, v)]) from I1.hok dd _ ea)
  obtain ⟨od, ho, hl⟩ := lookIn_ns hns
  have l : List.lookup f [(f, v)] = some v := by simp [List.lookup]
  obtain ⟨w, hw, rw'⟩ := RelO.some_of (v := v) (o := mA f) (by rw [← l]; exact rel f)
  have J : PySem.W.InstAt s1.heap b oe C (some od) := ⟨hb1, hz.1, by unfold PySem.W.notCls; rw [hd], by rw [hz.2]; exact ho⟩
  exact PySem.PX.exc_get I1.kIn J A.ga A.gg A.ex (PySem.W.findObj_own A.hd hn rfl (by rw [hl, hw])) (handed_of rw') ⟨v, H1, I1.tok _, rw', q⟩
/-- isinstance(e, c), e the error that the suite holds -/
def rIsS (K : PySem.W.Frag) (C b : Addr) (cls : Value) (d : Option Addr) : List V → Hp → VK → Prop := fun xs H Q => ∃ c cv r, xs = [.ref b, c] ∧ cls = .ref C ∧ (∀ dd, d = some dd → ∃ fs, H dd = some (.xd fs)) ∧ (∀ u, RelV c u → u = cv) ∧ PySem.W.kitOne K (.ref C) cv = some r ∧ Q (.bl r) H
theorem call_isS {b : Addr} {oe : Obj} {cls : Value} {d : Option Addr} {pn : List (Addr × Obj)} (A : Asks X.K C) (hz : Zc cls d oe) (hf : ∃ vs, oe.data = .fields vs) : CallR (X.suite b ((b, oe) :: pn)) (.builtin "isinstance") (rIsS X.K C b cls d) := by
  intro pins s σ H xs us Q I r h
  obtain ⟨c, cv, t, rfl, rfl, hd, hc, e, q⟩ := h
  obtain ⟨u, u', rfl, ru, ru'⟩ := vals2 r
  obtain rfl : u = Value.ref b := ru
  obtain rfl := hc _ ru'
  obtain ⟨hb1, _⟩ := I.pin (b, oe) (List.mem_append_left _ List.mem_cons_self)
  obtain ⟨vs, hdat⟩ := hf
  obtain ⟨od, J⟩ : ∃ od, PySem.W.InstAt s.heap b oe C od := by
    cases d with
    | none => exact ⟨none, hb1, hz.1, by unfold PySem.W.notCls; rw [hdat], by rw [hz.2]; trivial⟩
    | some dd =>
      obtain ⟨fs, ea⟩ := hd dd rfl
      obtain ⟨mA, hns, rel⟩ := (show ObjOk X.prog X.w H s.heap dd (.xd fs) from I.hok dd _ ea)
      obtain ⟨od, ho, hl⟩ := lookIn_ns hns
      exact ⟨some od, hb1, hz.1, by unfold PySem.W.notCls; rw [hdat], by rw [hz.2]; exact ho⟩
  exact PySem.W.kia_one (PySem.W.kitx_exc A.cl A.ga A.gg A.ex A.cs A.gs A.tk A.mo) I.kIn J e (fun z => nomatch z) fun tk => ⟨.bl t, H, I.kept (t' := tk) fun _ _ z => z, rfl, q⟩
end
end RtL

set_option maxHeartbeats 1000000
/-! a lambda without parameters handed to a def of two parameters; what it raises is told by the def's slots -/
namespace RtL
open PySem PySem.Spec PyProof.Rows L2 ErL LamX
section
variable {X : Cx} {pins : List (Addr × Obj)} {σ : L2.St} {H : Hp} {s : Shared}
abbrev lamO (X : Cx) (params : Arguments) (body : Expr) (scope : Scope) (pm : Value) (c' : Addr) (ctv : Value) : Obj := PySem.W.kla_obj "<lambda>" (X.env.qual ++ "<lambda>") params body scope (cloFrom X.env.cells scope.names []) pm c' ctv
theorem pe_act2 {Ng : List Str} {qg : Str} {sg : Scope} {g f c' : Addr} {cdg pm ctv : Value} {params : Arguments} {body : Expr} {scope : Scope} {k i : Nat} {a : Str} {pn : List (Addr × Obj)} {xe : Value → Shared → Prop} {W : WX} {t : XK → TE} {p1 p2 : Pos}
    (I : Inv X pins σ H s) (L : LamS X.env.scope scope) (hf : s.heap.get? f = some (lamO X params body scope pm c' ctv)) (hfn : H f = none) (hfr : f ∉ frs X.stack)
    (hbind : bindArgs (PySem.W.kla_fn "<lambda>" (X.env.qual ++ "<lambda>") params body scope (cloFrom X.env.cells scope.names []) pm (.ref c') ctv) ⟨[], []⟩ = pure [])
    (tk : Takes ((cxOf CX0 X.prog X.w X.K X.mg X.base Ng qg sg g cdg X.A X.stack s H E0).tr pn xe) W) (hr : Room (k + 1) (X.A.deeper (envOfC qg sg s.heap.objs.size g cdg)))
    (hbody : ∀ (A : Around) (outer : List Env) (s : Shared) (H : Hp) (E : XK), Room k (A.deeper (lamEnv X scope s.heap.objs.size f c')) → PE (lamCx X A outer s H E scope f c') body (t E))
    (hN : Ng[i]? = some a) (hv : Vis sg a) (hd : (a == ("__debug__" : Str)) = false) (hcd : (a == ("__classdict__" : Str)) = false) :
    PE ((cxOf CX0 X.prog X.w X.K X.mg X.base Ng qg sg g cdg X.A X.stack s H E0).tr pn xe) (.Call (.Name a p1) [] [] p2)
      (fun σZ HZ Q => σZ[i]? = some (some (.ref f)) ∧ HZ c' = some (CodeO c' (X.env.qual ++ "<lambda>")) ∧ t (WE W σZ) σ HZ Q) := by
  refine ⟨fun pinsZ sZ σZ HZ Q IZ h => ?_⟩
  obtain ⟨hs, hc, ht⟩ := h
  refine wpAny_Call_Name_kw (thn ((pe_var (pos := p1) (i := i) hN hv hd hcd).run pinsZ sZ σZ HZ (fun v H1 => v = .ref f ∧ H1 = HZ) IZ ⟨.ref f, hs, rfl, rfl⟩) fun u s1 hh => ?_)
  obtain ⟨v, H1, I1, r1, rfl, rfl⟩ := hh
  obtain rfl : u = Value.ref f := r1
  have of1 : s1.heap.get? f = some (lamO X params body scope pm c' ctv) := I1.base.keep f _ hf hfn hfr (fun z => nomatch (show f ∈ ([] : List Addr) from z))
  refine PySem.W.callWith_F0 ⟨_, _, _, _, of1⟩ ?_
  have un : Un (frs X.stack) [] H H1 s.heap s1.heap := I1.base
  obtain ⟨⟨oc, vs, tc, hoc, hdc, hvc⟩, _, _⟩ := I1.hok c' _ hc
  have rc : codeAny (model X.prog X.w) (X.A.deeper (envOfC qg sg s.heap.objs.size g cdg)) (.call (.ref f) ⟨[], []⟩) (CR (L2.CX X.prog X.w) (envOfC qg sg s.heap.objs.size g cdg :: X.stack) X.prog X.w H1 s1 Q (WE W σZ)) s1 := by
    refine PySem.W.kla_callFunE hr.depth of1 rfl L.co L.gen rfl ⟨c', oc, vs, tc, rfl, hoc, hdc, hvc⟩ ?_
    rw [hbind]
    refine wpAny_pure (wpAny_newFunctionEnv (fun y hy => (L.own y hy).2) (fun y hy => absurd hy (by simp)) (fun h₁ hns hsb => ⟨I1.nolimit.fresh _ hsb, ?_⟩) L.kind)
    show codeAny _ _ (.expr body (lamEnv X scope s1.heap.objs.size f c')) _ _
    have kp : ∀ b o, s1.heap.get? b = some o → h₁.get? b = some o := fun b o e => hsb.extBut b o (Nat.ne_of_lt (Heap.lt_size e)) (Heap.get?_push_of_some _ e)
    have J := lam_start2 (A := X.A.deeper (envOfC qg sg s.heap.objs.size g cdg)) (outer := envOfC qg sg s.heap.objs.size g cdg :: X.stack) (E := WE W σZ) (f := f) (c' := c') (tk := s1.toks + ([] : List (Str × Value)).length) I L I1.env0 hr.hd un hns kp
    refine PySem.W.kla_codeExpr (wpAny_mono ((hbody _ _ s1 H1 _ (hr.deeper _)).run [] _ _ H1 Q J ht) (fun v s' hq => ?_) fun e s' hq => hq)
    obtain ⟨w', H', J', rv, q⟩ := hq
    exact ⟨w', H', J'.os, J'.bare, J'.base, J'.hok, rv, q⟩
  have hx := passAt tk σZ
  refine wpAny_call (codeAny_mono rc fun r s' hq => ?_)
  cases r with
  | error e => exact hx pinsZ H1 s1 e s' I1 hq
  | ok fl =>
    cases fl with
    | ret u => exact I1.after hq
    | next => exact False.elim hq
    | brk => exact False.elim hq
    | cont => exact False.elim hq
end
/-- the def that calls what it got, a its name; v what it got beside -/
def Gives2 (X : Cx) (k : Nat) (Ng : List Str) (x : Str) (sg : Scope) (g : Addr) (cdg : Value) (bg : List Stmt) (a q : Str) (TT : V → (XK → Hp → VK → Prop) → Hp → VK → Prop) : Prop :=
  ∀ (f c' : Addr) (s : Shared) (H : Hp) (Q : VK) (v : V) (tl : XK → Hp → VK → Prop),
    Room (k + 1) (X.A.deeper (envOfC x sg s.heap.objs.size g cdg)) → (X.A.deeper (envOfC x sg s.heap.objs.size g cdg)).guards = some [] →
    (∀ (W : WX) (pn : List (Addr × Obj)) (xe : Value → Shared → Prop) (p1 p2 : Pos), Takes ((cxOf CX0 X.prog X.w X.K X.mg X.base Ng x sg g cdg X.A X.stack s H E0).tr pn xe) W →
      PE ((cxOf CX0 X.prog X.w X.K X.mg X.base Ng x sg g cdg X.A X.stack s H E0).tr pn xe) (.Call (.Name a p1) [] [] p2) (fun σZ HZ Q => σZ[0]? = some (some (.ref f)) ∧ HZ c' = some (CodeO c' q) ∧ tl (WE W σZ) HZ Q)) →
    H c' = some (CodeO c' q) → TT v tl H Q →
    ∃ t, PSs (cxOf CX0 X.prog X.w X.K X.mg X.base Ng x sg g cdg X.A X.stack s H E0).nox bg t ∧ t { nx := fun _ H' => Q .non H', rt := Q } (L2.start Ng [.ref f, v]) H
def tLam2 (T : List (Addr × Str)) (TT : V → (XK → Hp → VK → Prop) → Hp → VK → Prop) (t : XK → TE) (te : TE) : TE := fun σ H Q => Tabs T H ∧ ∀ H1, ExtN H H1 → Tabs T H1 → te σ H1 fun v H2 => H2 = H1 ∧ TT v (fun E H' Q' => t E σ H' Q') H1 Q
section
variable {X : Cx}
/-- x(lambda: body, e) -/
theorem pe_lamcall2 {T : List (Addr × Str)} {TT : V → (XK → Hp → VK → Prop) → Hp → VK → Prop} {x a a2 : Str} {g c P : Addr} {k : Nat} {pg : Arguments} {bg : List Stmt} {sg : Scope} {dV kV doc pm cdv ct oc : Value} {an od : Option Addr} {osl : Array (Option Value)} {Ng : List Str}
    {params : Arguments} {body e : Expr} {scope : Scope} {t : XK → TE} {te : TE} {p lpos pos : Pos} (hg : Gl X x) (hm : X.mg x = some (.ref g)) (hk : PySem.W.keepIn X.K (.ref g) = true)
    (lk : X.K.lookup g = some ⟨oc, od, .func (PySem.W.fnOf x x pg bg sg dV kV doc pm an cdv ct), osl⟩) (hcg : PySem.W.codeIn X.K cdv x = true) (hb : L2.Binds X.K (PySem.W.fnOf x x pg bg sg dV kV doc pm an cdv ct) [a, a2] []) (Sg : FnScope Ng [a, a2] sg) (hNg : Ng[0]? = some a) (hva : Vis sg a)
    (hG : Gives2 X k Ng x sg g cdv bg a (X.env.qual ++ "<lambda>") TT)
    (TB : TabB X.base X.mg c P) (hcode : X.env.code = .ref c) (hmT : (P, X.env.qual ++ "<lambda>") ∈ T) (hu : ∀ p ∈ T, p.1 = P → p.2 = X.env.qual ++ "<lambda>") (hr : Room (k + 2) X.A) (hgd : X.A.guards = some []) (hst : frs X.stack = X.env.locals :: X.fs) (L : LamS X.env.scope scope) (hdef : defaultsOf params X.env = ([], []))
    (hbind : ∀ (q : Str) (cl : List (Str × Addr)) (pm cv ctv : Value), bindArgs (PySem.W.kla_fn "<lambda>" q params body scope cl pm cv ctv) ⟨[], []⟩ = pure [])
    (hbody : ∀ (A : Around) (outer : List Env) (s : Shared) (H : Hp) (E : XK) (f c' : Addr), Room k (A.deeper (lamEnv X scope s.heap.objs.size f c')) → PE (lamCx X A outer s H E scope f c') body (t E)) (he : PE X e te)
    (hse : starEach [e] X.env = (false, eval e X.env) :: starEach [] X.env := by rfl)
    (hdb : (x == ("__debug__" : Str)) = false := by decide) (hd : (a == ("__debug__" : Str)) = false := by decide) (hcd : (a == ("__classdict__" : Str)) = false := by decide) :
    PE X (.Call (.Name x p) [.Lambda params body scope lpos, e] [] pos) (tLam2 T TT t te) := by
  refine ⟨fun pins s σ H Q I h => ?_⟩
  obtain ⟨hT, h⟩ := h
  refine wpAny_Call_Name_kw (ld_glob I hg hm ?_ hdb)
  refine PySem.W.callWith_K (h₀ := X.base) I.ok.mod.kin hk ?_ (by rfl) (by rw [hse]; rfl)
  show wpAny _ _ (spliced ((false, eval (.Lambda params body scope lpos) X.env) :: backTo pos (starEach [e] X.env))) _ _ s
  refine Calls.spliced_cons (lam_make2 I TB hcode hmT hu hT hdef (L.has I.ok) fun f c' pm' ctv H1 s' I1 eN T1 hf hfn hfr hco => ?_)
  have I2 : Inv X ((f, lamO X params body scope pm' c' ctv) :: pins) σ H1 s' := I1.pins_of fun q hq => by
    rcases List.mem_cons.mp hq with z | z
    · rw [z]
      rw [hst] at hfr
      exact ⟨hf, hfn, fun w => hfr (by rw [show f = _ from w]; exact List.mem_cons_self), fun w => hfr (List.mem_cons_of_mem _ w), fun v w => nomatch w⟩
    · exact I1.pin q (List.mem_append_right _ z)
  rw [hse]
  show wpAny _ _ (spliced ((false, eval e X.env) :: backTo pos (starEach [] X.env))) _ _ s'
  refine Calls.spliced_cons (thn (he.run _ s' σ H1 _ I2 (h H1 eN T1)) fun u s2 hh => ?_)
  obtain ⟨v, H2, I3, rv, rfl, hq⟩ := hh
  refine Calls.spliced_nil ⟨I3.kIn, ?_⟩
  have hf3 := ClX.pin_at I3
  have rc : codeAny (model X.prog X.w) X.A (.call (.ref g) ⟨[.ref f, u], []⟩) (CR CX0 X.stack X.prog X.w H2 s2 Q E0) s2 := by
    refine run_ofS (N := Ng) (ps := [a, a2]) (us := [.ref f, u]) (vs := [.ref f, v]) lk hcg Sg hr I3.env0 (hb s2 [.ref f, u] I3.kIn rfl) (.cons rfl (.cons rv .nil)) rfl fun hr' => ?_
    obtain ⟨t', ht', hq'⟩ := hG f c' s2 H2 Q v (fun E H' Q' => t E σ H' Q') hr' (guards_deeper hgd)
      (fun W pn xe p1 p2 tk => pe_act2 (i := 0) (ClX.unpin I3) L hf3 hfn hfr (hbind _ _ _ _ _) tk hr' (fun A outer s H E hr2 => hbody A outer s H E f c' hr2) hNg hva hd hcd) hco hq
    exact ⟨t', ht'.nox, hq'⟩
  refine wpAny_call (codeAny_mono rc fun r s3 hq => ?_)
  cases r with
  | error e => exact (show False from hq).elim
  | ok fl =>
    cases fl with
    | ret u => exact ClX.unpinE (I3.after hq)
    | next => exact False.elim hq
    | brk => exact False.elim hq
    | cont => exact False.elim hq
end
end RtL

set_option maxHeartbeats 1000000
/-! repr of a list whose items are shown each in its own way: data, objects of an own class, lists of these -/
namespace RtL
open PySem PySem.Spec PyProof.Rows L2 ErL
open PySem.Sem (wp)
open PySem.Builtin PySem.Builtin.List
/-- an item of the list at a, shown within the showing of that list at A -/
def ItA (X : Cx) (σ : L2.St) (H : Hp) (A : Around) (a : Addr) (v : V) (t : Str) : Prop := ∀ (rest : List Value) (pins : List (Addr × Obj)) (base : Nat) (E : Value → Shared → Prop) (s : Shared) (Q : Str → Shared → Prop) (u : Value),
  base + t.length ≤ sizeLine → RelV v u → Inv X pins σ H s → (∀ s', Inv X pins σ H s' → Q t s') → wpAny (model X.prog X.w) (A.under (.builtin "list.__repr__.loop" ⟨.ref a :: rest, []⟩)) (pyReprUnder base u) Q E s
section
variable {X : Cx} {k : Nat} {f C : Addr} {fd : FuncData} {sp : Sp} {ps : List Str} {pins : List (Addr × Obj)} {σ : L2.St} {H : Hp}
theorem loopA {A : Around} {a P : Addr} {vs : List V} {ts : List Str} {base : Nat} {R : Result → Shared → Prop} (ea : H a = some (.lst vs)) (hlen : ts.length = vs.length)
    (hT : ∀ (i : Nat) (v : V), vs[i]? = some v → ∃ t, ts[i]? = some t ∧ ItA X σ H A a v t) (hsz : base + (listText ts).length ≤ sizeLine)
    (h1 : P ∈ X.ex ∨ X.s_0.heap.objs.size ≤ P) (h2 : ∀ x c, X.env.cells.lookup x = some c → c ≠ P) (h3 : ∀ p ∈ X.pn ++ pins, p.1 ≠ P) (hR : ∀ s' u, Inv X pins σ H s' → R (.ok (.ret (.str (listText ts) u))) s') :
    ∀ (n i : Nat) (s : Shared) (acc : Array Value) (c : Nat) (done : List (Str × Tok)), vs.length - i = n → i ≤ vs.length → Inv X (pL P acc c :: pins) σ H s → acc.toList = strValues done → done.map (·.1) = ts.take i →
      codeAny (model X.prog X.w) A (.builtin "list.__repr__.loop" ⟨[.ref a, rawInt i, .ref P, rawInt ((base + piled (ts.take i) : Nat) : Int)], []⟩) R s := by
  have hX : (listText ts).length = (textFrom 0 "[" ts).length + 1 := by
    show (textFrom 0 "[" ts ++ "]").length = _
    rw [strLen_append]; rfl
  have hL := textFrom_len ts 0 "["
  have hsz1 : vs.length ≤ sizeLine := by
    have h1 := hL.1
    rw [if_neg (Nat.lt_irrefl 0)] at h1
    omega
  have hsz2 : ∀ t ∈ ts, t.length ≤ sizeLine := fun t ht => by
    have h2 := hL.2.1 t ht
    omega
  have hsz3 : (listText ts).length ≤ sizeLine := by omega
  have hp3 := piled_le_listText ts
  intro n
  induction n with
  | zero =>
    intro i s acc c done hk hi I hacc hdone
    obtain ⟨_, its, nn, rv, ho⟩ := (show ObjOk X.prog X.w H s.heap a (.lst vs) from I.hok a _ ea)
    have hin : i = its.length := by rw [← rv.length]; omega
    refine codeAny_builtin PySem.F.entry_list_repr_loop ?_
    show wpAny _ _ («list.__repr__.loop» ⟨[.ref a, .int i 0, .ref P, .int ((base + piled (ts.take i) : Nat) : Int) 0], []⟩) _ _ s
    rw [repr_loop_tree]
    refine wpAny_bind (wpAny_listItems ho rfl ?_)
    have hnone : its.toArray[(i : Int).toNat]? = none := by simp [hin]
    simp only [hnone]
    unfold reprEnd
    refine wpAny_bind (wpAny_listItems (ClX.pin_at I) rfl ?_)
    rw [hacc, repr_fold]
    refine wpAny_bind (wpAny_pure ?_)
    have hall : done.map (·.1) = ts := by rw [hdone, hin, ← rv.length, ← hlen, List.take_length]
    rw [hall]
    refine wpAny_bind (wpAny_mkStr (wpAny_pure ?_) hsz3)
    exact hR _ _ ((ClX.unpin I).tok _)
  | succ n ih =>
    intro i s acc c done hk hi I hacc hdone
    have hlt : i < vs.length := by omega
    obtain ⟨_, its, nn, rv, ho⟩ := (show ObjOk X.prog X.w H s.heap a (.lst vs) from I.hok a _ ea)
    have hlt' : i < its.length := by rw [← rv.length]; exact hlt
    obtain ⟨t, ht, hit⟩ := hT i vs[i] (by simp [hlt])
    obtain ⟨u, hu, ru⟩ := rv.get (i := i) (x := vs[i]) (by simp [hlt])
    have hp1 := piled_take_succ ht
    have hp2 := piled_take_le ts (i + 1)
    refine codeAny_builtin PySem.F.entry_list_repr_loop ?_
    show wpAny _ _ («list.__repr__.loop» ⟨[.ref a, .int i 0, .ref P, .int ((base + piled (ts.take i) : Nat) : Int) 0], []⟩) _ _ s
    rw [repr_loop_tree]
    refine wpAny_bind (wpAny_listItems ho rfl ?_)
    have hsome : its.toArray[(i : Int).toNat]? = some u := by
      rw [Int.toNat_natCast, List.getElem?_toArray]
      exact hu
    simp only [hsome]
    rw [Int.toNat_natCast]
    have go : ∀ s', Inv X (pL P acc c :: pins) σ H s' → wpAny (model X.prog X.w) (A.under (.builtin "list.__repr__.loop" ⟨[.ref a, .int i 0, .ref P, .int ((base + piled (ts.take i) : Nat) : Int) 0], []⟩)) (do
        let signs := base + piled (ts.take i) + (t.length + 2)
        let r ← mkStr t
        listUpdate (.ref P) (·.push r)
        again (.builtin "list.__repr__.loop" ⟨[.ref a, rawInt ((i : Int) + 1), .ref P, rawInt signs], []⟩))
        (fun fin s' => match fin with | .done fl => R (.ok fl) s' | .again c' => c'.quiet = true ∧ codeAny (model X.prog X.w) A c' R s') (fun e s' => R (.error e) s') s' := fun s' I' => by
      refine wpAny_bind (wpAny_mkStr ?_ (hsz2 t (List.mem_of_getElem? ht)))
      refine wpAny_bind ?_
      show wpAny _ _ (updateSeq P _) _ _ _
      have hasz : acc.size ≤ sizeLine := by
        have e1 : acc.toList.length = acc.size := by simp
        have e2 : (strValues done).length = done.length := by simp [strValues]
        have e3 : done.length = (ts.take i).length := by rw [← hdone, List.length_map]
        have e4 : (ts.take i).length ≤ i := by rw [List.length_take]; omega
        rw [hacc] at e1; omega
      refine wpAny_updateSeq (ClX.pin_at I') rfl (wpAny_pure ⟨PySem.F.quiet_list_repr_loop _, ?_⟩) hasz
      have e1 : ((i : Int) + 1) = ((i + 1 : Nat) : Int) := by omega
      have e2 : base + piled (ts.take i) + (t.length + 2) = base + piled (ts.take (i + 1)) := by omega
      rw [e1, e2]
      refine ih (i + 1) _ (acc.push (.str t s'.toks)) _ (done ++ [(t, s'.toks)]) (by omega) hlt (pin_push (I'.tok (s'.toks + 1)) h1 h2 h3 (fun b o hne e => (Heap.get?_update_other _ _ (fun h : P = b => hne h.symm)).trans e) (Heap.get?_update_self _ (ClX.pin_at I') rfl)) (by simp [hacc, strValues]) (by simp [List.take_add_one, ht, hdone])
    refine wpAny_bind (wpAny_holding (hit _ _ _ _ _ _ u (by omega) ru I fun s' I' => ?_))
    exact go s' I'
/-- what stands in such a list: a whole number, an own object, a truth value -/
def ShA (C : Addr) (sp : Sp) (H : Hp) (v : V) (t : Str) : Prop := ItT C sp H v t ∨ ∃ b : Bool, v = .bl b ∧ t = (if b = true then Str.ofString "True" else Str.ofString "False")
/-- .. or a list of these -/
def ShB (C : Addr) (sp : Sp) (H : Hp) (a : Addr) (v : V) (t : Str) : Prop := ShA C sp H v t ∨ ∃ l vs ts, v = .ref l ∧ l ≠ a ∧ H l = some (.lst vs) ∧ vs ≠ [] ∧ ts.length = vs.length ∧ (∀ (i : Nat) (w : V), vs[i]? = some w → ∃ t', ts[i]? = some t' ∧ ShA C sp H w t') ∧ t = listText ts
theorem itA_one (hs : PySem.W.findIn X.K (.ref C) "__repr__" = some (some (.ref f))) (hf : PySem.W.isFn X.K (.ref f) = true) (F : FnOk X.prog X.w X.K X.mg X.base CX0 k f fd ps sp) (hb : Binds X.K fd ps []) {A : Around} (hr : Room (k + 1) A)
    (e0 : ∀ (pins : List (Addr × Obj)) s, Inv X pins σ H s → Env0 X.prog X.w X.K X.mg X.base A X.stack s H) {a : Addr} {v : V} {t : Str} (h : ShA C sp H v t) : ItA X σ H A a v t := by
  intro rest pins base E s Q u hz ru I q
  rcases h with (⟨j, rfl, rfl, hlog⟩ | ⟨b, dx, fs, rfl, eb, hq⟩) | ⟨b, rfl, rfl⟩
  · obtain ⟨tk, rfl⟩ := (show ∃ tk, u = Value.int j tk from ru)
    exact ReprIs.int tk hlog base hz _ _ _ _ fun tk' => q _ (I.tok tk')
  · obtain rfl : u = Value.ref b := ru
    exact under_own hs hf F hb (Room.loop hr _) (Env0.loop (e0 _ s I) _) I eb hq (by omega) q
  · obtain rfl : u = Value.bool b := ru
    exact ReprIs.bool b base hz _ _ _ _ fun tk' => q _ (I.tok tk')
theorem itA_two (hs : PySem.W.findIn X.K (.ref C) "__repr__" = some (some (.ref f))) (hf : PySem.W.isFn X.K (.ref f) = true) (F : FnOk X.prog X.w X.K X.mg X.base CX0 k f fd ps sp) (hb : Binds X.K fd ps []) {A : Around} (hr : Room (k + 3) A) (hg : A.guards = some [])
    (e0 : ∀ (pins : List (Addr × Obj)) s, Inv X pins σ H s → Env0 X.prog X.w X.K X.mg X.base A X.stack s H) {a : Addr} {v : V} {t : Str} (h : ShB C sp H a v t) : ItA X σ H A a v t := by
  rcases h with h | ⟨l, vs, ts, rfl, hla, el, hne, hlen, hT, rfl⟩
  · exact itA_one hs hf F hb (hr.mono (by omega)) e0 h
  intro rest pins base E s Q u hz ru I q
  obtain rfl : u = Value.ref l := ru
  obtain ⟨_, its, nn, rv, ho⟩ := (show ObjOk X.prog X.w H s.heap l (.lst vs) from I.hok l _ el)
  have hr1 : Room (k + 2) (A.under (.builtin "list.__repr__.loop" ⟨.ref a :: rest, []⟩)) := Room.loop hr _
  have hg1 : (A.under (.builtin "list.__repr__.loop" ⟨.ref a :: rest, []⟩)).guards = some [.builtin "list.__repr__.loop" ⟨.ref a :: rest, []⟩] := guards_under_guard (isGuard_list_loop _) hg
  cases rv with
  | nil => exact absurd rfl hne
  | cons r1 r2 =>
    rename_i v vs x its
    refine wpAny_pyReprUnder_ref (by omega) ?_
    refine wpAny_pyReprObjUnder_twin (twin := "list.__repr__.under") ⟨_, ho, rfl⟩ PySem.F.slot_list_repr.toG rfl (by have := hr1.un; omega) ?_
    refine call_twin_plain PySem.F.plain_list_repr_under PySem.F.entry_list_repr_under PySem.F.check_list_repr_under ⟨_, ho, rfl⟩ PySem.F.slot_list_repr.toG (PySem.F.args_list_repr_1 _) ?_
    refine wpAny_list_repr_head hg1 (fun v' rest' kw hm => ?_) ho rfl ?_
    · cases List.mem_singleton.mp hm
      exact listSameRef_of_ne fun z => hla (Value.ref.inj z).symm
    refine wpAny_bind (m := newList []) (wpAny_newObj_type ?_)
    refine wpAny_pure ⟨PySem.F.quiet_list_repr_loop _, ?_⟩
    refine loopA (A := (A.under (.builtin "list.__repr__.loop" ⟨.ref a :: rest, []⟩))) (P := s.heap.objs.size) (base := base) el hlen (fun i w hw => ?_) (by omega) (.inr I.sz) (fun x c e z => ?_) (fun p hp z => ?_) (fun s' u I' => ?_) _ 0 _ #[] _ [] rfl (Nat.zero_le _) (ClX.pin_new I (fun b o e => Heap.get?_push_of_some _ e) (Nat.le_refl _) (Heap.get?_push_size _ rfl) (fun v z => nomatch z)) rfl (by simp)
    · obtain ⟨t', ht', hs'⟩ := hT i w hw
      exact ⟨t', ht', itA_one hs hf F hb (hr1.mono (by omega)) (fun pins s I => Env0.loop (e0 pins s I) _) hs'⟩
    · obtain ⟨v, o, hc, _⟩ := I.cell x c e
      rw [z] at hc
      exact absurd (Heap.lt_size hc) (Nat.lt_irrefl _)
    · have e := (I.pin p hp).1
      rw [z] at e
      exact absurd (Heap.lt_size e) (Nat.lt_irrefl _)
    · exact ⟨⟨_, _, rfl⟩, _, _, rfl, q s' I'⟩
/-- repr(xs), xs such a list -/
def rReprA (C : Addr) (sp : Sp) : List V → Hp → VK → Prop := fun xs H Q => ∃ a vs ts, xs = [.ref a] ∧ H a = some (.lst vs) ∧ vs ≠ [] ∧ ts.length = vs.length ∧ (∀ (i : Nat) (v : V), vs[i]? = some v → ∃ t, ts[i]? = some t ∧ ShB C sp H a v t) ∧
  (listText ts).length ≤ sizeLine ∧ Q (.str (listText ts)) H
theorem call_reprA (hs : PySem.W.findIn X.K (.ref C) "__repr__" = some (some (.ref f))) (hf : PySem.W.isFn X.K (.ref f) = true) (F : FnOk X.prog X.w X.K X.mg X.base CX0 k f fd ps sp) (hb : Binds X.K fd ps []) (hr : Room (k + 4) X.A) (hg : X.A.guards = some []) :
    CallR X (.builtin "repr") (rReprA C sp) := by
  intro pins s σ H xs us Q I r h
  obtain ⟨a, vs, ts, rfl, ea, hne, hlen, hT, hsz, q⟩ := h
  obtain ⟨u, rfl, rx⟩ := vals1 r
  cases (show u = Value.ref a from rx)
  obtain ⟨_, its, nn, rv, ho⟩ := (show ObjOk X.prog X.w H s.heap a (.lst vs) from I.hok a _ ea)
  cases rv with
  | nil => exact absurd rfl hne
  | cons r1 r2 =>
    rename_i v vs x l
    refine call_repr_slot (by have := hr.un; show X.A.units + 1 < cLine; omega) ⟨_, ho, rfl⟩ PySem.F.slot_list_repr.toG ?_
    refine wpAny_call (codeAny_call_builtin PySem.F.slot_list_repr.plain PySem.F.entry_list_repr (PySem.F.slot_list_repr.check _ _ _ _ _ _ _ _ ⟨_, ho, rfl⟩ (PySem.F.args_list_repr_1 _) ?_))
    refine wpAny_list_repr_head (g := []) hg (fun v rest kw hm => nomatch hm) ho rfl ?_
    refine wpAny_bind (m := newList []) (wpAny_newObj_type ?_)
    refine wpAny_pure ⟨PySem.F.quiet_list_repr_loop _, ?_⟩
    refine loopA (A := X.A.in1) (P := s.heap.objs.size) (base := 0) ea hlen (fun i w hw => ?_) (by omega) (.inr I.sz) (fun x c e z => ?_) (fun p hp z => ?_) (fun s' u I' => ?_) _ 0 _ #[] _ [] rfl (Nat.zero_le _) (ClX.pin_new I (fun b o e => Heap.get?_push_of_some _ e) (Nat.le_refl _) (Heap.get?_push_size _ rfl) (fun v z => nomatch z)) rfl (by simp)
    · obtain ⟨t', ht', hs'⟩ := hT i w hw
      exact ⟨t', ht', itA_two hs hf F hb hr.in1 hg (fun pins s I => I.env0.in1) hs'⟩
    · obtain ⟨v, o, hc, _⟩ := I.cell x c e
      rw [z] at hc
      exact absurd (Heap.lt_size hc) (Nat.lt_irrefl _)
    · have e := (I.pin p hp).1
      rw [z] at e
      exact absurd (Heap.lt_size e) (Nat.lt_irrefl _)
    · exact ⟨_, _, rfl, .str _, H, I', ⟨u, rfl⟩, q⟩
end
end RtL

set_option maxHeartbeats 1000000
/-! operators and == of an own class where the right operand is of another kind -/
namespace RtL
open PySem PySem.Spec PyProof.Rows L2
/-- None, a truth value, a text, a list, a tuple, a dict, and the name of its type -/
inductive OddV (H : Hp) : V → String → Prop
  | non : OddV H .non "NoneType"
  | bl (b : Bool) : OddV H (.bl b) "bool"
  | str (z : Str) : OddV H (.str z) "str"
  | lst {a : Addr} {xs : List V} (e : H a = some (.lst xs)) : OddV H (.ref a) "list"
  | tup {a : Addr} {xs : List V} (e : H a = some (.tup xs)) : OddV H (.ref a) "tuple"
  | dct {a : Addr} {kvs : List (Key × V)} (e : H a = some (.dK kvs)) : OddV H (.ref a) "dict"
def oddT : List String := ["NoneType", "bool", "str", "list", "tuple", "dict"]
theorem OddV.mem {H : Hp} {v : V} {t : String} (h : OddV H v t) : t ∈ oddT := by cases h <;> decide
theorem OddV.same {H H' : Hp} {v : V} {t : String} (h : OddV H v t) (s : Same H H') : OddV H' v t := by
  cases h with
  | non => exact .non
  | bl b => exact .bl b
  | str z => exact .str z
  | lst e => exact .lst (s _ _ e)
  | tup e => exact .tup (s _ _ e)
  | dct e => exact .dct (s _ _ e)
theorem OddV.ty {K : PySem.W.Frag} {H : Hp} {v : V} {t : String} (h : OddV H v t) : TyX K H v (.type t) := by
  cases h with
  | non => exact .base .non
  | bl b => exact .base (.bl b)
  | str z => exact .base (.str z)
  | lst e => exact .base (.lst e)
  | tup e => exact .base (.tup e)
  | dct e => exact .base (.dK e)
theorem looks_at {M : Model} {h : Heap} {a : Addr} {o : Obj} {c : Value} (e : h.get? a = some o) (hc : o.cls = c) : PySem.W.Looks M h (typeOf (.ref a)) c := fun A Q E s k q => wpAny_typeOf_ref (k _ _ e) (by rw [hc]; exact q)
theorem OddV.looks {X : Cx} {pins : List (Addr × Obj)} {σ : L2.St} {H : Hp} {s : Shared} {M : Model} {v : V} {u : Value} {t : String} (I : Inv X pins σ H s) (h : OddV H v t) (r : RelV v u) : PySem.W.Looks M s.heap (typeOf u) (.type t) := by
  cases h with
  | non => cases (show u = Value.none from r); exact PySem.W.Looks.of_pure rfl
  | bl b => cases (show u = Value.bool b from r); exact PySem.W.Looks.of_pure rfl
  | str z => obtain ⟨tk, rfl⟩ := (show ∃ tk, u = Value.str z tk from r); exact PySem.W.Looks.of_pure rfl
  | @lst a xs e =>
    cases (show u = Value.ref a from r)
    obtain ⟨_, its, n, rv, ho⟩ := (show ObjOk X.prog X.w H s.heap a (.lst xs) from I.hok a _ e)
    exact looks_at ho rfl
  | @tup a xs e =>
    cases (show u = Value.ref a from r)
    obtain ⟨_, its, rv, o, ho, hc, n, hd⟩ := (show ObjOk X.prog X.w H s.heap a (.tup xs) from I.hok a _ e)
    exact looks_at ho hc
  | @dct a kvs e =>
    cases (show u = Value.ref a from r)
    obtain ⟨_, _, vs, rv, o, es, ep, ho, hx, _⟩ := (show ObjOk X.prog X.w H s.heap a (.dK kvs) from I.hok a _ e)
    exact looks_at ho hx.1
section
variable {prog : Program} {w : World} {K : PySem.W.Frag} {A : Around} {E : Value → Shared → Prop} {s : Shared} {x f C L : Addr} {h₀ : Heap} {m : Str → Option Value} {ox : Obj} {od : Option Obj} {T : String}
open PySem.W in
/-- a binary operator by the method of the left one's class, the right one of a built-in type -/
theorem bin_L {op : Operator} {b : Value} {fo ro rc : Option Value} {Q : Value → Shared → Prop} (X : K.In s.heap) (I : InstAt s.heap x ox C od) (tb : Looks (model prog w) s.heap (typeOf b) (.type T)) (hc : selfFirst K C = true)
    (hs : findIn K (.ref C) (PySem.dunder op.info.2) = some (some (.ref f))) (hf : isFn K (.ref f) = true) (hr : findIn K (.ref C) (dunderR op.info.2) = some rc) (hp : rc = none ∨ ∃ g : Addr, rc = some (.ref g))
    (h1 : findIn K (.type T) (PySem.dunder op.info.2) = some fo) (h2 : findIn K (.type T) (dunderR op.info.2) = some ro) (hsub : subIn K (.type T) (.ref C) = some false)
    (h : wpAny (model prog w) A (call (.ref f) [.ref x, b]) (PySem.W.CmpBack Q) E s) : wpAny (model prog w) A (binaryOp op (.ref x) b) Q E s := by
  obtain ⟨cd, rest, hcd, hm⟩ := ksp_first hc
  rcases hi : op.info with ⟨sym, nn⟩
  rw [hi] at hs hr h1 h2
  dsimp only at hs hr h1 h2
  have got := ksp_try X I hs hf h
  obtain ⟨hh, g, d, tt, os⟩ := s
  have t1 : Looks (model prog w) hh (typeOf (.ref x)) (.ref C) := I.type
  have t2 : Looks (model prog w) hh (typeOf b) (.type T) := tb
  have t3 : Looks (model prog w) hh (fillsNumberSlot (.ref C) nn) true := fills_K X hcd hm hs
  have t4 : Looks (model prog w) hh (fillsNumberSlot (.type T) nn) ((fo.isSome && !isSeqSlot fo) || (ro.isSome && !isSeqSlot ro)) := ksp_fillsT X h1 h2
  have t5 : Looks (model prog w) hh (isSubtype (.type T) (.ref C)) false := looks_subIn X hsub
  have t6 : Looks (model prog w) hh (numberSlotInPython (.ref C) nn) true := ksp_inPy X hs hr hp
  have t7 : Looks (model prog w) hh (numberSlotInPython (.type T) nn) false := Looks.of_pure rfl
  have t8 : Looks (model prog w) hh (typeLookup (.type T) (dunderR nn)) ro := looks_findIn X h2
  generalize ((fo.isSome && !isSeqSlot fo) || (ro.isSome && !isSeqSlot ro)) = rt at t4
  have ne : (Value.ref C == Value.type T) = false := Bool.eq_false_iff.mpr fun q => by cases beq_iff_eq.mp q
  simp only [binaryOp, hi]
  refine wpAny_holding (wpAny_bind ?_)
  unfold binaryOp1
  refine wpAny_bind (t1.at (wpAny_bind (t2.at (wpAny_bind (t3.at ?_)))))
  simp only [ne, Bool.false_eq_true, if_false]
  cases rt <;> (
    ksp_lk
    refine wpAny_mono got (fun r s' z => ?_) fun _ _ e => e
    obtain ⟨v, rfl, hq⟩ := z
    ksp_lk
    exact hq)
end
section
variable {X : Cx} {CX : CXT} {k : Nat} {f C : Addr} {fd : FuncData} {sp : Sp} {E : XK} {ps : List Str}
/-- x op y, y one of these -/
def rOddBin (C : Addr) (sp : Sp) (E : XK) : R2 := fun x y H Q => ∃ a dx fs t, x = .ref a ∧ H a = some (.ins C dx fs) ∧ OddV H y t ∧ sp [.ref a, y] H Q E
def opB (K : PySem.W.Frag) (op : Operator) : Bool := oddT.all fun t => (PySem.W.findIn K (.type t) (PySem.dunder op.info.2)).isSome && (PySem.W.findIn K (.type t) (PySem.dunderR op.info.2)).isSome
theorem op_oddBin {op : Operator} (O : OpOf X.K C f (PySem.dunder op.info.2) (PySem.dunderR op.info.2)) (nt : ∀ t ∈ oddT, PySem.W.subIn X.K (.type t) (.ref C) = some false) (hB : opB X.K op = true)
    (F : FnOk X.prog X.w X.K X.mg X.base CX k f fd ps sp) (hr : Room k X.A) (hb : Binds X.K fd ps []) (hx : Passes CX X E) : OpR X (binaryOp op) (rOddBin C sp E) := by
  intro pins s σ H x y v u Q I rx ry h
  obtain ⟨a, dx, fs, t, rfl, ha, hy, q⟩ := h
  cases (show v = Value.ref a from rx)
  obtain ⟨mA, oa, _⟩ := ins_get I.hok ha
  obtain ⟨od, J, _⟩ := oa.look
  obtain ⟨z1, z2⟩ := He.ba (List.all_eq_true.mp hB t hy.mem)
  obtain ⟨fo, e1⟩ := Option.isSome_iff_exists.mp z1
  obtain ⟨ro, e2⟩ := Option.isSome_iff_exists.mp z2
  refine bin_L I.kIn J (hy.looks I ry) O.me O.at_ O.fn O.re (.inl rfl) e1 e2 (nt t hy.mem) ?_
  exact wpAny_mono (run_fn F hr hb .nil hx I (us := [.ref a, u]) (vs := [.ref a, y]) (.cons rfl (.cons ry .nil)) q) (fun w s' z => (by
    obtain ⟨z', H', I', rz, qz⟩ := z
    exact SlX.cmpback rz ⟨z', H', I', rz, qz⟩ : PySem.W.CmpBack (EP X pins σ Q) w s')) fun _ _ x => x
def rAllBin (C : Addr) (sp : Sp) (E : XK) : R2 := fun x y H Q => rOwnBin C sp E x y H Q ∨ rOddBin C sp E x y H Q
theorem op_allBin {op : Operator} {fo ro : Option Value} (O : OpOf X.K C f (PySem.dunder op.info.2) (PySem.dunderR op.info.2)) (h1 : PySem.W.findIn X.K (.type "int") (PySem.dunder op.info.2) = some fo) (h2 : PySem.W.findIn X.K (.type "int") (PySem.dunderR op.info.2) = some ro)
    (nt : ∀ t ∈ oddT, PySem.W.subIn X.K (.type t) (.ref C) = some false) (hB : opB X.K op = true) (F : FnOk X.prog X.w X.K X.mg X.base CX k f fd ps sp) (hr : Room k X.A) (hb : Binds X.K fd ps []) (hx : Passes CX X E) : OpR X (binaryOp op) (rAllBin C sp E) := by
  intro pins s σ H x y v u Q I rx ry h
  rcases h with h | h
  · exact op_ownBin O h1 h2 F hr hb hx pins s σ H x y v u Q I rx ry h
  · exact op_oddBin O nt hB F hr hb hx pins s σ H x y v u Q I rx ry h
/-- x == y, y one of these, a whole number, or of the same class -/
def rEqAll (C : Addr) (sp : Sp) (E : XK) : R2 := fun x y H Q => rOwnEq C sp E x y H Q ∨ ∃ a dx fs t, x = .ref a ∧ H a = some (.ins C dx fs) ∧ OddV H y t ∧ sp [.ref a, y] H Q E
theorem op_eqAll (O : EqOf X.K C f) (nt : ∀ t ∈ oddT, PySem.W.subIn X.K (.type t) (.ref C) = some false) (F : FnOk X.prog X.w X.K X.mg X.base CX k f fd ps sp) (hr : Room k X.A) (hb : Binds X.K fd ps []) (hx : Passes CX X E) : OpR X (compareOp .Eq) (rEqAll C sp E) := by
  intro pins s σ H x y v u Q I rx ry h
  rcases h with h | ⟨a, dx, fs, t, rfl, ha, hy, q⟩
  · exact op_ownEq O F hr hb hx pins s σ H x y v u Q I rx ry h
  cases (show v = Value.ref a from rx)
  obtain ⟨mA, oa, _⟩ := ins_get I.hok ha
  obtain ⟨od, J, _⟩ := oa.look
  obtain ⟨m, hF⟩ := I.fr
  show wpAny _ _ (richCompare .Eq _ _) _ _ _
  refine PySem.W.cmp_K (op := .Eq) (tb := .type t) hr.units0 hF I.ok.mod.kin J (hy.looks I ry) (by unfold PySem.W.notFirst; rw [nt t hy.mem]; simp) O.at_ O.fn ?_
  exact wpAny_mono (run_fn F hr hb .nil hx I (us := [.ref a, u]) (vs := [.ref a, y]) (.cons rfl (.cons ry .nil)) q) (fun w s' z => (by
    obtain ⟨z', H', I', rz, qz⟩ := z
    exact SlX.cmpback rz ⟨z', H', I', rz, qz⟩ : PySem.W.CmpBack (EP X pins σ Q) w s')) fun _ _ x => x
end
end RtL

set_option maxHeartbeats 4000000
namespace RtL
open PySem PySem.Spec PyProof.Rows L2
section
variable {X : Cx} {CX : CXT} {k : Nat} {f C : Addr} {fd : FuncData} {ps : List Str} {sp : Sp} {E : L2.St → XK} {m : Str} {pos apos : Pos} {e o : Expr} {es : List Expr} {ta : TE} {t : TA} {pl : Sem Bool}
/-- o.m(..) of an instance, where what it raises is told by the slots -/
def tMex (C : Addr) (m : Str) (sp : Sp) (E : L2.St → XK) (ta : TE) (t : TA) : TE := fun σ H Q => ta σ H fun y H1 => ∃ b dy gs, y = .ref b ∧ H1 b = some (.ins C dy gs) ∧ gs.lookup m = none ∧ t σ H1 fun ws H2 => sp (.ref b :: ws) H2 Q (E σ)
theorem pe_mex (he : PE X o ta) (c : Cls X.K C) (hm : Meth X.K C m f) (F : FnOk X.prog X.w X.K X.mg X.base CX k f fd ps sp) (hr : Room k X.A) (hb : Binds X.K fd ps []) (hx : ∀ σ, PassesAt CX X σ (E σ)) (ha : PA X (e :: es) t)
    (hst : starEach (e :: es) X.env = (false, eval e X.env) :: starEach es X.env := by rfl) (hpl : (backTo pos (starEach es X.env)).any (·.1) = false := by rfl)
    (ht : eval (.Call (.Attribute o m apos) (e :: es) [] pos) X.env = (do
      let ov ← eval o X.env
      standAt apos.atName
      let (g, first) ← holding [ov] (getMethod ov m pl)
      callWith pos g first (backTo pos (starEach (e :: es) X.env)) (backToKw pos (keywordEach [] X.env))) := by rfl) :
    PE X (.Call (.Attribute o m apos) (e :: es) [] pos) (tMex C m sp E ta t) := by
  refine ⟨fun pins s σ H Q I h => ?_⟩
  refine PySem.W.methodCall_KW (pl := pl) (thn (he.run pins s σ H _ I h) fun u s1 hh => ?_) ht
  obtain ⟨y, H1, I1, ry, b, dy, gs, rfl, eb, l, q⟩ := hh
  obtain rfl : u = Value.ref b := ry
  refine getmeth_ok I1 eb c hm l ?_
  refine PySem.W.callWith_K (first := [.ref b]) (h₀ := X.base) I.ok.mod.kin hm.kp (thn (ha.run pos pins s1 σ H1 _ I1 q) fun us s2 hh2 => ?_) hst hpl
  obtain ⟨ws, H2, I2, r, q2⟩ := hh2
  exact ⟨I2.kIn, run_fnS (us := .ref b :: us) (vs := .ref b :: ws) F hr hb (hx σ) I2 (.cons rfl r) q2⟩
end
end RtL

set_option maxHeartbeats 4000000
/-! for k, x in enumerate(t), t a tuple -/
namespace RtL
open PySem PySem.Spec PyProof.Rows L2
open PySem.Sem (wp)
section
variable {prog : Program} {w : World} {A : Around} {E : Value → Shared → Prop} {s : Shared} {e j l : Addr} {n : Nat} {ys : Array Value} {y u : Value}
theorem enumT_next {Q : Value → Shared → Prop} (hE : IsEnum s.heap e j n u) (hJ : s.heap.IsTupleIter j l n) (hL : s.heap.IsTuple l ys) (hy : ys[n]? = some y) (ej : e ≠ j)
    (go : ∀ h', IsEnumOut h' e j ((n : Int) + 1) y s.heap.objs.size → h'.IsTupleIter j l (n + 1) → h'.get? s.heap.objs.size = some { cls := .type "tuple", data := .seq #[.int n s.toks, y] } →
      h'.objs.size = s.heap.objs.size + 1 → (∀ b o, b ≠ e → b ≠ j → s.heap.get? b = some o → h'.get? b = some o) → Q (.ref s.heap.objs.size) { s with heap := h', toks := s.toks + 1 }) :
    wpAny (model prog w) A (Builtin.«enumerate.__next__» ⟨[.ref e], []⟩) (fun fin s' => ∃ v, fin = .done (.ret v) ∧ Q v s') E s := by
  obtain ⟨hp, g, d, tk, os⟩ := s
  show wpAny _ _ (field (.ref e) 2 >>= _) _ _ _
  refine wpAny_bind (wpAny_field hE rfl (x := .ref j) rfl (wpAny_bind (RZ.nextOf_tuple_item hJ hL hy fun g1 J1 S1 => ?_)))
  have S1 : Heap.SameBut j hp g1 := S1
  have E1 : IsEnum g1 e j n u := (S1.2 e ej).trans hE
  show wpAny _ _ (field (.ref e) 3 >>= _) _ _ ⟨g1, g, d, tk, os⟩
  refine wpAny_bind (wpAny_field E1 rfl (x := rawInt n) rfl (?_ : wpAny _ _ (field (.ref e) 4 >>= _) _ _ ⟨g1, g, d, tk, os⟩))
  refine wpAny_bind (wpAny_field E1 rfl (x := .none) rfl (?_ : wpAny _ _ (mkInt n >>= _) _ _ ⟨g1, g, d, tk, os⟩))
  refine wpAny_bind (wpAny_mkInt (?_ : wpAny _ _ (setField (.ref e) 3 (rawInt ((n : Int) + 1)) >>= _) _ _ ⟨g1, g, d, tk + 1, os⟩))
  refine wpAny_bind (wpAny_setField_rec E1 (by simp) fun g2 E2 S2 => (?_ : wpAny _ _ (setField (.ref e) 4 .none >>= _) _ _ ⟨g2, g, d, tk + 1, os⟩))
  have S2 : Heap.SameBut e g1 g2 := S2
  have E2 : IsEnum g2 e j ((n : Int) + 1) u := E2
  refine wpAny_bind (wpAny_setField_rec E2 (by simp) fun g3 E3 S3 => (?_ : wpAny _ _ (newTuple [.int n tk, y] >>= _) _ _ ⟨g3, g, d, tk + 1, os⟩))
  have S3 : Heap.SameBut e g2 g3 := S3
  have E3 : IsEnum g3 e j ((n : Int) + 1) u := E3
  refine wpAny_bind (wpAny_newTuple ?_)
  have z3 : g3.objs.size = hp.objs.size := (S3.1.trans S2.1).trans S1.1
  have le : e < hp.objs.size := Heap.lt_size hE
  have keep : ∀ b o, b ≠ e → b ≠ j → hp.get? b = some o → g3.get? b = some o := fun b o b1 b2 q => S3.extBut b o b1 (S2.extBut b o b1 (S1.extBut b o b2 q))
  have J3 : g3.IsTupleIter j l (n + 1) := (J1.extBut S2.extBut (Ne.symm ej)).extBut S3.extBut (Ne.symm ej)
  obtain ⟨g4, e4⟩ : ∃ g4, g4 = g3.push { cls := .type "tuple", data := .seq #[.int n tk, y] } := ⟨_, rfl⟩
  have E4 : IsEnum g4 e j ((n : Int) + 1) u := by rw [e4]; exact Heap.get?_push_of_some _ E3
  have T4 : g4.get? hp.objs.size = some { cls := .type "tuple", data := .seq #[.int n tk, y] } := by rw [e4, ← z3]; exact Heap.get?_push_size _ rfl
  have z4 : g4.objs.size = hp.objs.size + 1 := by rw [e4, Heap.size_push, z3]
  have k4 : ∀ b o, b ≠ e → b ≠ j → hp.get? b = some o → g4.get? b = some o := fun b o b1 b2 q => by rw [e4]; exact Heap.get?_push_of_some _ (keep b o b1 b2 q)
  have J4 : g4.IsTupleIter j l (n + 1) := by
    obtain ⟨o, q, r⟩ := J3
    exact ⟨o, by rw [e4]; exact Heap.get?_push_of_some _ q, r⟩
  rw [← e4]
  refine wpAny_bind (?_ : wpAny _ _ (Builtin.SmallTypes.ownedTupleIsFree (.ref e)) _ _ ⟨g4, g, d, tk + 1, os⟩)
  rw [z3]
  unfold Builtin.SmallTypes.ownedTupleIsFree
  refine wpAny_bind (wpAny_field E4 rfl (x := .none) rfl (wpAny_pure ?_))
  simp only [if_true]
  refine wpAny_bind (wpAny_rule (wpAny_bind (wpAny_field E4 rfl (x := u) rfl (wpAny_bind (wpAny_setField_rec E4 (by simp) fun g5 E5 S5 => ?_)))))
  have S5 : Heap.SameBut e g4 g5 := S5
  have E5 : IsEnum g5 e j ((n : Int) + 1) y := E5
  refine wpAny_bind (?_ : wpAny _ _ (Builtin.SmallTypes.ownedTupleHandOut (.ref e) (.ref hp.objs.size)) _ _ ⟨g5, g, d, tk + 1, os⟩)
  unfold Builtin.SmallTypes.ownedTupleHandOut
  refine wpAny_bind (wpAny_setField_rec E5 (by simp) fun g6 E6 S6 => ?_)
  have S6 : Heap.SameBut e g5 g6 := S6
  have E6 : IsEnumOut g6 e j ((n : Int) + 1) y hp.objs.size := E6
  refine wpAny_setField_rec E6 (by simp) fun g7 E7 S7 => ?_
  have S7 : Heap.SameBut e g6 g7 := S7
  have E7 : IsEnumOut g7 e j ((n : Int) + 1) y hp.objs.size := E7
  have up : ∀ b o, b ≠ e → g4.get? b = some o → g7.get? b = some o := fun b o b1 q => S7.extBut b o b1 (S6.extBut b o b1 (S5.extBut b o b1 q))
  refine wpAny_bind (wpAny_letGo (wpAny_pure ⟨_, rfl, go g7 E7 ?_ (up _ _ (Nat.ne_of_gt le) T4) ?_ fun b o b1 b2 q => up b o b1 (k4 b o b1 b2 q)⟩))
  · exact ((J4.extBut S5.extBut (Ne.symm ej)).extBut S6.extBut (Ne.symm ej)).extBut S7.extBut (Ne.symm ej)
  · exact ((S7.1.trans S6.1).trans S5.1).trans z4
theorem enumT_item {Q : Option Value → Shared → Prop} (hE : IsEnum s.heap e j n u) (hJ : s.heap.IsTupleIter j l n) (hL : s.heap.IsTuple l ys) (hy : ys[n]? = some y) (ej : e ≠ j)
    (go : ∀ h', IsEnumOut h' e j ((n : Int) + 1) y s.heap.objs.size → h'.IsTupleIter j l (n + 1) → h'.get? s.heap.objs.size = some { cls := .type "tuple", data := .seq #[.int n s.toks, y] } →
      h'.objs.size = s.heap.objs.size + 1 → (∀ b o, b ≠ e → b ≠ j → s.heap.get? b = some o → h'.get? b = some o) → Q (some (.ref s.heap.objs.size)) { s with heap := h', toks := s.toks + 1 }) :
    wpAny (model prog w) A (pyNext (.ref e)) Q E s := by
  have ty : s.TypeIs (.ref e) "enumerate" := ⟨_, hE, rfl⟩
  unfold pyNext
  refine wpAny_bind (wpAny_attempt (wpAny_callSpecial?_slot (name := Str.ofString "__next__") ty F.slot_enumerate_next ?_))
  exact wpAny_call_entry F.slot_enumerate_next ty F.entry_enumerate_next (enumT_next hE hJ hL hy ej fun h' a1 a2 a3 a4 a5 => wpAny_pure (go h' a1 a2 a3 a4 a5)) (F.args_enumerate_next_1 _)
theorem enumT_end {Q : Option Value → Shared → Prop} (calm : A.handled = none) (hE : IsEnum s.heap e j n u) (hJ : s.heap.IsTupleIter j l n) (hL : s.heap.IsTuple l ys) (hy : ys[n]? = none)
    (go : ∀ h', Heap.ExtBut j s.heap h' → Q none { s with heap := h' }) : wpAny (model prog w) A (pyNext (.ref e)) Q E s := by
  have ty : s.TypeIs (.ref e) "enumerate" := ⟨_, hE, rfl⟩
  unfold pyNext
  refine wpAny_bind (wpAny_attempt (wpAny_callSpecial?_slot (name := Str.ofString "__next__") ty F.slot_enumerate_next ?_))
  refine wpAny_call_entry F.slot_enumerate_next ty F.entry_enumerate_next (?_ : wpAny _ _ (field (.ref e) 2 >>= _) _ _ _) (F.args_enumerate_next_1 _)
  refine wpAny_bind (wpAny_field hE rfl (x := .ref j) rfl (wpAny_bind (RZ.nextOf_tuple_end calm hJ hL hy fun h' x a1 a2 => ?_)))
  obtain ⟨o, q, c⟩ := a2
  exact wpAny_bind (wpAny_isInstance (T := "StopIteration") (b := true) ⟨o, q, c⟩ isSubtype_stop (wpAny_pure (go _ a1)))
theorem enumT_new (t : Addr) (ob : Obj) (n : Nat) (hc : ob.cls = .type "tuple") (hd : ob.data = .seq ys n) :
    Meets (Builtin.«enumerate.__new__» ⟨[.type "enumerate", .ref t], []⟩) (fun _ R s => s.heap.get? t = some ob ∧
      R (.ok (.ret (.ref (s.heap.push { cls := .type "tuple_iterator", data := .fields #[.ref t, .int 0 0] }).objs.size)))
        { s with heap := (s.heap.push { cls := .type "tuple_iterator", data := .fields #[.ref t, .int 0 0] }).push { cls := .type "enumerate", data := .fields #[.none, .bool false, .ref s.heap.objs.size, rawInt 0, .none, .none] } }) :=
  .of_wp fun prog w A R s h => by
    obtain ⟨hp, g, d, tk, os⟩ := s
    obtain ⟨ht, h⟩ := h
    have sb := sub_enumerate
    have tp : Heap.IsTuple (Shared.heap ⟨hp, g, d, tk, os⟩) t ys := ⟨_, ht, hc, n, hd⟩
    wp_walk using AutoSeq1.wpAny_loadPart' ht
    refine wpAny_stack_any fun st => wpAny_pure ?_
    split
    · rename_i c _ _ _ _ _
      cases (c == Value.type "enumerate") <;> (wp_walk using AutoSeq1.wpAny_loadPart' ht, wpAny_pyIter_tuple tp; exact ⟨_, rfl, h⟩)
    · wp_walk using AutoSeq1.wpAny_loadPart' ht, wpAny_pyIter_tuple tp
      exact ⟨_, rfl, h⟩
theorem enumT_call {t : Addr} {Q : Value → Shared → Prop} (tp : s.heap.IsTuple t ys)
    (h : ∀ h', IsEnum h' (s.heap.objs.size + 1) s.heap.objs.size 0 .none → h'.IsTupleIter s.heap.objs.size t 0 → h'.objs.size = s.heap.objs.size + 2 → (∀ b o, s.heap.get? b = some o → h'.get? b = some o) → Q (.ref (s.heap.objs.size + 1)) { s with heap := h' }) :
    wpAny (model prog w) A (call (.type "enumerate") [.ref t]) Q E s := by
  obtain ⟨ob, ht, hc, n, hd⟩ := tp
  refine callType_new F.called_enumerate (by decide) (F.typeCall_enumerate_1 _) (F.newCall_enumerate_1 _) (fun obj => F.args_object_init_2 obj _) F.entry_enumerate_new (enumT_new t ob n hc hd) ⟨ht, ?_⟩
  have sz : (s.heap.push { cls := .type "tuple_iterator", data := .fields #[.ref t, .int 0 0] }).objs.size = s.heap.objs.size + 1 := Heap.size_push ..
  rw [sz]
  have he : IsEnum ((s.heap.push { cls := .type "tuple_iterator", data := .fields #[.ref t, .int 0 0] }).push { cls := .type "enumerate", data := .fields #[.none, .bool false, .ref s.heap.objs.size, rawInt 0, .none, .none] }) (s.heap.objs.size + 1) s.heap.objs.size 0 .none := by
    rw [← sz]
    exact Heap.get?_push_size _ rfl
  exact ⟨⟨_, he, rfl⟩, h _ he ⟨_, Heap.get?_push_of_some _ (Heap.get?_push_size _ rfl), rfl, rfl⟩ (by rw [Heap.size_push, sz]) fun b o q => Heap.get?_push_of_some _ (Heap.get?_push_of_some _ q)⟩
end
/-- the tuple at a, its items in new pairs with their places -/
def IteT (K : PySem.W.Frag) (a : Addr) : It :=
  ⟨fun i H => ∃ (xs : List V) (x : V), SqT K H a xs ∧ xs[i]? = some x, fun i H v H' => ∃ T x, v = .ref T ∧ H T = none ∧ H' = upd H T (.tup [.int (i : Nat), x]) ∧ ∀ xs, SqT K H a xs → xs[i]? = some x, fun i H => ∃ xs : List V, SqT K H a xs ∧ xs.length ≤ i⟩
theorem turn_enumT {P : Program} {w : World} {K : PySem.W.Frag} {el : List Expr} {kk : Nat} {tp : Pos} (a e j : Addr) : Turn P w K (.Tuple el kk tp) (IteT K a) [e, j] e fun i h => (∃ u, IsEnum h e j ((i : Nat) : Int) u) ∧ h.IsTupleIter j a i ∧ e ≠ j where
  mem := List.mem_cons_self
  obj := fun i h st b hb => by
    obtain ⟨⟨u, hE⟩, ⟨o, ho, hc, hd⟩, _⟩ := st
    simp only [List.mem_cons, List.not_mem_nil, or_false] at hb
    rcases hb with rfl | rfl
    · exact ⟨_, hE, fun v q => by cases q⟩
    · refine ⟨o, ho, fun v q => ?_⟩
      rw [hd] at q
      cases q
  keep := fun i h h' ⟨⟨u, hE⟩, hJ, ne⟩ k => ⟨⟨u, k e List.mem_cons_self _ hE⟩, hJ.at fun o q => k j (List.mem_cons_of_mem _ List.mem_cons_self) o q, ne⟩
  self := fun A i s Q E ⟨⟨_, hE⟩, _⟩ h => wpAny_pyIter_enum hE h
  done := by
    rintro X rfl rfl rfl cal i pins s σ H E I fp ⟨⟨u, hE⟩, hJ, ne⟩ ⟨xs, hq, hx⟩
    obtain ⟨its, rv, p, hz⟩ := I.tuple hq
    obtain ⟨f0, f1, f2, f3, f4, f5⟩ := fp j (List.mem_cons_of_mem _ List.mem_cons_self)
    have len := rv.length
    exact enumT_end (I.ok.hd cal) hE hJ p (by rw [List.getElem?_toArray]; exact List.getElem?_eq_none (by omega)) fun h' eb => ⟨rfl, I.turned (t' := s.toks) (fun b o b1 q => eb b o b1 q) f0 f1 f3 f4 f5⟩
  item := by
    rintro X rfl rfl rfl cal i pins s σ H E I fp ⟨⟨u, hE⟩, hJ, ne⟩ ⟨xs, x, hq, hx⟩
    obtain ⟨its, rv, p, hz⟩ := I.tuple hq
    obtain ⟨y, hy, ry⟩ := rv.get hx
    have le : e < s.heap.objs.size := Heap.lt_size hE
    have lj : j < s.heap.objs.size := by
      obtain ⟨_, q, _⟩ := hJ
      exact Heap.lt_size q
    refine enumT_item hE hJ p (y := y) (by rw [List.getElem?_toArray]; exact hy) ne fun h1 o1 J1 T1 z1 k1 => ⟨_, rfl, ?_⟩
    refine wpAny_letOwnedTupleGo_enum (s := { s with heap := h1, toks := s.toks + 1 }) o1 fun h2 E2 sb => ?_
    have T2 : h2.get? s.heap.objs.size = some { cls := .type "tuple", data := .seq #[.int i s.toks, y] } := (sb.2 _ (Nat.ne_of_gt le)).trans T1
    have ob : ObjOk X.prog X.w (upd H s.heap.objs.size (.tup [.int (i : Nat), x])) h2 s.heap.objs.size (.tup [.int (i : Nat), x]) := ⟨by show 2 ≤ sizeLine; decide, [.int i s.toks, y], .cons ⟨_, rfl⟩ (.cons ry .nil), ⟨_, T2, rfl, _, rfl⟩⟩
    have old : ∀ b o, b ∉ [e, j] → s.heap.get? b = some o → h2.get? b = some o := fun b o hb q => (sb.2 b fun z => hb (by rw [z]; exact List.mem_cons_self)).trans (k1 b o (fun z => hb (by rw [z]; exact List.mem_cons_self)) (fun z => hb (by rw [z]; exact List.mem_cons_of_mem _ List.mem_cons_self)) q)
    have I1 : Inv X pins σ (upd H s.heap.objs.size (.tup [.int (i : Nat), x])) { s with heap := h2, toks := s.toks + 1 } := I.turnedNew (ch := [e, j]) old fp (Nat.le_refl _) ob
    have nx : ((i + 1 : Nat) : Int) = (i : Int) + 1 := by omega
    refine ⟨.ref s.heap.objs.size, _, I1, rfl, ⟨_, x, rfl, I.hok.fresh (Nat.le_refl _), rfl, fun zs hz => by rw [I.tuple_inj hz hq]; exact hx⟩, ⟨⟨y, by rw [nx]; exact E2⟩, J1.at fun o q => (sb.2 j (Ne.symm ne)).trans q, ne⟩, fun b hb => ?_⟩
    have lb : b < s.heap.objs.size := by
      simp only [List.mem_cons, List.not_mem_nil, or_false] at hb
      rcases hb with rfl | rfl <;> assumption
    rw [upd_ne (Nat.ne_of_lt lb)]
    exact (fp b hb).1
def iEnumT (K : PySem.W.Frag) (ta : TA) : TI := fun σ H R => ta σ H fun vs H1 => ∃ a xs, vs = [.ref a] ∧ SqT K H1 a xs ∧ R (IteT K a) H1
theorem pi_enumT {X : Cx} {e : Expr} {ta : TA} {p pos tp : Pos} {el : List Expr} {kk : Nat} (hg : Gl X "enumerate") (hm : X.mg "enumerate" = none) (ha : PA X [e] ta) (st : starEach [e] X.env = [(false, eval e X.env)] := by rfl) :
    PI X (.Tuple el kk tp) (.Call (.Name "enumerate" p) [e] [] pos) (iEnumT X.K ta) := by
  refine ⟨fun pins s σ H R I h => Call_ (ld_blt I hg hm boot_enumerate (PyProof.Rows.callWith_type1 (thn (ha.run pos pins s σ H _ I h) fun us s1 ⟨vs, H1, I1, r1, a, xs, ex, hq, q⟩ => ?_) st rfl))⟩
  subst ex
  obtain ⟨u, rfl, ru⟩ := vals1 r1
  obtain rfl : u = Value.ref a := ru
  obtain ⟨its, rv, tpl, hz⟩ := I1.tuple hq
  refine enumT_call tpl fun h' hE hJ z k => wpAny_pyIter_enum hE ?_
  refine ⟨s1.heap.objs.size + 1, [s1.heap.objs.size + 1, s1.heap.objs.size], _, _, H1, rfl, I1.kept (t' := s1.toks) k, turn_enumT a (s1.heap.objs.size + 1) s1.heap.objs.size, ⟨⟨.none, hE⟩, hJ, Nat.succ_ne_self _⟩, fun b hb => ?_, q⟩
  have lb : s1.heap.objs.size ≤ b := by
    simp only [List.mem_cons, List.not_mem_nil, or_false] at hb
    rcases hb with rfl | rfl
    · exact Nat.le_succ _
    · exact Nat.le_refl _
  exact I1.fpOk lb (I1.hok.fresh lb)
theorem walk_enumT {K : PySem.W.Frag} {a : Addr} {xs : List V} : Walk (IteT K a) xs.length (fun H => SqT K H a xs) (YPair (fun i => some (.int (i : Nat))) (fun i => xs[i]?)) := by
  refine ⟨fun i _ hi q => ⟨xs, xs[i], q, List.getElem?_eq_getElem hi⟩, fun _ q => ⟨xs, q, Nat.le_refl _⟩, ?_⟩
  rintro i H v H' hi q ⟨T, x, h1, h2, h3, h4⟩
  exact ⟨T, _, x, h1, h2, h3, rfl, h4 xs q⟩
end RtL

set_option maxHeartbeats 4000000
/-! sets of nested tuples: small questions, the search -/
namespace NSet
open PySem PySem.Spec PyProof.Rows L2
section
variable {P : Program} {w : World}
/-! ### asked of keys -/
theorem cls_leaf {v : Value} (h : ∀ a, v ≠ .ref a) (n : Nat) : ofAClassStatement n v = pure false := by
  cases v with
  | ref a => exact absurd rfl (h a)
  | _ => cases n <;> rfl
mutual
theorem cls_key : ∀ (k : NestedKey) (v : Value) (n : Nat) (A : Around) (s : Shared) (E : Value → Shared → Prop) (Q : Bool → Shared → Prop), NestedIs s.heap k v → k.depth ≤ n → Q false s → wpAny (model P w) A (ofAClassStatement n v) Q E s
  | .none, _, n, A, s, E, Q, x, _, h => by cases x; rw [cls_leaf (fun _ z => by cases z)]; exact wpAny_pure h
  | .num i, _, n, A, s, E, Q, x, _, h => by cases x <;> (rw [cls_leaf (fun _ z => by cases z)]; exact wpAny_pure h)
  | .text y, _, n, A, s, E, Q, x, _, h => by cases x; rw [cls_leaf (fun _ z => by cases z)]; exact wpAny_pure h
  | .tup ks, _, 0, A, s, E, Q, x, hn, h => by simp only [NestedKey.depth] at hn; omega
  | .tup ks, _, n + 1, A, s, E, Q, x, hn, h => by
    cases x with
    | @tup a o vs m _ ho hc hd hk =>
      simp only [NestedKey.depth] at hn
      unfold ofAClassStatement
      refine wpAny_bind (wpAny_typeOf (T := "tuple") ⟨o, ho, hc⟩ ?_)
      dsimp only
      have e : (("tuple" : String) == "tuple") = true := by decide
      simp only [e, if_true, Bool.not_true, Bool.false_eq_true, if_false]
      try refine wpAny_bind (wpAny_pure ?_)
      try simp only [Bool.not_true, Bool.false_eq_true, if_false]
      show wpAny _ _ (seqItems? (.ref a) >>= _) _ _ s
      refine wpAny_bind (wpAny_seqItems ho hd ?_)
      dsimp only
      refine wpAny_bind ?_
      show wpAny _ _ (forIn vs _ _) _ _ s
      rw [← Array.forIn_toList]
      refine wpAny_forIn_list _ (fun rest r s' => r.1 = none ∧ s' = s ∧ ∀ u ∈ rest, ∀ (A : Around) (E : Value → Shared → Prop) (Q : Bool → Shared → Prop), Q false s → wpAny (model P w) A (ofAClassStatement n u) Q E s) _ ?_ ?_ _ _ ⟨rfl, rfl, fun u hu A E Q q => cls_keys ks vs.toList n A s E Q hk (by omega) q u hu⟩
      · rintro u rest r s' ⟨hr, rfl, hall⟩
        refine wpAny_bind (hall u List.mem_cons_self _ _ _ ?_)
        simp only [Bool.false_eq_true, if_false]
        exact wpAny_pure ⟨rfl, rfl, fun y hy => hall y (List.mem_cons_of_mem _ hy)⟩
      · rintro ⟨r1, r2⟩ s' ⟨hr, rfl, _⟩
        simp only at hr
        subst hr
        exact wpAny_pure h
theorem cls_keys : ∀ (ks : List NestedKey) (vs : List Value) (n : Nat) (A : Around) (s : Shared) (E : Value → Shared → Prop) (Q : Bool → Shared → Prop), NestedAll s.heap ks vs → NestedKey.depthAll ks ≤ n → Q false s → ∀ v ∈ vs, wpAny (model P w) A (ofAClassStatement n v) Q E s
  | [], _, n, A, s, E, Q, x, _, h, v, hv => by cases x; cases hv
  | k :: ks, _, n, A, s, E, Q, x, hn, h, v, hv => by
    cases x with
    | cons x1 x2 =>
      simp only [NestedKey.depthAll] at hn
      rcases List.mem_cons.mp hv with e | hv
      · rw [e]; exact cls_key k _ n A s E Q x1 (by omega) h
      · exact cls_keys ks _ n A s E Q x2 (by omega) h v hv
end
mutual
/-- whether the hash is by value: either answer, nothing changed -/
theorem hsh_key : ∀ (k : NestedKey) (v : Value) (n : Nat) (A : Around) (s : Shared) (E : Value → Shared → Prop) (Q : Bool → Shared → Prop), NestedIs s.heap k v → (∀ b, Q b s) → wpAny (model P w) A (hashByValue n v) Q E s
  | .none, _, n, A, s, E, Q, x, h => by cases x; cases n <;> exact wpAny_pure (h true)
  | .num i, _, n, A, s, E, Q, x, h => by cases x <;> cases n <;> exact wpAny_pure (h true)
  | .text y, _, n, A, s, E, Q, x, h => by cases x; cases n <;> exact wpAny_pure (h false)
  | .tup ks, _, 0, A, s, E, Q, x, h => by cases x; exact wpAny_pure (h false)
  | .tup ks, _, n + 1, A, s, E, Q, x, h => by
    cases x with
    | @tup a o vs m _ ho hc hd hk =>
      unfold hashByValue
      refine wpAny_bind (wpAny_specialOf (T := "tuple") ⟨o, ho, hc⟩ PySem.F.slot_tuple_hash.lookup ?_)
      show wpAny _ _ (seqItems? (.ref a) >>= _) _ _ s
      refine wpAny_bind (wpAny_seqItems ho hd ?_)
      refine wpAny_bind ?_
      show wpAny _ _ (forIn vs _ _) _ _ s
      rw [← Array.forIn_toList]
      refine wpAny_forIn_list _ (fun rest r s' => r.1 = none ∧ s' = s ∧ ∀ u ∈ rest, ∀ (A : Around) (E : Value → Shared → Prop) (Q : Bool → Shared → Prop), (∀ b, Q b s) → wpAny (model P w) A (hashByValue n u) Q E s) _ ?_ ?_ _ _ ⟨rfl, rfl, fun u hu A E Q q => hsh_keys ks vs.toList n A s E Q hk q u hu⟩
      · rintro u rest r s' ⟨hr, rfl, hall⟩
        refine wpAny_bind (hall u List.mem_cons_self _ _ _ fun b => ?_)
        cases b with
        | true =>
          simp only [Bool.not_true, Bool.false_eq_true, if_false]
          exact wpAny_pure ⟨rfl, rfl, fun y hy => hall y (List.mem_cons_of_mem _ hy)⟩
        | false =>
          simp only [Bool.not_false, if_true]
          exact wpAny_pure (wpAny_pure (h false))
      · rintro ⟨r1, r2⟩ s' ⟨hr, rfl, _⟩
        simp only at hr
        subst hr
        exact wpAny_pure (h true)
theorem hsh_keys : ∀ (ks : List NestedKey) (vs : List Value) (n : Nat) (A : Around) (s : Shared) (E : Value → Shared → Prop) (Q : Bool → Shared → Prop), NestedAll s.heap ks vs → (∀ b, Q b s) → ∀ v ∈ vs, wpAny (model P w) A (hashByValue n v) Q E s
  | [], _, n, A, s, E, Q, x, h, v, hv => by cases x; cases hv
  | k :: ks, _, n, A, s, E, Q, x, h, v, hv => by
    cases x with
    | cons x1 x2 =>
      rcases List.mem_cons.mp hv with e | hv
      · rw [e]; exact hsh_key k _ n A s E Q x1 h
      · exact hsh_keys ks _ n A s E Q x2 h v hv
end
/-- the tuple at a is the key k -/
abbrev IsK (h : Heap) (k : NestedKey) (a : Addr) : Prop := NestedIs h k (.ref a) ∧ k.depth ≤ 8
variable {A : Around} {E : Value → Shared → Prop} {s : Shared}
theorem seen {k : NestedKey} {x : Addr} {Q : Bool → Shared → Prop} (hk : IsK s.heap k x) {ys : List Value} (hy : ∀ y ∈ ys, ∃ k' c, y = Value.ref c ∧ IsK s.heap k' c) (h : Q false s) : wpAny (model P w) A (searchCouldBeSeen (.ref x) ys) Q E s := by
  unfold searchCouldBeSeen
  refine wpAny_bind ?_
  refine wpAny_forIn_list _ (fun rest r s' => r.1 = none ∧ s' = s ∧ ∀ y ∈ rest, ∃ k' c, y = Value.ref c ∧ IsK s.heap k' c) _ ?_ ?_ _ _ ⟨rfl, rfl, hy⟩
  · rintro v rest r s' ⟨hr, rfl, hall⟩
    obtain ⟨k', c, rfl, hc⟩ := hall v List.mem_cons_self
    have more : ∀ y ∈ rest, ∃ k' c, y = Value.ref c ∧ IsK s'.heap k' c := fun u hu => hall u (List.mem_cons_of_mem _ hu)
    dsimp only
    by_cases hv : (x == c || (carriedByValue (.ref x) && carriedByValue (.ref c))) = true
    · exact wp_if_pos hv (wpAny_pure ⟨rfl, rfl, more⟩)
    · refine wp_if_neg hv (wpAny_bind (quiet_key k _ 8 s' hk.1 hk.2 _ _ _ ?_))
      simp only [Bool.not_true, Bool.false_eq_true, if_false]
      refine wpAny_bind (quiet_key k' _ 8 s' hc.1 hc.2 _ _ _ ?_)
      simp only [Bool.not_true, Bool.false_eq_true, if_false]
      refine wpAny_bind (cls_key k _ 8 _ _ _ _ hk.1 hk.2 ?_)
      simp only [Bool.false_eq_true, if_false]
      refine wpAny_bind (cls_key k' _ 8 _ _ _ _ hc.1 hc.2 ?_)
      simp only [Bool.false_eq_true, if_false]
      exact wpAny_pure ⟨rfl, rfl, more⟩
  · rintro ⟨r1, r2⟩ s' ⟨hr, rfl, _⟩
    simp only at hr
    subst hr
    exact wpAny_pure h
end
end NSet

set_option maxHeartbeats 4000000
/-! sets of nested tuples: the table, the search -/
namespace NSet
open PySem PySem.Spec PyProof.Rows L2
/-- the c-th step of a hash's way -/
abbrev W (m : Nat) (h : Int) (c : Nat) : SetTable.Probe := nth m (runAt m (SetTable.bits h % (m + 1)) (SetTable.bits h)) c
theorem W_on (m : Nat) (h : Int) (c q : Nat) : nth m (W m h c) q = W m h (c + q) := (nth_add m c _ q).symm
theorem nth_dummy (m : Nat) : ∀ (n : Nat) (p : SetTable.Probe), p.dummy = none → (nth m p n).dummy = none
  | 0, _, h => h
  | n + 1, p, h => nth_dummy m n (adv m p) (by unfold adv; split <;> exact h)
/-- what a probe from the c-th step answers: the next slot whose hash is h, or the empty one at K -/
theorem probe_at {t : SetTable} {hs : List Int} (T : TabOk t hs) {g : Nat → Int} (hg : ∀ (i : Nat) (z : Int), hs[i]? = some z → g i = z) {h : Int} {K c : Nat} (hK : K < 10 * SetTable.turns t.mask) (he : way t.mask h K ∉ t.place.toList) (hb : ∀ q, q < K → way t.mask h q ∈ t.place.toList) (hc : c ≤ K) :
    (∃ d i : Nat, c ≤ d ∧ d < K ∧ t.place.toList[i]? = some (way t.mask h d) ∧ hs[i]? = some h ∧ (∀ e j : Nat, c ≤ e → e < d → t.place.toList[j]? = some (way t.mask h e) → hs[j]? ≠ some h) ∧ t.probe g h (W t.mask h c) = some (.candidate (way t.mask h d) i (W t.mask h (d + 1)))) ∨
    ((∀ e j : Nat, c ≤ e → e < K → t.place.toList[j]? = some (way t.mask h e) → hs[j]? ≠ some h) ∧ t.probe g h (W t.mask h c) = some (.empty (way t.mask h K) none)) := by
  have lift : ∀ {i : Nat} {j : Nat}, t.place.toList[i]? = some j → ∃ z, hs[i]? = some z := fun {i j} hi => by
    have h1 := (List.getElem?_eq_some_iff.mp hi).1
    rw [Array.length_toList, T.sz] at h1
    exact ⟨_, List.getElem?_eq_getElem h1⟩
  have J : ∀ q, (nth t.mask (W t.mask h c) q).j = way t.mask h (c + q) := fun q => congrArg SetTable.Probe.j (W_on _ _ _ _)
  rcases go_spec t T.ris T.dm g h (10 * SetTable.turns t.mask) (K - c) (W t.mask h c) (nth_dummy _ _ _ rfl) (by omega) (fun q hq => by rw [J]; exact hb _ (by omega)) (by rw [J, show c + (K - c) = K by omega]; exact he) with ⟨q, i, hq, hi, hh, hn, hp⟩ | ⟨hn, hp⟩
  · left
    rw [J] at hi
    obtain ⟨z, hz⟩ := lift hi
    refine ⟨c + q, i, by omega, by omega, hi, by rw [hz, ← hg i z hz, hh], fun e j e1 e2 hj hz' => ?_, ?_⟩
    · exact hn (e - c) j (by omega) (by rw [J, show c + (e - c) = e by omega]; exact hj) (hg j h hz')
    · rw [← J q, show c + q + 1 = c + (q + 1) by omega, ← W_on]
      exact hp
  · right
    refine ⟨fun e j e1 e2 hj hz' => hn (e - c) j (by omega) (by rw [J, show c + (e - c) = e by omega]; exact hj) (hg j h hz'), ?_⟩
    have : way t.mask h K = (nth t.mask (W t.mask h c) (K - c)).j := by rw [J, show c + (K - c) = K by omega]
    rw [this]
    exact hp
abbrev hsOf (w : World) (L : List (Addr × NestedKey)) : List Int := L.map fun p => p.2.hash w
abbrev rows (w : World) (L : List (Addr × NestedKey)) : List (Int × Value) := L.map fun p => (p.2.hash w, Value.ref p.1)
abbrev keys (L : List (Addr × NestedKey)) : List NestedKey := L.map (·.2)
/-- at a stands the set of the keys of L, each by its tuple, in the table's order -/
structure NS (w : World) (h : Heap) (a : Addr) (L : List (Addr × NestedKey)) (es : Array (Int × Value)) (ep : Nat) (t : SetTable) : Prop where
  ob : ∃ o, h.get? a = some o ∧ o.ExactSet ∧ o.data = .set es ep t
  row : es.toList = rows w L
  tab : TabOk t (hsOf w L)
  nd : (keys L).Nodup
  key : ∀ p ∈ L, IsK h p.2 p.1
  led : w.params.followText "set-order" = true ∨ t.led = true
  room : L.length * 5 < t.mask * 3
  few : L.length < 64
section
variable {P : Program} {w : World} {A : Around} {E : Value → Shared → Prop} {s : Shared} {a x : Addr} {L : List (Addr × NestedKey)} {es : Array (Int × Value)} {ep : Nat} {t : SetTable} {k : NestedKey}
theorem NS.size (R : NS w s.heap a L es ep t) : es.size = L.length := by
  have h := congrArg List.length R.row
  rwa [Array.length_toList, List.length_map] at h
theorem NS.fits (R : NS w s.heap a L es ep t) : t.fits es.size = true := by
  have h1 := R.tab.sz
  have h2 := R.size
  have h3 := R.room
  rw [List.length_map] at h1
  unfold SetTable.fits SetTable.fill
  rw [R.tab.dm, Bool.and_eq_true, beq_iff_eq, decide_eq_true_eq]
  show t.place.size = es.size ∧ t.place.size + 0 ≤ t.mask
  omega
theorem NS.at_ (R : NS w s.heap a L es ep t) {i : Nat} {p : Addr × NestedKey} (h : L[i]? = some p) : es[i]? = some (p.2.hash w, Value.ref p.1) := by
  rw [← Array.getElem?_toList, R.row, List.getElem?_map, h]
  rfl
theorem NS.wide (R : NS w s.heap a L es ep t) : ¬ t.gaveWay = true := by
  unfold SetTable.gaveWay
  rw [mask_odd R.tab.mok]
  decide
theorem NS.gs (R : NS w s.heap a L es ep t) : ∀ (i : Nat) (z : Int), (hsOf w L)[i]? = some z → (fun i => (es[i]?.map (·.1)).getD 0) i = z := fun i z h => by
  rw [List.getElem?_map] at h
  cases hp : L[i]? with
  | none => rw [hp] at h; cases h
  | some p =>
    rw [hp] at h
    show (es[i]?.map (·.1)).getD 0 = z
    rw [R.at_ hp]
    exact Option.some.inj h
theorem NS.kept (R : NS w s.heap a L es ep t) {i j : Nat} (h : t.place.toList[i]? = some j) : ∃ p, L[i]? = some p := by
  have h1 := (List.getElem?_eq_some_iff.mp h).1
  rw [Array.length_toList, R.tab.sz, List.length_map] at h1
  exact ⟨_, List.getElem?_eq_getElem h1⟩
/-- the search from the c-th step of the way on -/
theorem NS.look (R : NS w s.heap a L es ep t) (hx : IsK s.heap k x) (hu : A.units + 8 < cLine) {K : Nat} (hKf : K < 10 * SetTable.turns t.mask) (hK : way t.mask (k.hash w) K ∉ t.place.toList) (hKb : ∀ q, q < K → way t.mask (k.hash w) q ∈ t.place.toList) {add : Bool} {Q : SetFound → Shared → Prop}
    (yes : ∀ (i : Nat) p, L[i]? = some p → p.2 = k → Q (.there (if add = true then none else some i)) s) (no : k ∉ keys L → Q (.free (way t.mask (k.hash w) K) false) s) :
    ∀ (f c : Nat) (stand : Option SetTable.Probe), stand.getD (t.probeStart (k.hash w)) = W t.mask (k.hash w) c → c ≤ K → K - c < f →
      (∀ (i : Nat) p, L[i]? = some p → p.2 = k → ∃ d, c ≤ d ∧ d < K ∧ t.place.toList[i]? = some (way t.mask (k.hash w) d)) → wpAny (model P w) A (setSearchFrom a (.ref x) (k.hash w) add f stand) Q E s := by
  intro f
  induction f with
  | zero => intro c stand _ _ hf _; omega
  | succ f ih =>
    intro c stand hst hc hf hre
    obtain ⟨o, ho, hex, hd⟩ := R.ob
    rw [setSearchFrom_succ]
    refine wpAny_bind (wpAny_setState_of ho hd R.fits ?_)
    dsimp only
    refine wp_if_neg R.wide ?_
    try refine wpAny_bind (wpAny_pure ?_)
    have same : ∀ (i : Nat) p, L[i]? = some p → p.2 = k → (hsOf w L)[i]? = some (k.hash w) := fun i p h e => by
      rw [List.getElem?_map, h, ← e]
      rfl
    rcases probe_at R.tab R.gs hKf hK hKb hc with ⟨d, i, cd, dK, hi, hh, hn, hp⟩ | ⟨hn, hp⟩
    · rw [hst, hp]
      dsimp only
      obtain ⟨p, hpi⟩ := R.kept hi
      have hmem := List.mem_of_getElem? hpi
      have hk := R.key p hmem
      have rest : wpAny (model P w) A (searchRest a (.ref x) (k.hash w) add f es t (way t.mask (k.hash w) d) i (W t.mask (k.hash w) (d + 1))) Q E s := by
        unfold searchRest
        rw [R.at_ hpi]
        dsimp only
        refine wpAny_bind (wpAny_holding ((nestedKind P w).eqBool hu hk hx ?_))
        refine wpAny_bind (wpAny_setState_of ho hd R.fits ?_)
        dsimp only
        have hsl : t.slot (way t.mask (k.hash w) d) = .live i := slot_live R.tab.ris hi
        have tail : ∀ {z : Bool}, z = decide (p.2 = k) → (z = true → Q (.there (some i)) s) → (z = false → wpAny (model P w) A (setSearchFrom a (.ref x) (k.hash w) add f (some (W t.mask (k.hash w) (d + 1)))) Q E s) →
            wpAny (model P w) A (if z = true then pure (.there (some i)) else setSearchFrom a (.ref x) (k.hash w) add f (some (W t.mask (k.hash w) (d + 1)))) Q E s := fun {z} _ h1 h2 => by
          cases z with
          | true => exact wpAny_pure (h1 rfl)
          | false => exact h2 rfl
        have on : (add && decide (p.2 = k)) = false → wpAny (model P w) A (setSearchFrom a (.ref x) (k.hash w) add f (some (W t.mask (k.hash w) (d + 1)))) Q E s ∨ p.2 = k := fun _ => by
          rcases Classical.em (p.2 = k) with y | y
          · exact .inr y
          · refine .inl (ih (d + 1) _ rfl (by omega) (by omega) fun i0 p0 h0 hk0 => ?_)
            obtain ⟨e, e1, e2, e3⟩ := hre i0 p0 h0 hk0
            rcases Nat.lt_trichotomy e d with z | z | z
            · exact absurd (same i0 p0 h0 hk0) (hn e i0 e1 z e3)
            · subst z
              have s0 := slot_live R.tab.ris e3
              rw [hsl] at s0
              injection s0 with s0
              subst s0
              rw [hpi] at h0
              cases h0
              exact absurd hk0 y
            · exact ⟨e, z, e2, e3⟩
        by_cases hc : (add && decide (p.2 = k)) = true
        · obtain ⟨z1, z2⟩ := Bool.and_eq_true_iff.mp hc
          have r := yes i p hpi (of_decide_eq_true z2)
          rw [if_pos z1] at r
          exact wp_if_pos hc (wpAny_pure r)
        · refine wp_if_neg hc ?_
          try refine wpAny_bind (wpAny_pure ?_)
          rw [sameMem]
          dsimp only
          simp only [if_true, hsl, R.at_ hpi]
          refine wpAny_bind (wpAny_isSame_ref_self (wpAny_bind (wpAny_pure ?_)))
          simp only [if_true]
          refine tail rfl (fun z => ?_) (fun z => ?_)
          · have r := yes i p hpi (of_decide_eq_true z)
            rw [if_neg (fun y => hc (by rw [y, z]; rfl))] at r
            exact r
          · rcases on (Bool.eq_false_iff.mpr hc) with y | y
            · exact y
            · rw [decide_eq_true y] at z
              cases z
      by_cases hl : t.led = true
      · refine wp_if_neg (by simp [hl]) ?_
        try refine wpAny_bind (wpAny_pure ?_)
        exact rest
      · refine wp_if_pos (by simp [hl]) (wpAny_bind (seen hx (fun y hy => ?_) ?_))
        · obtain ⟨e, he, ee⟩ := List.mem_map.mp hy
          have he2 : e ∈ es.toList := by
            have z : e ∈ es ∧ e.1 = k.hash w := by simpa using he
            simpa using z.1
          rw [R.row] at he2
          obtain ⟨p2, hp2, e2⟩ := List.mem_map.mp he2
          exact ⟨p2.2, p2.1, by rw [← ee, ← e2], R.key p2 hp2⟩
        · refine wp_if_neg (by decide) ?_
          try refine wpAny_bind (wpAny_pure ?_)
          exact rest
    · rw [hst, hp]
      dsimp only
      refine wpAny_pure (no fun hm => ?_)
      obtain ⟨p0, h0, hk0⟩ := List.mem_map.mp hm
      obtain ⟨i0, hi0, e0⟩ := List.getElem_of_mem h0
      have h00 : L[i0]? = some p0 := by rw [List.getElem?_eq_getElem hi0, e0]
      obtain ⟨d, d1, d2, d3⟩ := hre i0 p0 h00 hk0
      exact hn d i0 d1 d2 d3 (same i0 p0 h00 hk0)
/-- the whole search -/
theorem NS.find (R : NS w s.heap a L es ep t) (hx : IsK s.heap k x) (hu : A.units + 8 < cLine) {add : Bool} {Q : SetFound → Shared → Prop} (yes : ∀ (i : Nat) p, L[i]? = some p → p.2 = k → Q (.there (if add = true then none else some i)) s)
    (no : ∀ K, k ∉ keys L → way t.mask (k.hash w) K ∉ t.place.toList → (∀ q, q < K → way t.mask (k.hash w) q ∈ t.place.toList) → Q (.free (way t.mask (k.hash w) K) false) s) : wpAny (model P w) A (setSearch a (.ref x) (k.hash w) add) Q E s := by
  have hr := R.room
  obtain ⟨K, hKf, hK, hKb⟩ := R.tab.first (by rw [List.length_map]; omega) (k.hash w)
  have hbig : K < 100000 := by
    have : 10 * SetTable.turns t.mask ≤ 1420 := by
      unfold SetTable.turns
      rcases R.tab.mok with e | e | e <;> omega
    omega
  unfold setSearch
  refine R.look hx hu hKf hK hKb yes (fun hn => no K hn hK hKb) 100000 0 none rfl (Nat.zero_le _) (by omega) fun i p hp hk => ?_
  have hi : (hsOf w L)[i]? = some (k.hash w) := by rw [List.getElem?_map, hp, ← hk]; rfl
  have h1 : i < t.place.toList.length := by
    rw [Array.length_toList, R.tab.sz, List.length_map]
    exact (List.getElem?_eq_some_iff.mp hp).1
  have hj := List.getElem?_eq_getElem h1
  obtain ⟨c, hc, e⟩ := R.tab.before hK hi hj
  exact ⟨c, Nat.zero_le _, hc, by rw [hj, e]⟩
/-- k in the set -/
theorem NS.mem (R : NS w s.heap a L es ep t) (hx : IsK s.heap k x) (hu : A.units + 8 < cLine) {Q : Bool → Shared → Prop} (h : Q (decide (k ∈ keys L)) { s with toks := s.toks + k.draws }) : wpAny (model P w) A (setContains a (.ref x)) Q E s := by
  obtain ⟨o, ho, hex, hd⟩ := R.ob
  unfold setContains
  refine wpAny_holding (wpAny_bind ((nestedKind P w).pyHash hu hx ?_))
  refine wpAny_bind ?_
  unfold setFind setFindIn
  have R' : NS w ({ s with toks := s.toks + k.draws } : Shared).heap a L es ep t := R
  refine wpAny_bind (wpAny_setState_of (s := { s with toks := s.toks + k.draws }) ho hd R.fits ?_)
  dsimp only
  refine wp_if_neg (by simp [byScan, Value.scannable]) ?_
  try refine wpAny_bind (wpAny_pure ?_)
  refine wpAny_bind (R'.find (add := false) hx hu (fun i p hp hk => ?_) fun K hn _ _ => ?_)
  · refine wpAny_pure (wpAny_pure ?_)
    rw [decide_eq_true (List.mem_map.mpr ⟨p, List.mem_of_getElem? hp, hk⟩)] at h
    exact h
  · refine wpAny_pure (wpAny_pure ?_)
    rw [decide_eq_false hn] at h
    exact h
end
end NSet

set_option maxHeartbeats 4000000
/-! sets of nested tuples: adding -/
namespace NSet
open PySem PySem.Spec PyProof.Rows L2
/-! ### laid anew: the order -/
abbrev nul : Addr × NestedKey := (0, .none)
theorem pick_rows {w : World} {L : List (Addr × NestedKey)} {es : Array (Int × Value)} (hr : es.toList = rows w L) : ∀ l : List Nat, (∀ i ∈ l, i < L.length) →
    l.filterMap (fun i => es[i]?) = rows w (l.map fun i => L.getD i nul) ∧ hsOf w (l.map fun i => L.getD i nul) = l.map fun i => (es.map (·.1)).getD i 0
  | [], _ => ⟨rfl, rfl⟩
  | i :: l, h => by
    obtain ⟨e1, e2⟩ := pick_rows hr l fun j hj => h j (List.mem_cons_of_mem _ hj)
    have hi := h i List.mem_cons_self
    have ei : es[i]? = some ((L.getD i nul).2.hash w, Value.ref (L.getD i nul).1) := by
      rw [← Array.getElem?_toList, hr, List.getElem?_map, List.getElem?_eq_getElem hi, List.getD_eq_getElem?_getD, List.getElem?_eq_getElem hi]
      rfl
    refine ⟨?_, ?_⟩
    · rw [List.filterMap_cons_some ei, e1]
      rfl
    · have e5 : (es.map (·.1)).getD i 0 = (L.getD i nul).2.hash w := by
        have e6 : (es.map (·.1))[i]? = some ((L.getD i nul).2.hash w) := by rw [Array.getElem?_map, ei]; rfl
        simp [Array.getD_eq_getD_getElem?, e6]
      show (L.getD i nul).2.hash w :: hsOf w (l.map fun i => L.getD i nul) = (es.map (·.1)).getD i 0 :: _
      rw [e2, e5]
theorem getD_range {α : Type} (d : α) (L : List α) : (List.range L.length).map (fun i => L.getD i d) = L := by
  refine List.ext_getElem? fun i => ?_
  rw [List.getElem?_map]
  rcases Nat.lt_or_ge i L.length with h | h
  · rw [List.getElem?_range h, List.getElem?_eq_getElem h]
    show some (L.getD i d) = _
    rw [List.getD_eq_getElem?_getD, List.getElem?_eq_getElem h]
    rfl
  · rw [List.getElem?_eq_none (by rw [List.length_range]; exact h), List.getElem?_eq_none h]
    rfl
theorem keep_set {h h' : Heap} {k : NestedKey} {a b : Addr} {o : Obj} {es : Array (Int × Value)} {ep : Nat} {t : SetTable} (hb : IsK h k b) (ho : h.get? a = some o) (hd : o.data = .set es ep t) (hs : Heap.SameBut a h h') : IsK h' k b :=
  ⟨NestedIs.at (fun c oc vs n hc hcd => (hs.2 c fun e => by
    subst e
    rw [ho] at hc
    cases hc
    rw [hd] at hcd
    cases hcd).trans hc) k _ hb.1, hb.2⟩
theorem keep_all {h h' : Heap} {k : NestedKey} {b : Addr} (hb : IsK h k b) (hs : ∀ c o, h.get? c = some o → h'.get? c = some o) : IsK h' k b := ⟨NestedIs.at (fun c oc vs n hc _ => hs c oc hc) k _ hb.1, hb.2⟩
section
variable {P : Program} {w : World} {A : Around} {E : Value → Shared → Prop} {s : Shared} {a x : Addr} {L : List (Addr × NestedKey)} {es : Array (Int × Value)} {ep : Nat} {t : SetTable} {k : NestedKey}
/-- a full table is laid anew, larger -/
theorem relay {o : Obj} (ho : s.heap.get? a = some o) (hex : o.ExactSet) (hd : o.data = .set es ep t) (hr : es.toList = rows w L) (T : TabOk t (hsOf w L)) (hfl : es.size ≤ t.mask) (nd : (keys L).Nodup) (hk : ∀ p ∈ L, IsK s.heap p.2 p.1)
    (ld : w.params.followText "set-order" = true ∨ t.led = true) (few : L.length < 64) {wanted M : Nat} (hw : SetTable.sizeAbove wanted - 1 = M) (hM : MaskOk M) (hw2 : SetTable.sizeAbove wanted ≤ 128) (hn : L.length * 5 < M * 3) {Q : Unit → Shared → Prop}
    (hQ : ∀ h' L' es' ep' t', Heap.SameBut a s.heap h' → NS w h' a L' es' ep' t' → L'.Perm L → Q () { s with heap := h' }) : wpAny (model P w) A (setRelay a wanted) Q E s := by
  have hsl : es.size = L.length := by
    have h := congrArg List.length hr
    rwa [Array.length_toList, List.length_map] at h
  have hsz := T.sz
  rw [List.length_map] at hsz
  have hfits : t.fits es.size = true := by
    unfold SetTable.fits SetTable.fill
    rw [T.dm, Bool.and_eq_true, beq_iff_eq, decide_eq_true_eq]
    show t.place.size = es.size ∧ t.place.size + 0 ≤ t.mask
    omega
  obtain ⟨t', order, e, hp, T', em, el, _, ed⟩ := relaid_ok t (hs := es.map (·.1)) (wanted := wanted) hw hM (by rw [Array.size_map, hsl]; omega)
  rw [Array.size_map, hsl] at hp
  obtain ⟨r1, r2⟩ := pick_rows hr order.toList fun i hi => List.mem_range.mp (hp.mem_iff.mp hi)
  have pm : (order.toList.map fun i => L.getD i nul).Perm L := by
    have h := hp.map fun i => L.getD i nul
    rwa [getD_range] at h
  rw [← r2] at T'
  generalize hL2 : (order.toList.map fun i => L.getD i nul) = L2 at r1 pm T'
  have r1' : (order.filterMap (es[·]?)).toList = rows w L2 := by rw [Array.toList_filterMap]; exact r1
  have l2 := pm.length_eq
  have hs2 : (order.filterMap (es[·]?)).size = es.size := by
    have h := congrArg List.length r1'
    rw [Array.length_toList, List.length_map] at h
    omega
  rw [setRelay_eq]
  refine wpAny_bind (wpAny_setState_of ho hd hfits ?_)
  dsimp only
  refine wp_if_neg (by rw [sizeLine_eq]; omega) ?_
  try refine wpAny_bind (wpAny_pure ?_)
  rw [e]
  dsimp only
  refine wpAny_bind (wp_if_neg (by rw [hs2]; simp) ?_)
  try refine wpAny_bind (wpAny_pure ?_)
  refine wpAny_pure ?_
  dsimp only
  refine wpAny_storeSet_of ho hd ?_ (by rw [hs2, hsl, sizeLine_eq]; omega)
  have sb : Heap.SameBut a s.heap (s.heap.update a (Obj.putSet (order.filterMap (es[·]?)) t')) := Heap.SameBut.update ..
  exact hQ _ L2 (order.filterMap (es[·]?)) (ep + 1) t' sb ⟨⟨_, store_at ho hd, ⟨hex.1, hex.2.1, hex.2.2⟩, rfl⟩, r1', T', (pm.map (·.2)).nodup_iff.mpr nd, fun p hpm => keep_set (hk p (pm.mem_iff.mp hpm)) ho hd sb, by rw [el]; exact ld, by rw [l2, em]; exact hn, by omega⟩ pm
/-- adding -/
theorem NS.add (R : NS w s.heap a L es ep t) (hx : IsK s.heap k x) (hu : A.units + 8 < cLine) (few1 : L.length + 1 < 64) {Q : Bool → Shared → Prop} (old : k ∈ keys L → Q false s)
    (new : ∀ h' L' es' ep' t', k ∉ keys L → Heap.SameBut a s.heap h' → NS w h' a L' es' ep' t' → L'.Perm ((x, k) :: L) → Q true { s with heap := h' }) : wpAny (model P w) A (setAddHashed a (.ref x) (k.hash w)) Q E s := by
  obtain ⟨o, ho, hex, hd⟩ := R.ob
  have hsl := R.size
  have hroom := R.room
  unfold setAddHashed
  refine wpAny_holding ?_
  rw [show (100000 : Nat) = 99999 + 1 from rfl, setAddHashedIn_succ]
  refine wpAny_bind (wpAny_setState_of ho hd R.fits ?_)
  dsimp only
  refine wp_if_neg (by simp [byScan, Value.scannable]) ?_
  try refine wpAny_bind (wpAny_pure ?_)
  refine wpAny_bind (R.find (add := true) hx hu (fun i p hp hk => ?_) fun K hn hK hb => ?_)
  · exact wpAny_pure (old (List.mem_map.mpr ⟨p, List.mem_of_getElem? hp, hk⟩))
  · dsimp only
    refine wpAny_bind (wpAny_setState_of ho hd R.fits ?_)
    dsimp only
    obtain ⟨q1, q2, q3, q4, q5, _, _, _, q9⟩ := R.tab.put hK hb
    generalize t.put (way t.mask (k.hash w) K) = pt at q1 q3 q4 q5 q9 ⊢
    obtain ⟨t1, p⟩ := pt
    dsimp only at q1 q3 q4 q5 q9 ⊢
    rw [← q1] at q2 q3
    -- the new row
    have pm : (L.take p ++ (x, k) :: L.drop p).Perm ((x, k) :: L) := by
      have h : (L.take p ++ (x, k) :: L.drop p).Perm ((x, k) :: (L.take p ++ L.drop p)) := List.perm_middle
      rwa [List.take_append_drop] at h
    have hr1 : (SetTable.insertAt es p (k.hash w, Value.ref x)).toList = rows w (L.take p ++ (x, k) :: L.drop p) := by
      rw [SetTable.toList_insertAt, R.row]
      unfold rows
      rw [List.map_append, List.map_cons, List.map_take, List.map_drop]
    have hT1 : TabOk t1 (hsOf w (L.take p ++ (x, k) :: L.drop p)) := by
      have e : hsOf w (L.take p ++ (x, k) :: L.drop p) = (hsOf w L).take p ++ k.hash w :: (hsOf w L).drop p := by
        unfold hsOf
        rw [List.map_append, List.map_cons, List.map_take, List.map_drop]
      rw [e]
      exact q3
    generalize L.take p ++ (x, k) :: L.drop p = L1 at pm hr1 hT1
    have l1 : L1.length = L.length + 1 := pm.length_eq
    have hes : (SetTable.insertAt es p (k.hash w, Value.ref x)).size = L.length + 1 := by
      have h := congrArg List.length hr1
      rw [Array.length_toList, List.length_map] at h
      omega
    generalize SetTable.insertAt es p (k.hash w, Value.ref x) = es1 at hr1 hes ⊢
    have nd1 : (keys L1).Nodup := (pm.map (·.2)).nodup_iff.mpr (List.nodup_cons.mpr ⟨hn, R.nd⟩)
    -- what follows, whatever is known of the hashes
    have go : ∀ t2 : SetTable, TabOk t2 (hsOf w L1) → t2.mask = t.mask → t2.led = t.led → t2.fill = L.length + 1 →
        wpAny (model P w) A (storeSet a es1 t2 >>= fun _ => if (!false && t2.tooFull) = true then (setRelay a (SetTable.grown (es.size + 1)) >>= fun _ => pure true) else pure true) Q E s := fun t2 T2 m2 d2 f2 => by
      refine wpAny_bind (wpAny_storeSet_of ho hd ?_ (by rw [hes, sizeLine_eq]; omega))
      have sb : Heap.SameBut a s.heap (s.heap.update a (Obj.putSet es1 t2)) := Heap.SameBut.update ..
      have ho1 := store_at (es' := es1) (t' := t2) ho hd
      generalize s.heap.update a (Obj.putSet es1 t2) = h1 at sb ho1 ⊢
      have key1 : ∀ p ∈ L1, IsK h1 p.2 p.1 := fun p hp => by
        rcases List.mem_cons.mp (pm.mem_iff.mp hp) with e | hp
        · rw [e]; exact keep_set hx ho hd sb
        · exact keep_set (R.key p hp) ho hd sb
      have ld1 : w.params.followText "set-order" = true ∨ t2.led = true := by rw [d2]; exact R.led
      have full : t2.tooFull = decide ((L.length + 1) * 5 ≥ t2.mask * 3) := by
        unfold SetTable.tooFull
        rw [f2]
      by_cases hf : t2.tooFull = true
      · refine wp_if_pos (by simp [hf]) (wpAny_bind ?_)
        rw [full, decide_eq_true_eq, m2] at hf
        rw [hsl]
        have both : (t.mask = 7 ∧ L.length = 4) ∨ (t.mask = 31 ∧ L.length = 18) := by
          rcases R.tab.mok with e | e | e <;> rw [e] at hf hroom
          · exact .inl ⟨e, by omega⟩
          · exact .inr ⟨e, by omega⟩
          · omega
        have big : ∀ M, SetTable.sizeAbove (SetTable.grown (L.length + 1)) - 1 = M → MaskOk M → SetTable.sizeAbove (SetTable.grown (L.length + 1)) ≤ 128 → (L.length + 1) * 5 < M * 3 →
            wpAny (model P w) A (setRelay a (SetTable.grown (L.length + 1))) (fun _ s' => wpAny (model P w) A (pure true) Q E s') E { s with heap := h1 } := fun M a1 a2 a3 a4 => by
          refine relay (s := { s with heap := h1 }) ho1 ⟨hex.1, hex.2.1, hex.2.2⟩ rfl hr1 T2 (by rw [hes, m2]; rcases both with ⟨e, e2⟩ | ⟨e, e2⟩ <;> omega) nd1 key1 ld1 (by omega) a1 a2 a3 (by rw [l1]; exact a4) ?_
          exact fun h2 L2 es2 ep2 t3 sb2 R2 pm2 => wpAny_pure (new h2 L2 es2 ep2 t3 hn (sb.trans sb2) R2 (pm2.trans pm))
        rcases both with ⟨_, e2⟩ | ⟨_, e2⟩
        · exact big 31 (by rw [e2, size_20]) (.inr (.inl rfl)) (by rw [e2, size_20]; decide) (by omega)
        · exact big 127 (by rw [e2, size_76]) (.inr (.inr rfl)) (by rw [e2, size_76]; decide) (by omega)
      · refine wp_if_neg (by simp [hf]) (wpAny_pure (new h1 L1 es1 (ep + 1) t2 hn sb ⟨⟨_, ho1, ⟨hex.1, hex.2.1, hex.2.2⟩, rfl⟩, hr1, T2, nd1, key1, ld1, ?_, by omega⟩ pm))
        rw [full, decide_eq_true_eq] at hf
        omega
    rw [List.length_map] at q9
    by_cases hp : t1.plain = true
    · refine wp_if_pos hp (wpAny_bind (hsh_key k _ 8 _ _ _ _ hx.1 fun b => ?_))
      cases b with
      | true => exact go t1 hT1 q4 q5 q9
      | false => exact go { t1 with plain := false } ⟨hT1.ris, hT1.dm, hT1.sz, hT1.mok, hT1.bd, hT1.reach⟩ q4 q5 q9
    · exact wp_if_neg hp (wpAny_bind (wpAny_pure (go t1 hT1 q4 q5 q9)))
end
end NSet

set_option maxHeartbeats 4000000
/-! sets of nested tuples: as tracked objects; in, not in, add -/
namespace NSet
open PySem PySem.Spec PyProof.Rows L2
mutual
/-- the value v is the key k -/
inductive KeyV (H : Hp) : NestedKey → V → Prop
  | non : KeyV H .none .non
  | bl (b : Bool) : KeyV H (.num (if b = true then 1 else 0)) (.bl b)
  | int (i : Int) : KeyV H (.num i) (.int i)
  | str (z : Str) : KeyV H (.text z) (.str z)
  | tup {a : Addr} {vs : List V} {ks : List NestedKey} : H a = some (.tup vs) → KeyVs H ks vs → KeyV H (.tup ks) (.ref a)
inductive KeyVs (H : Hp) : List NestedKey → List V → Prop
  | nil : KeyVs H [] []
  | cons {k : NestedKey} {v : V} {ks : List NestedKey} {vs : List V} : KeyV H k v → KeyVs H ks vs → KeyVs H (k :: ks) (v :: vs)
end
mutual
theorem KeyV.same {H H' : Hp} (s : Same H H') : ∀ (k : NestedKey) (v : V), KeyV H k v → KeyV H' k v
  | _, _, .non => .non
  | _, _, .bl b => .bl b
  | _, _, .int i => .int i
  | _, _, .str z => .str z
  | _, _, .tup e h => .tup (s _ _ e) (KeyVs.same s _ _ h)
theorem KeyVs.same {H H' : Hp} (s : Same H H') : ∀ (ks : List NestedKey) (vs : List V), KeyVs H ks vs → KeyVs H' ks vs
  | _, _, .nil => .nil
  | _, _, .cons a b => .cons (KeyV.same s _ _ a) (KeyVs.same s _ _ b)
end
section
variable {X : Cx} {pins : List (Addr × Obj)} {σ : L2.St} {H : Hp} {s : Shared}
mutual
theorem KeyV.is (I : Inv X pins σ H s) : ∀ (k : NestedKey) (v : V) (u : Value), KeyV H k v → RelV v u → NestedIs s.heap k u
  | _, _, u, .non, r => by cases (show u = Value.none from r); exact .none
  | _, _, u, .bl b, r => by cases (show u = Value.bool b from r); exact .bool rfl
  | _, _, u, .int i, r => by obtain ⟨t, rfl⟩ := r; exact .int i t
  | _, _, u, .str z, r => by obtain ⟨t, rfl⟩ := r; exact .text z t
  | _, _, u, .tup (a := a) (vs := vs) (ks := ks) e h, r => by
    cases (show u = Value.ref a from r)
    obtain ⟨its, rv, ⟨o, ho, hc, n, hd⟩, _⟩ := I.tuple (SqT.of (K := X.K) e)
    exact .tup ho hc hd (by simpa using KeyVs.is I ks vs its h rv)
theorem KeyVs.is (I : Inv X pins σ H s) : ∀ (ks : List NestedKey) (vs : List V) (us : List Value), KeyVs H ks vs → Vals vs us → NestedAll s.heap ks us
  | _, _, _, .nil, .nil => .nil
  | _, _, _, .cons a b, .cons r rs => .cons (KeyV.is I _ _ _ a r) (KeyVs.is I _ _ _ b rs)
end
end
/-- the set at a, without its keys' tuples -/
def N0 (w : World) (h : Heap) (a : Addr) (L : List (Addr × NestedKey)) : Prop := ∃ (es : Array (Int × Value)) (ep : Nat) (t : SetTable), (∃ o, h.get? a = some o ∧ o.ExactSet ∧ o.data = .set es ep t) ∧ es.toList = rows w L ∧ TabOk t (hsOf w L) ∧ (keys L).Nodup ∧
  (w.params.followText "set-order" = true ∨ t.led = true) ∧ L.length * 5 < t.mask * 3 ∧ L.length < 64
def SN (w : World) (a : Addr) (L : List (Addr × NestedKey)) : HO := .ext fun h => N0 w h a L
theorem NS.n0 {w : World} {h : Heap} {a : Addr} {L : List (Addr × NestedKey)} {es : Array (Int × Value)} {ep : Nat} {t : SetTable} (R : NS w h a L es ep t) : N0 w h a L := ⟨es, ep, t, R.ob, R.row, R.tab, R.nd, R.led, R.room, R.few⟩
theorem N0.ns {w : World} {h : Heap} {a : Addr} {L : List (Addr × NestedKey)} (R : N0 w h a L) (hk : ∀ p ∈ L, IsK h p.2 p.1) : ∃ es ep t, NS w h a L es ep t := by
  obtain ⟨es, ep, t, h1, h2, h3, h4, h5, h6, h7⟩ := R
  exact ⟨es, ep, t, h1, h2, h3, h4, hk, h5, h6, h7⟩
theorem sn_new {P : Program} {w : World} {H : Hp} {h : Heap} {a : Addr} {L : List (Addr × NestedKey)} (R : N0 w h a L) : ObjOk P w H h a (SN w a L) := by
  have ⟨es, ep, t, ⟨o, ho, r⟩, q⟩ := R
  refine ⟨R, ⟨o, ho⟩, fun h1 h2 p k => ?_⟩
  obtain ⟨es', ep', t', ⟨o', ho', r'⟩, q'⟩ := (show N0 w h1 a L from p)
  exact ⟨es', ep', t', ⟨o', k o' ho', r'⟩, q'⟩
/-- the keys of L stand in H -/
def KL (H : Hp) (L : List (Addr × NestedKey)) : Prop := ∀ p ∈ L, KeyV H p.2 (.ref p.1) ∧ p.2.depth ≤ 8
theorem KL.same {H H' : Hp} {L : List (Addr × NestedKey)} (h : KL H L) (s : Same H H') : KL H' L := fun p hp => ⟨KeyV.same s _ _ (h p hp).1, (h p hp).2⟩
section
variable {X : Cx}
theorem sn_get {pins : List (Addr × Obj)} {σ : L2.St} {H : Hp} {s : Shared} {a : Addr} {L : List (Addr × NestedKey)} (I : Inv X pins σ H s) (ha : H a = some (SN X.w a L)) (hk : KL H L) : ∃ es ep t, NS X.w s.heap a L es ep t :=
  N0.ns (I.hok a _ ha).1 fun p hp => ⟨KeyV.is I _ _ _ (hk p hp).1 rfl, (hk p hp).2⟩
/-- k in found, k not in found -/
def rNIn (w : World) (neg : Bool) : R2 := fun x y H Q => ∃ (k : NestedKey) (b a : Addr) (L : List (Addr × NestedKey)), x = .ref b ∧ y = .ref a ∧ H a = some (SN w a L) ∧ KL H L ∧ KeyV H k (.ref b) ∧ k.depth ≤ 8 ∧ Q (.bl (neg != decide (k ∈ keys L))) H
theorem has {P : Program} {w : World} {A : Around} {E : Value → Shared → Prop} {s : Shared} {a x : Addr} {L : List (Addr × NestedKey)} {es : Array (Int × Value)} {ep : Nat} {t : SetTable} {k : NestedKey} (R : NS w s.heap a L es ep t) (hx : IsK s.heap k x) (hu : A.units + 12 < cLine) {Q : Bool → Shared → Prop} (h : Q (decide (k ∈ keys L)) { s with toks := s.toks + k.draws }) :
    wpAny (model P w) A (contains (.ref a) (.ref x)) Q E s := by
  obtain ⟨o, ho, hex, hd⟩ := R.ob
  have hT : s.TypeIs (.ref a) "set" := ⟨o, ho, hex.1⟩
  unfold contains
  try with_reducible refine wpAny_holding ?_
  refine wpAny_bind (wpAny_specialOf hT PySem.F.slot_set_contains.lookup ?_)
  show wpAny _ _ (if (some (Value.builtin "set.__contains__") == some Value.none) = true then _ else _) _ E s
  rw [if_neg (by rw [beq_builtin_none]; exact Bool.false_ne_true)]
  refine wpAny_bind (wpAny_callSpecialUnlessNone?_slot (name := Str.ofString "__contains__") hT PySem.F.slot_set_contains (wpAny_call_entry PySem.F.slot_set_contains hT entry_set_contains ?_ (PySem.F.args_set_contains_2 _ _)))
  unfold Builtin.«frozenset.__contains__» Builtin.Frozenset.oneOther
  simp only [List.isEmpty_nil, bind_assoc]
  unfold Builtin.Frozenset.addrOf Builtin.Frozenset.withSetAsKey
  refine wpAny_bind (wpAny_pure ?_)
  try dsimp only
  refine wpAny_bind (wpAny_pure ?_)
  try dsimp only
  refine wpAny_bind (wpAny_tryCatch (R.mem hx (by first | (show A.units + 1 + 8 < cLine; omega) | (show A.units + 8 < cLine; omega)) ?_))
  show wpAny _ _ (ret (Value.bool (decide (k ∈ keys L)))) _ _ _
  exact wpAny_pure ⟨_, rfl, wpAny_truthy_bool h⟩
theorem or_in (hu : X.A.units + 64 < cLine) : OpR X (compareOp .In) (rNIn X.w false) := by
  intro pins s σ H x y v u Q I rx ry h
  obtain ⟨k, b, a, L, rfl, rfl, ha, hL, hk, h8, q⟩ := h
  cases (show v = Value.ref b from rx)
  cases (show u = Value.ref a from ry)
  obtain ⟨es, ep, t, R⟩ := sn_get I ha hL
  show wpAny _ _ (do return Value.bool (← contains (.ref a) (.ref b))) _ _ s
  exact wpAny_bind (has R ⟨KeyV.is I _ _ _ hk rfl, h8⟩ (by omega) (wpAny_pure ⟨.bl _, H, I.tok _, rfl, by simpa using q⟩))
theorem or_notin (hu : X.A.units + 64 < cLine) : OpR X (compareOp .NotIn) (rNIn X.w true) := by
  intro pins s σ H x y v u Q I rx ry h
  obtain ⟨k, b, a, L, rfl, rfl, ha, hL, hk, h8, q⟩ := h
  cases (show v = Value.ref b from rx)
  cases (show u = Value.ref a from ry)
  obtain ⟨es, ep, t, R⟩ := sn_get I ha hL
  show wpAny _ _ (do return Value.bool (!(← contains (.ref a) (.ref b)))) _ _ s
  exact wpAny_bind (has R ⟨KeyV.is I _ _ _ hk rfl, h8⟩ (by omega) (wpAny_pure ⟨.bl _, H, I.tok _, rfl, by simpa using q⟩))
/-- found.add(k) -/
def rNAdd (w : World) : V → List V → Hp → VK → Prop := fun x xs H Q => ∃ (a b : Addr) (k : NestedKey) (L : List (Addr × NestedKey)), x = .ref a ∧ xs = [.ref b] ∧ H a = some (SN w a L) ∧ KL H L ∧ KeyV H k (.ref b) ∧ k.depth ≤ 8 ∧ L.length + 1 < 64 ∧
  (k ∈ keys L → Q .non H) ∧ (k ∉ keys L → ∀ L' : List (Addr × NestedKey), L'.Perm ((b, k) :: L) → Q .non (upd H a (SN w a L')))
theorem mt_add (hu : X.A.units + 64 < cLine) : MtR X "set.add" (rNAdd X.w) := by
  intro pins s σ H x xs v us Q I rx rxs h
  obtain ⟨a, b, k, L, rfl, rfl, ha, hL, hk, h8, few, q1, q2⟩ := h
  cases (show v = Value.ref a from rx)
  obtain ⟨u, rfl, ru⟩ := rxs.one
  cases (show u = Value.ref b from ru)
  obtain ⟨es, ep, t, R⟩ := sn_get I ha hL
  have hx : IsK s.heap k b := ⟨KeyV.is I _ _ _ hk rfl, h8⟩
  obtain ⟨o, ho, hex, hd⟩ := R.ob
  refine wpAny_call_entry PySem.F.slot_set_add ⟨o, ho, hex.1⟩ PySem.F.entry_set_add ?_ (PySem.F.args_set_add_2 _ _)
  unfold Builtin.«set.add» Builtin.Frozenset.oneOther
  simp only [List.isEmpty_nil, bind_assoc]
  unfold Builtin.Frozenset.addrOf setAdd
  refine wpAny_bind (wpAny_pure ?_)
  try dsimp only
  refine wpAny_bind (wpAny_pure ?_)
  try dsimp only
  refine wpAny_bind (wpAny_holding (wpAny_bind ((nestedKind X.prog X.w).pyHash (by first | (show X.A.units + 1 + 8 < cLine; omega) | (show X.A.units + 8 < cLine; omega)) hx ?_)))
  have R1 : NS X.w ({ s with toks := s.toks + k.draws } : Shared).heap a L es ep t := R
  refine R1.add hx (by first | (show X.A.units + 1 + 8 < cLine; omega) | (show X.A.units + 8 < cLine; omega)) few (fun hm => ?_) fun h' L' es' ep' t' hm sb R' pm => ?_
  · show wpAny _ _ (ret Value.none) _ _ _
    exact wpAny_pure ⟨_, rfl, .non, H, I.tok _, rfl, q1 hm⟩
  · show wpAny _ _ (ret Value.none) _ _ _
    have he : ∃ u, h'.get? a = some u := by
      obtain ⟨o', ho', _⟩ := R'.ob
      exact ⟨o', ho'⟩
    exact wpAny_pure ⟨_, rfl, .non, upd H a (SN X.w a L'), I.write (e := a) (t' := s.toks + k.draws) (by rw [ha]; trivial) (.inl rfl) (fun c u hc hu => (sb.2 c hc).trans hu) he (sn_new R'.n0), rfl, q2 hm L' pm⟩
end
end NSet

set_option maxHeartbeats 4000000
/-! set(l), l a list of whole numbers; then sorted can tell its members -/
namespace RtL
open PySem PySem.Spec PyProof.Rows L2
abbrev noneIn (w : World) : Obj := { cls := .type "set", dict := none, data := .set #[] 0 (.fresh 0 0 (!w.params.followText "set-order")) }
section
variable {P : Program} {w : World} {A : Around} {E : Value → Shared → Prop} {s : Shared}
theorem set_of_list {l : Addr} {items : Array Value} (ns : List Int) {Q : Value → Shared → Prop} (hh : A.handled = none) (hl : s.heap.IsList l items) (hi : IntsAre items.toList ns) (hb : ns.length + 1 < scanBound)
    (h : ∀ (h' : Heap) (tk c : Nat), SetR w h' s.heap.objs.size (fun j => decide (j ∈ ns)) c → c ≤ ns.length → (∀ b o, s.heap.get? b = some o → h'.get? b = some o) → Q (.ref s.heap.objs.size) { s with heap := h', toks := tk }) :
    wpAny (model P w) A (call (.type "set") [.ref l]) Q E s := by
  have sz : items.size = ns.length := by rw [← Array.length_toList]; exact IntsAre.length hi
  have ls : l < s.heap.objs.size := by
    obtain ⟨o, e, _⟩ := hl
    exact Heap.lt_size e
  obtain ⟨c, tl, hmro⟩ := PySem.F.called_set.mro
  have hmade := PySem.F.called_set.made
  have hsub := PySem.F.called_set.sub
  have h1 := PySem.F.called_set.notType
  have h2 := PySem.F.called_set.canCreate
  have hct := PySem.F.typeCall_set_1 (.ref l)
  have hli := PySem.F.called_set.init.lookup
  refine wpAny_call (codeAny_of_tree ?_)
  refine wpAny_pure ⟨Code.quiet_builtin _ (by decide +kernel), codeAny_builtin PySem.F.entry_type_call ?_⟩
  rw [Around.under_plain (weight_type_call_type "set" [.ref l] []) rfl]
  repeat (any_goals (first | assumption | wp_step))
  refine codeAny_mono (code_set_led1 (.ref l) (E := E) (Q₁ := fun obj s₁ => obj = .ref s.heap.objs.size ∧ s₁ = { s with heap := s.heap.push (noneIn w) }) ⟨rfl, rfl⟩) fun r s₁ hr => ?_
  match r, hr with
  | .error e, hr => exact hr
  | .ok .next, hr => exact hr.elim
  | .ok .brk, hr => exact hr.elim
  | .ok .cont, hr => exact hr.elim
  | .ok (.ret obj), hr =>
    obtain ⟨rfl, rfl⟩ := hr
    have hS : (s.heap.push (noneIn w)).get? s.heap.objs.size = some (noneIn w) := Heap.get?_push_size _ rfl
    have hT : Shared.TypeIs { s with heap := s.heap.push (noneIn w) } (.ref s.heap.objs.size) "set" := ⟨_, hS, rfl⟩
    have hbi := PySem.F.called_set.init.bind (.ref s.heap.objs.size)
    have z1 : (s.heap.push (noneIn w)).objs.size = s.heap.objs.size + 1 := Heap.size_push ..
    repeat (any_goals (first | assumption | wp_step))
    refine codeAny_mono (codeAny_call_builtin (R := wants (fun r s₂ => r = .none ∧ ∃ h' tk c, s₂ = { s with heap := h', toks := tk } ∧ SetR w h' s.heap.objs.size (fun j => decide (j ∈ ns)) c ∧ c ≤ ns.length ∧
      (∀ b o, s.heap.get? b = some o → h'.get? b = some o)) E) PySem.F.called_set.init.plain PySem.F.entry_set_init (check_set_init_1 hT ?_)) fun r₂ s₂ hr₂ => ?_
    · obtain ⟨⟨oc, od, odt, osl⟩, hol, hcl, nl, hdl⟩ := hl
      simp only at hcl hdl
      subst hcl hdl
      have hol' := Heap.get?_push_of_some (noneIn w) hol
      have hsls := PySem.F.sub_list_set
      have hslf := PySem.F.sub_list_frozenset
      have hne : (Value.type "list" == Value.type "dict") = false := by decide
      have hl1 : (s.heap.push (noneIn w)).IsList l items := ⟨_, hol', rfl, nl, rfl⟩
      unfold Builtin.«set.__init__» noKeywords Builtin.Frozenset.updateFrom
      generalize hPI : pyIter = PI
      wp_walk
      subst hPI
      refine wpAny_pyIter_list hl1 (wpAny_bind (wpAny_runValue ?_))
      have hh3 : A.in1.in1.in1.handled = none := by simp [hh]
      have nI : l ≠ (s.heap.push (noneIn w)).objs.size := by rw [z1]; exact Nat.ne_of_lt (Nat.lt_succ_of_lt ls)
      have nS : s.heap.objs.size ∉ [(s.heap.push (noneIn w)).objs.size, l] := by
        rw [z1]
        simp only [List.mem_cons, List.mem_singleton, List.not_mem_nil, or_false, not_or]
        exact ⟨Nat.ne_of_lt (Nat.lt_succ_self _), Nat.ne_of_gt ls⟩
      have hval : ∀ (i : Nat) (v : Value), items[i]? = some v → ∃ k t, ns[i]? = some k ∧ v = .int k t := fun i v hv => by
        have hlt : i < ns.length := by rw [← sz]; exact (Array.getElem?_eq_some_iff.mp hv).1
        obtain ⟨t, e⟩ := IntsAre.int_at hi i v (by rw [Array.getElem?_toList]; exact hv)
        exact ⟨ns[i], t, List.getElem?_eq_getElem hlt, by rw [e, List.getD_eq_getElem?_getD, List.getElem?_eq_getElem hlt] <;> rfl⟩
      refine set_update_ints ((Walks.list hh3 _ l nI items).toS) s.heap.objs.size nS ns sz hb hval (items.size - 0) 0 _ (by omega) (Nat.zero_le _) ⟨⟨_, Heap.get?_push_size _ rfl, rfl, rfl⟩, hl1.push _⟩
        ⟨0, Nat.le_refl 0, setR_new_at (Heap.get?_push_of_some _ hS)⟩ fun s' c' hm hc' hS' => ?_
      obtain ⟨h', g2, d', tk', os'⟩ := s'
      cases (show g2 = s.gens from hm.gens)
      cases (show d' = s.drawn from hm.drawn)
      cases (show os' = s.os from hm.os)
      rw [sz] at hc'
      show wpAny _ _ _ _ _ _
      refine wpAny_pure ?_
      show wpAny _ _ (ret Value.none) _ _ _
      refine wpAny_pure ⟨rfl, h', tk', c', rfl, hS', hc', fun b o e => ?_⟩
      have hb0 : b < s.heap.objs.size := Heap.lt_size e
      refine hm.heap b o ?_ (Heap.get?_push_of_some _ (Heap.get?_push_of_some _ e))
      rw [z1]
      simp only [List.mem_cons, List.mem_singleton, List.not_mem_nil, or_false, not_or]
      exact ⟨Nat.ne_of_lt hb0, Nat.ne_of_lt (Nat.lt_succ_of_lt hb0)⟩
    · match r₂, hr₂ with
      | .error e, hr₂ => exact hr₂
      | .ok .next, hr₂ => exact hr₂.elim
      | .ok .brk, hr₂ => exact hr₂.elim
      | .ok .cont, hr₂ => exact hr₂.elim
      | .ok (.ret r), hr₂ =>
        obtain ⟨rfl, h', tk, c', rfl, hS', hc', hk'⟩ := hr₂
        repeat (any_goals (first | assumption | wp_step))
        exact h _ _ _ hS' hc' hk'
end
end RtL

set_option maxHeartbeats 4000000
/-! set(l), l a list of nested tuples -/
namespace NSet
open PySem PySem.Spec PyProof.Rows L2 RtL
/-- what a set has got from ks -/
structure Ga (ks L : List (Addr × NestedKey)) : Prop where
  sub : ∀ p ∈ L, p ∈ ks
  all : ∀ p ∈ ks, p.2 ∈ keys L
  len : L.length ≤ ks.length
theorem Ga.nil : Ga [] [] := ⟨fun p h => (by cases h), fun p h => (by cases h), Nat.le_refl _⟩
theorem Ga.old {ks L : List (Addr × NestedKey)} {x : Addr × NestedKey} (g : Ga ks L) (h : x.2 ∈ keys L) : Ga (ks ++ [x]) L := ⟨fun p hp => List.mem_append_left _ (g.sub p hp), fun p hp => by
  rcases List.mem_append.mp hp with z | z
  · exact g.all p z
  · rw [List.mem_singleton.mp z]; exact h, by rw [List.length_append]; exact Nat.le_trans g.len (Nat.le_add_right _ _)⟩
theorem Ga.new {ks L L' : List (Addr × NestedKey)} {x : Addr × NestedKey} (g : Ga ks L) (pm : L'.Perm (x :: L)) : Ga (ks ++ [x]) L' := ⟨fun p hp => by
  rcases List.mem_cons.mp (pm.mem_iff.mp hp) with z | z
  · rw [z]; exact List.mem_append_right _ List.mem_cons_self
  · exact List.mem_append_left _ (g.sub p z), fun p hp => by
  refine (pm.map (·.2)).mem_iff.mpr ?_
  rcases List.mem_append.mp hp with z | z
  · exact List.mem_cons_of_mem _ (g.all p z)
  · rw [List.mem_singleton.mp z]; exact List.mem_cons_self, by
  have := pm.length_eq
  have := g.len
  rw [List.length_append]
  simp only [List.length_cons, List.length_nil] at *
  omega⟩
section
variable {P : Program} {w : World} {A : Around} {E : Value → Shared → Prop} {s : Shared}
theorem ns_fresh {h : Heap} {a : Addr} (ho : h.get? a = some (noneIn w)) : NS w h a [] #[] 0 (.fresh 0 0 (!w.params.followText "set-order")) where
  ob := ⟨_, ho, ⟨rfl, rfl, rfl⟩, rfl⟩
  row := rfl
  tab := ⟨List.Pairwise.nil, rfl, rfl, .inl rfl, fun x hx => (by cases hx), fun i h j hi => (by simp at hi)⟩
  nd := List.nodup_nil
  key := fun p hp => (by cases hp)
  led := by
    show _ ∨ (!w.params.followText "set-order") = true
    cases w.params.followText "set-order"
    · exact .inr rfl
    · exact .inl rfl
  room := by show 0 * 5 < 7 * 3; decide
  few := by show 0 < 64; decide
theorem NS.keep {h h' : Heap} {a : Addr} {L : List (Addr × NestedKey)} {es : Array (Int × Value)} {ep : Nat} {t : SetTable} (R : NS w h a L es ep t) (ha : ∀ o, h.get? a = some o → h'.get? a = some o) (hk : ∀ p ∈ L, IsK h' p.2 p.1) : NS w h' a L es ep t := by
  obtain ⟨o, ho, r⟩ := R.ob
  exact ⟨⟨o, ha o ho, r⟩, R.row, R.tab, R.nd, hk, R.led, R.room, R.few⟩
/-- the loop of set.update -/
theorem upd_loop {I : Addr} {fp wr : List Addr} {G : Array GenState → Array GenState → Prop} {n : Nat} {Pv : Nat → Value → Prop} {St : Nat → Shared → Prop} {R : Result → Shared → Prop} (W : WalksS P w A.in1 I fp wr G n Pv St) (S : Addr) (hSf : S ∉ fp) (ks : List (Addr × NestedKey)) (hn : n = ks.length) (few : ks.length < 64)
    (hval : ∀ i v, Pv i v → ∃ p, ks[i]? = some p ∧ v = .ref p.1) (h0 : Heap) (hk : ∀ p ∈ ks, IsK h0 p.2 p.1) (hS0 : h0.get? S = none) (hw0 : ∀ b ∈ wr, h0.get? b = none) (hu : A.in1.units + 8 < cLine) :
    ∀ (k i : Nat) (s : Shared), n - i = k → i ≤ n → St i s → (∀ b o, h0.get? b = some o → s.heap.get? b = some o) → (∃ L es ep t, NS w s.heap S L es ep t ∧ Ga (ks.take i) L) →
      (∀ s' L es ep t, Moved (S :: wr) G s s' → NS w s'.heap S L es ep t → Ga ks L → (∀ b o, h0.get? b = some o → s'.heap.get? b = some o) → R (.ok (.ret .none)) s') →
      codeAny (model P w) A (.builtin "set.update.loop" ⟨[.ref S, .ref I], []⟩) R s := by
  have hSw : S ∉ wr := fun h => hSf (W.sub _ h)
  have wider : ∀ b ∈ wr, b ∈ S :: wr := fun b hb => List.mem_cons_of_mem _ hb
  have on : ∀ {s s' : Shared}, Moved wr G s s' → (∀ b o, h0.get? b = some o → s.heap.get? b = some o) → ∀ b o, h0.get? b = some o → s'.heap.get? b = some o := fun hm hkp b o e => hm.heap b o (fun hb => by rw [hw0 b hb] at e; cases e) (hkp b o e)
  have moved : ∀ {s s' : Shared} {L : List (Addr × NestedKey)} {es : Array (Int × Value)} {ep : Nat} {t : SetTable} {i : Nat}, Moved wr G s s' → (∀ b o, h0.get? b = some o → s'.heap.get? b = some o) → NS w s.heap S L es ep t → Ga (ks.take i) L → NS w s'.heap S L es ep t := fun hm hkp hS g =>
    hS.keep (fun o e => hm.heap S o hSw e) fun p hp => keep_all (hk p (List.mem_of_mem_take (g.sub p hp))) hkp
  intro k
  induction k with
  | zero =>
    intro i s hk' hi hst hkp ⟨L, es, ep, t, hS, g⟩ hR
    have hin : i = n := by omega
    subst hin
    refine codeAny_builtin F.entry_set_update_loop ?_
    rw [Around.under_plainId F.plain_set_update_loop _]
    show wpAny _ A.in1 (pyNext (.ref I) >>= _) _ _ s
    refine wpAny_bind (W.done s _ _ hst fun s' hm => ?_)
    show wpAny _ A.in1 (ret Value.none) _ _ s'
    have hS' := moved hm (on hm hkp) hS g
    rw [List.take_of_length_le (by omega)] at g
    exact wpAny_pure (hR s' L es ep t (hm.mono wider) hS' g (on hm hkp))
  | succ k ih =>
    intro i s hk' hi hst hkp ⟨L, es, ep, t, hS, g⟩ hR
    have hlt : i < n := by omega
    refine codeAny_builtin F.entry_set_update_loop ?_
    rw [Around.under_plainId F.plain_set_update_loop _]
    show wpAny _ A.in1 (pyNext (.ref I) >>= _) _ _ s
    refine wpAny_bind (W.item i s _ _ hlt hst fun v s' hP hst' hm => ?_)
    obtain ⟨p, hp, rfl⟩ := hval i v hP
    have hkp' := on hm hkp
    have hS' := moved hm hkp' hS g
    have hx : IsK s'.heap p.2 p.1 := keep_all (hk p (List.mem_of_getElem? hp)) hkp'
    have tk : ks.take (i + 1) = ks.take i ++ [p] := by rw [List.take_add_one, hp]; rfl
    have g0 := g.len
    rw [List.length_take] at g0
    show wpAny _ A.in1 (holding [Value.ref p.1] (setAdd S (.ref p.1)) >>= _) _ _ s'
    refine wpAny_bind (wpAny_holding ?_)
    unfold setAdd
    refine wpAny_holding (wpAny_bind ((nestedKind P w).pyHash hu hx ?_))
    have R1 : NS w ({ s' with toks := s'.toks + p.2.draws } : Shared).heap S L es ep t := hS'
    refine R1.add hx hu (by omega) (fun hm2 => ?_) fun h' L' es' ep' t' hm2 sb R' pm => ?_
    · refine wpAny_pure ⟨plainId_quiet F.plain_set_update_loop _, ih (i + 1) _ (by omega) hlt (W.frame _ s' _ _ hst' (Nat.le_add_right _ _) fun b hb o e => e) hkp' ⟨L, es, ep, t, hS', by rw [tk]; exact g.old hm2⟩ fun s'' L2 es2 ep2 t2 hm'' hS'' g'' hkp'' => ?_⟩
      exact hR s'' L2 es2 ep2 t2 (Moved.trans W.gtrans ((hm.mono wider).then_heap (Nat.le_add_right _ _) fun b o hb e => e) hm'') hS'' g'' hkp''
    · have hkp2 : ∀ b o, h0.get? b = some o → h'.get? b = some o := fun b o e => (sb.2 b (fun z => by rw [z, hS0] at e; cases e)).trans (hkp' b o e)
      refine wpAny_pure ⟨plainId_quiet F.plain_set_update_loop _, ih (i + 1) _ (by omega) hlt (W.frame _ s' _ _ hst' (Nat.le_add_right _ _) fun b hb o e => ?_) hkp2 ⟨L', es', ep', t', R', by rw [tk]; exact g.new pm⟩ fun s'' L2 es2 ep2 t2 hm'' hS'' g'' hkp'' => ?_⟩
      · rw [sb.2 b (fun h : b = S => hSf (by rw [← h]; exact hb))]; exact e
      · refine hR s'' L2 es2 ep2 t2 (Moved.trans W.gtrans ((hm.mono wider).then_heap (Nat.le_add_right _ _) fun b o hb e => ?_) hm'') hS'' g'' hkp''
        rw [sb.2 b (fun h : b = S => hb (by rw [h]; exact List.mem_cons_self))]; exact e
end
end NSet

set_option maxHeartbeats 4000000
namespace NSet
open PySem PySem.Spec PyProof.Rows L2 RtL
section
variable {P : Program} {w : World} {A : Around} {E : Value → Shared → Prop} {s : Shared}
theorem set_list {l : Addr} {items : Array Value} (ks : List (Addr × NestedKey)) {Q : Value → Shared → Prop} (hh : A.handled = none) (hl : s.heap.IsList l items) (hi : items.toList = ks.map fun p => Value.ref p.1) (hk : ∀ p ∈ ks, IsK s.heap p.2 p.1) (few : ks.length < 64) (hu : A.units + 20 < cLine)
    (h : ∀ (h' : Heap) (tk : Nat) L es ep t, NS w h' s.heap.objs.size L es ep t → Ga ks L → (∀ b o, s.heap.get? b = some o → h'.get? b = some o) → Q (.ref s.heap.objs.size) { s with heap := h', toks := tk }) :
    wpAny (model P w) A (call (.type "set") [.ref l]) Q E s := by
  have sz : items.size = ks.length := by rw [← Array.length_toList, hi, List.length_map]
  have ls : l < s.heap.objs.size := by
    obtain ⟨o, e, _⟩ := hl
    exact Heap.lt_size e
  obtain ⟨c, tl, hmro⟩ := PySem.F.called_set.mro
  have hmade := PySem.F.called_set.made
  have hsub := PySem.F.called_set.sub
  have h1 := PySem.F.called_set.notType
  have h2 := PySem.F.called_set.canCreate
  have hct := PySem.F.typeCall_set_1 (.ref l)
  have hli := PySem.F.called_set.init.lookup
  refine wpAny_call (codeAny_of_tree ?_)
  refine wpAny_pure ⟨Code.quiet_builtin _ (by decide +kernel), codeAny_builtin PySem.F.entry_type_call ?_⟩
  rw [Around.under_plain (weight_type_call_type "set" [.ref l] []) rfl]
  repeat (any_goals (first | assumption | wp_step))
  refine codeAny_mono (code_set_led1 (.ref l) (E := E) (Q₁ := fun obj s₁ => obj = .ref s.heap.objs.size ∧ s₁ = { s with heap := s.heap.push (noneIn w) }) ⟨rfl, rfl⟩) fun r s₁ hr => ?_
  match r, hr with
  | .error e, hr => exact hr
  | .ok .next, hr => exact hr.elim
  | .ok .brk, hr => exact hr.elim
  | .ok .cont, hr => exact hr.elim
  | .ok (.ret obj), hr =>
    obtain ⟨rfl, rfl⟩ := hr
    have hS : (s.heap.push (noneIn w)).get? s.heap.objs.size = some (noneIn w) := Heap.get?_push_size _ rfl
    have hT : Shared.TypeIs { s with heap := s.heap.push (noneIn w) } (.ref s.heap.objs.size) "set" := ⟨_, hS, rfl⟩
    have hbi := PySem.F.called_set.init.bind (.ref s.heap.objs.size)
    have z1 : (s.heap.push (noneIn w)).objs.size = s.heap.objs.size + 1 := Heap.size_push ..
    repeat (any_goals (first | assumption | wp_step))
    refine codeAny_mono (codeAny_call_builtin (R := wants (fun r s₂ => r = .none ∧ ∃ h' tk L es ep t, s₂ = { s with heap := h', toks := tk } ∧ NS w h' s.heap.objs.size L es ep t ∧ Ga ks L ∧
      (∀ b o, s.heap.get? b = some o → h'.get? b = some o)) E) PySem.F.called_set.init.plain PySem.F.entry_set_init (check_set_init_1 hT ?_)) fun r₂ s₂ hr₂ => ?_
    · obtain ⟨⟨oc, od, odt, osl⟩, hol, hcl, nl, hdl⟩ := hl
      simp only at hcl hdl
      subst hcl hdl
      have hol' := Heap.get?_push_of_some (noneIn w) hol
      have hsls := PySem.F.sub_list_set
      have hslf := PySem.F.sub_list_frozenset
      have hne : (Value.type "list" == Value.type "dict") = false := by decide
      have hl1 : (s.heap.push (noneIn w)).IsList l items := ⟨_, hol', rfl, nl, rfl⟩
      unfold Builtin.«set.__init__» noKeywords Builtin.Frozenset.updateFrom
      generalize hPI : pyIter = PI
      wp_walk
      subst hPI
      refine wpAny_pyIter_list hl1 (wpAny_bind (wpAny_runValue ?_))
      have hh3 : A.in1.in1.in1.handled = none := by simp [hh]
      have nI : l ≠ (s.heap.push (noneIn w)).objs.size := by rw [z1]; exact Nat.ne_of_lt (Nat.lt_succ_of_lt ls)
      have nS : s.heap.objs.size ∉ [(s.heap.push (noneIn w)).objs.size, l] := by
        rw [z1]
        simp only [List.mem_cons, List.mem_singleton, List.not_mem_nil, or_false, not_or]
        exact ⟨Nat.ne_of_lt (Nat.lt_succ_self _), Nat.ne_of_gt ls⟩
      have hval : ∀ (i : Nat) (v : Value), items[i]? = some v → ∃ p, ks[i]? = some p ∧ v = .ref p.1 := fun i v hv => by
        have hlt : i < ks.length := by rw [← sz]; exact (Array.getElem?_eq_some_iff.mp hv).1
        refine ⟨ks[i], List.getElem?_eq_getElem hlt, ?_⟩
        rw [← Array.getElem?_toList, hi, List.getElem?_map, List.getElem?_eq_getElem hlt] at hv
        exact (Option.some.inj hv).symm
      have dead : ∀ b, s.heap.objs.size ≤ b → s.heap.get? b = none := fun b hb => by
        cases e : s.heap.get? b with
        | none => rfl
        | some o => exact absurd (Heap.lt_size e) (Nat.not_lt.mpr hb)
      refine upd_loop ((Walks.list hh3 _ l nI items).toS) s.heap.objs.size nS ks sz few hval s.heap hk (dead _ (Nat.le_refl _)) (fun b hb => dead b ?_) (by simp only [Around.in1_units]; omega) (items.size - 0) 0 _ (by omega) (Nat.zero_le _) ⟨⟨_, Heap.get?_push_size _ rfl, rfl, rfl⟩, hl1.push _⟩
        (fun b o e => Heap.get?_push_of_some _ (Heap.get?_push_of_some _ e)) ⟨[], _, _, _, ns_fresh (Heap.get?_push_of_some _ hS), Ga.nil⟩ fun s' L es ep t hm hS' g hkp => ?_
      · rw [List.mem_singleton.mp hb, z1]
        exact Nat.le_succ _
      obtain ⟨h', g2, d', tk', os'⟩ := s'
      cases (show g2 = s.gens from hm.gens)
      cases (show d' = s.drawn from hm.drawn)
      cases (show os' = s.os from hm.os)
      show wpAny _ _ _ _ _ _
      refine wpAny_pure ?_
      show wpAny _ _ (ret Value.none) _ _ _
      exact wpAny_pure ⟨rfl, h', tk', L, es, ep, t, rfl, hS', g, hkp⟩
    · match r₂, hr₂ with
      | .error e, hr₂ => exact hr₂
      | .ok .next, hr₂ => exact hr₂.elim
      | .ok .brk, hr₂ => exact hr₂.elim
      | .ok .cont, hr₂ => exact hr₂.elim
      | .ok (.ret r), hr₂ =>
        obtain ⟨rfl, h', tk, L, es, ep, t, rfl, hS', g, hk'⟩ := hr₂
        repeat (any_goals (first | assumption | wp_step))
        exact h _ _ _ _ _ _ hS' g hk'
end
theorem refs_of_keys : ∀ {ks : List (Addr × NestedKey)} {us : List Value}, Vals (ks.map fun p => V.ref p.1) us → us = ks.map fun p => Value.ref p.1
  | [], _, .nil => rfl
  | p :: ks, _, .cons r t => by
    cases r
    rw [refs_of_keys t]
    rfl
section
variable {X : Cx}
/-- set(l), l a list of keys -/
def rNSet (K : PySem.W.Frag) (w : World) : List V → Hp → VK → Prop := fun vs H Q => ∃ (l : Addr) (ks : List (Addr × NestedKey)), vs = [.ref l] ∧ SqL K H l (ks.map fun p => V.ref p.1) ∧ KL H ks ∧ ks.length < 64 ∧
  ∀ (a : Addr) (L : List (Addr × NestedKey)), H a = none → Ga ks L → (keys L).Nodup → Q (.ref a) (upd H a (SN w a L))
theorem call_setN (hc : X.calm = true) (hu : X.A.units + 64 < cLine) : CallR X (.type "set") (rNSet X.K X.w) := by
  intro pins s σ H vs us Q I r h
  obtain ⟨l, ks, rfl, hl, hk, few, q⟩ := h
  rw [Vals.ref1 r]
  obtain ⟨its, rv, ⟨o, n, ho, hcl, hdn, hd⟩, _⟩ := I.list hl
  refine set_list (P := X.prog) (w := X.w) ks (I.ok.hd hc) ⟨o, ho, hcl, n, hd⟩ (by simpa using refs_of_keys rv) (fun p hp => ⟨KeyV.is I _ _ _ (hk p hp).1 rfl, (hk p hp).2⟩) few (by omega) fun h' tk L es ep t R g keep => ?_
  exact ⟨.ref _, upd H s.heap.objs.size (SN X.w s.heap.objs.size L), I.laid (t' := tk) keep (Nat.le_refl _) (sn_new R.n0), rfl, q _ L (I.hok.fresh (Nat.le_refl _)) g R.nd⟩
end
end NSet

set_option maxHeartbeats 4000000
/-! sorted(l), l a list of data of one shape (tuples of tuples ..) -/
namespace NSet
open PySem PySem.Spec PyProof.Rows L2
open PySem.W (EachIs AllAlike Sortable dataLe sorted_data)
theorem each_vals {bs : List (V × PyData)} {us : List Value} (h : Vals (bs.map (·.1)) us) : EachIs (fun (u : Value) (b : V × PyData) => RelV b.1 u) us bs := by
  induction bs generalizing us with
  | nil => cases h; exact .nil
  | cons b bs ih =>
    cases h with
    | cons r rs => exact .cons r (ih rs)
theorem vals_each {bs : List (V × PyData)} {us : List Value} (h : EachIs (fun (u : Value) (b : V × PyData) => RelV b.1 u) us bs) : Vals (bs.map (·.1)) us := by
  induction h with
  | nil => exact .nil
  | cons r _ ih => exact .cons r ih
section
variable {X : Cx}
/-- sorted(l) of data -/
def rSortD (K : PySem.W.Frag) : List V → Hp → VK → Prop := fun vs H Q => ∃ (l : Addr) (bs : List (V × PyData)), vs = [.ref l] ∧ SqL K H l (bs.map (·.1)) ∧ (∀ b ∈ bs, Dp K H b.1 b.2 ∧ b.2.depth ≤ 20) ∧ AllAlike (bs.map (·.2)) ∧ Sortable (bs.map (·.2)) ∧
  ∀ p, H p = none → Q (.ref p) (upd H p (.lst ((bs.mergeSort (dataLe false fun b => b.2)).map (·.1))))
theorem cr_sortedD (hu : X.A.units + 64 < cLine) : CallR X (.builtin "sorted") (rSortD X.K) := by
  intro pins s σ H vs us Q I r h
  obtain ⟨l, bs, rfl, hs, hd, hal, hk, q⟩ := h
  obtain ⟨its, rv, hl, hz⟩ := I.list hs
  rw [Vals.ref1 r]
  have e := each_vals rv
  have er : EachIs (fun (v : Value) (b : V × PyData) => ∃ as, Reads s.heap v b.2 as) its bs := by
    have go : ∀ {us : List Value} {cs : List (V × PyData)}, EachIs (fun (u : Value) (b : V × PyData) => RelV b.1 u) us cs → (∀ b ∈ cs, b ∈ bs) → EachIs (fun (v : Value) (b : V × PyData) => ∃ as, Reads s.heap v b.2 as) us cs := by
      intro us cs h
      induction h with
      | nil => exact fun _ => .nil
      | cons r _ ih => exact fun hm => .cons (Dp.reads I _ _ _ (hd _ (hm _ List.mem_cons_self)).1 r) (ih fun b hb => hm b (List.mem_cons_of_mem _ hb))
    exact go e fun b hb => hb
  rw [List.length_map] at hz
  refine sorted_data (enc := fun b : V × PyData => b.2) hl.isList e er hal hk hz (fun b hb => by have := (hd b hb).2; omega) fun out ho eo => ?_
  obtain ⟨ep, he'⟩ := PyProof.Rows.sortedAll_at s.heap its out.toArray
  have vo := vals_each eo
  have hlen : ((bs.mergeSort (dataLe false fun b => b.2)).map (·.1)).length ≤ sizeLine := by
    rw [List.length_map, (List.mergeSort_perm _ _).length_eq]
    exact hz
  exact ⟨.ref _, upd H (s.heap.objs.size + 1) (.lst ((bs.mergeSort (dataLe false fun b => b.2)).map (·.1))), I.laid (t' := s.toks) (fun _ _ => PyProof.Rows.sortedAll_old) (Nat.le_succ _) ⟨hlen, out, ep, vo, he'⟩, rfl, q _ (I.hok.fresh (Nat.le_succ _))⟩
end
end NSet

set_option maxHeartbeats 4000000
/-! sorted(t), t a tuple of data -/
namespace NSet
open PySem PySem.Spec PySem.Calls PyProof.Rows L2
open PySem.W (EachIs AllAlike Sortable dataLe SortsAt sortVals copyHeap sortingHeap copyHeap_at list_sort_vals sortVals_data each_map bound_map)
section
variable {prog : Program} {w : World} {A : Around} {E : Value → Shared → Prop} {s : Shared}
theorem collect_tup {l : Addr} {vs : List Value} {Q : List Value → Shared → Prop} (hl : s.heap.IsTuple l vs.toArray) (hsz : vs.length ≤ sizeLine)
    (h : Q vs { s with heap := (s.heap.push (seqObj "list" #[] 0)).update s.heap.objs.size (Obj.mapSeq (· ++ vs.toArray)) }) : wpAny (model prog w) A (collect (.ref l)) Q E s := by
  obtain ⟨o, ho, hc, n, hd⟩ := id hl
  have new : (s.heap.push (seqObj "list" #[] 0)).get? s.heap.objs.size = some (seqObj "list" #[] 0) := Heap.get?_push_size _ rfl
  unfold collect
  refine wpAny_bind (wpAny_runValue (codeAny_builtin entry_proto_collect' ?_))
  show wpAny _ _ (do again (.builtin "list.__iadd__" ⟨[← newList [], .ref l], []⟩)) _ _ s
  refine wpAny_bind (wpAny_newList (wpAny_pure ⟨Code.quiet_builtin _ (by decide +kernel), codeAny_builtin entry_list_iadd' ?_⟩))
  show wpAny _ _ (Builtin.List.listExtendWith (.ref s.heap.objs.size) (.ref l) (.ref s.heap.objs.size)) _ _ { s with heap := s.heap.push (seqObj "list" #[] 0) }
  unfold Builtin.List.listExtendWith
  have ho' : (s.heap.push (seqObj "list" #[] 0)).get? l = some o := Heap.get?_push_of_some _ ho
  refine wpAny_bind (wpAny_typeOf (T := "tuple") ⟨o, ho', hc⟩ ?_)
  have ht : (Value.type "tuple" == Value.type "tuple") = true := by rfl
  rw [if_pos (by rw [ht]; simp)]
  refine wpAny_bind (listItems_at ho' hd ?_)
  refine wpAny_bind (listItems_at (xs := #[]) (n := 0) new rfl ?_)
  rw [if_neg (by simp)]
  refine wpAny_bind (listUpdate_at (xs := #[]) (n := 0) new rfl (wpAny_pure ?_) (Nat.zero_le _) (by show (#[] ++ vs.toArray).size ≤ sizeLine + 1; simp only [Array.size_append, List.size_toArray, List.length_nil]; omega))
  show wpAny (model prog w) A (do
      let o ← load s.heap.objs.size
      match o.data with
      | .seq xs _ => pure xs.toList
      | _ => unsupported "internal:collect") Q E { s with heap := (s.heap.push (seqObj "list" #[] 0)).update s.heap.objs.size (Obj.mapSeq (· ++ vs.toArray)) }
  refine wpAny_bind (wpAny_load (get?_update_seq new _) ?_)
  show wpAny _ _ (pure ((#[] : Array Value) ++ vs.toArray).toList) Q E _
  rw [show ((#[] : Array Value) ++ vs.toArray).toList = vs by simp]
  exact wpAny_pure h
theorem sortedT_vals {l : Addr} {vs : List Value} {κ : PyProof.Rows.KeyKind} {Q : Value → Shared → Prop} (hl : s.heap.IsTuple l vs.toArray) (S : SortsAt prog w A.in1.in1 { s with heap := sortingHeap (copyHeap s.heap vs) (s.heap.objs.size + 1) vs } κ vs) (hL : vs.length ≤ sizeLine)
    (h : Q (.ref (s.heap.objs.size + 1)) { s with heap := sortedAll s.heap vs (sortVals κ false vs vs).toArray }) : wpAny (model prog w) A (call (.builtin "sorted") [.ref l]) Q E s := by
  refine call_function_entry_kw (kw := []) kind_sorted plain_sorted entry_sorted (args_sorted1 _) ?_
  unfold Builtin.«sorted»
  refine wpAny_bind (m := checkCount "sorted" 1 1 _) (wpAny_pure (wpAny_bind (collect_tup hl hL (wpAny_bind (wpAny_newList ?_ hL)))))
  have hsz : ((s.heap.push (seqObj "list" #[] 0)).update s.heap.objs.size (Obj.mapSeq (· ++ vs.toArray))).objs.size = s.heap.objs.size + 1 := by rw [Heap.size_update, size_push']
  show wpAny _ _ _ _ _ { s with heap := copyHeap s.heap vs }
  rw [hsz]
  refine wpAny_bind (wpAny_holding (wpAny_call_entry_kw slot_list_sort ⟨_, copyHeap_at s.heap vs, rfl⟩ entry_list_sort ?_ (args_list_sort _)))
  show wpAny (model prog w) A.in1.in1 (Builtin.«list.sort» ⟨[.ref (s.heap.objs.size + 1)], []⟩) _ _ _
  exact list_sort_vals (s := { s with heap := copyHeap s.heap vs }) (copyHeap_at s.heap vs) S hL ⟨_, rfl, wpAny_pure ⟨_, rfl, h⟩⟩
end
section
variable {X : Cx}
/-- sorted(t), t a tuple of data -/
def rSortDT (K : PySem.W.Frag) : List V → Hp → VK → Prop := fun vs H Q => ∃ (l : Addr) (bs : List (V × PyData)), vs = [.ref l] ∧ SqT K H l (bs.map (·.1)) ∧ (∀ b ∈ bs, Dp K H b.1 b.2 ∧ b.2.depth ≤ 20) ∧ AllAlike (bs.map (·.2)) ∧ Sortable (bs.map (·.2)) ∧
  ∀ p, H p = none → Q (.ref p) (upd H p (.lst ((bs.mergeSort (dataLe false fun b => b.2)).map (·.1))))
theorem cr_sortedDT (hu : X.A.units + 64 < cLine) : CallR X (.builtin "sorted") (rSortDT X.K) := by
  intro pins s σ H vs us Q I r h
  obtain ⟨l, bs, rfl, hs, hd, hal, hk, q⟩ := h
  obtain ⟨its, rv, tp, hz⟩ := I.tuple hs
  rw [Vals.ref1 r]
  have e := each_vals rv
  have er : EachIs (fun (v : Value) (b : V × PyData) => ∃ as, Reads s.heap v b.2 as) its bs := by
    have go : ∀ {us : List Value} {cs : List (V × PyData)}, EachIs (fun (u : Value) (b : V × PyData) => RelV b.1 u) us cs → (∀ b ∈ cs, b ∈ bs) → EachIs (fun (v : Value) (b : V × PyData) => ∃ as, Reads s.heap v b.2 as) us cs := by
      intro us cs h
      induction h with
      | nil => exact fun _ => .nil
      | cons r _ ih => exact fun hm => .cons (Dp.reads I _ _ _ (hd _ (hm _ List.mem_cons_self)).1 r) (ih fun b hb => hm b (List.mem_cons_of_mem _ hb))
    exact go e fun b hb => hb
  have hlen0 : its.length = bs.length := e.length
  rw [List.length_map] at hz
  have er' : EachIs (fun (v : Value) (b : V × PyData) => ∃ as, Reads (sortingHeap (copyHeap s.heap its) (s.heap.objs.size + 1) its) v b.2 as) its bs := er.mono fun _ _ ⟨as, r⟩ => ⟨as, PyProof.Rows.Reads.keeps (fun _ _ => PySem.W.sorting_copy_old) r⟩
  refine sortedT_vals (κ := PySem.W.dataKind (sortingHeap (copyHeap s.heap its) (s.heap.objs.size + 1) its) (bs.map fun b => b.2)) (show s.heap.IsTuple l its.toArray from tp)
    (SortsAt.data (s := { s with heap := sortingHeap (copyHeap s.heap its) (s.heap.objs.size + 1) its }) (each_map (R := fun v d => ∃ as, Reads (sortingHeap (copyHeap s.heap its) (s.heap.objs.size + 1) its) v d as) (fun b : V × PyData => b.2) er') hal hk fun d hd' => ?_) (by omega) ?_
  · obtain ⟨b, hb, rfl⟩ := List.mem_map.mp hd'
    have := (hd b hb).2
    simp only [Around.in1_units]
    omega
  · have eo := sortVals_data (enc := fun b : V × PyData => b.2) false e er' hal
    obtain ⟨ep, he'⟩ := PyProof.Rows.sortedAll_at s.heap its (sortVals (PySem.W.dataKind (sortingHeap (copyHeap s.heap its) (s.heap.objs.size + 1) its) (bs.map fun b => b.2)) false its its).toArray
    have hlen : ((bs.mergeSort (dataLe false fun b => b.2)).map (·.1)).length ≤ sizeLine := by
      rw [List.length_map, (List.mergeSort_perm _ _).length_eq]
      exact hz
    exact ⟨.ref _, upd H (s.heap.objs.size + 1) (.lst ((bs.mergeSort (dataLe false fun b => b.2)).map (·.1))), I.laid (t' := s.toks) (fun _ _ => PyProof.Rows.sortedAll_old) (Nat.le_succ _) ⟨hlen, _, ep, vals_each eo, he'⟩, rfl, q _ (I.hok.fresh (Nat.le_succ _))⟩
/-- sorted(t), t a tuple of whole numbers -/
def rSortTI (K : PySem.W.Frag) : List V → Hp → VK → Prop := fun vs H Q => ∃ (t : Addr) (ns : List Int), vs = [.ref t] ∧ SqT K H t (ns.map V.int) ∧
  ∀ (ns' : List Int) (p : Addr), ns'.Perm ns → ns'.Pairwise (· ≤ ·) → H p = none → Q (.ref p) (upd H p (.lst (ns'.map V.int)))
theorem cr_sortedTI (hu : X.A.units + 64 < cLine) : CallR X (.builtin "sorted") (rSortTI X.K) := by
  intro pins s σ H vs us Q I r h
  obtain ⟨t, ns, rfl, hs, q⟩ := h
  have em : (ns.map fun n => (V.int n, PyData.int n)).map (·.1) = ns.map V.int := by rw [List.map_map]; rfl
  refine cr_sortedDT hu pins s σ H _ us Q I r ⟨t, ns.map fun n => (V.int n, PyData.int n), rfl, by rw [em]; exact hs, fun b hb => ?_, ?_, ?_, fun p hp => ?_⟩
  · obtain ⟨n, _, rfl⟩ := List.mem_map.mp hb
    exact ⟨.int n, Nat.zero_le _⟩
  · rw [List.map_map]
    exact AllAlike.of fun _ _ => rfl
  · rw [List.map_map]
    exact Sortable.others fun _ => ⟨(fun z => by cases z), (fun _ z => by cases z)⟩
  · have sm : ((ns.map fun n => (V.int n, PyData.int n)).mergeSort (dataLe false fun b => b.2)) = (ns.mergeSort fun a b => decide (a ≤ b)).map fun n => (V.int n, PyData.int n) := by
      have := PySem.W.sort_maps (r := fun a b : Int => decide (a ≤ b)) (s := dataLe false fun b : V × PyData => b.2) (fun n : Int => (V.int n, PyData.int n)) (l := ns) fun a _ b _ => by
        have e := congrFun (congrFun (PySem.W.dataLe_int (fun n : Int => n)) a) b
        exact e.symm
      exact this.symm
    rw [sm, List.map_map]
    exact q _ p (List.mergeSort_perm _ _) ((List.pairwise_mergeSort (fun a b c h1 h2 => by simp only [decide_eq_true_eq] at *; omega) (fun a b => by simp only [Bool.or_eq_true, decide_eq_true_eq]; omega) ns).imp fun h => of_decide_eq_true h) hp
end
end NSet

set_option maxHeartbeats 1000000
/-! turns: (order, sign); what group_of does, in plain Lean -/
namespace Grp
open PySem
abbrev El := List Nat × Int
def mul (x y : El) : El := (y.1.map fun i => x.1.getD i 0, x.2 * y.2)
def one (n : Nat) : El := (List.range n, 1)
structure Ok (n : Nat) (e : El) : Prop where
  pm : e.1.Perm (List.range n)
  sg : e.2 = 1 ∨ e.2 = -1
theorem Ok.len {n : Nat} {e : El} (h : Ok n e) : e.1.length = n := by rw [h.pm.length_eq, List.length_range]
theorem Ok.lt {n : Nat} {e : El} (h : Ok n e) {i : Nat} (hi : i ∈ e.1) : i < n := List.mem_range.mp (h.pm.mem_iff.mp hi)
theorem map_range (l : List Nat) : (List.range l.length).map (fun i => l.getD i 0) = l := by
  refine List.ext_getElem? fun i => ?_
  rw [List.getElem?_map]
  rcases Nat.lt_or_ge i l.length with h | h
  · rw [List.getElem?_range h, List.getElem?_eq_getElem h]
    show some (l.getD i 0) = _
    rw [List.getD_eq_getElem?_getD, List.getElem?_eq_getElem h]
    rfl
  · rw [List.getElem?_eq_none (by rw [List.length_range]; exact h), List.getElem?_eq_none h]
    rfl
theorem Ok.one {n : Nat} : Ok n (one n) := ⟨List.Perm.refl _, .inl rfl⟩
theorem Ok.mul {n : Nat} {x y : El} (h : Ok n x) (h' : Ok n y) : Ok n (mul x y) := by
  refine ⟨?_, ?_⟩
  · have e := h'.pm.map fun i => x.1.getD i 0
    have r : (List.range n).map (fun i => x.1.getD i 0) = x.1 := by
      have := map_range x.1
      rwa [h.len] at this
    rw [r] at e
    exact e.trans h.pm
  · show x.2 * y.2 = 1 ∨ x.2 * y.2 = -1
    rcases h.sg with a | a <;> rcases h'.sg with b | b <;> rw [a, b] <;> simp
/-! ### there are few of them -/
def ins (x : Nat) : List Nat → List (List Nat)
  | [] => [[x]]
  | y :: ys => (x :: y :: ys) :: (ins x ys).map (y :: ·)
theorem mem_ins (x : Nat) : ∀ (a b : List Nat), a ++ x :: b ∈ ins x (a ++ b)
  | [], [] => List.mem_cons_self
  | [], y :: ys => List.mem_cons_self
  | y :: a, b => List.mem_cons_of_mem _ (List.mem_map.mpr ⟨_, mem_ins x a b, rfl⟩)
def perms : List Nat → List (List Nat)
  | [] => [[]]
  | x :: xs => (perms xs).flatMap (ins x)
theorem mem_perms : ∀ (xs l : List Nat), l.Perm xs → l ∈ perms xs
  | [], l, h => by
    rw [h.eq_nil]
    exact List.mem_cons_self
  | x :: xs, l, h => by
    have hx : x ∈ l := h.mem_iff.mpr List.mem_cons_self
    obtain ⟨a, b, rfl⟩ := List.append_of_mem hx
    have h2 : (a ++ b).Perm xs := (List.Perm.cons_inv (List.perm_middle.symm.trans h))
    exact List.mem_flatMap.mpr ⟨_, mem_perms xs _ h2, mem_ins x a b⟩
def all (n : Nat) : List El := (perms (List.range n)).flatMap fun o => [(o, 1), (o, -1)]
theorem Ok.mem {n : Nat} {e : El} (h : Ok n e) : e ∈ all n := List.mem_flatMap.mpr ⟨e.1, mem_perms _ _ h.pm, by
  obtain ⟨o, g⟩ := e
  rcases h.sg with z | z
  · have z : g = 1 := z
    rw [z]; exact List.mem_cons_self
  · have z : g = -1 := z
    rw [z]; exact List.mem_cons_of_mem _ List.mem_cons_self⟩
theorem all_len : ∀ n : Nat, n ≤ 4 → (all n).length ≤ 48 := by
  intro n h
  match n, h with
  | 0, _ => decide +kernel
  | 1, _ => decide +kernel
  | 2, _ => decide +kernel
  | 3, _ => decide +kernel
  | 4, _ => decide +kernel
  | n + 5, h => omega
theorem nodup_len {α : Type} [DecidableEq α] : ∀ (l D : List α), l.Nodup → (∀ x ∈ l, x ∈ D) → l.length ≤ D.length
  | [], _, _, _ => Nat.zero_le _
  | x :: l, D, hn, h => by
    obtain ⟨h1, h2⟩ := List.nodup_cons.mp hn
    have hx := h x List.mem_cons_self
    have ih := nodup_len l (D.erase x) h2 fun y hy => (List.mem_erase_of_ne (fun e : y = x => h1 (by rw [← e]; exact hy))).mpr (h y (List.mem_cons_of_mem _ hy))
    rw [List.length_erase_of_mem hx] at ih
    have := List.length_pos_of_mem hx
    rw [List.length_cons]
    omega
/-! ### group_of -/
def put (acc : List El) (y : El) : List El := if y ∈ acc then acc else acc ++ [y]
/-- all turns behind x -/
def turnAll (ts : List El) (x : El) (acc : List El) : List El := ts.foldl (fun acc t => put acc (mul x t)) acc
structure Good (n : Nat) (xs : List El) : Prop where
  ok : ∀ e ∈ xs, Ok n e
  nd : xs.Nodup
theorem Good.len {n : Nat} {xs : List El} (h : Good n xs) (hn : n ≤ 4) : xs.length ≤ 48 := Nat.le_trans (nodup_len xs (all n) h.nd fun x hx => (h.ok x hx).mem) (all_len n hn)
theorem Good.put {n : Nat} {xs : List El} {y : El} (h : Good n xs) (hy : Ok n y) : Good n (put xs y) := by
  unfold Grp.put
  split
  · exact h
  · rename_i z
    refine ⟨fun e he => ?_, ?_⟩
    · rcases List.mem_append.mp he with k | k
      · exact h.ok e k
      · rw [List.mem_singleton.mp k]
        exact hy
    · refine List.nodup_append.mpr ⟨h.nd, by simp, fun a ha b hb e => ?_⟩
      rw [List.mem_singleton.mp hb] at e
      exact z (e ▸ ha)
theorem put_pre (xs : List El) (y : El) : ∃ zs, put xs y = xs ++ zs := by
  unfold put
  split
  · exact ⟨[], (List.append_nil _).symm⟩
  · exact ⟨[y], rfl⟩
theorem turn_pre (x : El) : ∀ (ts acc : List El), ∃ zs, turnAll ts x acc = acc ++ zs
  | [], acc => ⟨[], (List.append_nil _).symm⟩
  | t :: ts, acc => by
    obtain ⟨z1, e1⟩ := put_pre acc (mul x t)
    obtain ⟨z2, e2⟩ := turn_pre x ts (put acc (mul x t))
    refine ⟨z1 ++ z2, ?_⟩
    show turnAll ts x (put acc (mul x t)) = _
    rw [e2, e1, List.append_assoc]
theorem Good.turn {n : Nat} {x : El} (hx : Ok n x) : ∀ {ts acc : List El}, (∀ t ∈ ts, Ok n t) → Good n acc → Good n (turnAll ts x acc)
  | [], _, _, h => h
  | t :: ts, _, ht, h => Good.turn hx (ts := ts) (fun u hu => ht u (List.mem_cons_of_mem _ hu)) (h.put (hx.mul (ht t List.mem_cons_self)))
/-- the loop: at the place j of the list -/
def go (ts : List El) : Nat → Nat → List El → List El
  | 0, _, xs => xs
  | f + 1, j, xs => match xs[j]? with
    | none => xs
    | some x => go ts f (j + 1) (turnAll ts x xs)
/-- the group, in the sequence in which it is found -/
def found (n : Nat) (ts : List El) : List El := go ts 48 0 [one n]
/-- with more steps nothing more is found -/
theorem go_stay (ts : List El) : ∀ (f j : Nat) (xs : List El), xs.length ≤ j → go ts f j xs = xs
  | 0, _, _, _ => rfl
  | f + 1, j, xs, h => by
    show (match xs[j]? with | none => xs | some x => go ts f (j + 1) (turnAll ts x xs)) = xs
    rw [List.getElem?_eq_none h]
/-! ### as keys -/
def key (e : El) : NestedKey := .tup [.tup (e.1.map fun i : Nat => NestedKey.num (i : Int)), .num e.2]
theorem nums_inj : ∀ a b : List Nat, a.map (fun i : Nat => NestedKey.num (i : Int)) = b.map (fun i : Nat => NestedKey.num (i : Int)) → a = b
  | [], [], _ => rfl
  | [], _ :: _, h => by cases h
  | _ :: _, [], h => by cases h
  | x :: a, y :: b, h => by
    injection h with h1 h2
    injection h1 with h1
    rw [nums_inj a b h2, Int.ofNat_inj.mp h1]
theorem key_inj {a b : El} (h : key a = key b) : a = b := by
  obtain ⟨o, g⟩ := a
  obtain ⟨o', g'⟩ := b
  unfold key at h
  injection h with h
  injection h with h1 h2
  injection h1 with h1
  injection h2 with h2 _
  injection h2 with h2
  have := nums_inj _ _ h1
  have h2 : g = g' := h2
  have this : o = o' := this
  rw [this, h2]
theorem key_mem {e : El} {xs : List El} : key e ∈ xs.map key ↔ e ∈ xs := ⟨fun h => by
  obtain ⟨y, hy, z⟩ := List.mem_map.mp h
  rw [← key_inj z]
  exact hy, fun h => List.mem_map.mpr ⟨e, h, rfl⟩⟩
theorem nums_depth : ∀ l : List Nat, NestedKey.depthAll (l.map fun i : Nat => NestedKey.num (i : Int)) = 0
  | [] => rfl
  | x :: l => by
    show max 0 (NestedKey.depthAll _) = 0
    rw [nums_depth l]
    rfl
theorem key_depth (e : El) : (key e).depth ≤ 8 := by
  show max (NestedKey.depthAll (e.1.map fun i : Nat => NestedKey.num (i : Int)) + 1) (max 0 0) + 1 ≤ 8
  rw [nums_depth]
  decide
end Grp

set_option maxHeartbeats 4000000
namespace K11
open PySem PySem.Spec PyProof.Rows L2 RtL ErL StX NSet
open Grp (El mul)
theorem same_new {H : Hp} {p : Addr} {o : HO} (hp : H p = none) : Same H (upd H p o) := fun b u e => by
  rw [upd_ne (ne_of_none e hp)]
  exact e
theorem gone {H H1 : Hp} {p : Addr} (s : Same H H1) (h : H1 p = none) : H p = none := by
  cases z : H p with
  | none => rfl
  | some o =>
    rw [s _ _ z] at h
    cases h
section
variable {P : Program} {w : World} {K : Fr} {mg : Str → Option Value} {base : Heap} {f : Addr} {fd : FuncData}
/-- a def that can be called by its name -/
structure Gd (P : Program) (w : World) (K : Fr) (mg : Str → Option Value) (base : Heap) (k : Nat) (x : Str) (f : Addr) (fd : FuncData) (ps : List Str) (sp : Sp) : Prop where
  ok : FnOk P w K mg base CX0 k f fd ps sp
  gl : mg x = some (.ref f)
  kp : PySem.W.keepIn K (.ref f) = true
  bd : Binds K fd ps []
section
variable {X : Cx} {k : Nat} {x : Str} {p pos : Pos} {e : Expr} {es : List Expr} {t : TA} {ps : List Str} {sp : Sp}
theorem pe_gd (C : Gd X.prog X.w X.K X.mg X.base k x f fd ps sp) (hr : Room k X.A) (hg : Gl X x) (ha : PA X (e :: es) t) (hdb : (x == ("__debug__" : Str)) = false := by decide) (he : starEach (e :: es) X.env = (false, eval e X.env) :: starEach es X.env := by rfl)
    (hpl : (backTo pos (starEach es X.env)).any (·.1) = false := by rfl) : PE X (.Call (.Name x p) (e :: es) [] pos) (tCall sp [] E0 t) := pe_call C.ok hr hg C.gl C.kp C.bd .nil pass0 ha hdb he hpl
end
/-! ### rows turned -/
/-- small whole numbers -/
abbrev nv (l : List Nat) : List V := l.map fun i : Nat => V.int (i : Int)
theorem getn {l : List Nat} {i : Nat} {v : V} (h : (nv l)[i]? = some v) : ∃ c : Nat, l[i]? = some c ∧ v = .int (c : Int) := by
  rw [List.getElem?_map] at h
  cases e : l[i]? with
  | none => rw [e] at h; cases h
  | some c =>
    rw [e] at h
    cases h
    exact ⟨c, rfl, rfl⟩
abbrev sTu : Stmt := top 18
theorem scTu : FnScope ["row", "order", "at"] ["row", "order"] (defScope sTu) := ⟨rfl, rfl, rfl, by decide +kernel, rfl, by decide +kernel, by decide +kernel⟩
def spTu (K : Fr) : Sp := fun vs H Q _ => ∃ (r o : Addr) (rs : List V) (l : List Nat), vs = [.ref r, .ref o] ∧ H r = some (.tup rs) ∧ H o = some (.tup (nv l)) ∧ (∀ i ∈ l, i < rs.length) ∧ l.length ≤ 1000 ∧
  ∀ t H', Same H H' → H t = none → H' t = some (.tup (l.map fun i => rs.getD i .non)) → Q (.ref t) H'
theorem ok_tu (F : FunD K "turned" "turned" (defArgs sTu) (defBody sTu) (defScope sTu) [] [] f fd) (T : TT K mg) : FnOk P w K mg base CX0 1 f fd ["row", "order"] (spTu K) := by
  refine F.ok scTu (fun vs H Q E h => ?_) (fun cdv A outer s H vs Q E hr h => ?_)
  · obtain ⟨r, o, rs, l, rfl, _⟩ := h
    rfl
  · obtain ⟨r, o, rs, l, rfl, er, eo, hl, h1, q⟩ := h
    refine ⟨_, PSs.nox (pss_one (ps_ret (pe_callTy call_tuple_of (by rfl) T.fre (by decide +kernel) (pa_cons (pe_lc (own := [("at", 2)]) (g := gName 2) (tt := tYes) (by rfl) scTu.nd (pi_tup (pv 1)) (blkOk_by (N := ["row", "order", "at"]) (sc := defScope sTu) (by decide +kernel)) (fun _ _ _ _ _ => pg_name (i := 2) scTu.nd rfl (Or.inl rfl)) (fun _ _ _ _ _ => pts_nil)
      (fun _ _ _ _ _ => pe_ix (r := rIxT K) ix_tup (pv 0) (pv 2) (fun _ _ => rfl))) pa_nil)))), ?_⟩
    have lz : 10000 ≤ sizeLine := by rw [sizeLine_eq]; decide
    refine ⟨_, rfl, o, rfl, ⟨_, SqT.of eo⟩, fun D nD => ?_⟩
    refine lc_it (walk_tup (xs := nv l)) (fun i H' => Same H H' ∧ H' D = some (.lst ((l.take i).map fun i => rs.getD i .non))) ⟨same_new nD, upd_same⟩ (fun i H' _ pv => SqT.of (pv.1 _ _ eo)) ?_ ?_
    · rintro i v H7 H8 hi ⟨s7, e7⟩ ⟨rfl, hx⟩
      obtain ⟨c, hc, rfl⟩ := getn hx
      have hcl := hl c (List.mem_of_getElem? hc)
      have tk : l.take (i + 1) = l.take i ++ [c] := by rw [List.take_add_one, hc]; rfl
      have ev : rs[c]? = some (rs.getD c .non) := by rw [List.getD_eq_getElem?_getD, List.getElem?_eq_getElem hcl]; rfl
      refine ⟨rfl, _, rfl, _, rfl, r, _, _, _, rfl, rfl, SqT.of (s7 _ _ er), atI_nat ev, _, e7, ?_, ?_, ?_⟩
      · rw [List.length_map, List.length_take]
        omega
      · intro b' o' e'
        rw [upd_ne (ne_of_none e' nD)]
        exact s7 _ _ e'
      · rw [upd_same, tk, List.map_append]
        rfl
    · rintro H7 ⟨s7, e7⟩
      have e8 : l.take (nv l).length = l := List.take_of_length_le (by rw [List.length_map]; exact Nat.le_refl _)
      rw [e8] at e7
      exact ⟨D, _, rfl, .inl ⟨SqL.of e7, fun t nt => q t _ (s7.trans (same_new nt)) (gone s7 nt) upd_same⟩⟩
abbrev TuG (P : Program) (w : World) (K : Fr) (mg : Str → Option Value) (base : Heap) : Prop := ∃ f d, Gd P w K mg base 1 "turned" f d ["row", "order"] (spTu K)
/-! ### turns -/
/-- at a stands the turn e -/
def ElAt (H : Hp) (a : Addr) (e : El) : Prop := ∃ o, H a = some (.tup [.ref o, .int e.2]) ∧ H o = some (.tup (nv e.1))
theorem ElAt.same {H H' : Hp} {a : Addr} {e : El} (h : ElAt H a e) (s : Same H H') : ElAt H' a e := by
  obtain ⟨o, h1, h2⟩ := h
  exact ⟨o, s _ _ h1, s _ _ h2⟩
theorem nums_key {H : Hp} : ∀ l : List Nat, KeyVs H (l.map fun i : Nat => NestedKey.num (i : Int)) (nv l)
  | [] => .nil
  | i :: l => .cons (.int i) (nums_key l)
theorem ElAt.key {H : Hp} {a : Addr} {e : El} (h : ElAt H a e) : KeyV H (Grp.key e) (.ref a) := by
  obtain ⟨o, h1, h2⟩ := h
  exact .tup h1 (.cons (.tup h2 (nums_key e.1)) (.cons (.int e.2) .nil))
abbrev sSu : Stmt := top 19
theorem scSu : FnScope ["first", "second"] ["first", "second"] (defScope sSu) := ⟨rfl, rfl, rfl, by decide +kernel, rfl, by decide +kernel, by decide +kernel⟩
def spSu (K : Fr) : Sp := fun vs H Q _ => ∃ (a b : Addr) (x y : El) (n : Nat), vs = [.ref a, .ref b] ∧ ElAt H a x ∧ ElAt H b y ∧ Grp.Ok n x ∧ Grp.Ok n y ∧ n ≤ 4 ∧ ∀ t H', Same H H' → H t = none → ElAt H' t (mul x y) → Q (.ref t) H'
theorem ok_su (F : FunD K "in_succession" "in_succession" (defArgs sSu) (defBody sSu) (defScope sSu) [] [] f fd) (T : TT K mg) (G : TuG P w K mg base) : FnOk P w K mg base CX0 2 f fd ["first", "second"] (spSu K) := by
  obtain ⟨fT, dT, GT⟩ := G
  refine F.ok scSu (fun vs H Q E h => ?_) (fun cdv A outer s H vs Q E hr h => ?_)
  · obtain ⟨a, b, x, y, n, rfl, _⟩ := h
    rfl
  · obtain ⟨a, b, x, y, n, rfl, hx, hy, ox, oy, n4, q⟩ := h
    refine ⟨_, PSs.nox (pss_one (ps_ret (pe_tup (pa_cons (pe_gd GT hr (by rfl) (pa_cons (pe_ix ix_tup (pv 0) pe_int (fun _ _ => rfl)) (pa_cons (pe_ix ix_tup (pv 1) pe_int (fun _ _ => rfl)) pa_nil))) (pa_cons (pe_op op_mul (pe_ix ix_tup (pv 0) pe_int (fun _ _ => rfl)) (pe_ix ix_tup (pv 1) pe_int (fun _ _ => rfl))) pa_nil))))), ?_⟩
    have lz : 10000 ≤ sizeLine := by rw [sizeLine_eq]; decide
    obtain ⟨o, ha, ho⟩ := _root_.id hx
    obtain ⟨o', hb, ho'⟩ := _root_.id hy
    refine ⟨_, rfl, a, _, _, _, rfl, rfl, SqT.of ha, atI_nat (j := 0) rfl, _, rfl, b, _, _, _, rfl, rfl, SqT.of hb, atI_nat (j := 0) rfl, ?_⟩
    refine ⟨o, o', _, y.1, rfl, ho, ho', fun i hi => by rw [List.length_map, ox.len]; exact oy.lt hi, by rw [oy.len]; omega, fun t H1 s1 n1 e1 => ?_⟩
    have eq1 : (y.1.map fun i => (nv x.1).getD i .non) = nv (mul x y).1 := by
      show _ = (y.1.map fun i => x.1.getD i 0).map fun i : Nat => V.int (i : Int)
      rw [List.map_map]
      refine List.map_congr_left fun i hi => ?_
      have lt : i < x.1.length := by rw [ox.len]; exact oy.lt hi
      show (nv x.1).getD i .non = V.int ((x.1.getD i 0 : Nat) : Int)
      rw [List.getD_eq_getElem?_getD, List.getElem?_map, List.getD_eq_getElem?_getD, List.getElem?_eq_getElem lt]
      rfl
    rw [eq1] at e1
    have sx : -1 ≤ x.2 ∧ x.2 ≤ 1 := by rcases ox.sg with z | z <;> rw [z] <;> decide
    refine ⟨_, rfl, a, _, _, _, rfl, rfl, SqT.of (s1 _ _ ha), atI_nat (j := 1) rfl, _, rfl, b, _, _, _, rfl, rfl, SqT.of (s1 _ _ hb), atI_nat (j := 1) rfl, _, _, rfl, rfl, .inl ⟨by omega, by omega⟩, by show 2 ≤ sizeLine; omega, fun t2 n2 => ?_⟩
    exact q t2 _ (s1.trans (same_new n2)) (gone s1 n2) ⟨t, upd_same, same_new n2 _ _ e1⟩
abbrev SuG (P : Program) (w : World) (K : Fr) (mg : Str → Option Value) (base : Heap) : Prop := ∃ f d, Gd P w K mg base 2 "in_succession" f d ["first", "second"] (spSu K)
end
end K11

set_option maxHeartbeats 4000000
/-! found.add(k) as an expression; sorted lists of turns -/
namespace NSet
open PySem PySem.Spec PyProof.Rows L2
section
variable {X : Cx} {o e : Expr} {es : List Expr} {to : TE} {t : TA} {apos cpos : Pos}
def tNAdd (w : World) (to : TE) (t : TA) : TE := fun σ H Q => to σ H fun x H1 => (∃ a L, x = V.ref a ∧ H1 a = some (SN w a L)) ∧ t σ H1 fun xs H2 => rNAdd w x xs H2 Q
theorem pe_nadd (hu : X.A.units + 64 < cLine) (ho : PE X o to) (ha : PA X (e :: es) t)
    (hbase : attributeBase o "add" X.env (eval o X.env) = eval o X.env := by rfl)
    (hfew : ((backTo cpos (starEach (e :: es) X.env)).all (fun x => !x.1) && (backToKw cpos (keywordEach [] X.env)).all (fun x => x.1.isSome)
      && decide ((e :: es).length + ([] : List Keyword).length + (if ([] : List Keyword).isEmpty then 0 else 1) < 30)) = true := by rfl)
    (hline : (apos.endLine == cpos.line) = true := by rfl) (hs : starEach (e :: es) X.env = (false, eval e X.env) :: starEach es X.env := by rfl) (hplain : (backTo cpos (starEach es X.env)).any (·.1) = false := by rfl) :
    PE X (.Call (.Attribute o "add" apos) (e :: es) [] cpos) (tNAdd X.w to t) := by
  refine ⟨fun pins s σ H Q I h => ?_⟩
  refine wpAny_Call_method_late hbase hfew hline rfl (thn (ho.run pins s σ H _ I h) fun v s1 ⟨x, H1, I1, r1, ty, q1⟩ => ?_)
  obtain ⟨a, L, rfl, hka⟩ := ty
  obtain ⟨_, _, _, ⟨ob, hob, hex, _⟩, _⟩ := (show N0 X.w s1.heap a L from (I1.hok a _ hka).1)
  cases (show v = Value.ref a from r1)
  refine ⟨"set", "set.add", PySem.F.plainAttrs_set, PySem.F.slot_set_add, PySem.F.type_set_add, ⟨ob, hob, hex.1⟩, ?_, ?_⟩
  · intro b hb
    cases hb
    exact ⟨ob, hob, hex.2.1⟩
  have hA := ha.run cpos pins s1 σ H1 _ I1 q1
  rw [hs] at hA ⊢
  refine Calls.callWith_builtin (by show (false || (backTo cpos (starEach es X.env)).any (·.1)) = false; rw [hplain] <;> rfl) (Calls.evalArgs_plain ?_)
  exact thn hA fun us s2 ⟨vs, H2, I2, r2, q2⟩ => mt_add hu pins s2 σ H2 (.ref a) vs (.ref a) us Q I2 rfl r2 q2
end
/-! ### sorted(l), l a list of turns -/
open Grp (El)
open PySem.W (dataLe AllAlike Sortable)
def dEl (e : El) : PyData := .tuple [.tuple (e.1.map fun i : Nat => PyData.int (i : Int)), .int e.2]
/-- in Python's sequence -/
def srt (xs : List El) : List El := xs.mergeSort (dataLe false dEl)
theorem alike_nums : ∀ a b : List Nat, PySem.W.alikeAll (a.map fun i : Nat => PyData.int (i : Int)) (b.map fun i : Nat => PyData.int (i : Int)) = true
  | [], _ => rfl
  | _ :: _, [] => rfl
  | _ :: a, _ :: b => alike_nums a b
theorem alike_el (a b : El) : PySem.W.alike (dEl a) (dEl b) = true := by
  show (PySem.W.alikeAll _ _ && (true && true)) = true
  rw [alike_nums]
  rfl
theorem depth_nums : ∀ a : List Nat, PyData.depthAll (a.map fun i : Nat => PyData.int (i : Int)) = 0
  | [] => rfl
  | x :: a => by
    show max 0 (PyData.depthAll _) = 0
    rw [depth_nums a]
    rfl
theorem depth_el (e : El) : (dEl e).depth ≤ 20 := by
  show max (PyData.depthAll _ + 1) (max 0 0) + 1 ≤ 20
  rw [depth_nums]
  decide
theorem srt_perm (xs : List El) : (srt xs).Perm xs := List.mergeSort_perm _ _
section
variable {X : Cx}
/-- sorted(l), the turns of es -/
def rSrtE (K : PySem.W.Frag) : List V → Hp → VK → Prop := fun vs H Q => ∃ (l : Addr) (es : List (Addr × El)), vs = [.ref l] ∧ SqL K H l (es.map fun p => V.ref p.1) ∧ (∀ p ∈ es, Dp K H (.ref p.1) (dEl p.2)) ∧
  ∀ (p : Addr) (es' : List (Addr × El)), H p = none → es'.Perm es → es'.map (·.2) = srt (es.map (·.2)) → Q (.ref p) (upd H p (.lst (es'.map fun q => V.ref q.1)))
theorem cr_srtE (hu : X.A.units + 64 < cLine) : CallR X (.builtin "sorted") (rSrtE X.K) := by
  intro pins s σ H vs us Q I r h
  obtain ⟨l, es, rfl, hs, hd, q⟩ := h
  have em : (es.map fun p => (V.ref p.1, dEl p.2)).map (·.1) = es.map fun p => V.ref p.1 := by rw [List.map_map]; rfl
  refine cr_sortedD hu pins s σ H _ us Q I r ⟨l, es.map fun p => (V.ref p.1, dEl p.2), rfl, by rw [em]; exact hs, fun b hb => ?_, ?_, ?_, fun p hp => ?_⟩
  · obtain ⟨n, hn, rfl⟩ := List.mem_map.mp hb
    exact ⟨hd n hn, depth_el _⟩
  · rw [List.map_map]
    exact AllAlike.of fun _ _ => alike_el _ _
  · rw [List.map_map]
    exact Sortable.tuples fun _ => ⟨_, _, rfl⟩
  · have e1 : ((es.map fun p => (V.ref p.1, dEl p.2)).mergeSort (dataLe false fun b => b.2)) = (es.mergeSort (dataLe false fun p => dEl p.2)).map fun p => (V.ref p.1, dEl p.2) :=
      (PySem.W.sort_maps (r := dataLe false fun p : Addr × El => dEl p.2) (s := dataLe false fun b : V × PyData => b.2) (fun p : Addr × El => (V.ref p.1, dEl p.2)) (l := es) fun a _ b _ => rfl).symm
    have e2 : (es.mergeSort (dataLe false fun p => dEl p.2)).map (·.2) = srt (es.map (·.2)) :=
      PySem.W.sort_maps (r := dataLe false fun p : Addr × El => dEl p.2) (s := dataLe false dEl) (fun p : Addr × El => p.2) (l := es) fun a _ b _ => rfl
    rw [e1, List.map_map]
    exact q p _ hp (List.mergeSort_perm _ _) e2
end
end NSet

set_option maxHeartbeats 4000000
namespace K11
open PySem PySem.Spec PyProof.Rows L2 RtL ErL StX NSet
open Grp (El mul)
mutual
theorem keyV_imp {H H' : Hp} (s : ∀ a vs, H a = some (.tup vs) → H' a = some (.tup vs)) : ∀ (k : NestedKey) (v : V), KeyV H k v → KeyV H' k v
  | _, _, .non => .non
  | _, _, .bl b => .bl b
  | _, _, .int i => .int i
  | _, _, .str z => .str z
  | _, _, .tup e h => .tup (s _ _ e) (keyVs_imp s _ _ h)
theorem keyVs_imp {H H' : Hp} (s : ∀ a vs, H a = some (.tup vs) → H' a = some (.tup vs)) : ∀ (ks : List NestedKey) (vs : List V), KeyVs H ks vs → KeyVs H' ks vs
  | _, _, .nil => .nil
  | _, _, .cons a b => .cons (keyV_imp s _ _ a) (keyVs_imp s _ _ b)
end
theorem ElAt.imp {H H' : Hp} (s : ∀ a vs, H a = some (.tup vs) → H' a = some (.tup vs)) {a : Addr} {e : El} (h : ElAt H a e) : ElAt H' a e := by
  obtain ⟨o, h1, h2⟩ := h
  exact ⟨o, s _ _ h1, s _ _ h2⟩
/-- tuples stay -/
abbrev Tst (H H' : Hp) : Prop := ∀ a vs, H a = some (.tup vs) → H' a = some (.tup vs)
theorem tst_lst {H : Hp} {l : Addr} {xs : List V} {o : HO} (h : H l = some (.lst xs)) : Tst H (upd H l o) := fun a vs e => by
  rw [upd_ne (fun z => by rw [z, h] at e; cases e)]
  exact e
theorem tst_set {w : World} {H : Hp} {l : Addr} {L : List (Addr × NestedKey)} {o : HO} (h : H l = some (SN w l L)) : Tst H (upd H l o) := fun a vs e => by
  rw [upd_ne (fun z => by rw [z, h] at e; cases e)]
  exact e
theorem nums_dp {K : Fr} {H : Hp} : ∀ l : List Nat, DpAll K H (nv l) (l.map fun i : Nat => PyData.int (i : Int))
  | [] => .nil
  | i :: l => .cons (.int i) (nums_dp l)
theorem ElAt.dp {K : Fr} {H : Hp} {a : Addr} {e : El} (h : ElAt H a e) : Dp K H (.ref a) (dEl e) := by
  obtain ⟨o, h1, h2⟩ := h
  exact .tup (SqT.of h1) (.cons (.tup (SqT.of h2) (nums_dp e.1)) (.cons (.int e.2) .nil))
theorem rgV_nv (n : Nat) : rgV 0 (n : Int) = nv (List.range n) := by
  unfold rgV
  rw [show ((n : Int) - 0).toNat = n by omega]
  refine List.map_congr_left fun i _ => ?_
  show V.int (0 + (i : Int)) = V.int (i : Int)
  rw [Int.zero_add]
section
variable {P : Program} {w : World} {K : Fr} {mg : Str → Option Value} {base : Heap} {f : Addr} {fd : FuncData}
abbrev sGr : Stmt := top 20
abbrev NGr : List Str := ["many", "turns", "found", "known", "at", "turn", "longer"]
theorem scGr : FnScope NGr ["many", "turns"] (defScope sGr) := ⟨rfl, rfl, rfl, by decide +kernel, rfl, by decide +kernel, by decide +kernel⟩
abbrev refs (es : List (Addr × El)) : List V := es.map fun p => V.ref p.1
abbrev els (es : List (Addr × El)) : List El := es.map (·.2)
def spGr (K : Fr) : Sp := fun vs H Q _ => ∃ (n : Nat) (t : Addr) (ts : List (Addr × El)), vs = [.int (n : Int), .ref t] ∧ H t = some (.tup (refs ts)) ∧ (∀ p ∈ ts, ElAt H p.1 p.2 ∧ Grp.Ok n p.2) ∧ n ≤ 4 ∧ ts.length ≤ 100 ∧
  ∀ (l : Addr) (es : List (Addr × El)) (H' : Hp), Same H H' → H l = none → H' l = some (.lst (refs es)) → (∀ p ∈ es, ElAt H' p.1 p.2) → els es = srt (Grp.found n (els ts)) → Grp.Good n (Grp.found n (els ts)) → Q (.ref l) H'
/-- the state of the loop -/
structure St16 (w : World) (H : Hp) (n : Nat) (lf S : Addr) (es : List (Addr × El)) (H' : Hp) : Prop where
  sm : Same H H'
  lst : H' lf = some (.lst (refs es))
  el : ∀ p ∈ es, ElAt H' p.1 p.2
  good : Grp.Good n (els es)
  set : ∃ L, H' S = some (SN w S L) ∧ KL H' L ∧ L.length ≤ es.length ∧ ∀ k, k ∈ keys L ↔ k ∈ (els es).map Grp.key
theorem ok_gr (F : FunD K "group_of" "group_of" (defArgs sGr) (defBody sGr) (defScope sGr) [] [] f fd) (T : TT K mg) (G : SuG P w K mg base) : FnOk P w K mg base CX0 3 f fd ["many", "turns"] (spGr K) := by
  obtain ⟨fS, dS, GS⟩ := G
  refine F.ok scGr (fun vs H Q E h => ?_) (fun cdv A outer s H vs Q E hr h => ?_)
  · obtain ⟨n, t, ts, rfl, _⟩ := h
    rfl
  · obtain ⟨n, t, ts, rfl, et, ht, n4, l100, q⟩ := h
    have hu : (A.deeper (envOfC "group_of" (defScope sGr) s.heap.objs.size f cdv)).units + 64 < cLine := by have := hr.un; omega
    refine ⟨_, PSs.nox (pss_cons (ps_set (i := 2) scGr.nd rfl (Or.inl rfl) (pe_lst (pa_cons (pe_tup (pa_cons (pe_tupRg rfl (by rfl) T.fre (prg_1 (by rfl) T.fre (pv 0))) (pa_cons pe_int pa_nil))) pa_nil)))
      (pss_cons (ps_set (i := 3) scGr.nd rfl (Or.inl rfl) (pe_callTy (call_setN rfl hu) (by rfl) T.fre (by decide +kernel) (pa_cons (pv 2) pa_nil)))
      (pss_cons (ps_set (i := 4) scGr.nd rfl (Or.inl rfl) pe_int)
      (pss_cons (ps_while PassesOwn.never (pt_cmpR op_lt (pv 4) (pe_callB call_len_seq (by rfl) T.fre (by decide +kernel) (pa_cons (pv 2) pa_nil)) (nomark _))
        (pss_cons (ps_for PassesOwn.never rfl (pi_tup (pv 1)) (pg_name (i := 5) scGr.nd rfl (Or.inl rfl))
          (pss_cons (ps_set (i := 6) scGr.nd rfl (Or.inl rfl) (pe_gd GS hr (by rfl) (pa_cons (pe_ix ix_list (pv 2) (pv 4) (fun _ _ => rfl)) (pa_cons (pv 5) pa_nil))))
          (pss_one (ps_if (pt_cmpR (or_notin hu) (pv 6) (pv 3) (by rfl)) (pss_cons (ps_expr (pe_nadd hu (pv 3) (pa_cons (pv 6) pa_nil))) (pss_one (ps_expr (pe_bm PySem.F.plainAttrs_list PySem.F.slot_list_append PySem.F.type_list_append mt_append (pv 2) (pa_cons (pv 6) pa_nil))))) pss_nil))))
        (pss_one (ps_aug (i := 4) scGr.nd rfl (Or.inl rfl) pe_int ip_add))))
      (pss_one (ps_ret (pe_callB (cr_srtE hu) (by rfl) T.fre (by decide +kernel) (pa_cons (pv 2) pa_nil)))))))), ?_⟩
    have lz : 10000 ≤ sizeLine := by rw [sizeLine_eq]; decide
    refine ⟨_, rfl, _, rfl, RgOk.of_le (by decide) (by omega) (by decide) (by omega), fun t0 nt0 => ?_⟩
    refine ⟨by show 2 ≤ sizeLine; omega, fun t1 nt1 => ⟨by show 1 ≤ sizeLine; omega, fun lf nlf => ?_⟩⟩
    have s0 : Same H (upd H t0 (.tup (rgV 0 (n : Int)))) := same_new nt0
    have s1 := s0.trans (same_new (o := .tup [.ref t0, .int 1]) nt1)
    have eA : ElAt (upd (upd H t0 (.tup (rgV 0 (n : Int)))) t1 (.tup [.ref t0, .int 1])) t1 (Grp.one n) := ⟨t0, upd_same, by
      have e : (upd H t0 (.tup (rgV 0 (n : Int)))) t0 = some (.tup (nv (List.range n))) := by rw [rgV_nv]; exact upd_same
      exact same_new nt1 _ _ e⟩
    generalize upd (upd H t0 (.tup (rgV 0 (n : Int)))) t1 (.tup [.ref t0, .int 1]) = H1 at nlf s1 eA
    have s2 := s1.trans (same_new (o := .lst [.ref t1]) nlf)
    have eB := eA.same (same_new (o := .lst [.ref t1]) nlf)
    have l2 : (upd H1 lf (.lst [.ref t1])) lf = some (.lst [.ref t1]) := upd_same
    have nlf0 : H lf = none := gone s1 nlf
    generalize upd H1 lf (.lst [.ref t1]) = H2 at s2 eB l2
    refine ⟨_, rfl, lf, [(t1, Grp.key (Grp.one n))], rfl, SqL.of l2, fun p hp => by rw [List.mem_singleton.mp hp]; exact ⟨eB.key, Grp.key_depth _⟩, by show 1 < 64; decide, fun S L nS ga nd => ?_⟩
    have nS0 : H S = none := gone s2 nS
    have init : St16 w H n lf S [(t1, Grp.one n)] (upd H2 S (SN w S L)) := by
      refine ⟨s2.trans (same_new nS), same_new nS _ _ l2, fun p hp => ?_, ⟨fun e he => ?_, by simp⟩, L, upd_same, fun p hp => ?_, ga.len, fun k => ?_⟩
      · rw [List.mem_singleton.mp hp]
        exact eB.same (same_new nS)
      · rw [List.mem_singleton.mp (show e ∈ [Grp.one n] from he)]
        exact Grp.Ok.one
      · rw [List.mem_singleton.mp (ga.sub p hp)]
        exact ⟨(eB.same (same_new nS)).key, Grp.key_depth _⟩
      · constructor
        · intro hk
          obtain ⟨p, hp, rfl⟩ := List.mem_map.mp hk
          rw [List.mem_singleton.mp (ga.sub p hp)]
          exact List.mem_cons_self
        · intro hk
          rw [List.mem_singleton.mp (show k ∈ [Grp.key (Grp.one n)] from hk)]
          exact ga.all _ List.mem_cons_self
    have ne : lf ≠ S := fun z => by rw [← z, l2] at nS; cases nS
    refine ⟨fun m σ H' => ∃ (es : List (Addr × El)) (j : Nat) (u5 u6 : Option V), σ = [some (.int (n : Int)), some (.ref t), some (.ref lf), some (.ref S), some (.int (j : Int)), u5, u6] ∧ St16 w H n lf S es H' ∧ j ≤ es.length ∧ Grp.go (els ts) (48 - j) j (els es) = Grp.found n (els ts) ∧ m = 48 - j,
      ⟨48, [(t1, Grp.one n)], 0, none, none, rfl, init, Nat.zero_le _, rfl, rfl⟩, ?_⟩
    rintro m σ H4 ⟨es, j, u5, u6, rfl, st, hj, hgo, rfl⟩
    have les : es.length ≤ 48 := by
      have := st.good.len n4
      rwa [List.length_map] at this
    have lrf : (refs es).length = es.length := List.length_map _
    refine ⟨_, rfl, _, rfl, lf, _, rfl, .inl (SqL.of st.lst), _, _, rfl, rfl, _, rfl, ite2 (fun h => ?_) (fun h => ?_)⟩
    · have hlt : j < es.length := by
        have h := of_decide_eq_true h
        rw [lrf] at h
        omega
      obtain ⟨x, hx⟩ : ∃ p, es[j]? = some p := ⟨_, List.getElem?_eq_getElem hlt⟩
      have hxm := List.mem_of_getElem? hx
      have ox := st.good.ok x.2 (List.mem_map.mpr ⟨x, hxm, rfl⟩)
      have next : Grp.go (els ts) (48 - (j + 1)) (j + 1) (Grp.turnAll (els ts) x.2 (els es)) = Grp.found n (els ts) := by
        rw [← hgo, show 48 - j = (48 - (j + 1)) + 1 by omega]
        have e : (els es)[j]? = some x.2 := by rw [List.getElem?_map, hx]; rfl
        show _ = (match (els es)[j]? with | none => els es | some x => Grp.go (els ts) (48 - (j + 1)) (j + 1) (Grp.turnAll (els ts) x (els es)))
        rw [e]
      refine ⟨fun σ' H' => ∃ (es' : List (Addr × El)) (u5 u6 : Option V), σ' = [some (.int (n : Int)), some (.ref t), some (.ref lf), some (.ref S), some (.int ((j : Int) + 1)), u5, u6] ∧ St16 w H n lf S es' H' ∧ j + 1 ≤ es'.length ∧ els es' = Grp.turnAll (els ts) x.2 (els es), ?_, ?_⟩
      · rintro σ' H' ⟨es', u5, u6, rfl, st', hj', he⟩
        refine ⟨48 - (j + 1), by omega, es', j + 1, u5, u6, by rw [show ((j + 1 : Nat) : Int) = (j : Int) + 1 by omega], st', hj', by rw [he]; exact next, rfl⟩
      refine ⟨_, rfl, t, rfl, ⟨_, SqT.of (st.sm _ _ et)⟩, for_tup (xs := refs ts) (fun i σ H' => ∃ (es' : List (Addr × El)) (u5 u6 : Option V), σ = [some (.int (n : Int)), some (.ref t), some (.ref lf), some (.ref S), some (.int (j : Int)), u5, u6] ∧ St16 w H n lf S es' H' ∧ es'[j]? = some x ∧ els es' = Grp.turnAll ((els ts).take i) x.2 (els es))
        ⟨es, _, _, rfl, st, hx, rfl⟩ (fun i σ H' _ pv => by
          obtain ⟨_, _, _, _, st', _⟩ := pv
          exact SqT.of (st'.sm _ _ et)) ?_ ?_⟩
      · rintro i v σ H5 hi ⟨es', u5, u6, rfl, st', hxj, hels⟩
        obtain ⟨p, hp, rfl⟩ : ∃ p, ts[i]? = some p ∧ v = .ref p.1 := by
          rw [List.getElem?_map] at hi
          cases e : ts[i]? with
          | none => rw [e] at hi; cases hi
          | some p => rw [e] at hi; cases hi; exact ⟨p, rfl, rfl⟩
        obtain ⟨ep, op⟩ := ht p (List.mem_of_getElem? hp)
        obtain ⟨L', eS, kL, lL, mL⟩ := st'.set
        have les' : es'.length ≤ 48 := by
          have := st'.good.len n4
          rwa [List.length_map] at this
        have tk : Grp.turnAll ((els ts).take (i + 1)) x.2 (els es) = Grp.put (els es') (mul x.2 p.2) := by
          have e : (els ts).take (i + 1) = (els ts).take i ++ [p.2] := by rw [List.take_add_one, List.getElem?_map, hp]; rfl
          rw [e, hels]
          unfold Grp.turnAll
          rw [List.foldl_append]
          rfl
        refine ⟨_, rfl, _, rfl, lf, _, _, _, rfl, rfl, SqL.of st'.lst, atI_nat (v := V.ref x.1) (by rw [List.getElem?_map, hxj]; rfl), _, rfl, ?_⟩
        refine ⟨x.1, p.1, x.2, p.2, n, rfl, st'.el x (List.mem_of_getElem? hxj), ep.same st'.sm, ox, op, n4, fun tn H6 s6 n6 e6 => ?_⟩
        have om := ox.mul op
        refine ⟨_, rfl, _, rfl, Grp.key (mul x.2 p.2), tn, S, L', rfl, rfl, s6 _ _ eS, kL.same s6, e6.key, Grp.key_depth _, _, rfl, ite2 (fun h => ?_) (fun h => ?_)⟩
        · have nin : Grp.key (mul x.2 p.2) ∉ keys L' := fun z => by
            rw [decide_eq_true z] at h
            cases h
          have nel : mul x.2 p.2 ∉ els es' := fun z => nin ((mL _).mpr (Grp.key_mem.mpr z))
          refine ⟨_, rfl, ⟨S, L', rfl, s6 _ _ eS⟩, _, rfl, S, tn, Grp.key (mul x.2 p.2), L', rfl, rfl, s6 _ _ eS, kL.same s6, e6.key, Grp.key_depth _, by omega, fun z => absurd z nin, fun _ L2 pm => ?_⟩
          have t7 : Tst H6 (upd H6 S (SN w S L2)) := tst_set (s6 _ _ eS)
          have l7 : (upd H6 S (SN w S L2)) lf = some (.lst (refs es')) := by rw [upd_ne ne]; exact s6 _ _ st'.lst
          refine ⟨_, rfl, .inl ⟨rfl, _, SqL.of l7⟩, _, rfl, lf, _, _, rfl, rfl, l7, by rw [List.length_map]; omega, ?_⟩
          have t8 : Tst H6 (upd (upd H6 S (SN w S L2)) lf (.lst (refs es' ++ [.ref tn]))) := fun a vs e => tst_lst l7 a vs (t7 a vs e)
          refine ⟨es' ++ [(tn, mul x.2 p.2)], _, _, rfl, ⟨fun b' o' e' => ?_, ?_, fun q hq => ?_, ?_, L2, ?_, fun q hq => ?_, ?_, fun k => ?_⟩, ?_, ?_⟩
          · rw [upd_ne (ne_of_none e' nlf0), upd_ne (ne_of_none e' nS0)]
            exact s6 _ _ (st'.sm _ _ e')
          · rw [upd_same]
            show _ = some (HO.lst ((es' ++ [(tn, mul x.2 p.2)]).map fun p => V.ref p.1))
            rw [List.map_append]
            rfl
          · rcases List.mem_append.mp hq with z | z
            · exact ((st'.el q z).same s6).imp t8
            · rw [List.mem_singleton.mp z]
              exact e6.imp t8
          · have g := st'.good.put om
            unfold Grp.put at g
            rw [if_neg nel] at g
            show Grp.Good n ((es' ++ [(tn, mul x.2 p.2)]).map (·.2))
            rw [List.map_append]
            exact g
          · rw [upd_ne (Ne.symm ne)]
            exact upd_same
          · rcases List.mem_cons.mp (pm.mem_iff.mp hq) with z | z
            · rw [z]
              exact ⟨keyV_imp t8 _ _ e6.key, Grp.key_depth _⟩
            · exact ⟨keyV_imp t8 _ _ ((kL.same s6) q z).1, (kL q z).2⟩
          · have := pm.length_eq
            rw [List.length_append]
            simp only [List.length_cons, List.length_nil] at *
            omega
          · have e1 : (els (es' ++ [(tn, mul x.2 p.2)])).map Grp.key = (els es').map Grp.key ++ [Grp.key (mul x.2 p.2)] := by
              show ((es' ++ [(tn, mul x.2 p.2)]).map (·.2)).map Grp.key = _
              rw [List.map_append, List.map_append]
              rfl
            rw [e1, (pm.map (·.2)).mem_iff, List.map_cons, List.mem_cons, List.mem_append, List.mem_singleton, mL k]
            exact Or.comm
          · rw [List.getElem?_append_left (List.getElem?_eq_some_iff.mp hxj).1]
            exact hxj
          · rw [tk]
            unfold Grp.put
            rw [if_neg nel]
            show (es' ++ [(tn, mul x.2 p.2)]).map (·.2) = _
            rw [List.map_append]
            rfl
        · have inn : Grp.key (mul x.2 p.2) ∈ keys L' := Classical.byContradiction fun z => h (by rw [decide_eq_false z]; rfl)
          have iel : mul x.2 p.2 ∈ els es' := Grp.key_mem.mp ((mL _).mp inn)
          refine ⟨es', _, _, rfl, ⟨st'.sm.trans s6, s6 _ _ st'.lst, fun q hq => (st'.el q hq).same s6, st'.good, L', s6 _ _ eS, kL.same s6, lL, mL⟩, hxj, ?_⟩
          rw [tk]
          unfold Grp.put
          rw [if_pos iel]
      · rintro σ H5 ⟨es', u5, u6, rfl, st', hxj, hels⟩
        have lt : (refs ts).length = (els ts).length := by rw [List.length_map, List.length_map]
        rw [lt, List.take_length] at hels
        have hj' := (List.getElem?_eq_some_iff.mp hxj).1
        exact ⟨_, rfl, _, _, rfl, rfl, es', _, _, rfl, st', Nat.succ_le_of_lt hj', hels⟩
    · have hge : es.length ≤ j := by
        have h : ¬ ((j : Int) < ((refs es).length : Nat)) := fun y => h (decide_eq_true y)
        rw [lrf] at h
        omega
      have hf : els es = Grp.found n (els ts) := by
        rw [← hgo, Grp.go_stay _ _ _ _ (by rw [List.length_map]; exact hge)]
      refine ⟨_, rfl, lf, es, rfl, SqL.of st.lst, fun p hp => (st.el p hp).dp, fun p es' np pm hs => ?_⟩
      have s5 := st.sm.trans (same_new (o := .lst (es'.map fun q => V.ref q.1)) np)
      refine q p es' _ s5 (gone st.sm np) upd_same (fun q hq => (st.el q (pm.mem_iff.mp hq)).same (same_new np)) (by rw [← hf]; exact hs) (by rw [← hf]; exact st.good)
abbrev GrG (P : Program) (w : World) (K : Fr) (mg : Str → Option Value) (base : Heap) : Prop := ∃ f d, Gd P w K mg base 3 "group_of" f d ["many", "turns"] (spGr K)
end
end K11

set_option maxHeartbeats 4000000
namespace K11
open PySem PySem.Spec PyProof.Rows L2 RtL ErL StX NSet
open Grp (El mul)
section
variable {P : Program} {w : World} {K : Fr} {mg : Str → Option Value} {base : Heap} {f : Addr} {fd : FuncData}
/-! ### kinds of values -/
theorem sc9 : FnScope ["value"] ["value"] (defScope (top 10)) := ⟨rfl, rfl, rfl, by decide +kernel, rfl, by decide +kernel, by decide +kernel⟩
def spIsint : Sp := fun vs H Q _ => ∃ i, vs = [.int i] ∧ Q (.bl true) H
theorem ok_isint (F : FunD K "is_an_integer" "is_an_integer" (defArgs (top 10)) (defBody (top 10)) (defScope (top 10)) [] [] f fd) (T : TT K mg) : FnOk P w K mg base CX0 1 f fd ["value"] spIsint := by
  refine F.ok sc9 (fun vs H Q E h => ?_) (fun cdv A outer s H vs Q E hr h => ?_)
  · obtain ⟨i, rfl, _⟩ := h
    rfl
  · obtain ⟨i, rfl, q⟩ := h
    refine ⟨_, PSs.nox (pss_one (ps_ret (pe_and (pe_callB call_isi (by rfl) T.fre (by decide +kernel) (pa_cons (pv 0) (pa_cons (pe_bltn (v := .ty "int") (u := .type "int") (by rfl) T.fre (by decide +kernel) rfl) pa_nil)))
      (pe_one (pe_not (pe_callB call_isi (by rfl) T.fre (by decide +kernel) (pa_cons (pv 0) (pa_cons (pe_bltn (v := .ty "bool") (u := .type "bool") (by rfl) T.fre (by decide +kernel) rfl) pa_nil)))))))), ?_⟩
    exact ⟨_, rfl, _, _, _, _, true, rfl, .ty "int", .base (.int i), kit_ty rfl, true, rfl, iteT ⟨_, rfl, _, _, _, _, false, rfl, .ty "bool", .base (.int i), kit_ty rfl, false, rfl, q⟩⟩
abbrev IsintG (P : Program) (w : World) (K : Fr) (mg : Str → Option Value) (base : Heap) : Prop := ∃ f d, Gd P w K mg base 1 "is_an_integer" f d ["value"] spIsint
theorem sc10 : FnScope ["value"] ["value"] (defScope (top 11)) := ⟨rfl, rfl, rfl, by decide +kernel, rfl, by decide +kernel, by decide +kernel⟩
def spCnt : Sp := fun vs H Q _ => ∃ i : Int, vs = [.int i] ∧ Q (.bl (decide (0 ≤ i))) H
theorem ok_cnt (F : FunD K "is_count" "is_count" (defArgs (top 11)) (defBody (top 11)) (defScope (top 11)) [] [] f fd) (T : TT K mg) (G : IsintG P w K mg base) : FnOk P w K mg base CX0 2 f fd ["value"] spCnt := by
  obtain ⟨fI, dI, GI⟩ := G
  refine F.ok sc10 (fun vs H Q E h => ?_) (fun cdv A outer s H vs Q E hr h => ?_)
  · obtain ⟨i, rfl, _⟩ := h
    rfl
  · obtain ⟨i, rfl, q⟩ := h
    refine ⟨_, PSs.nox (pss_one (ps_ret (pe_and (pe_gd GI hr (by rfl) (pa_cons (pv 0) pa_nil)) (pe_one (pe_cmpR op_ge (pv 0) pe_int (nomark _)))))), ?_⟩
    exact ⟨_, rfl, i, rfl, true, rfl, iteT ⟨_, rfl, i, 0, rfl, rfl, q⟩⟩
abbrev CntG (P : Program) (w : World) (K : Fr) (mg : Str → Option Value) (base : Heap) : Prop := ∃ f d, Gd P w K mg base 2 "is_count" f d ["value"] spCnt
/-- a NAME -/
structure NmOk (z : Str) : Prop where
  l1 : 1 ≤ z.length
  l8 : z.length ≤ 8
  asc : Txt.isascii z = true
  alp : Txt.isalpha z = true
theorem sc11 : FnScope ["value"] ["value"] (defScope (top 12)) := ⟨rfl, rfl, rfl, by decide +kernel, rfl, by decide +kernel, by decide +kernel⟩
def spNm : Sp := fun vs H Q _ => ∃ z : Str, vs = [.str z] ∧ NmOk z ∧ Q (.bl true) H
theorem ok_nm (F : FunD K "is_name" "is_name" (defArgs (top 12)) (defBody (top 12)) (defScope (top 12)) [] [] f fd) (T : TT K mg) : FnOk P w K mg base CX0 1 f fd ["value"] spNm := by
  refine F.ok sc11 (fun vs H Q E h => ?_) (fun cdv A outer s H vs Q E hr h => ?_)
  · obtain ⟨z, rfl, _⟩ := h
    rfl
  · obtain ⟨z, rfl, hz, q⟩ := h
    refine ⟨_, PSs.nox (pss_one (ps_ret (pe_and (pe_callB call_isi (by rfl) T.fre (by decide +kernel) (pa_cons (pv 0) (pa_cons (pe_bltn (v := .ty "str") (u := .type "str") (by rfl) T.fre (by decide +kernel) rfl) pa_nil)))
      (pe_and (pe_chain op_le op_le pe_int (pe_callB call_len_str (by rfl) T.fre (by decide +kernel) (pa_cons (pv 0) pa_nil)) pe_int)
      (pe_and (pe_bm0 PySem.F.plainAttrs_str PySem.F.slot_str_isascii PySem.F.type_str_isascii mt_isascii (pv 0)) (pe_one (pe_bm0 PySem.F.plainAttrs_str PySem.F.slot_str_isalpha PySem.F.type_str_isalpha mt_isalpha (pv 0)))))))), ?_⟩
    have lz : 10000 ≤ sizeLine := by rw [sizeLine_eq]; decide
    have h1 := hz.l1
    have h8 := hz.l8
    refine ⟨_, rfl, _, _, _, _, true, rfl, .ty "str", .base (.str z), kit_ty rfl, true, rfl, iteT ?_⟩
    refine ⟨_, rfl, z, rfl, by omega, _, _, rfl, rfl, true, congrArg V.bl (decide_eq_true (by omega)), iteT ⟨_, _, rfl, rfl, true, congrArg V.bl (decide_eq_true (by omega)), iteT ?_⟩⟩
    refine ⟨_, rfl, rfl, z, rfl, rfl, trivial, true, congrArg V.bl hz.asc, iteT ⟨_, rfl, rfl, z, rfl, rfl, trivial, ?_⟩⟩
    rw [hz.alp]
    exact q
abbrev NmG (P : Program) (w : World) (K : Fr) (mg : Str → Option Value) (base : Heap) : Prop := ∃ f d, Gd P w K mg base 1 "is_name" f d ["value"] spNm
theorem sc12 : FnScope ["value"] ["value"] (defScope (top 13)) := ⟨rfl, rfl, rfl, by decide +kernel, rfl, by decide +kernel, by decide +kernel⟩
def spLs : Sp := fun vs H Q _ => ∃ a xs, vs = [.ref a] ∧ (H a = some (.lst xs) ∨ H a = some (.tup xs)) ∧ ∀ H', Same H H' → Q (.bl true) H'
theorem ok_ls (F : FunD K "is_list" "is_list" (defArgs (top 13)) (defBody (top 13)) (defScope (top 13)) [] [] f fd) (T : TT K mg) : FnOk P w K mg base CX0 1 f fd ["value"] spLs := by
  refine F.ok sc12 (fun vs H Q E h => ?_) (fun cdv A outer s H vs Q E hr h => ?_)
  · obtain ⟨a, xs, rfl, _⟩ := h
    rfl
  · obtain ⟨a, xs, rfl, ha, q⟩ := h
    refine ⟨_, PSs.nox (pss_one (ps_ret (pe_callB call_isiT (by rfl) T.fre (by decide +kernel) (pa_cons (pv 0) (pa_cons (pe_tup (pa_cons (pe_bltn (v := .ty "list") (u := .type "list") (by rfl) T.fre (by decide +kernel) rfl) (pa_cons (pe_bltn (v := .ty "tuple") (u := .type "tuple") (by rfl) T.fre (by decide +kernel) rfl) pa_nil))) pa_nil))))), ?_⟩
    refine ⟨_, rfl, by rw [sizeLine_eq]; show 2 ≤ _; decide, fun t nt => ?_⟩
    have s1 : Same H (upd H t (.tup [.ty "list", .ty "tuple"])) := same_new nt
    rcases ha with ha | ha
    · exact ⟨_, t, _, .type "list", [.type "list", .type "tuple"], true, rfl, upd_same, .cons (.ty _) (.cons (.ty _) .nil), .base (.lst (s1 _ _ ha)), kitAny_cons (b := true) (kit_ty rfl) (fun z => by cases z) (fun _ => rfl), q _ s1⟩
    · exact ⟨_, t, _, .type "tuple", [.type "list", .type "tuple"], true, rfl, upd_same, .cons (.ty _) (.cons (.ty _) .nil), .base (.tup (s1 _ _ ha)), kitAny_cons (b := false) (kit_ty rfl) (fun _ => kitAny_cons (b := true) (kit_ty rfl) (fun z => by cases z) (fun _ => rfl)) (fun z => by cases z), q _ s1⟩
abbrev LsG (P : Program) (w : World) (K : Fr) (mg : Str → Option Value) (base : Heap) : Prop := ∃ f d, Gd P w K mg base 1 "is_list" f d ["value"] spLs
theorem sc13 : FnScope ["value"] ["value"] (defScope (top 14)) := ⟨rfl, rfl, rfl, by decide +kernel, rfl, by decide +kernel, by decide +kernel⟩
def spPr (K : Fr) : Sp := fun vs H Q _ => ∃ a xs, vs = [.ref a] ∧ H a = some (.tup xs) ∧ xs.length = 2 ∧ Q (.bl true) H
theorem ok_pr (F : FunD K "is_pair" "is_pair" (defArgs (top 14)) (defBody (top 14)) (defScope (top 14)) [] [] f fd) (T : TT K mg) : FnOk P w K mg base CX0 1 f fd ["value"] (spPr K) := by
  refine F.ok sc13 (fun vs H Q E h => ?_) (fun cdv A outer s H vs Q E hr h => ?_)
  · obtain ⟨a, xs, rfl, _⟩ := h
    rfl
  · obtain ⟨a, xs, rfl, ha, h2, q⟩ := h
    refine ⟨_, PSs.nox (pss_one (ps_ret (pe_and (pe_callB call_isi (by rfl) T.fre (by decide +kernel) (pa_cons (pv 0) (pa_cons (pe_bltn (v := .ty "tuple") (u := .type "tuple") (by rfl) T.fre (by decide +kernel) rfl) pa_nil)))
      (pe_one (pe_cmpR op_eq (pe_callB call_len_seq (by rfl) T.fre (by decide +kernel) (pa_cons (pv 0) pa_nil)) pe_int (nomark _)))))), ?_⟩
    refine ⟨_, rfl, _, _, _, _, true, rfl, .ty "tuple", .base (.tup ha), kit_ty rfl, true, rfl, iteT ⟨_, rfl, a, xs, rfl, .inr (SqT.of ha), rfl, ?_⟩⟩
    rw [h2]
    exact q
abbrev PrG (P : Program) (w : World) (K : Fr) (mg : Str → Option Value) (base : Heap) : Prop := ∃ f d, Gd P w K mg base 1 "is_pair" f d ["value"] (spPr K)
theorem sc14 : FnScope ["value", "many", "at"] ["value", "many"] (defScope (top 15)) := ⟨rfl, rfl, rfl, by decide +kernel, rfl, by decide +kernel, by decide +kernel⟩
theorem eqv_ints : ∀ l : List Int, PyData.eqvAll (l.map PyData.int) (l.map PyData.int) = true
  | [] => rfl
  | x :: l => by
    rw [List.map_cons, PyData.eqvAll, eqv_ints l]
    simp [PyData.eqv]
theorem dep_ints : ∀ l : List Int, PyData.depthAll (l.map PyData.int) = 0
  | [] => rfl
  | x :: l => by
    show max 0 (PyData.depthAll _) = 0
    rw [dep_ints l]
    rfl
theorem lay_ints : ∀ l : List Int, PyData.canLayAll0 (l.map PyData.int) = true
  | [] => rfl
  | x :: l => by
    show (true && PyData.canLayAll0 (l.map PyData.int)) = true
    rw [lay_ints l]
    rfl
theorem shp_ints (l : List Int) : SeqAt.shaped (.list (l.map PyData.int)) = true := by
  unfold SeqAt.shaped
  refine Bool.and_eq_true_iff.mpr ⟨lay_ints l, decide_eq_true ?_⟩
  show PyData.depthAll (l.map PyData.int) + 1 ≤ 64
  rw [dep_ints]
  decide
theorem ints_dp {K : Fr} {H : Hp} : ∀ l : List Int, DpAll K H (l.map V.int) (l.map PyData.int)
  | [] => .nil
  | i :: l => .cons (.int i) (ints_dp l)
theorem nv_int (l : List Nat) : nv l = (l.map fun i : Nat => (i : Int)).map V.int := by
  rw [List.map_map]
  rfl
/-- an order of n places, sorted -/
theorem sorted_range {l : List Nat} {n : Nat} (h : l.Perm (List.range n)) {ns : List Int} (hp : ns.Perm (l.map fun i : Nat => (i : Int))) (hs : ns.Pairwise (· ≤ ·)) : ns = (List.range n).map fun i : Nat => (i : Int) := by
  have hp2 : ns.Perm ((List.range n).map fun i : Nat => (i : Int)) := hp.trans (h.map _)
  refine hp2.eq_of_pairwise (le := fun a b : Int => a ≤ b) (fun a b _ _ h1 h2 => Int.le_antisymm h1 h2) hs ?_
  refine List.pairwise_map.mpr ((List.pairwise_lt_range (n := n)).imp fun h => ?_)
  exact Int.ofNat_le.mpr (Nat.le_of_lt h)
def spOr : Sp := fun vs H Q _ => ∃ (o : Addr) (l : List Nat) (n : Nat), vs = [.ref o, .int (n : Int)] ∧ H o = some (.tup (nv l)) ∧ l.Perm (List.range n) ∧ n ≤ 4 ∧ ∀ H', Same H H' → Q (.bl true) H'
theorem ok_or (F : FunD K "is_order" "is_order" (defArgs (top 15)) (defBody (top 15)) (defScope (top 15)) [] [] f fd) (T : TT K mg) (G : IsintG P w K mg base) : FnOk P w K mg base CX0 2 f fd ["value", "many"] spOr := by
  obtain ⟨fI, dI, GI⟩ := G
  refine F.ok sc14 (fun vs H Q E h => ?_) (fun cdv A outer s H vs Q E hr h => ?_)
  · obtain ⟨o, l, n, rfl, _⟩ := h
    rfl
  · obtain ⟨o, l, n, rfl, eo, hl, n4, q⟩ := h
    have hu : (A.deeper (envOfC "is_order" (defScope (top 15)) s.heap.objs.size f cdv)).units + 64 < cLine := by have := hr.un; omega
    refine ⟨_, PSs.nox (pss_one (ps_ret (pe_and (pe_callB (cr_all (by rfl)) (by rfl) T.fre (by decide +kernel) (pa_cons (pe_lc (own := [("at", 2)]) (g := gName 2) (tt := tYes) (by rfl) sc14.nd (pi_tup (pv 0)) (blkOk_by (N := ["value", "many", "at"]) (sc := defScope (top 15)) (by decide +kernel)) (fun _ _ _ _ _ => pg_name (i := 2) sc14.nd rfl (Or.inl rfl)) (fun _ _ _ _ _ => pts_nil)
        (fun _ _ _ _ _ => pe_gd GI hr (by rfl) (pa_cons (pv 2) pa_nil))) pa_nil))
      (pe_one (pe_cmpR (op_eqD hu) (pe_callB (cr_sortedTI hu) (by rfl) T.fre (by decide +kernel) (pa_cons (pv 0) pa_nil)) (pe_listRg rfl (by rfl) T.fre (prg_1 (by rfl) T.fre (pv 1))) (nomark _)))))), ?_⟩
    have lz : 10000 ≤ sizeLine := by rw [sizeLine_eq]; decide
    have ll : l.length = n := by rw [hl.length_eq, List.length_range]
    refine ⟨_, rfl, o, rfl, ⟨_, SqT.of eo⟩, fun D nD => ?_⟩
    refine lc_it (walk_tup (xs := nv l)) (fun i H' => Same H H' ∧ H' D = some (.lst ((List.replicate i true).map V.bl))) ⟨same_new nD, upd_same⟩ (fun i H' _ pv => SqT.of (pv.1 _ _ eo)) ?_ ?_
    · rintro i v H7 H8 hi ⟨s7, e7⟩ ⟨rfl, hx⟩
      obtain ⟨c, hc, rfl⟩ := getn hx
      have hi' : i < l.length := (List.getElem?_eq_some_iff.mp hc).1
      refine ⟨rfl, _, rfl, c, rfl, _, e7, ?_, ?_, ?_⟩
      · rw [List.length_map, List.length_replicate]
        omega
      · intro b' o' e'
        rw [upd_ne (ne_of_none e' nD)]
        exact s7 _ _ e'
      · rw [upd_same, List.replicate_succ', List.map_append]
        rfl
    · rintro H7 ⟨s7, e7⟩
      refine ⟨D, List.replicate (nv l).length true, rfl, SqL.of e7, true, ?_, iteT ?_⟩
      · rw [show (List.replicate (nv l).length true).all id = true by simp]
      refine ⟨_, rfl, o, l.map fun i : Nat => (i : Int), rfl, by rw [← nv_int]; exact SqT.of (s7 _ _ eo), fun ns p hp hs np => ?_⟩
      have s8 := s7.trans (same_new (o := .lst (ns.map V.int)) np)
      have en := sorted_range hl hp hs
      refine ⟨_, rfl, _, rfl, RgOk.of_le (by decide) (by omega) (by decide) (by omega), fun p2 np2 => ?_⟩
      have s9 := s8.trans (same_new (o := .lst (rgV 0 (n : Int))) np2)
      have e9 : (upd (upd H7 p (.lst (ns.map V.int))) p2 (.lst (rgV 0 (n : Int)))) p = some (.lst (ns.map V.int)) := same_new np2 _ _ upd_same
      have er : rgV 0 (n : Int) = ns.map V.int := by rw [rgV_nv, nv_int, en]
      refine ⟨_, _, .lst (SqL.of e9) (ints_dp ns), .lst (SqL.of upd_same) (by rw [er]; exact ints_dp ns), shp_ints ns, shp_ints ns, ?_⟩
      have ee : PyData.eqv (.list (ns.map PyData.int)) (.list (ns.map PyData.int)) = true := by rw [PyData.eqv, eqv_ints]
      rw [ee]
      exact q _ s9
abbrev OrG (P : Program) (w : World) (K : Fr) (mg : Str → Option Value) (base : Heap) : Prop := ∃ f d, Gd P w K mg base 2 "is_order" f d ["value", "many"] spOr
end
end K11

set_option maxHeartbeats 4000000
namespace K11
open PySem PySem.Spec PyProof.Rows L2 RtL ErL StX NSet
open Grp (El mul)
/-- what is gone through in the one way or the other -/
theorem pi_or {X : Cx} {tg iter : Expr} {w1 w2 : TI} (h1 : PI X tg iter w1) (h2 : PI X tg iter w2) : PI X tg iter (fun σ H R => w1 σ H R ∨ w2 σ H R) := ⟨fun pins s σ H R I h => h.elim (h1.run pins s σ H R I) (h2.run pins s σ H R I)⟩
section
variable {P : Program} {w : World} {K : Fr} {mg : Str → Option Value} {base : Heap} {f : Addr} {fd : FuncData}
theorem sc15 : FnScope ["value", "many", "at"] ["value", "many"] (defScope (top 16)) := ⟨rfl, rfl, rfl, by decide +kernel, rfl, by decide +kernel, by decide +kernel⟩
def spAc : Sp := fun vs H Q _ => ∃ (a : Addr) (ns : List Int) (m : Int), vs = [.ref a, .int m] ∧ H a = some (.tup (ns.map V.int)) ∧ ns.length ≤ 1000 ∧ (∀ i ∈ ns, 0 ≤ i) ∧ ∀ H', Same H H' → Q (.bl (decide ((ns.length : Int) = m))) H'
theorem ok_ac (F : FunD K "are_counts" "are_counts" (defArgs (top 16)) (defBody (top 16)) (defScope (top 16)) [] [] f fd) (T : TT K mg) (G : CntG P w K mg base) : FnOk P w K mg base CX0 3 f fd ["value", "many"] spAc := by
  obtain ⟨fC, dC, GC⟩ := G
  refine F.ok sc15 (fun vs H Q E h => ?_) (fun cdv A outer s H vs Q E hr h => ?_)
  · obtain ⟨a, ns, m, rfl, _⟩ := h
    rfl
  · obtain ⟨a, ns, m, rfl, ea, hl, h0, q⟩ := h
    refine ⟨_, PSs.nox (pss_one (ps_ret (pe_and (pe_callB call_isi (by rfl) T.fre (by decide +kernel) (pa_cons (pv 0) (pa_cons (pe_bltn (v := .ty "tuple") (u := .type "tuple") (by rfl) T.fre (by decide +kernel) rfl) pa_nil)))
      (pe_and (pe_cmpR op_eq (pe_callB call_len_seq (by rfl) T.fre (by decide +kernel) (pa_cons (pv 0) pa_nil)) (pv 1) (nomark _))
      (pe_one (pe_callB (cr_all (by rfl)) (by rfl) T.fre (by decide +kernel) (pa_cons (pe_lc (own := [("at", 2)]) (g := gName 2) (tt := tYes) (by rfl) sc15.nd (pi_tup (pv 0)) (blkOk_by (N := ["value", "many", "at"]) (sc := defScope (top 16)) (by decide +kernel)) (fun _ _ _ _ _ => pg_name (i := 2) sc15.nd rfl (Or.inl rfl)) (fun _ _ _ _ _ => pts_nil)
        (fun _ _ _ _ _ => pe_gd GC hr (by rfl) (pa_cons (pv 2) pa_nil))) pa_nil))))))), ?_⟩
    have lz : 10000 ≤ sizeLine := by rw [sizeLine_eq]; decide
    have lm : (ns.map V.int).length = ns.length := List.length_map _
    refine ⟨_, rfl, _, _, _, _, true, rfl, .ty "tuple", .base (.tup ea), kit_ty rfl, true, rfl, iteT ?_⟩
    refine ⟨_, rfl, a, _, rfl, .inr (SqT.of ea), _, rfl, rfl, decide ((ns.length : Int) = m), ?_, ite2 (fun h => ?_) (fun h => ?_)⟩
    · rw [lm, dec_int]
      refine congrArg V.bl ?_
      rw [Bool.eq_iff_iff]
      simp
    · refine ⟨_, rfl, a, rfl, ⟨_, SqT.of ea⟩, fun D nD => ?_⟩
      refine lc_it (walk_tup (xs := ns.map V.int)) (fun i H' => Same H H' ∧ H' D = some (.lst ((List.replicate i true).map V.bl))) ⟨same_new nD, upd_same⟩ (fun i H' _ pv => SqT.of (pv.1 _ _ ea)) ?_ ?_
      · rintro i v H7 H8 hi ⟨s7, e7⟩ ⟨rfl, hx⟩
        obtain ⟨c, hc, rfl⟩ : ∃ c : Int, ns[i]? = some c ∧ v = .int c := by
          rw [List.getElem?_map] at hx
          cases e : ns[i]? with
          | none => rw [e] at hx; cases hx
          | some c => rw [e] at hx; cases hx; exact ⟨c, rfl, rfl⟩
        have hi' : i < ns.length := (List.getElem?_eq_some_iff.mp hc).1
        refine ⟨rfl, _, rfl, c, rfl, _, e7, ?_, ?_, ?_⟩
        · rw [List.length_map, List.length_replicate]
          omega
        · intro b' o' e'
          rw [upd_ne (ne_of_none e' nD)]
          exact s7 _ _ e'
        · rw [upd_same, List.replicate_succ', List.map_append, decide_eq_true (h0 c (List.mem_of_getElem? hc))]
          rfl
      · rintro H7 ⟨s7, e7⟩
        refine ⟨D, List.replicate (ns.map V.int).length true, rfl, SqL.of e7, ?_⟩
        rw [show (List.replicate (ns.map V.int).length true).all id = true by simp]
        have := q H7 s7
        rw [h] at this
        exact this
    · have := q H (Same.refl _)
      rw [Bool.eq_false_iff.mpr h] at this
      exact this
abbrev AcG (P : Program) (w : World) (K : Fr) (mg : Str → Option Value) (base : Heap) : Prop := ∃ f d, Gd P w K mg base 3 "are_counts" f d ["value", "many"] spAc
/-! ### checks -/
theorem sc23 : FnScope ["name"] ["name"] (defScope (top 25)) := ⟨rfl, rfl, rfl, by decide +kernel, rfl, by decide +kernel, by decide +kernel⟩
def spCk : Sp := fun vs H Q _ => ∃ z : Str, vs = [.str z] ∧ NmOk z ∧ Q .non H
theorem ok_ck (F : FunD K "check_name" "check_name" (defArgs (top 25)) (defBody (top 25)) (defScope (top 25)) [] [] f fd) (T : TT K mg) (G : NmG P w K mg base) : FnOk P w K mg base CX0 2 f fd ["name"] spCk := by
  obtain ⟨fN, dN, GN⟩ := G
  refine F.ok sc23 (fun vs H Q E h => ?_) (fun cdv A outer s H vs Q E hr h => ?_)
  · obtain ⟨z, rfl, _⟩ := h
    rfl
  · obtain ⟨z, rfl, hz, q⟩ := h
    refine ⟨_, PSs.nox (pss_one (ps_if (pt_not (pt_val (pe_gd GN hr (by rfl) (pa_cons (pv 0) pa_nil)))) (pss_one ps_never) pss_nil)), ?_⟩
    exact ⟨_, rfl, z, rfl, hz, true, rfl, iteF q⟩
abbrev CkG (P : Program) (w : World) (K : Fr) (mg : Str → Option Value) (base : Heap) : Prop := ∃ f d, Gd P w K mg base 2 "check_name" f d ["name"] spCk
theorem sc24 : FnScope ["slots", "position", "sort"] ["slots"] (defScope (top 26)) := ⟨rfl, rfl, rfl, by decide +kernel, rfl, by decide +kernel, by decide +kernel⟩
def spCs : Sp := fun vs H Q _ => ∃ (a : Addr) (zs : List Str), vs = [.ref a] ∧ (H a = some (.lst (zs.map V.str)) ∨ H a = some (.tup (zs.map V.str))) ∧ (∀ z ∈ zs, NmOk z) ∧ 1 ≤ zs.length ∧ zs.length ≤ 4 ∧ ∀ H', Same H H' → Q .non H'
theorem ok_cs (F : FunD K "check_slots" "check_slots" (defArgs (top 26)) (defBody (top 26)) (defScope (top 26)) [] [] f fd) (T : TT K mg) (L : LsG P w K mg base) (G : NmG P w K mg base) : FnOk P w K mg base CX0 2 f fd ["slots"] spCs := by
  obtain ⟨fN, dN, GN⟩ := G
  obtain ⟨fL, dL, GL⟩ := L
  obtain ⟨tk, gM⟩ := T.most
  refine F.ok sc24 (fun vs H Q E h => ?_) (fun cdv A outer s H vs Q E hr h => ?_)
  · obtain ⟨a, zs, rfl, _⟩ := h
    rfl
  · obtain ⟨a, zs, rfl, ha, hz, l1, l4, q⟩ := h
    refine ⟨_, PSs.nox (pss_cons (ps_if (PW.pt (pw_or (pt_not (pt_val (pe_gd GL hr (by rfl) (pa_cons (pv 0) pa_nil)))) (pw_or1 (pt_not (pt_chain op_le op_le pe_int (pe_callB call_len_seq (by rfl) T.fre (by decide +kernel) (pa_cons (pv 0) pa_nil)) (pe_glob (v := .int 4) (by rfl) gM ⟨tk, rfl⟩)))))) (pss_one ps_never) pss_nil)
      (pss_one (ps_for PassesOwn.never rfl (pi_or (pi_enum (by rfl) T.fre (pa_cons (pv 0) pa_nil)) (pi_enumT (by rfl) T.fre (pa_cons (pv 0) pa_nil))) (pg_tup (by rfl) (pgs_cons (pg_name (i := 1) sc24.nd rfl (.inl rfl)) (pgs_cons (pg_name (i := 2) sc24.nd rfl (.inl rfl)) pgs_nil)))
        (pss_one (ps_if (pt_not (pt_val (pe_gd GN hr (by rfl) (pa_cons (pv 2) pa_nil)))) (pss_one ps_never) pss_nil))))), ?_⟩
    refine ⟨_, rfl, a, _, rfl, ha, fun H1 s1 => ⟨true, rfl, iteF ?_⟩⟩
    have lm : (zs.map V.str).length = zs.length := List.length_map _
    have ha1 : H1 a = some (.lst (zs.map V.str)) ∨ H1 a = some (.tup (zs.map V.str)) := ha.imp (s1 _ _) (s1 _ _)
    have sq : SqL K H1 a (zs.map V.str) ∨ SqT K H1 a (zs.map V.str) := ha1.imp SqL.of SqT.of
    refine ⟨_, rfl, a, _, rfl, sq, _, _, rfl, rfl, true, congrArg V.bl (decide_eq_true (by rw [lm]; omega)), iteT ⟨_, _, rfl, rfl, true, congrArg V.bl (decide_eq_true (by rw [lm]; omega)), iteF ?_⟩⟩
    have step : ∀ (i : Nat) (v : V), (zs.map V.str)[i]? = some v → ∃ z, v = .str z ∧ NmOk z := fun i v hi => by
      rw [List.getElem?_map] at hi
      cases e : zs[i]? with
      | none => rw [e] at hi; cases hi
      | some z => rw [e] at hi; cases hi; exact ⟨z, rfl, hz z (List.mem_of_getElem? e)⟩
    rcases ha1 with h | h
    · refine .inl ⟨_, rfl, a, _, rfl, SqL.of h, for_it walk_enum (fun i σ H' => Same H1 H' ∧ ∃ u1 u2, σ = [some (.ref a), u1, u2]) ⟨Same.refl _, none, none, rfl⟩ (fun i σ H' _ pv => SqL.of (pv.1 _ _ h)) ?_ ?_⟩
      · rintro i v σ H2 H3 hi ⟨s2, u1, u2, rfl⟩ ⟨t, y1, y2, rfl, nt, rfl, hx, hy⟩
        obtain ⟨z, rfl, hz'⟩ := step i _ hy
        exact ⟨t, _, rfl, SqT.of upd_same, rfl, _, _, rfl, _, _, rfl, rfl, _, rfl, z, rfl, hz', true, rfl, iteF ⟨s2.trans (same_new nt), _, _, rfl⟩⟩
      · rintro σ H2 ⟨s2, u1, u2, rfl⟩
        exact q H2 (s1.trans s2)
    · refine .inr ⟨_, rfl, a, _, rfl, SqT.of h, for_it walk_enumT (fun i σ H' => Same H1 H' ∧ ∃ u1 u2, σ = [some (.ref a), u1, u2]) ⟨Same.refl _, none, none, rfl⟩ (fun i σ H' _ pv => SqT.of (pv.1 _ _ h)) ?_ ?_⟩
      · rintro i v σ H2 H3 hi ⟨s2, u1, u2, rfl⟩ ⟨t, y1, y2, rfl, nt, rfl, hx, hy⟩
        obtain ⟨z, rfl, hz'⟩ := step i _ hy
        exact ⟨t, _, rfl, SqT.of upd_same, rfl, _, _, rfl, _, _, rfl, rfl, _, rfl, z, rfl, hz', true, rfl, iteF ⟨s2.trans (same_new nt), _, _, rfl⟩⟩
      · rintro σ H2 ⟨s2, u1, u2, rfl⟩
        exact q H2 (s1.trans s2)
abbrev CsG (P : Program) (w : World) (K : Fr) (mg : Str → Option Value) (base : Heap) : Prop := ∃ f d, Gd P w K mg base 2 "check_slots" f d ["slots"] spCs
end
end K11

set_option maxHeartbeats 4000000
namespace K11
open PySem PySem.Spec PyProof.Rows L2 RtL ErL StX NSet
open Grp (El mul)
section
variable {P : Program} {w : World} {K : Fr} {mg : Str → Option Value} {base : Heap} {f : Addr} {fd : FuncData}
abbrev NIt : List Str := ["value", "slots", "order", "sign", "keeps_sorts", "slot"]
theorem sc25 : FnScope NIt ["value", "slots"] (defScope (top 27)) := ⟨rfl, rfl, rfl, by decide +kernel, rfl, by decide +kernel, by decide +kernel⟩
/-- the turn keeps the sorts -/
def Keeps (zs : List Str) (e : El) : Prop := ∀ i, i < zs.length → zs[e.1.getD i 0]? = zs[i]?
def spIt : Sp := fun vs H Q _ => ∃ (t a : Addr) (e : El) (zs : List Str), vs = [.ref t, .ref a] ∧ ElAt H t e ∧ (H a = some (.lst (zs.map V.str)) ∨ H a = some (.tup (zs.map V.str))) ∧ Grp.Ok zs.length e ∧ Keeps zs e ∧ zs.length ≤ 4 ∧ ∀ H', Same H H' → Q (.bl true) H'
theorem ok_it (F : FunD K "is_turn" "is_turn" (defArgs (top 27)) (defBody (top 27)) (defScope (top 27)) [] [] f fd) (T : TT K mg) (A1 : PrG P w K mg base) (A2 : OrG P w K mg base) (A3 : IsintG P w K mg base) : FnOk P w K mg base CX0 3 f fd ["value", "slots"] spIt := by
  obtain ⟨f1, d1, G1⟩ := A1
  obtain ⟨f2, d2, G2⟩ := A2
  obtain ⟨f3, d3, G3⟩ := A3
  refine F.ok sc25 (fun vs H Q E h => ?_) (fun cdv A outer s H vs Q E hr h => ?_)
  · obtain ⟨t, a, e, zs, rfl, _⟩ := h
    rfl
  · obtain ⟨t, a, e, zs, rfl, he, ha, ho, hk, l4, q⟩ := h
    refine ⟨_, PSs.nox (pss_cons (ps_if (pt_not (pt_val (pe_gd G1 (hr.mono (by decide)) (by rfl) (pa_cons (pv 0) pa_nil)))) (pss_one (ps_ret pe_bl)) pss_nil)
      (pss_cons (ps_asg (pv 0) (pg_tup (by rfl) (pgs_cons (pg_name (i := 2) sc25.nd rfl (.inr rfl)) (pgs_cons (pg_name (i := 3) sc25.nd rfl (.inl rfl)) pgs_nil))))
      (pss_cons (ps_if (PW.pt (pw_or (pt_not (pt_val (pe_callB call_isi (by rfl) T.fre (by decide +kernel) (pa_cons (pv 2) (pa_cons (pe_bltn (v := .ty "tuple") (u := .type "tuple") (by rfl) T.fre (by decide +kernel) rfl) pa_nil)))))
        (pw_or1 (pt_not (pt_val (pe_gd G2 (hr.mono (by decide)) (by rfl) (pa_cons (pv 2) (pa_cons (pe_callB call_len_seq (by rfl) T.fre (by decide +kernel) (pa_cons (pv 1) pa_nil)) pa_nil)))))))) (pss_one (ps_ret pe_bl)) pss_nil)
      (pss_cons (ps_set (i := 4) sc25.nd rfl (Or.inl rfl) (pe_callB (cr_all (by rfl)) (by rfl) T.fre (by decide +kernel) (pa_cons (pe_lc (own := [("slot", 5)]) (g := gName 5) (tt := tYes) (by rfl) sc25.nd (pi_range1 (by rfl) T.fre (pa_cons (pe_callB call_len_seq (by rfl) T.fre (by decide +kernel) (pa_cons (pv 1) pa_nil)) pa_nil)) (blkOk_by (N := NIt) (sc := defScope (top 27)) (by decide +kernel)) (fun _ _ _ _ _ => pg_name (i := 5) sc25.nd rfl (Or.inl rfl)) (fun _ _ _ _ _ => pts_nil)
        (fun _ _ _ _ _ => pe_cmpR op_eq (pe_ix (r := rIx K) ix_seq (pv 1) (pe_ix (r := rIxT K) ix_tup (pv 2) (pv 5) (fun _ _ => rfl)) (fun _ _ => rfl)) (pe_ix (r := rIx K) ix_seq (pv 1) (pv 5) (fun _ _ => rfl)) (nomark _))) pa_nil)))
      (pss_one (ps_ret (pe_and (pv 4) (pe_and (pe_gd G3 (hr.mono (by decide)) (by rfl) (pa_cons (pv 3) pa_nil)) (pe_one (pe_cmpR op_in_seq (pv 3) (pe_tup (pa_cons pe_int (pa_cons (pe_un un_neg pe_int) pa_nil))) (by rfl))))))))))), ?_⟩
    have lz : 10000 ≤ sizeLine := by rw [sizeLine_eq]; decide
    obtain ⟨o, ht, hoo⟩ := _root_.id he
    have lm : (zs.map V.str).length = zs.length := List.length_map _
    have sq : ∀ {H' : Hp}, Same H H' → SqL K H' a (zs.map V.str) ∨ SqT K H' a (zs.map V.str) := fun s => ha.imp (fun h => SqL.of (s _ _ h)) (fun h => SqT.of (s _ _ h))
    have gz : ∀ i, i < zs.length → ∃ z, zs[i]? = some z ∧ (zs.map V.str)[i]? = some (.str z) := fun i hi => ⟨zs[i], List.getElem?_eq_getElem hi, by rw [List.getElem?_map, List.getElem?_eq_getElem hi]; rfl⟩
    refine ⟨_, rfl, t, _, rfl, ht, rfl, true, rfl, iteF ?_⟩
    refine ⟨_, rfl, t, _, rfl, SqT.of ht, rfl, _, _, rfl, _, _, rfl, rfl, ?_⟩
    refine ⟨_, rfl, _, _, _, _, true, rfl, .ty "tuple", .base (.tup hoo), kit_ty rfl, true, rfl, iteF ?_⟩
    refine ⟨_, rfl, _, rfl, a, zs.map V.str, rfl, sq (Same.refl _), o, e.1, zs.length, (by rw [lm]; rfl), hoo, ho.pm, l4, fun H1 s1 => ⟨true, rfl, iteF ?_⟩⟩
    have iR : ∀ {H' : Hp} {i : Nat} {v : V} {R : VK}, Same H H' → (zs.map V.str)[i]? = some v → R v H' → rIx K (.ref a) (.int (i : Int)) H' R := fun s hi r => by
      rcases sq s with h | h
      · exact .inl ⟨a, _, _, _, rfl, rfl, h, atI_nat hi, r⟩
      · exact .inr (.inl ⟨a, _, _, _, rfl, rfl, h, atI_nat hi, r⟩)
    refine ⟨_, rfl, a, zs.map V.str, rfl, sq s1, _, rfl, by omega, by omega, fun D nD => ?_⟩
    rw [show ((zs.map V.str).length : Int).toNat = zs.length by rw [lm]; rfl]
    refine lc_it walk_range (fun i H' => Same H H' ∧ H' D = some (.lst ((List.replicate i true).map V.bl))) ⟨s1.trans (same_new nD), upd_same⟩ (fun i H' _ _ => trivial) ?_ ?_
    · rintro i v H7 H8 hi ⟨s7, e7⟩ ⟨rfl, hv⟩
      have el : e.1.length = zs.length := ho.len
      obtain rfl : v = .int (i : Int) := by rw [hv]; show V.int _ = _; rw [Int.zero_add]
      obtain ⟨z, hz, hzv⟩ := gz i hi
      have hoi : e.1[i]? = some (e.1.getD i 0) := by rw [List.getD_eq_getElem?_getD, List.getElem?_eq_getElem (by omega)]; rfl
      have h2 : (zs.map V.str)[e.1.getD i 0]? = some (.str z) := by rw [List.getElem?_map, hk i hi, hz]; rfl
      have h3 : (nv e.1)[i]? = some (.int ((e.1.getD i 0 : Nat) : Int)) := by rw [List.getElem?_map, hoi]; rfl
      refine ⟨rfl, _, rfl, _, rfl, _, rfl, o, _, _, _, rfl, rfl, SqT.of (s7 _ _ hoo), atI_nat h3, iR s7 h2 ⟨_, rfl, _, rfl, iR s7 hzv ⟨rfl, _, e7, ?_, ?_, ?_⟩⟩⟩
      · rw [List.length_map, List.length_replicate]
        omega
      · intro b' o' e'
        rw [upd_ne (ne_of_none e' (gone s1 nD))]
        exact s7 _ _ e'
      · rw [upd_same, List.replicate_succ', List.map_append, decide_eq_true rfl]
        rfl
    · rintro H7 ⟨s7, e7⟩
      refine ⟨D, List.replicate zs.length true, rfl, SqL.of e7, ?_⟩
      rw [show (List.replicate zs.length true).all id = true by simp]
      refine ⟨_, rfl, true, rfl, iteT ⟨_, rfl, e.2, rfl, true, rfl, iteT ⟨_, rfl, 1, rfl, ?_⟩⟩⟩
      refine ⟨by show 2 ≤ sizeLine; omega, fun p np => ⟨p, _, rfl, .inr (SqT.of upd_same), rfl, rfl, ?_⟩⟩
      have ei : inV (V.int e.2) [.int 1, .int (-1)] = true := by rcases ho.sg with z | z <;> rw [z] <;> decide
      have := q _ (s7.trans (same_new (o := .tup [.int 1, .int (-1)]) np))
      rw [← ei] at this
      exact this
abbrev ItG (P : Program) (w : World) (K : Fr) (mg : Str → Option Value) (base : Heap) : Prop := ∃ f d, Gd P w K mg base 3 "is_turn" f d ["value", "slots"] spIt
end
end K11

set_option maxHeartbeats 600000
namespace K11
open PySem PySem.Spec PyProof.Rows L2 RtL ErL StX NSet
open Grp (El mul)
theorem eqv_nums : ∀ a b : List Nat, PyData.eqvAll (a.map fun i : Nat => PyData.int (i : Int)) (b.map fun i : Nat => PyData.int (i : Int)) = decide (a = b)
  | [], [] => rfl
  | [], _ :: _ => by simp [PyData.eqvAll]
  | _ :: _, [] => by simp [PyData.eqvAll]
  | x :: a, y :: b => by
    rw [List.map_cons, List.map_cons, PyData.eqvAll, eqv_nums a b, PyData.eqv, Bool.eq_iff_iff]
    simp [Int.ofNat_inj]
theorem eqv_el (x y : El) : PyData.eqv (dEl x) (dEl y) = decide (x = y) := by
  obtain ⟨a, i⟩ := x
  obtain ⟨b, j⟩ := y
  unfold dEl
  rw [PyData.eqv, PyData.eqvAll, PyData.eqv, eqv_nums, PyData.eqvAll, PyData.eqvAll, PyData.eqv, Bool.eq_iff_iff]
  simp [Prod.ext_iff]
theorem lay_nums : ∀ l : List Nat, PyData.canLayAll0 (l.map fun i : Nat => PyData.int (i : Int)) = true
  | [] => rfl
  | x :: l => by
    show (true && PyData.canLayAll0 (l.map _)) = true
    rw [lay_nums l]
    rfl
theorem lay_el (e : El) : PyData.canLay0 (dEl e) = true := by
  show (PyData.canLayAll0 _ && (true && true)) = true
  rw [lay_nums]
  rfl
theorem shp_el (e : El) : SeqAt.shaped (dEl e) = true := by
  unfold SeqAt.shaped
  refine Bool.and_eq_true_iff.mpr ⟨lay_el e, decide_eq_true ?_⟩
  have := depth_el e
  omega
theorem lays_el : ∀ l : List El, PyData.canLayAll0 (l.map dEl) = true
  | [] => rfl
  | x :: l => by
    show (PyData.canLay0 (dEl x) && PyData.canLayAll0 (l.map _)) = true
    rw [lays_el l, lay_el]
    rfl
theorem deps_el : ∀ l : List El, PyData.depthAll (l.map dEl) ≤ 20
  | [] => by decide
  | x :: l => by
    show max (dEl x).depth (PyData.depthAll (l.map _)) ≤ 20
    exact Nat.max_le.mpr ⟨depth_el x, deps_el l⟩
theorem shp_els (l : List El) : SeqAt.shaped (.list (l.map dEl)) = true := by
  unfold SeqAt.shaped
  refine Bool.and_eq_true_iff.mpr ⟨lays_el l, decide_eq_true ?_⟩
  have := deps_el l
  show PyData.depthAll _ + 1 ≤ 64
  omega
theorem els_dp {K : Fr} {H : Hp} : ∀ es : List (Addr × El), (∀ p ∈ es, ElAt H p.1 p.2) → DpAll K H (refs es) ((els es).map dEl)
  | [], _ => .nil
  | p :: es, h => .cons (h p List.mem_cons_self).dp (els_dp es fun q hq => h q (List.mem_cons_of_mem _ hq))
theorem any_el (l : List El) (x : El) : ((l.map dEl).any fun z => PyData.eqv z (dEl x)) = decide (x ∈ l) := by
  rw [List.any_map, Bool.eq_iff_iff, List.any_eq_true, decide_eq_true_iff]
  constructor
  · rintro ⟨y, hy, h⟩
    have h : PyData.eqv (dEl y) (dEl x) = true := h
    rw [eqv_el] at h
    rw [← of_decide_eq_true h]
    exact hy
  · intro h
    refine ⟨x, h, ?_⟩
    show PyData.eqv (dEl x) (dEl x) = true
    rw [eqv_el]
    exact decide_eq_true rfl
/-- all but the object at x stays -/
def But (x : Addr) (H H' : Hp) : Prop := ∀ b o, b ≠ x → H b = some o → H' b = some o
theorem But.same {x : Addr} {H H1 H2 : Hp} (h : But x H H1) (s : Same H1 H2) : But x H H2 := fun b o hb e => s _ _ (h b o hb e)
theorem But.of {x : Addr} {H H1 : Hp} (s : Same H H1) : But x H H1 := fun b o _ e => s _ _ e
theorem But.put {x : Addr} {H H1 : Hp} {o : HO} (h : But x H H1) : But x H (upd H1 x o) := fun b o hb e => by
  rw [upd_ne hb]
  exact h b o hb e
theorem ElAt.but {x a : Addr} {e : El} {H H' : Hp} (h : ElAt H a e) (s : But x H H') (hx : ∀ vs, H x ≠ some (.tup vs)) : ElAt H' a e := by
  obtain ⟨o, h1, h2⟩ := h
  exact ⟨o, s _ _ (fun z => hx _ (by rw [← z]; exact h1)) h1, s _ _ (fun z => hx _ (by rw [← z]; exact h2)) h2⟩
section
variable {P : Program} {w : World} {K : Fr} {mg : Str → Option Value} {base : Heap} {f : Addr} {fd : FuncData}
abbrev s_ti : Stmt := inT 0
abbrev NTi : List Str := ["self", "name", "slots", "turns", "position", "turn", "group"]
theorem sc_ti : FnScope NTi ["self", "name", "slots", "turns"] (defScope s_ti) := ⟨rfl, rfl, rfl, by decide +kernel, rfl, by decide +kernel, by decide +kernel⟩
theorem hbTi {kV doc pm cdv ct : Value} {an : Option Addr} {q : Str} : ∀ us rest : List Value, us.length = (["self", "name", "slots"] : List Str).length → bindArgs (PySem.W.fnOf "__init__" q (defArgs s_ti) (defBody s_ti) (defScope s_ti) Value.none kV doc pm an cdv ct) ⟨us ++ rest, []⟩ = (newTuple rest >>= fun t => pure ((["self", "name", "slots"] : List Str).zip us ++ [(("turns" : Str), t)]))
  | [a, b, c], [], _ => by rfl
  | [a, b, c], r :: rs, _ => by rfl
/-- what is asked of a table -/
structure TabIn (H : Hp) (nm : Str) (a : Addr) (zs : List Str) (ts : List (Addr × El)) : Prop where
  nm : NmOk nm
  sl : H a = some (.lst (zs.map V.str)) ∨ H a = some (.tup (zs.map V.str))
  sz : ∀ z ∈ zs, NmOk z
  l1 : 1 ≤ zs.length
  l4 : zs.length ≤ 4
  tu : ∀ p ∈ ts, ElAt H p.1 p.2 ∧ Grp.Ok zs.length p.2 ∧ Keeps zs p.2
  lt : ts.length ≤ 100
theorem TabIn.same {H H' : Hp} {nm : Str} {a : Addr} {zs : List Str} {ts : List (Addr × El)} (h : TabIn H nm a zs ts) (s : Same H H') : TabIn H' nm a zs ts :=
  ⟨h.nm, h.sl.imp (s _ _) (s _ _), h.sz, h.l1, h.l4, fun p hp => ⟨(h.tu p hp).1.same s, (h.tu p hp).2⟩, h.lt⟩
abbrev tiF (nm : Str) (s g : Addr) : List (Str × V) := [("name", .str nm), ("_slots", .ref s), ("_group", .ref g)]
def TiQ (K : Fr) (H : Hp) (x dx : Addr) (nm : Str) (zs : List Str) (ts : List (Addr × El)) (Q : VK) : Prop := ∀ (s g : Addr) (es : List (Addr × El)) (H' : Hp), But x H H' → H' x = some (.ins (TC K) dx (tiF nm s g)) → H' s = some (.tup (zs.map V.str)) → H' g = some (.tup (refs es)) → (∀ p ∈ es, ElAt H' p.1 p.2) →
  els es = srt (Grp.found zs.length (els ts)) → Q .non H'
def spTi1 (K : Fr) : Sp := fun vs H Q _ => ∃ (x dx a p : Addr) (nm : Str) (zs : List Str) (ts : List (Addr × El)), vs = [.ref x, .str nm, .ref a, .ref p] ∧ H x = some (.ins (TC K) dx []) ∧ H p = some (.tup (refs ts)) ∧ TabIn H nm a zs ts ∧ (List.range zs.length, -1) ∉ Grp.found zs.length (els ts) ∧ TiQ K H x dx nm zs ts Q
def spTi (K : Fr) : Sp := fun vs H Q _ => ∃ (x dx a : Addr) (nm : Str) (zs : List Str) (ts : List (Addr × El)), vs = .ref x :: .str nm :: .ref a :: refs ts ∧ H x = some (.ins (TC K) dx []) ∧ TabIn H nm a zs ts ∧ (List.range zs.length, -1) ∉ Grp.found zs.length (els ts) ∧ TiQ K H x dx nm zs ts Q
theorem ok_ti {q : Str} (F : FunD K "__init__" q (defArgs s_ti) (defBody s_ti) (defScope s_ti) [] [] f fd) (T : TT K mg) (A1 : CkG P w K mg base) (A2 : CsG P w K mg base) (A3 : ItG P w K mg base) (A4 : GrG P w K mg base) : FnR P w K mg base CX0 4 f (spTi K) := by
  obtain ⟨f1, d1, G1⟩ := A1
  obtain ⟨f2, d2, G2⟩ := A2
  obtain ⟨f3, d3, G3⟩ := A3
  obtain ⟨f4, d4, G4⟩ := A4
  obtain ⟨oc, od, dV, kV, doc, pm', an, cdv, ct, osl, rfl, lk, hcd, hdv, _⟩ := F.ex
  obtain rfl : dV = Value.none := hdv.elim (fun z => z.2) fun z => absurd rfl z.1
  refine FnR.imp (StX.fn_star (P := P) (w := w) (mg := mg) (base := base) (CX := CX0) (k := 3) (sp := spTi1 K) (pv := "turns") (ps := ["self", "name", "slots"]) lk hcd sc_ti StX.cxUp_none hbTi (fun A outer s H vs Q E hr h => ?_)) (fun vs H Q E h => ?_)
  rotate_left
  · obtain ⟨x, dx, a, nm, zs, ts, rfl, ex, ti, hv, q⟩ := h
    refine ⟨[.ref x, .str nm, .ref a], refs ts, rfl, rfl, by have := ti.lt; rw [List.length_map, sizeLine_eq]; omega, fun p hp => ⟨x, dx, a, p, nm, zs, ts, rfl, same_new hp _ _ ex, upd_same, ti.same (same_new hp), hv, fun s g es H' b e1 e2 e3 e4 e5 => q s g es H' (fun b' o hb e => b b' o hb (same_new hp _ _ e)) e1 e2 e3 e4 e5⟩⟩
  · obtain ⟨x, dx, a, p, nm, zs, ts, rfl, ex, ep, ti, hv, qq⟩ := h
    have hu : (A.deeper (envOfC q (defScope s_ti) s.heap.objs.size f cdv)).units + 65 < cLine := by have := hr.un; omega
    refine ⟨_, PSs.nox (pss_cons (ps_expr (pe_gd G1 (hr.mono (by decide)) (by rfl) (pa_cons (pv 1) pa_nil)))
      (pss_cons (ps_expr (pe_gd G2 (hr.mono (by decide)) (by rfl) (pa_cons (pv 2) pa_nil)))
      (pss_cons (ps_for PassesOwn.never rfl (pi_enumT (by rfl) T.fre (pa_cons (pv 3) pa_nil)) (pg_tup (by rfl) (pgs_cons (pg_name (i := 4) sc_ti.nd rfl (.inl rfl)) (pgs_cons (pg_name (i := 5) sc_ti.nd rfl (.inl rfl)) pgs_nil)))
        (pss_one (ps_if (pt_not (pt_val (pe_gd G3 hr (by rfl) (pa_cons (pv 5) (pa_cons (pv 2) pa_nil))))) (pss_one ps_never) pss_nil)))
      (pss_cons (ps_set (i := 6) sc_ti.nd rfl (Or.inl rfl) (pe_gd G4 hr (by rfl) (pa_cons (pe_callB call_len_seq (by rfl) T.fre (by decide +kernel) (pa_cons (pv 2) pa_nil)) (pa_cons (pv 3) pa_nil))))
      (pss_cons (ps_if (pt_cmpR (op_inD hu) (pe_tup (pa_cons (pe_tupRg rfl (by rfl) T.fre (prg_1 (by rfl) T.fre (pe_callB call_len_seq (by rfl) T.fre (by decide +kernel) (pa_cons (pv 2) pa_nil)))) (pa_cons (pe_un un_neg pe_int) pa_nil))) (pv 6) (by rfl)) (pss_one ps_never) pss_nil)
      (pss_cons (ps_fld (pv 0) (pv 1) (by rfl))
      (pss_cons (ps_fld (pv 0) (pe_callTy call_tuple_of (by rfl) T.fre (by decide +kernel) (pa_cons (pv 2) pa_nil)) (by rfl))
      (pss_one (ps_fld (pv 0) (pe_callTy call_tuple_of (by rfl) T.fre (by decide +kernel) (pa_cons (pv 6) pa_nil)) (by rfl)))))))))), ?_⟩
    have lz : 10000 ≤ sizeLine := by rw [sizeLine_eq]; decide
    have lm : (zs.map V.str).length = zs.length := List.length_map _
    refine ⟨_, rfl, nm, rfl, ti.nm, _, rfl, a, zs, rfl, ti.sl, ti.sz, ti.l1, ti.l4, fun H1 s1 => ?_⟩
    have ep1 := s1 _ _ ep
    refine ⟨_, rfl, p, _, rfl, SqT.of ep1, for_it walk_enumT (fun i σ H' => Same H1 H' ∧ ∃ u4 u5, σ = [some (.ref x), some (.str nm), some (.ref a), some (.ref p), u4, u5, none]) ⟨Same.refl _, none, none, rfl⟩ (fun i σ H' _ pv => SqT.of (pv.1 _ _ ep1)) ?_ ?_⟩
    · rintro i v σ H2 H3 hi ⟨s2, u1, u2, rfl⟩ ⟨t, y1, y2, rfl, nt, rfl, hx, hy⟩
      obtain ⟨pr, hpr, rfl⟩ : ∃ pr, ts[i]? = some pr ∧ y2 = .ref pr.1 := by
        have hy : (refs ts)[i]? = some y2 := hy
        rw [List.getElem?_map] at hy
        cases e : ts[i]? with
        | none => rw [e] at hy; cases hy
        | some z => rw [e] at hy; cases hy; exact ⟨z, rfl, rfl⟩
      have s3 := s1.trans (s2.trans (same_new (o := .tup [y1, .ref pr.1]) nt))
      have ti3 := ti.same s3
      obtain ⟨h1, h2, h3⟩ := ti3.tu pr (List.mem_of_getElem? hpr)
      exact ⟨t, _, rfl, SqT.of upd_same, rfl, _, _, rfl, _, _, rfl, rfl, _, rfl, _, rfl, pr.1, a, pr.2, zs, rfl, h1, ti3.sl, h2, h3, ti.l4, fun H4 s4 => ⟨true, rfl, iteF ⟨s2.trans ((same_new nt).trans s4), _, _, rfl⟩⟩⟩
    · rintro σ H2 ⟨s2, u1, u2, rfl⟩
      have s02 := s1.trans s2
      have ti2 := ti.same s02
      refine ⟨_, rfl, a, zs.map V.str, rfl, ti2.sl.imp SqL.of SqT.of, _, rfl, zs.length, p, ts, by rw [lm]; rfl, s02 _ _ ep, fun pr hp => ⟨(ti2.tu pr hp).1, (ti2.tu pr hp).2.1⟩, ti.l4, ti.lt, fun l es H3 s3 nl el hes hels good => ?_⟩
      have s03 := s02.trans s3
      have ti3 := ti.same s03
      refine ⟨_, rfl, a, zs.map V.str, rfl, ti3.sl.imp SqL.of SqT.of, _, rfl, RgOk.of_le (by decide) (by have := ti.l4; omega) (by decide) (by have := ti.l4; omega), fun t0 nt0 => ?_⟩
      refine ⟨1, rfl, by show 2 ≤ sizeLine; omega, fun t1 nt1 => ?_⟩
      have s4 := s3.trans ((same_new (o := .tup (rgV 0 ((zs.map V.str).length : Int))) nt0).trans (same_new (o := .tup [.ref t0, .int (-1)]) nt1))
      have s4' := (same_new (o := .tup (rgV 0 ((zs.map V.str).length : Int))) nt0).trans (same_new (o := .tup [.ref t0, .int (-1)]) nt1)
      have eM : ElAt (upd (upd H3 t0 (.tup (rgV 0 ((zs.map V.str).length : Int)))) t1 (.tup [.ref t0, .int (-1)])) t1 (List.range zs.length, -1) := ⟨t0, upd_same, same_new nt1 _ _ (by rw [lm, rgV_nv]; exact upd_same)⟩
      have el4 := s4' _ _ el
      have hes4 : ∀ pr ∈ es, ElAt _ pr.1 pr.2 := fun pr hp => (hes pr hp).same s4'
      have s04 := s03.trans s4'
      have l4n : H l = none := gone s02 nl
      generalize upd (upd H3 t0 (.tup (rgV 0 ((zs.map V.str).length : Int)))) t1 (.tup [.ref t0, .int (-1)]) = H4 at eM el4 hes4 s04
      have ti4 := ti.same s04
      have nm4 : (List.range zs.length, (-1 : Int)) ∉ els es := fun z => by
        rw [hels] at z
        exact hv ((srt_perm _).mem_iff.mp z)
      refine ⟨_, rfl, dEl (List.range zs.length, -1), (els es).map dEl, eM.dp, .lst (SqL.of el4) (els_dp es hes4), shp_el _, shp_els _, false, congrArg V.bl (by rw [any_el]; exact decide_eq_false nm4), iteF ?_⟩
      have ex4 := s04 _ _ ex
      refine ⟨_, rfl, _, rfl, x, _, dx, _, rfl, ex4, T.cl, T.no "name" (by decide), by show 0 < 1000; decide, ?_⟩
      have nex : ∀ {G : Hp}, G x = some (.ins (TC K) dx []) → ∀ vs, G x ≠ some (.tup vs) := fun e vs z => by
        rw [e] at z
        cases z
      have nel : ∀ {G : Hp} {b : Addr} {vs : List V}, G x = some (.ins (TC K) dx []) → (G b = some (.tup vs) ∨ G b = some (.lst vs)) → b ≠ x := fun e z bx => by
        rw [bx, e] at z
        rcases z with z | z <;> cases z
      have lx : l ≠ x := nel ex4 (.inr el4)
      have ax : a ≠ x := nel ex4 ti4.sl.symm
      have b5 : But x H (upd H4 x (.ins (TC K) dx [("name", .str nm)])) := (But.of s04).put
      have b45 : But x H4 (upd H4 x (.ins (TC K) dx [("name", .str nm)])) := (But.of (Same.refl _)).put
      rw [show putF ("name" : Str) (V.str nm) [] = [(("name" : Str), V.str nm)] from rfl]
      have x5 : (upd H4 x (.ins (TC K) dx [("name", .str nm)])) x = some (.ins (TC K) dx [("name", .str nm)]) := upd_same
      generalize upd H4 x (.ins (TC K) dx [("name", .str nm)]) = H5 at b5 b45 x5
      have el5 := b45 _ _ lx el4
      have hes5 : ∀ pr ∈ es, ElAt H5 pr.1 pr.2 := fun pr hp => (hes4 pr hp).but b45 (nex ex4)
      have fin : ∀ (sl : Addr) (H6 : Hp), Same H5 H6 → H6 sl = some (.tup (zs.map V.str)) → ∀ g H7, Same (upd H6 x (.ins (TC K) dx [("name", .str nm), ("_slots", .ref sl)])) H7 → H7 g = some (.tup (refs es)) → Q .non (upd H7 x (.ins (TC K) dx (tiF nm sl g))) := by
        intro sl H6 s6 e6 g H7 s7 e7
        have x6 := s6 _ _ x5
        have sx : sl ≠ x := fun z => by rw [z, x6] at e6; cases e6
        have x7 := s7 _ _ upd_same
        have gx : g ≠ x := fun z => by rw [z, x7] at e7; cases e7
        refine qq sl g es _ (((b5.same s6).put).same s7).put upd_same ?_ ?_ (fun pr hp => ?_) hels
        · rw [upd_ne sx]
          exact s7 _ _ (by rw [upd_ne sx]; exact e6)
        · rw [upd_ne gx]
          exact e7
        · refine (hes5 pr hp).but (x := x) ((((But.of s6).put).same s7).put) (fun vs z => ?_)
          rw [x5] at z
          cases z
      have fin2 : ∀ (sl : Addr) (H6 : Hp), Same H5 H6 → H6 sl = some (.tup (zs.map V.str)) → ∀ g, (upd H6 x (.ins (TC K) dx [("name", .str nm), ("_slots", .ref sl)])) g = none → Q .non (upd (upd (upd H6 x (.ins (TC K) dx [("name", .str nm), ("_slots", .ref sl)])) g (.tup (refs es))) x (.ins (TC K) dx (tiF nm sl g))) := fun sl H6 s6 e6 g ng => fin sl H6 s6 e6 g _ (same_new ng) upd_same
      have el6 : ∀ (sl : Addr) (H6 : Hp), Same H5 H6 → (upd H6 x (.ins (TC K) dx [("name", .str nm), ("_slots", .ref sl)])) l = some (.lst (refs es)) := fun sl H6 s6 => by
        rw [upd_ne lx]
        exact s6 _ _ el5
      have sl5 : H5 a = some (.lst (zs.map V.str)) ∨ H5 a = some (.tup (zs.map V.str)) := ti4.sl.imp (b45 _ _ ax) (b45 _ _ ax)
      rcases sl5 with h | h
      · refine ⟨_, rfl, a, _, rfl, .inl ⟨SqL.of h, fun sl ns => ⟨_, rfl, x, _, dx, _, rfl, same_new ns _ _ x5, T.cl, T.no "_slots" (by decide), by show 1 < 1000; decide, ?_⟩⟩⟩
        refine ⟨_, rfl, l, _, rfl, .inl ⟨SqL.of (el6 sl _ (same_new ns)), fun g ng => ⟨_, rfl, x, _, dx, _, rfl, same_new ng _ _ upd_same, T.cl, T.no "_group" (by decide), by show 2 < 1000; decide, ?_⟩⟩⟩
        exact fin2 sl _ (same_new ns) upd_same g ng
      · refine ⟨_, rfl, a, _, rfl, .inr ⟨SqT.of h, ⟨_, rfl, x, _, dx, _, rfl, x5, T.cl, T.no "_slots" (by decide), by show 1 < 1000; decide, ?_⟩⟩⟩
        refine ⟨_, rfl, l, _, rfl, .inl ⟨SqL.of (el6 a _ (Same.refl _)), fun g ng => ⟨_, rfl, x, _, dx, _, rfl, same_new ng _ _ upd_same, T.cl, T.no "_group" (by decide), by show 2 < 1000; decide, ?_⟩⟩⟩
        exact fin2 a _ (Same.refl _) h g ng
abbrev TId (P : Program) (w : World) (K : Fr) (mg : Str → Option Value) (base : Heap) : Prop := FnR P w K mg base CX0 4 (tm K "__init__") (spTi K)
end
end K11

set_option maxHeartbeats 600000
namespace K11
open PySem PySem.Spec PyProof.Rows L2 RtL ErL StX NSet
open Grp (El mul)
/-- a row turned -/
def tn (ns : List Int) (e : El) : List Int := e.1.map fun i => ns.getD i 0
/-- one turn more: the sign, the least row, whether it is empty -/
def loS (ns : List Int) (c : Int × List Int × Bool) (e : El) : Int × List Int × Bool :=
  let o := tn ns e
  let b := c.2.2 || (decide (o = ns) && decide (e.2 = -1))
  if HT.lexLt o c.2.1 = true then (e.2, o, b) else (c.1, c.2.1, b)
def lo (ns : List Int) (es : List El) : Int × List Int × Bool := es.foldl (loS ns) (1, ns, false)
theorem eqv_intl : ∀ a b : List Int, PyData.eqvAll (a.map PyData.int) (b.map PyData.int) = decide (a = b)
  | [], [] => rfl
  | [], _ :: _ => by simp [PyData.eqvAll]
  | _ :: _, [] => by simp [PyData.eqvAll]
  | x :: a, y :: b => by
    rw [List.map_cons, List.map_cons, PyData.eqvAll, eqv_intl a b, PyData.eqv, Bool.eq_iff_iff]
    simp
theorem shp_intt (l : List Int) : SeqAt.shaped (.tuple (l.map PyData.int)) = true := by
  unfold SeqAt.shaped
  refine Bool.and_eq_true_iff.mpr ⟨lay_ints l, decide_eq_true ?_⟩
  show PyData.depthAll (l.map PyData.int) + 1 ≤ 64
  rw [dep_ints]
  decide
theorem lexLt_irrefl : ∀ ns : List Int, HT.lexLt ns ns = false
  | [] => rfl
  | x :: ns => by
    have := lexLt_irrefl ns
    simp [HT.lexLt, this]
theorem tn_one (ns : List Int) : tn ns (Grp.one ns.length) = ns := by
  unfold tn Grp.one
  refine List.ext_getElem? fun i => ?_
  rw [List.getElem?_map]
  rcases Nat.lt_or_ge i ns.length with h | h
  · rw [List.getElem?_range h, List.getElem?_eq_getElem h]
    show some (ns.getD i 0) = _
    rw [List.getD_eq_getElem?_getD, List.getElem?_eq_getElem h]
    rfl
  · rw [List.getElem?_eq_none (by rw [List.length_range]; exact h), List.getElem?_eq_none h]
    rfl
theorem lo_one (ns : List Int) : lo ns [Grp.one ns.length] = (1, ns, false) := by
  show loS ns (1, ns, false) (Grp.one ns.length) = _
  unfold loS
  rw [tn_one]
  simp [lexLt_irrefl, Grp.one]
section
variable {P : Program} {w : World} {K : Fr} {mg : Str → Option Value} {base : Heap} {f : Addr} {fd : FuncData}
abbrev NLo : List Str := ["row", "group", "sign", "least", "is_empty", "order", "turn_sign", "other"]
theorem sc20 : FnScope NLo ["row", "group"] (defScope (top 22)) := ⟨rfl, rfl, rfl, by decide +kernel, rfl, by decide +kernel, by decide +kernel⟩
def spLo : Sp := fun vs H Q _ => ∃ (r g : Addr) (ns : List Int) (es : List (Addr × El)), vs = [.ref r, .ref g] ∧ H r = some (.tup (ns.map V.int)) ∧ H g = some (.tup (refs es)) ∧ (∀ p ∈ es, ElAt H p.1 p.2 ∧ Grp.Ok ns.length p.2) ∧ ns.length ≤ 4 ∧ es.length ≤ 48 ∧ (es.length = 1 → els es = [Grp.one ns.length]) ∧
  ∀ (t l : Addr) (sg : Int) (ls : List Int) (H' : Hp), Same H H' → H t = none → H' t = some (.tup [.int sg, .ref l]) → H' l = some (.tup (ls.map V.int)) → ls = (lo ns (els es)).2.1 → sg = (if (lo ns (els es)).2.2 = true then 0 else (lo ns (els es)).1) → Q (.ref t) H'
theorem ok_lo (F : FunD K "least_of" "least_of" (defArgs (top 22)) (defBody (top 22)) (defScope (top 22)) [] [] f fd) (T : TT K mg) (A1 : TuG P w K mg base) : FnOk P w K mg base CX0 2 f fd ["row", "group"] spLo := by
  obtain ⟨f1, d1, G1⟩ := A1
  refine F.ok sc20 (fun vs H Q E h => ?_) (fun cdv A outer s H vs Q E hr h => ?_)
  · obtain ⟨r, g, ns, es, rfl, _⟩ := h
    rfl
  · obtain ⟨r, g, ns, es, rfl, er, eg, ho, n4, l48, h1, q⟩ := h
    have hu : (A.deeper (envOfC "least_of" (defScope (top 22)) s.heap.objs.size f cdv)).units + 64 < cLine := by have := hr.un; omega
    have hu0 : (A.deeper (envOfC "least_of" (defScope (top 22)) s.heap.objs.size f cdv)).units < cLine := by omega
    refine ⟨_, PSs.nox (pss_cons (ps_if (pt_cmpR op_eq (pe_callB call_len_seq (by rfl) T.fre (by decide +kernel) (pa_cons (pv 1) pa_nil)) pe_int (nomark _)) (pss_one (ps_ret (pe_tup (pa_cons pe_int (pa_cons (pv 0) pa_nil))))) pss_nil)
      (pss_cons (ps_par (i := 2) (j := 3) rfl sc20.nd rfl rfl (by decide) rfl rfl (pa_cons pe_int (pa_cons (pv 0) pa_nil)) rfl)
      (pss_cons (ps_set (i := 4) sc20.nd rfl (Or.inl rfl) pe_bl)
      (pss_cons (ps_for PassesOwn.never rfl (pi_tup (pv 1)) (pg_tup (by rfl) (pgs_cons (pg_name (i := 5) sc20.nd rfl (.inl rfl)) (pgs_cons (pg_name (i := 6) sc20.nd rfl (.inl rfl)) pgs_nil)))
        (pss_cons (ps_set (i := 7) sc20.nd rfl (Or.inl rfl) (pe_gd G1 hr (by rfl) (pa_cons (pv 0) (pa_cons (pv 5) pa_nil))))
        (pss_cons (ps_if (PW.pt (pw_and (pt_cmpR (op_eqD hu) (pv 7) (pv 0) (nomark _)) (pw_and1 (pt_cmpR op_eq (pv 6) (pe_un un_neg pe_int) (nomark _))))) (pss_one (ps_set (i := 4) sc20.nd rfl (Or.inl rfl) pe_bl)) pss_nil)
        (pss_one (ps_if (pt_cmpR (op_ltT hu0) (pv 7) (pv 3) (nomark _)) (pss_one (ps_par (i := 2) (j := 3) rfl sc20.nd rfl rfl (by decide) rfl rfl (pa_cons (pv 6) (pa_cons (pv 7) pa_nil)) rfl)) pss_nil)))))
      (pss_one (ps_ret (pe_tup (pa_cons (pe_ifExp (pt_val (pv 4)) pe_int (pv 2)) (pa_cons (pv 3) pa_nil))))))))), ?_⟩
    have lz : 10000 ≤ sizeLine := by rw [sizeLine_eq]; decide
    have lr : (refs es).length = es.length := List.length_map _
    refine ⟨_, rfl, g, refs es, rfl, .inr (SqT.of eg), rfl, _, rfl, ite2 (fun h => ?_) (fun h => ?_)⟩
    · have h : (V.int ((refs es).length : Int)) = V.int 1 := of_decide_eq_true h
      have hl : es.length = 1 := by
        rw [lr] at h
        have := V.int.inj h
        omega
      have el : lo ns (els es) = (1, ns, false) := by
        rw [h1 hl]
        exact lo_one ns
      refine ⟨_, rfl, by show 2 ≤ sizeLine; omega, fun t nt => ?_⟩
      exact q t r 1 ns _ (same_new nt) nt upd_same (same_new nt _ _ er) (by rw [el]) (by rw [el]; rfl)
    · refine ⟨_, rfl, _, _, rfl, ?_⟩
      have le : (refs es).length = es.length := List.length_map _
      refine ⟨_, rfl, g, rfl, ⟨_, SqT.of eg⟩, for_tup (xs := refs es) (fun i σ H' => ∃ (l : Addr) (sg : Int) (ls : List Int) (b : Bool) (u5 u6 u7 : Option V), lo ns ((els es).take i) = (sg, ls, b) ∧ Same H H' ∧ H' l = some (.tup (ls.map V.int)) ∧ σ = [some (.ref r), some (.ref g), some (.int sg), some (.ref l), some (.bl b), u5, u6, u7])
        ⟨r, 1, ns, false, none, none, none, rfl, Same.refl _, er, rfl⟩ (fun i σ H' _ pv => by obtain ⟨_, _, _, _, _, _, _, _, s', _⟩ := pv; exact SqT.of (s' _ _ eg)) ?_ ?_⟩
      · rintro i v σ H2 hi ⟨l, sg, ls, b, u5, u6, u7, hlo, s2, el, rfl⟩
        obtain ⟨pr, hpr, rfl⟩ : ∃ pr, es[i]? = some pr ∧ v = .ref pr.1 := by
          have hi : (refs es)[i]? = some v := hi
          rw [List.getElem?_map] at hi
          cases e : es[i]? with
          | none => rw [e] at hi; cases hi
          | some z => rw [e] at hi; cases hi; exact ⟨z, rfl, rfl⟩
        obtain ⟨a1, a2⟩ := ho pr (List.mem_of_getElem? hpr)
        obtain ⟨o, ht, hoo⟩ := a1.same s2
        have hsu : lo ns ((els es).take (i + 1)) = loS ns (sg, ls, b) pr.2 := by
          have ex : (els es)[i]? = some pr.2 := by rw [List.getElem?_map, hpr]; rfl
          rw [List.take_add_one, ex]
          show lo ns (_ ++ [pr.2]) = _
          unfold lo at hlo ⊢
          rw [List.foldl_append, hlo]
          rfl
        have key : ∀ fl : Bool, (b || (decide (tn ns pr.2 = ns) && decide (pr.2.2 = -1))) = fl → (HT.lexLt (tn ns pr.2) ls = true → lo ns ((els es).take (i + 1)) = (pr.2.2, tn ns pr.2, fl)) ∧ (HT.lexLt (tn ns pr.2) ls = false → lo ns ((els es).take (i + 1)) = (sg, ls, fl)) := by
          rintro fl rfl
          rw [hsu]
          constructor
          · intro h
            exact if_pos h
          · intro h
            exact if_neg (by show ¬HT.lexLt (tn ns pr.2) ls = true; rw [h]; decide)
        refine ⟨pr.1, _, rfl, SqT.of ht, rfl, _, _, rfl, _, _, rfl, rfl, _, rfl, _, rfl, r, o, ns.map V.int, pr.2.1, rfl, s2 _ _ er, hoo, fun j hj => by rw [List.length_map]; exact a2.lt hj, by rw [a2.len]; omega, fun t H3 s3 n3 e3 => ?_⟩
        have et : (pr.2.1.map fun i => (ns.map V.int).getD i .non) = (tn ns pr.2).map V.int := by
          unfold tn
          rw [List.map_map]
          refine List.map_congr_left fun j hj => ?_
          have lt : j < ns.length := a2.lt hj
          show (ns.map V.int).getD j .non = V.int (ns.getD j 0)
          rw [List.getD_eq_getElem?_getD, List.getElem?_map, List.getD_eq_getElem?_getD, List.getElem?_eq_getElem lt]
          rfl
        rw [et] at e3
        have s03 := s2.trans s3
        have eeq : PyData.eqv (.tuple ((tn ns pr.2).map PyData.int)) (.tuple (ns.map PyData.int)) = decide (tn ns pr.2 = ns) := by
          rw [PyData.eqv, eqv_intl]
        refine ⟨_, rfl, _, rfl, .tuple ((tn ns pr.2).map PyData.int), .tuple (ns.map PyData.int), .tup (SqT.of e3) (ints_dp _), .tup (SqT.of (s03 _ _ er)) (ints_dp _), shp_intt _, shp_intt _, _, congrArg V.bl eeq, ite2 (fun h2 => ?_) (fun h2 => ?_)⟩
        · refine ⟨_, rfl, 1, rfl, rfl, _, rfl, ite2 (fun h3 => ?_) (fun h3 => ?_)⟩
          · have h3 : pr.2.2 = -1 := V.int.inj (of_decide_eq_true h3)
            have fl : (b || (decide (tn ns pr.2 = ns) && decide (pr.2.2 = -1))) = true := by rw [h2, decide_eq_true h3, Bool.and_true, Bool.or_true]
            obtain ⟨k1, k2⟩ := key true fl
            exact ⟨_, rfl, _, rfl, t, l, tn ns pr.2, ls, rfl, rfl, SqT.of e3, SqT.of (s3 _ _ el), _, rfl, ite2 (fun h4 => ⟨_, rfl, _, rfl, _, _, rfl, t, _, _, true, _, _, _, k1 h4, s03, e3, rfl⟩) (fun h4 => ⟨l, _, _, true, _, _, _, k2 (Bool.eq_false_iff.mpr h4), s03, s3 _ _ el, rfl⟩)⟩
          · have h3 : ¬pr.2.2 = -1 := fun z => h3 (decide_eq_true (congrArg V.int z))
            have fl : (b || (decide (tn ns pr.2 = ns) && decide (pr.2.2 = -1))) = b := by rw [decide_eq_false h3, Bool.and_false, Bool.or_false]
            obtain ⟨k1, k2⟩ := key b fl
            exact ⟨_, rfl, _, rfl, t, l, tn ns pr.2, ls, rfl, rfl, SqT.of e3, SqT.of (s3 _ _ el), _, rfl, ite2 (fun h4 => ⟨_, rfl, _, rfl, _, _, rfl, t, _, _, b, _, _, _, k1 h4, s03, e3, rfl⟩) (fun h4 => ⟨l, _, _, b, _, _, _, k2 (Bool.eq_false_iff.mpr h4), s03, s3 _ _ el, rfl⟩)⟩
        · have h2 := Bool.eq_false_iff.mpr h2
          have fl : (b || (decide (tn ns pr.2 = ns) && decide (pr.2.2 = -1))) = b := by rw [h2, Bool.false_and, Bool.or_false]
          obtain ⟨k1, k2⟩ := key b fl
          exact iteF ⟨_, rfl, _, rfl, t, l, tn ns pr.2, ls, rfl, rfl, SqT.of e3, SqT.of (s3 _ _ el), _, rfl, ite2 (fun h4 => ⟨_, rfl, _, rfl, _, _, rfl, t, _, _, b, _, _, _, k1 h4, s03, e3, rfl⟩) (fun h4 => ⟨l, _, _, b, _, _, _, k2 (Bool.eq_false_iff.mpr h4), s03, s3 _ _ el, rfl⟩)⟩
      · rintro σ H2 ⟨l, sg, ls, b, u5, u6, u7, hlo, s2, el, rfl⟩
        have lf : (els es).length = es.length := List.length_map _
        rw [le, ← lf, List.take_length] at hlo
        refine ⟨_, rfl, b, rfl, ite2 (fun h => ?_) (fun h => ?_)⟩
        · refine ⟨_, rfl, by show 2 ≤ sizeLine; omega, fun t nt => ?_⟩
          exact q t l 0 ls _ (s2.trans (same_new nt)) (gone s2 nt) upd_same (same_new nt _ _ el) (by rw [hlo]) (by rw [hlo]; show (0 : Int) = if b = true then 0 else sg; rw [h]; rfl)
        · refine ⟨_, rfl, _, rfl, by show 2 ≤ sizeLine; omega, fun t nt => ?_⟩
          exact q t l sg ls _ (s2.trans (same_new nt)) (gone s2 nt) upd_same (same_new nt _ _ el) (by rw [hlo]) (by rw [hlo]; show sg = if b = true then 0 else sg; rw [if_neg h])
abbrev LoG (P : Program) (w : World) (K : Fr) (mg : Str → Option Value) (base : Heap) : Prop := ∃ f d, Gd P w K mg base 2 "least_of" f d ["row", "group"] spLo
end
end K11

set_option maxHeartbeats 600000
namespace K11
open PySem PySem.Spec PyProof.Rows L2 RtL ErL StX NSet
open Grp (El mul)
/-- at a stands a table -/
def TabAt (K : Fr) (H : Hp) (a : Addr) (nm : Str) (zs : List Str) (es : List (Addr × El)) : Prop := ∃ dx s g, H a = some (.ins (TC K) dx (tiF nm s g)) ∧ H s = some (.tup (zs.map V.str)) ∧ H g = some (.tup (refs es)) ∧ ∀ p ∈ es, ElAt H p.1 p.2
theorem TabAt.same {K : Fr} {H H' : Hp} {a : Addr} {nm : Str} {zs : List Str} {es : List (Addr × El)} (h : TabAt K H a nm zs es) (s : Same H H') : TabAt K H' a nm zs es := by
  obtain ⟨dx, s1, g, e1, e2, e3, e4⟩ := h
  exact ⟨dx, s1, g, s _ _ e1, s _ _ e2, s _ _ e3, fun p hp => (e4 p hp).same s⟩
section
variable {P : Program} {w : World} {K : Fr} {mg : Str → Option Value} {base : Heap} {f : Addr} {fd : FuncData}
/-- a method or a getter of the class -/
structure Md (P : Program) (w : World) (K : Fr) (mg : Str → Option Value) (base : Heap) (k : Nat) (f : Addr) (fd : FuncData) (ps : List Str) (sp : Sp) : Prop where
  ok : FnOk P w K mg base CX0 k f fd ps sp
  bd : Binds K fd ps []
theorem scM4 : FnScope ["self"] ["self"] (defScope (inT 4)) := ⟨rfl, rfl, rfl, by decide +kernel, rfl, by decide +kernel, by decide +kernel⟩
theorem scM5 : FnScope ["self"] ["self"] (defScope (inT 5)) := ⟨rfl, rfl, rfl, by decide +kernel, rfl, by decide +kernel, by decide +kernel⟩
theorem scM6 : FnScope ["self", "value"] ["self", "value"] (defScope (inT 6)) := ⟨rfl, rfl, rfl, by decide +kernel, rfl, by decide +kernel, by decide +kernel⟩
theorem scM7 : FnScope ["self", "places"] ["self", "places"] (defScope (inT 7)) := ⟨rfl, rfl, rfl, by decide +kernel, rfl, by decide +kernel, by decide +kernel⟩
def spM4 (K : Fr) : Sp := fun vs H Q _ => ∃ a nm zs es, vs = [.ref a] ∧ TabAt K H a nm zs es ∧ ∀ s, H s = some (.tup (zs.map V.str)) → Q (.ref s) H
theorem ok_m4 {q : Str} (F : FunD K "slots" q (defArgs (inT 4)) (defBody (inT 4)) (defScope (inT 4)) [] [] f fd) (T : TT K mg) : FnOk P w K mg base CX0 1 f fd ["self"] (spM4 K) := by
  refine F.ok scM4 (fun vs H Q E h => ?_) (fun cdv A outer s H vs Q E hr h => ?_)
  · obtain ⟨a, nm, zs, es, rfl, _⟩ := h
    rfl
  · obtain ⟨a, nm, zs, es, rfl, ⟨dx, sl, g, ea, es', eg, _⟩, q⟩ := h
    exact ⟨_, PSs.nox (pss_one (ps_ret (pe_fld (pv 0) rfl))), _, rfl, a, _, dx, _, _, rfl, ea, T.cl, T.no "_slots" (by decide), rfl, q sl es'⟩
def spM5 (K : Fr) : Sp := fun vs H Q _ => ∃ a nm zs es, vs = [.ref a] ∧ TabAt K H a nm zs es ∧ ∀ l, H l = none → Q (.ref l) (upd H l (.lst (refs es)))
theorem ok_m5 {q : Str} (F : FunD K "turns" q (defArgs (inT 5)) (defBody (inT 5)) (defScope (inT 5)) [] [] f fd) (T : TT K mg) : FnOk P w K mg base CX0 1 f fd ["self"] (spM5 K) := by
  refine F.ok scM5 (fun vs H Q E h => ?_) (fun cdv A outer s H vs Q E hr h => ?_)
  · obtain ⟨a, nm, zs, es, rfl, _⟩ := h
    rfl
  · obtain ⟨a, nm, zs, es, rfl, ⟨dx, sl, g, ea, es', eg, _⟩, q⟩ := h
    exact ⟨_, PSs.nox (pss_one (ps_ret (pe_callTy call_list_of (by rfl) T.fre (by decide +kernel) (pa_cons (pe_fld (pv 0) rfl) pa_nil)))), _, rfl, a, _, dx, _, _, rfl, ea, T.cl, T.no "_group" (by decide), rfl, g, _, rfl, .inr (SqT.of eg), fun l hl => q l hl⟩
def spM6 (K : Fr) : Sp := fun vs H Q _ => ∃ (a b : Addr) (nm : Str) (zs : List Str) (es : List (Addr × El)) (ns : List Int), vs = [.ref a, .ref b] ∧ TabAt K H a nm zs es ∧ zs.length ≤ 4 ∧ H b = some (.tup (ns.map V.int)) ∧ ns.length = zs.length ∧ (∀ i ∈ ns, 0 ≤ i) ∧ ∀ H', Same H H' → Q (.bl true) H'
theorem ok_m6 {q : Str} (F : FunD K "is_slot_places" q (defArgs (inT 6)) (defBody (inT 6)) (defScope (inT 6)) [] [] f fd) (T : TT K mg) (A1 : AcG P w K mg base) : FnOk P w K mg base CX0 4 f fd ["self", "value"] (spM6 K) := by
  obtain ⟨f1, d1, G1⟩ := A1
  refine F.ok scM6 (fun vs H Q E h => ?_) (fun cdv A outer s H vs Q E hr h => ?_)
  · obtain ⟨a, b, nm, zs, es, ns, rfl, _⟩ := h
    rfl
  · obtain ⟨a, b, nm, zs, es, ns, rfl, ⟨dx, sl, g, ea, es', eg, _⟩, z4, eb, hl, h0, q⟩ := h
    refine ⟨_, PSs.nox (pss_one (ps_ret (pe_gd G1 hr (by rfl) (pa_cons (pv 1) (pa_cons (pe_callB call_len_seq (by rfl) T.fre (by decide +kernel) (pa_cons (pe_fld (pv 0) rfl) pa_nil)) pa_nil))))), ?_⟩
    have lm : (zs.map V.str).length = zs.length := List.length_map _
    refine ⟨_, rfl, _, rfl, a, _, dx, _, _, rfl, ea, T.cl, T.no "_slots" (by decide), rfl, sl, _, rfl, .inr (SqT.of es'), b, ns, ((zs.map V.str).length : Int), rfl, eb, by omega, h0, fun H' s' => ?_⟩
    rw [decide_eq_true (by rw [lm, hl] : (ns.length : Int) = ((zs.map V.str).length : Int))]
    exact q H' s'
abbrev M6d (P : Program) (w : World) (K : Fr) (mg : Str → Option Value) (base : Heap) : Prop := ∃ d, Md P w K mg base 4 (tm K "is_slot_places") d ["self", "value"] (spM6 K)
def spM7 (K : Fr) : Sp := fun vs H Q _ => ∃ (a b : Addr) (nm : Str) (zs : List Str) (es : List (Addr × El)) (ns : List Int), vs = [.ref a, .ref b] ∧ TabAt K H a nm zs es ∧ zs.length ≤ 4 ∧ H b = some (.tup (ns.map V.int)) ∧ ns.length = zs.length ∧ (∀ i ∈ ns, 0 ≤ i) ∧ (∀ p ∈ es, Grp.Ok zs.length p.2) ∧ es.length ≤ 48 ∧ (es.length = 1 → els es = [Grp.one zs.length]) ∧
  ∀ (t l : Addr) (sg : Int) (ls : List Int) (H' : Hp), Same H H' → H t = none → H' t = some (.tup [.int sg, .ref l]) → H' l = some (.tup (ls.map V.int)) → ls = (lo ns (els es)).2.1 → sg = (if (lo ns (els es)).2.2 = true then 0 else (lo ns (els es)).1) → Q (.ref t) H'
theorem ok_m7 {q : Str} (F : FunD K "least" q (defArgs (inT 7)) (defBody (inT 7)) (defScope (inT 7)) [] [] f fd) (T : TT K mg) (A1 : M6d P w K mg base) (A2 : LoG P w K mg base) : FnOk P w K mg base CX0 5 f fd ["self", "places"] (spM7 K) := by
  obtain ⟨d1, G1⟩ := A1
  obtain ⟨f2, d2, G2⟩ := A2
  refine F.ok scM7 (fun vs H Q E h => ?_) (fun cdv A outer s H vs Q E hr h => ?_)
  · obtain ⟨a, b, nm, zs, es, ns, rfl, _⟩ := h
    rfl
  · obtain ⟨a, b, nm, zs, es, ns, rfl, ta, z4, eb, hl, h0, ho, e48, e1, q⟩ := h
    refine ⟨_, PSs.nox (pss_cons (ps_if (pt_not (pt_val (pe_meth (pv 0) T.cl (T.meth "is_slot_places" (by decide)) G1.ok hr G1.bd .nil pass0 (pa_cons (pv 1) pa_nil)))) (pss_one ps_never) pss_nil)
      (pss_one (ps_ret (pe_gd G2 (hr.mono (by decide)) (by rfl) (pa_cons (pv 1) (pa_cons (pe_fld (pv 0) rfl) pa_nil)))))), ?_⟩
    obtain ⟨dx, sl, g, ea, esl, eg, hes⟩ := _root_.id ta
    refine ⟨_, rfl, a, dx, _, rfl, ea, rfl, _, rfl, a, b, nm, zs, es, ns, rfl, ta, z4, eb, hl, h0, fun H1 s1 => ⟨true, rfl, iteF ?_⟩⟩
    refine ⟨_, rfl, _, rfl, a, _, dx, _, _, rfl, s1 _ _ ea, T.cl, T.no "_group" (by decide), rfl, b, g, ns, es, rfl, s1 _ _ eb, s1 _ _ eg, fun p hp => ⟨(hes p hp).same s1, by rw [hl]; exact ho p hp⟩, by omega, e48, fun h => by rw [hl]; exact e1 h, fun t l sg ls H' s' nt e1 e2 e3 e4 => ?_⟩
    exact q t l sg ls H' (s1.trans s') (gone s1 nt) e1 e2 e3 e4
/-! ### the property changes_sign -/
theorem scM3 : FnScope ["self", "order", "sign"] ["self"] (defScope (inT 3)) := ⟨rfl, rfl, rfl, by decide +kernel, rfl, by decide +kernel, by decide +kernel⟩
def spM3 (K : Fr) : Sp := fun vs H Q _ => ∃ (a : Addr) (nm : Str) (zs : List Str) (es : List (Addr × El)), vs = [.ref a] ∧ TabAt K H a nm zs es ∧ es.length ≤ 48 ∧ ∀ H', Same H H' → Q (.bl ((els es).any fun e => decide (e.2 = -1))) H'
theorem ok_m3 {q : Str} (F : FunD K "changes_sign" q (defArgs (inT 3)) (defBody (inT 3)) (defScope (inT 3)) [] [] f fd) (T : TT K mg) : FnOk P w K mg base CX0 1 f fd ["self"] (spM3 K) := by
  refine F.ok scM3 (fun vs H Q E h => ?_) (fun cdv A outer s H vs Q E hr h => ?_)
  · obtain ⟨a, nm, zs, es, rfl, _⟩ := h
    rfl
  · obtain ⟨a, nm, zs, es, rfl, ⟨dx, sl, g, ea, esl, eg, hes⟩, e48, qq⟩ := h
    refine ⟨_, PSs.nox (pss_one (ps_ret (pe_callB (cr_any (by rfl)) (by rfl) T.fre (by decide +kernel) (pa_cons (pe_lc (own := [("order", 1), ("sign", 2)]) (g := gTup K 2 (gCons (gName 1) (gCons (gName 2) gNil))) (tt := tYes) (by rfl) scM3.nd (pi_tup (pe_fld (pv 0) rfl)) (blkOk_by (N := ["self", "order", "sign"]) (sc := defScope (inT 3)) (by decide +kernel)) (fun _ _ _ _ _ => pg_tup (by rfl) (pgs_cons (pg_name (i := 1) scM3.nd rfl (.inl rfl)) (pgs_cons (pg_name (i := 2) scM3.nd rfl (.inl rfl)) pgs_nil))) (fun _ _ _ _ _ => pts_nil)
        (fun _ _ _ _ _ => pe_cmpR op_eq (pv 2) (pe_un un_neg pe_int) (nomark _))) pa_nil)))), ?_⟩
    have lz : 10000 ≤ sizeLine := by rw [sizeLine_eq]; decide
    have le : (refs es).length = es.length := List.length_map _
    refine ⟨_, rfl, a, _, dx, _, _, rfl, ea, T.cl, T.no "_group" (by decide), rfl, g, rfl, ⟨_, SqT.of eg⟩, fun D nD => ?_⟩
    refine lc_it (walk_tup (xs := refs es)) (fun i H' => Same H H' ∧ H' D = some (.lst ((((els es).take i).map fun e => decide (e.2 = -1)).map V.bl))) ⟨same_new nD, upd_same⟩ (fun i H' _ pv => SqT.of (pv.1 _ _ eg)) ?_ ?_
    · rintro i v H7 H8 hi ⟨s7, e7⟩ ⟨rfl, hx⟩
      obtain ⟨pr, hpr, rfl⟩ : ∃ pr, es[i]? = some pr ∧ v = .ref pr.1 := by
        have hx : (refs es)[i]? = some v := hx
        rw [List.getElem?_map] at hx
        cases e : es[i]? with
        | none => rw [e] at hx; cases hx
        | some z => rw [e] at hx; cases hx; exact ⟨z, rfl, rfl⟩
      obtain ⟨o, ht, hoo⟩ := (hes pr (List.mem_of_getElem? hpr)).same s7
      have ex : (els es)[i]? = some pr.2 := by rw [List.getElem?_map, hpr]; rfl
      refine ⟨pr.1, _, rfl, SqT.of ht, rfl, _, _, rfl, _, _, rfl, rfl, rfl, _, rfl, 1, rfl, rfl, _, e7, ?_, ?_, ?_⟩
      · rw [List.length_map, List.length_map, List.length_take]
        omega
      · intro b' o' e'
        rw [upd_ne (ne_of_none e' nD)]
        exact s7 _ _ e'
      · have ed : decide (V.int pr.2.2 = V.int (-1)) = decide (pr.2.2 = -1) := by
          rw [Bool.eq_iff_iff, decide_eq_true_iff, decide_eq_true_iff]
          exact ⟨fun z => V.int.inj z, fun z => congrArg V.int z⟩
        rw [upd_same, List.take_add_one, ex, ed]
        show some (HO.lst (_ ++ _)) = some (HO.lst ((((els es).take i ++ [pr.2]).map _).map V.bl))
        rw [List.map_append, List.map_append]
        rfl
    · rintro H7 ⟨s7, e7⟩
      have lf : (els es).length = es.length := List.length_map _
      rw [le, ← lf, List.take_length] at e7
      refine ⟨D, _, rfl, SqL.of e7, ?_⟩
      rw [List.any_map]
      exact qq H7 s7
end
end K11

set_option maxHeartbeats 600000
namespace K11
open PySem PySem.Spec PyProof.Rows L2 RtL ErL StX NSet
open Grp (El mul)
section
variable {P : Program} {w : World} {K : Fr} {mg : Str → Option Value} {base : Heap} {f : Addr} {fd : FuncData}
/-- what the refusal tells: the name -/
def RefN (K : Fr) (H : Hp) (nm : Str) (E : XK) : Prop := ∀ d H', Same H H' → H' d = some (.xd [("name", .str nm)]) → E (.ref (VC K)) (some d) H'
theorem RefN.same {K : Fr} {H H1 : Hp} {nm : Str} {E : XK} (r : RefN K H nm E) (s : Same H H1) : RefN K H1 nm E := fun d H' s' e => r d H' (s.trans s') e
def spTiX1 (K : Fr) : Sp := fun vs H Q E => ∃ (x dx a p : Addr) (nm : Str) (zs : List Str) (ts : List (Addr × El)), vs = [.ref x, .str nm, .ref a, .ref p] ∧ H x = some (.ins (TC K) dx []) ∧ H p = some (.tup (refs ts)) ∧ TabIn H nm a zs ts ∧ (List.range zs.length, -1) ∈ Grp.found zs.length (els ts) ∧ RefN K H nm E
def spTiX (K : Fr) : Sp := fun vs H Q E => ∃ (x dx a : Addr) (nm : Str) (zs : List Str) (ts : List (Addr × El)), vs = .ref x :: .str nm :: .ref a :: refs ts ∧ H x = some (.ins (TC K) dx []) ∧ TabIn H nm a zs ts ∧ (List.range zs.length, -1) ∈ Grp.found zs.length (els ts) ∧ RefN K H nm E
theorem ok_tiX {q : Str} (F : FunD K "__init__" q (defArgs s_ti) (defBody s_ti) (defScope s_ti) [] [] f fd) (T : TT K mg) (A1 : CkG P w K mg base) (A2 : CsG P w K mg base) (A3 : ItG P w K mg base) (A4 : GrG P w K mg base) : FnR P w K mg base (L2.CX P w) 4 f (spTiX K) := by
  obtain ⟨f1, d1, G1⟩ := A1
  obtain ⟨f2, d2, G2⟩ := A2
  obtain ⟨f3, d3, G3⟩ := A3
  obtain ⟨f4, d4, G4⟩ := A4
  obtain ⟨oc, od, dV, kV, doc, pm', an, cdv, ct, osl, rfl, lk, hcd, hdv, _⟩ := F.ex
  obtain rfl : dV = Value.none := hdv.elim (fun z => z.2) fun z => absurd rfl z.1
  refine FnR.imp (StX.fn_star (P := P) (w := w) (mg := mg) (base := base) (CX := L2.CX P w) (k := 3) (sp := spTiX1 K) (pv := "turns") (ps := ["self", "name", "slots"]) lk hcd sc_ti StX.cxUp hbTi (fun A outer s H vs Q E hr h => ?_)) (fun vs H Q E h => ?_)
  rotate_left
  · obtain ⟨x, dx, a, nm, zs, ts, rfl, ex, ti, hv, q⟩ := h
    refine ⟨[.ref x, .str nm, .ref a], refs ts, rfl, rfl, by have := ti.lt; rw [List.length_map, sizeLine_eq]; omega, fun p hp => ⟨x, dx, a, p, nm, zs, ts, rfl, same_new hp _ _ ex, upd_same, ti.same (same_new hp), hv, q.same (same_new hp)⟩⟩
  · obtain ⟨x, dx, a, p, nm, zs, ts, rfl, ex, ep, ti, hv, qq⟩ := h
    have hu : (A.deeper (envOfC q (defScope s_ti) s.heap.objs.size f cdv)).units + 65 < cLine := by have := hr.un; omega
    refine ⟨_, (pss_cons (ps_expr (pe_gd G1 (hr.mono (by decide)) (by rfl) (pa_cons (pv 1) pa_nil)))
      (pss_cons (ps_expr (pe_gd G2 (hr.mono (by decide)) (by rfl) (pa_cons (pv 2) pa_nil)))
      (pss_cons (ps_for (passes_of rfl) rfl (pi_enumT (by rfl) T.fre (pa_cons (pv 3) pa_nil)) (pg_tup (by rfl) (pgs_cons (pg_name (i := 4) sc_ti.nd rfl (.inl rfl)) (pgs_cons (pg_name (i := 5) sc_ti.nd rfl (.inl rfl)) pgs_nil)))
        (pss_one (ps_if (pt_not (pt_val (pe_gd G3 hr (by rfl) (pa_cons (pv 5) (pa_cons (pv 2) pa_nil))))) (pss_one ps_never) pss_nil)))
      (pss_cons (ps_set (i := 6) sc_ti.nd rfl (Or.inl rfl) (pe_gd G4 hr (by rfl) (pa_cons (pe_callB call_len_seq (by rfl) T.fre (by decide +kernel) (pa_cons (pv 2) pa_nil)) (pa_cons (pv 3) pa_nil))))
      (pss_cons (ps_if (pt_cmpR (op_inD hu) (pe_tup (pa_cons (pe_tupRg rfl (by rfl) T.fre (prg_1 (by rfl) T.fre (pe_callB call_len_seq (by rfl) T.fre (by decide +kernel) (pa_cons (pv 2) pa_nil)))) (pa_cons (pe_un un_neg pe_int) pa_nil))) (pv 6) (by rfl)) (pss_one (ps_raise rfl (takes_of rfl rfl rfl rfl) (pmk_er1 T.ev.cl T.va1 bd1_name hr (by rfl) (T.gl "Vanishing" (by decide)) (raises_own T.ev.be T.ev.tc) (pa_cons (pv 1) pa_nil)))) pss_nil)
      (pss_cons (ps_fld (pv 0) (pv 1) (by rfl))
      (pss_cons (ps_fld (pv 0) (pe_callTy call_tuple_of (by rfl) T.fre (by decide +kernel) (pa_cons (pv 2) pa_nil)) (by rfl))
      (pss_one (ps_fld (pv 0) (pe_callTy call_tuple_of (by rfl) T.fre (by decide +kernel) (pa_cons (pv 6) pa_nil)) (by rfl)))))))))), ?_⟩
    have lz : 10000 ≤ sizeLine := by rw [sizeLine_eq]; decide
    have lm : (zs.map V.str).length = zs.length := List.length_map _
    refine ⟨_, rfl, nm, rfl, ti.nm, _, rfl, a, zs, rfl, ti.sl, ti.sz, ti.l1, ti.l4, fun H1 s1 => ?_⟩
    have ep1 := s1 _ _ ep
    refine ⟨_, rfl, p, _, rfl, SqT.of ep1, for_it walk_enumT (fun i σ H' => Same H1 H' ∧ ∃ u4 u5, σ = [some (.ref x), some (.str nm), some (.ref a), some (.ref p), u4, u5, none]) ⟨Same.refl _, none, none, rfl⟩ (fun i σ H' _ pv => SqT.of (pv.1 _ _ ep1)) ?_ ?_⟩
    · rintro i v σ H2 H3 hi ⟨s2, u1, u2, rfl⟩ ⟨t, y1, y2, rfl, nt, rfl, hx, hy⟩
      obtain ⟨pr, hpr, rfl⟩ : ∃ pr, ts[i]? = some pr ∧ y2 = .ref pr.1 := by
        have hy : (refs ts)[i]? = some y2 := hy
        rw [List.getElem?_map] at hy
        cases e : ts[i]? with
        | none => rw [e] at hy; cases hy
        | some z => rw [e] at hy; cases hy; exact ⟨z, rfl, rfl⟩
      have s3 := s1.trans (s2.trans (same_new (o := .tup [y1, .ref pr.1]) nt))
      have ti3 := ti.same s3
      obtain ⟨h1, h2, h3⟩ := ti3.tu pr (List.mem_of_getElem? hpr)
      exact ⟨t, _, rfl, SqT.of upd_same, rfl, _, _, rfl, _, _, rfl, rfl, _, rfl, _, rfl, pr.1, a, pr.2, zs, rfl, h1, ti3.sl, h2, h3, ti.l4, fun H4 s4 => ⟨true, rfl, iteF ⟨s2.trans ((same_new nt).trans s4), _, _, rfl⟩⟩⟩
    · rintro σ H2 ⟨s2, u1, u2, rfl⟩
      have s02 := s1.trans s2
      have ti2 := ti.same s02
      refine ⟨_, rfl, a, zs.map V.str, rfl, ti2.sl.imp SqL.of SqT.of, _, rfl, zs.length, p, ts, by rw [lm]; rfl, s02 _ _ ep, fun pr hp => ⟨(ti2.tu pr hp).1, (ti2.tu pr hp).2.1⟩, ti.l4, ti.lt, fun l es H3 s3 nl el hes hels good => ?_⟩
      have s03 := s02.trans s3
      have ti3 := ti.same s03
      refine ⟨_, rfl, a, zs.map V.str, rfl, ti3.sl.imp SqL.of SqT.of, _, rfl, RgOk.of_le (by decide) (by have := ti.l4; omega) (by decide) (by have := ti.l4; omega), fun t0 nt0 => ?_⟩
      refine ⟨1, rfl, by show 2 ≤ sizeLine; omega, fun t1 nt1 => ?_⟩
      have s4 := s3.trans ((same_new (o := .tup (rgV 0 ((zs.map V.str).length : Int))) nt0).trans (same_new (o := .tup [.ref t0, .int (-1)]) nt1))
      have s4' := (same_new (o := .tup (rgV 0 ((zs.map V.str).length : Int))) nt0).trans (same_new (o := .tup [.ref t0, .int (-1)]) nt1)
      have eM : ElAt (upd (upd H3 t0 (.tup (rgV 0 ((zs.map V.str).length : Int)))) t1 (.tup [.ref t0, .int (-1)])) t1 (List.range zs.length, -1) := ⟨t0, upd_same, same_new nt1 _ _ (by rw [lm, rgV_nv]; exact upd_same)⟩
      have el4 := s4' _ _ el
      have hes4 : ∀ pr ∈ es, ElAt _ pr.1 pr.2 := fun pr hp => (hes pr hp).same s4'
      have s04 := s03.trans s4'
      have l4n : H l = none := gone s02 nl
      generalize upd (upd H3 t0 (.tup (rgV 0 ((zs.map V.str).length : Int)))) t1 (.tup [.ref t0, .int (-1)]) = H4 at eM el4 hes4 s04
      have ti4 := ti.same s04
      have nm4 : (List.range zs.length, (-1 : Int)) ∈ els es := by
        rw [hels]
        exact (srt_perm _).mem_iff.mpr hv
      refine ⟨_, rfl, dEl (List.range zs.length, -1), (els es).map dEl, eM.dp, .lst (SqL.of el4) (els_dp es hes4), shp_el _, shp_els _, true, congrArg V.bl (by rw [any_el]; exact decide_eq_true nm4), iteT ?_⟩
      exact ⟨_, rfl, _, rfl, fun d nd => qq d _ (s04.trans (same_new nd)) upd_same⟩
abbrev TIdX (P : Program) (w : World) (K : Fr) (mg : Str → Option Value) (base : Heap) : Prop := FnR P w K mg base (L2.CX P w) 4 (tm K "__init__") (spTiX K)
end
end K11

set_option maxHeartbeats 600000
namespace K11
open PySem PySem.Spec PyProof.Rows L2 RtL ErL StX NSet
open Grp (El mul)
section
variable {K : Fr} {H1 : Hp} {R : VK} {x dx a : Addr} {nm : Str} {zs : List Str} {ts : List (Addr × El)}
theorem new_same (nx : H1 x = none) (nd : H1 dx = none) (ne : dx ≠ x) : Same H1 (upd (upd H1 dx (.own x)) x (.ins (TC K) dx [])) := by
  intro b o e
  rw [upd_ne (ne_of_none e nx), upd_ne (ne_of_none e nd)]
  exact e
/-- what a Table that is made asks of its __init__ -/
theorem madeT_at (nx : H1 x = none) (nd : H1 dx = none) (ne : dx ≠ x) (ti : TabIn H1 nm a zs ts) (hv : (List.range zs.length, -1) ∉ Grp.found zs.length (els ts))
    (c : ∀ (H' : Hp) (es : List (Addr × El)), Same H1 H' → TabAt K H' x nm zs es → els es = srt (Grp.found zs.length (els ts)) → R .non H') :
    spTi K (.ref x :: .str nm :: .ref a :: refs ts) (upd (upd H1 dx (.own x)) x (.ins (TC K) dx [])) R E0 := by
  have sm : Same H1 (upd (upd H1 dx (.own x)) x (.ins (TC K) dx [])) := new_same nx nd ne
  refine ⟨x, dx, a, nm, zs, ts, rfl, upd_same, ti.same sm, hv, fun s g es H' b e1 e2 e3 e4 e5 => c H' es (fun b' o e => ?_) ⟨dx, s, g, e1, e2, e3, e4⟩ e5⟩
  exact b b' o (ne_of_none e nx) (sm _ _ e)
/-- .. and where it is refused -/
theorem madeTX_at {Q : VK} {E : XK} (nx : H1 x = none) (nd : H1 dx = none) (ne : dx ≠ x) (ti : TabIn H1 nm a zs ts) (hv : (List.range zs.length, -1) ∈ Grp.found zs.length (els ts)) (r : RefN K H1 nm E) :
    spTiX K (.ref x :: .str nm :: .ref a :: refs ts) (upd (upd H1 dx (.own x)) x (.ins (TC K) dx [])) Q E := by
  have sm : Same H1 (upd (upd H1 dx (.own x)) x (.ins (TC K) dx [])) := new_same nx nd ne
  exact ⟨x, dx, a, nm, zs, ts, rfl, upd_same, ti.same sm, hv, r.same sm⟩
end
end K11

set_option maxHeartbeats 1000000
/-! != of an own class that has __eq__ alone; repr of a truth value -/
namespace RtL
open PySem PySem.Spec PyProof.Rows L2
open PySem.Builtin
section
variable {prog : Program} {w : World} {K : PySem.W.Frag} {A : Around} {E : Value → Shared → Prop} {s : Shared} {x f C : Addr} {ox : Obj} {od : Option Obj} {b tb : Value}
/-- what is asked of the class -/
structure NeOf (K : PySem.W.Frag) (C f : Addr) : Prop where
  ne : PySem.W.findIn K (.ref C) "__ne__" = some (some (.builtin "object.__ne__"))
  mo : PySem.W.mroIn K C (.type "object") = some true
theorem ifBound_B {M : Model} {args : List Value} {Q : Option Value → Shared → Prop} {name : Str} {id T : String} (X : K.In s.heap) (I : PySem.W.InstAt s.heap x ox C od) (hs : PySem.W.findIn K (.ref C) name = some (some (.builtin id))) (S : Slot T name id)
    (h : wpAny M A (call (.builtin id) (.ref x :: args)) (fun v => Q (some v)) E s) : wpAny M A (callSpecialIfBound? (.ref x) name args) Q E s := by
  simp only [callSpecialIfBound?, bindSpecialIfBound?]
  refine wpAny_holding (wpAny_bind (wpAny_bind (wpAny_bind (I.type.here ((PySem.W.looks_findIn X hs).here ?_)))))
  refine wpAny_bind (wpAny_askSetting (wpAny_ite ?_))
  have fin : wpAny M A (call (.builtin id) ([.ref x] ++ args) >>= fun v => pure (some v)) Q E s := wpAny_bind (wpAny_mono h (fun v s' h' => wpAny_pure h') fun _ _ h' => h')
  rw [S.bind]
  split
  · exact wpAny_bind (wpAny_pure (wpAny_pure (by exact fin)))
  · exact wpAny_tryCatch (wpAny_bind (wpAny_pure (wpAny_pure (by exact fin))))
theorem ne_K {Q : Value → Shared → Prop} (hu : A.units + 1 < cLine) (X : K.In s.heap) (I : PySem.W.InstAt s.heap x ox C od) (hb : PySem.W.Looks (model prog w) s.heap (typeOf b) tb) (hn : PySem.W.notFirst K C tb = true) (N : NeOf K C f)
    (hs : PySem.W.findIn K (.ref C) "__eq__" = some (some (.ref f))) (hf : PySem.W.isFn K (.ref f) = true) (h : wpAny (model prog w) A.in1 (call (.ref f) [.ref x, b]) (fun v s' => ∃ c, v = .bool c ∧ Q (.bool (!c)) s') E s) :
    wpAny (model prog w) A (richCompare .NotEq (.ref x) b) Q E s := by
  have one : wpAny (model prog w) A (tryCompare (.ref x) (cmpInfo .NotEq).2.1 b) (fun r s' => ∃ v, r = some v ∧ Q v s') E s := by
    unfold tryCompare
    refine wpAny_bind (ifBound_B (T := "object") (name := "__ne__") X I N.ne PySem.F.cmp_object.ne (wpAny_call (codeAny_call_builtin PySem.F.cmp_object.ne.plain PySem.F.cmpEntry_ne
      (PySem.W.check_slot PySem.F.cmpKind_ne PySem.F.cmpSplit_ne (I.type.andThen (PySem.W.looks_mroIn X N.mo)) (PySem.F.cmpArgs_ne _ _) ?_))))
    unfold Builtin.«object.__ne__»
    refine wpAny_bind (m := slotArgs "__ne__" 1 ⟨[.ref x, b], []⟩) (wpAny_pure ?_)
    refine wpAny_bind (wpAny_cRoomFor (by show A.units + 1 < cLine; exact hu) ?_)
    refine wpAny_bind (m := callSpecialIfBound? (.ref x) (Str.ofString "__eq__") [b]) (PySem.W.ifBound_K X I hs hf (wpAny_mono h (fun v s' hv => ?_) fun _ _ e => e))
    obtain ⟨c, rfl, hq⟩ := hv
    refine wpAny_bind (m := truthy (.bool c)) (wpAny_truthy_bool ?_)
    exact wpAny_pure (wpAny_pure ⟨_, rfl, hq⟩)
  unfold richCompare
  simp only [oneThing_ref]
  refine wpAny_holding (wpAny_bind (wpAny_cRoomFor (by omega) ?_))
  refine wpAny_bind (I.type.here (wpAny_bind (hb.here ?_)))
  split
  · rename_i q
    have e : PySem.W.subIn K tb (.ref C) = some false := by
      rcases Bool.or_eq_true_iff.mp hn with e | e
      · rw [beq_iff_eq.mp e] at q; simp at q
      · exact beq_iff_eq.mp e
    refine wpAny_bind ((PySem.W.looks_subIn X e).here ?_)
    simp only [Bool.false_eq_true, if_false]
    refine wpAny_bind (wpAny_mono one (fun r s' z => ?_) fun _ _ e => e)
    obtain ⟨v, rfl, hq⟩ := z
    exact wpAny_pure hq
  · refine wpAny_bind (wpAny_pure ?_)
    simp only [Bool.false_eq_true, if_false]
    refine wpAny_bind (wpAny_mono one (fun r s' z => ?_) fun _ _ e => e)
    obtain ⟨v, rfl, hq⟩ := z
    exact wpAny_pure hq
end
section
variable {X : Cx} {CX : CXT} {k : Nat} {f C : Addr} {fd : FuncData} {sp : Sp} {E : XK} {ps : List Str}
/-- x != y by the method __eq__ of x's class -/
def rOwnNe (C : Addr) (sp : Sp) (E : XK) : R2 := fun x y H Q => rOwnEq C sp E x y H fun v H' => ∃ c, v = .bl c ∧ Q (.bl (!c)) H'
theorem op_ownNe (O : EqOf X.K C f) (N : NeOf X.K C f) (F : FnOk X.prog X.w X.K X.mg X.base CX k f fd ps sp) (hr : Room (k + 1) X.A) (hb : Binds X.K fd ps []) (hx : Passes CX X E) : OpR X (compareOp .NotEq) (rOwnNe C sp E) := by
  intro pins s σ H x y v u Q I rx ry h
  obtain ⟨a, dx, fs, rfl, ha, hy, q⟩ := h
  cases (show v = Value.ref a from rx)
  obtain ⟨mA, oa, _⟩ := ins_get I.hok ha
  obtain ⟨od, J, _⟩ := oa.look
  have nf : ∀ t ∈ ["int", "str", "NoneType", "bool"], PySem.W.notFirst X.K C (.type t) = true := fun t ht => by
    unfold PySem.W.notFirst
    rw [O.nt t ht]
    simp
  have hl : ([Value.ref a, u] ++ []).length = ps.length := by
    rw [← F.len _ _ _ _ q]
    rfl
  have go : wpAny (model X.prog X.w) X.A.in1 (call (.ref f) [.ref a, u]) (fun v s' => ∃ c, v = .bool c ∧ EP X pins σ Q (.bool (!c)) s') X.xe s := by
    refine wpAny_call (codeAny_mono (F.run X.A.in1 X.stack s H ⟨[.ref a, u], []⟩ [.ref a, u] [.ref a, y] _ E hr.in1 I.env0.in1 (hb s [.ref a, u] I.kIn hl) (.cons rfl (.cons ry .nil)) q) fun r s' hq => ?_)
    match r, hq with
    | .ok (.ret z), hq =>
      obtain ⟨v, H', I3, rv, c, ev, q3⟩ := I.after hq
      subst ev
      cases (show z = Value.bool c from rv)
      exact ⟨c, rfl, .bl (!c), H', I3, rfl, q3⟩
    | .ok .next, hq => exact False.elim hq
    | .ok .brk, hq => exact False.elim hq
    | .ok .cont, hq => exact False.elim hq
    | .error e, hq => exact hx pins σ H s e s' I hq
  have hu : X.A.units + 1 < cLine := by have := hr.un; omega
  show wpAny _ _ (richCompare .NotEq _ _) _ _ _
  rcases hy with ⟨b, dy, gs, rfl, hb'⟩ | ⟨i, rfl⟩ | ⟨z, rfl⟩ | rfl | ⟨c, rfl⟩
  · cases (show u = Value.ref b from ry)
    obtain ⟨mB, ob, _⟩ := ins_get I.hok hb'
    obtain ⟨od', J', _⟩ := ob.look
    exact ne_K (tb := .ref C) hu I.kIn J J'.type (by unfold PySem.W.notFirst; simp) N O.at_ O.fn go
  · obtain ⟨t, e⟩ := (show ∃ t, u = Value.int i t from ry)
    subst e
    exact ne_K (tb := .type "int") hu I.kIn J (PySem.W.Looks.of_pure rfl) (nf _ (by decide)) N O.at_ O.fn go
  · obtain ⟨t, e⟩ := (show ∃ t, u = Value.str z t from ry)
    subst e
    exact ne_K (tb := .type "str") hu I.kIn J (PySem.W.Looks.of_pure rfl) (nf _ (by decide)) N O.at_ O.fn go
  · cases (show u = Value.none from ry)
    exact ne_K (tb := .type "NoneType") hu I.kIn J (PySem.W.Looks.of_pure rfl) (nf _ (by decide)) N O.at_ O.fn go
  · cases (show u = Value.bool c from ry)
    exact ne_K (tb := .type "bool") hu I.kIn J (PySem.W.Looks.of_pure rfl) (nf _ (by decide)) N O.at_ O.fn go
/-- repr(b), b a truth value -/
theorem call_reprB : CallR X (.builtin "repr") (fun xs H Q => ∃ b, xs = [.bl b] ∧ Q (.str (if b then "True" else "False")) H) := by
  intro pins s σ H xs us Q I r h
  obtain ⟨b, rfl, q⟩ := h
  obtain ⟨u, rfl, rx⟩ := vals1 r
  cases (show u = Value.bool b from rx)
  refine PySem.P.repr_of_bool ⟨.str _, H, I.tok _, ⟨s.toks, rfl⟩, q⟩
end
end RtL

set_option maxHeartbeats 1000000
/-! x != y by the default __ne__, y of any kind; C(e, .., *y) -/
namespace RtL
open PySem PySem.Spec PyProof.Rows L2 StX
section
variable {X : Cx} {CX : CXT} {k : Nat} {f C : Addr} {fd : FuncData} {sp : Sp} {E : XK} {ps : List Str}
/-- x != y, y of the same class or one of the others -/
def rNeAll (C : Addr) (sp : Sp) (E : XK) : R2 := fun x y H Q => rEqAll C sp E x y H fun v H' => ∃ c, v = .bl c ∧ Q (.bl (!c)) H'
theorem op_neAll (O : EqOf X.K C f) (N : NeOf X.K C f) (nt : ∀ t ∈ oddT, PySem.W.subIn X.K (.type t) (.ref C) = some false) (F : FnOk X.prog X.w X.K X.mg X.base CX k f fd ps sp) (hr : Room (k + 1) X.A) (hb : Binds X.K fd ps []) (hx : Passes CX X E) : OpR X (compareOp .NotEq) (rNeAll C sp E) := by
  intro pins s σ H x y v u Q I rx ry h
  rcases h with h | ⟨a, dx, fs, t, rfl, ha, hy, q⟩
  · exact op_ownNe O N F hr hb hx pins s σ H x y v u Q I rx ry h
  cases (show v = Value.ref a from rx)
  obtain ⟨_, oa, _⟩ := ins_get I.hok ha
  obtain ⟨od, J, _⟩ := oa.look
  have ln : ([Value.ref a, u] ++ []).length = ps.length := (F.len _ _ _ _ q) ▸ rfl
  have back : wpAny (model X.prog X.w) X.A.in1 (call (.ref f) [.ref a, u]) (fun v s' => ∃ c, v = .bool c ∧ EP X pins σ Q (.bool (!c)) s') X.xe s := by
    refine wpAny_call (codeAny_mono (F.run X.A.in1 X.stack s H ⟨[.ref a, u], []⟩ _ [.ref a, y] _ E hr.in1 I.env0.in1 (hb s _ I.kIn ln) (.cons rfl (.cons ry .nil)) q) fun r s' hq => ?_)
    rcases r with e | fl
    · exact hx pins σ H s e s' I hq
    · cases fl with
      | ret z =>
        obtain ⟨_, H', I3, rv, c, rfl, q3⟩ := I.after hq
        exact ⟨c, rv, .bl (!c), H', I3, rfl, q3⟩
      | next => exact hq.elim
      | brk => exact hq.elim
      | cont => exact hq.elim
  exact ne_K (tb := .type t) (by have := hr.un; omega) I.kIn J (hy.looks I ry) (by unfold PySem.W.notFirst; rw [nt t hy.mem]; simp) N O.at_ O.fn back
variable {x : Str} {e : Expr} {es : List Expr} {t : TA} {p pos : Pos}
/-- C(e, .., *y) -/
theorem pe_makeRS (M : Mk X.K C f) (F : FnR X.prog X.w X.K X.mg X.base CX k f sp) (hr : Room (k + 1) X.A) (hg : Gl X x) (hm : X.mg x = some (.ref C)) (hx : Passes CX X E) (ha : PA X (e :: es) t) (hd : (x == ("__debug__" : Str)) = false := by decide)
    (he : starEach (e :: es) X.env = (false, eval e X.env) :: starEach es X.env := by rfl) (hst : (backTo pos (starEach es X.env)).any (·.1) = true := by rfl) : PE X (.Call (.Name x p) (e :: es) [] pos) (tMakeR C sp E t) :=
  ⟨fun pins s σ H Q I h => wpAny_Call_Name_kw (ld_glob I hg hm (PySem.W.callWith_S2 (h₀ := X.base) I.ok.mod.kin M.kp (thn (ha.run pos pins s σ H _ I h) fun us s1 ⟨vs, H1, I1, r, q⟩ => ⟨I1.kIn, run_makeR M F hr hx I1 r q⟩) he hst) hd)⟩
end
end RtL

set_option maxHeartbeats 1000000
/-! words of turns: twenty-four letters lead to the whole group -/
namespace Grp
theorem getD_lt {l : List Nat} {i : Nat} (h : i < l.length) : l.getD i 0 = l[i] := by
  rw [List.getD_eq_getElem?_getD, List.getElem?_eq_getElem h]; rfl
theorem mul_assoc {n : Nat} {x y z : El} (hy : Ok n y) (hz : Ok n z) : mul (mul x y) z = mul x (mul y z) := by
  unfold mul
  refine Prod.ext ?_ (Int.mul_assoc _ _ _)
  show z.1.map (fun i => (y.1.map fun j => x.1.getD j 0).getD i 0) = (z.1.map fun i => y.1.getD i 0).map fun j => x.1.getD j 0
  rw [List.map_map]
  refine List.map_congr_left fun i hi => ?_
  have lt : i < y.1.length := by rw [hy.len]; exact hz.lt hi
  show (y.1.map fun j => x.1.getD j 0).getD i 0 = x.1.getD (y.1.getD i 0) 0
  rw [List.getD_eq_getElem?_getD, List.getElem?_map, List.getElem?_eq_getElem lt, getD_lt lt]
  rfl
theorem mul_one {n : Nat} {x : El} (hx : Ok n x) : mul x (one n) = x := by
  unfold mul one
  refine Prod.ext ?_ (Int.mul_one _)
  have := map_range x.1
  rwa [hx.len] at this
theorem one_mul {n : Nat} {x : El} (hx : Ok n x) : mul (one n) x = x := by
  unfold mul one
  refine Prod.ext ?_ (Int.one_mul _)
  show x.1.map (fun i => (List.range n).getD i 0) = x.1
  refine Eq.trans (List.map_congr_left (g := id) fun i hi => ?_) (List.map_id _)
  have lt : i < (List.range n).length := by rw [List.length_range]; exact hx.lt hi
  rw [getD_lt lt, List.getElem_range]
  rfl
/-! ### the orders of the turns -/
def pw (n : Nat) (g : El) : Nat → El
  | 0 => one n
  | i + 1 => mul (pw n g i) g
def cyc (n : Nat) (g : El) (a : Nat) : List El := (List.range a).map (pw n g)
def okC (n : Nat) (g : El) (a : Nat) : Bool := decide (cyc n g a).Nodup && ((cyc n g a).all fun h => (cyc n g a).all fun h' => decide (mul h h' ∈ cyc n g a)) && (cyc n g a).all fun h => (cyc n g a).any fun h' => decide (mul h' h = one n)
def okG (n : Nat) (g : El) : Bool := decide (g = one n) || ([2, 3, 4, 6].any fun a => okC n g a)
theorem okG_all : ∀ n : Nat, n ≤ 4 → (all n).all (okG n) = true := by
  intro n h
  match n, h with
  | 0, _ => decide +kernel
  | 1, _ => decide +kernel
  | 2, _ => decide +kernel
  | 3, _ => decide +kernel
  | 4, _ => decide +kernel
  | n + 5, h => omega
theorem inv_all : ∀ n : Nat, n ≤ 4 → ((all n).all fun y => (all n).any fun z => decide (mul y z = one n)) = true := by
  intro n h
  match n, h with
  | 0, _ => decide +kernel
  | 1, _ => decide +kernel
  | 2, _ => decide +kernel
  | 3, _ => decide +kernel
  | 4, _ => decide +kernel
  | n + 5, h => omega
theorem Ok.allOk : ∀ n : Nat, n ≤ 4 → (all n).all (fun z => decide (z.1.Perm (List.range n)) && (decide (z.2 = 1) || decide (z.2 = -1))) = true := by
  intro n h
  match n, h with
  | 0, _ => decide +kernel
  | 1, _ => decide +kernel
  | 2, _ => decide +kernel
  | 3, _ => decide +kernel
  | 4, _ => decide +kernel
  | n + 5, h => omega
theorem ok_of_mem {n : Nat} (hn : n ≤ 4) {z : El} (h : z ∈ all n) : Ok n z := by
  have := List.all_eq_true.mp (Ok.allOk n hn) z h
  rw [Bool.and_eq_true, Bool.or_eq_true, decide_eq_true_iff, decide_eq_true_iff, decide_eq_true_iff] at this
  exact ⟨this.1, this.2⟩
theorem inv {n : Nat} (hn : n ≤ 4) {y : El} (hy : Ok n y) : ∃ z, Ok n z ∧ mul y z = one n := by
  have h := List.all_eq_true.mp (inv_all n hn) y hy.mem
  obtain ⟨z, hz, e⟩ := List.any_eq_true.mp h
  exact ⟨z, ok_of_mem hn hz, of_decide_eq_true e⟩
theorem mul_right {n : Nat} (hn : n ≤ 4) {y h h' : El} (hy : Ok n y) (a : Ok n h) (b : Ok n h') (e : mul h y = mul h' y) : h = h' := by
  obtain ⟨z, oz, ez⟩ := inv hn hy
  have e : mul (mul h y) z = mul (mul h' y) z := congrArg (fun u => mul u z) e
  rwa [mul_assoc hy oz, mul_assoc hy oz, ez, mul_one a, mul_one b] at e
/-! ### words -/
inductive W (n : Nat) (ts : List El) : Nat → El → Prop
  | one : W n ts 0 (one n)
  | more {k : Nat} {x : El} : W n ts k x → W n ts (k + 1) x
  | mul {k : Nat} {x t : El} : W n ts k x → t ∈ ts → W n ts (k + 1) (mul x t)
section
variable {n : Nat} {ts : List El}
theorem W.ok (ht : ∀ t ∈ ts, Ok n t) : ∀ {k : Nat} {x : El}, W n ts k x → Ok n x
  | _, _, .one => Ok.one
  | _, _, .more h => W.ok ht h
  | _, _, .mul h m => (W.ok ht h).mul (ht _ m)
theorem W.le {k m : Nat} {x : El} (h : W n ts k x) (l : k ≤ m) : W n ts m x := by
  induction l with
  | refl => exact h
  | step _ ih => exact .more ih
/-- a word behind a word -/
theorem W.app (ht : ∀ t ∈ ts, Ok n t) {m : Nat} {h : El} (wh : W n ts m h) : ∀ {k : Nat} {b : El}, W n ts k b → W n ts (m + k) (Grp.mul h b)
  | _, _, .one => by rw [mul_one (wh.ok ht)]; exact wh
  | _, _, .more w => .more (W.app ht wh w)
  | _, _, .mul w mt => by
    rw [← mul_assoc (w.ok ht) (ht _ mt)]
    exact .mul (W.app ht wh w) mt
theorem W.pw {g : El} (hg : g ∈ ts) : ∀ i : Nat, W n ts i (pw n g i)
  | 0 => .one
  | i + 1 => .mul (W.pw hg i) hg
/-- with cosets of a subgroup -/
theorem short_aux (hn : n ≤ 4) (ht : ∀ t ∈ ts, Ok n t) {C : List El} (c1 : C.Nodup) (cO : ∀ h ∈ C, Ok n h) (cm : ∀ h ∈ C, ∀ h' ∈ C, Grp.mul h h' ∈ C) (ci : ∀ h ∈ C, ∃ h' ∈ C, Grp.mul h' h = one n) (cone : one n ∈ C) : ∀ k : Nat,
    (∃ j, j < k ∧ ∀ y t, W n ts j y → t ∈ ts → ∃ h ∈ C, ∃ b, W n ts j b ∧ Grp.mul y t = Grp.mul h b) ∨ (∃ L : List El, L.Nodup ∧ (∀ x ∈ L, Ok n x ∧ ∃ h ∈ C, ∃ b, W n ts k b ∧ x = Grp.mul h b) ∧ (k + 1) * C.length ≤ L.length)
  | 0 => .inr ⟨C, c1, fun x hx => ⟨cO x hx, x, hx, one n, .one, (mul_one (cO x hx)).symm⟩, by omega⟩
  | k + 1 => by
    rcases short_aux hn ht c1 cO cm ci cone k with ⟨j, hj, h⟩ | ⟨L, l1, l2, l3⟩
    · exact .inl ⟨j, by omega, h⟩
    by_cases st : ∀ y t, W n ts k y → t ∈ ts → ∃ h ∈ C, ∃ b, W n ts k b ∧ Grp.mul y t = Grp.mul h b
    · exact .inl ⟨k, by omega, st⟩
    · have ⟨y, st⟩ := Classical.not_forall.mp st
      have ⟨t, st⟩ := Classical.not_forall.mp st
      have ⟨wy, st⟩ := Classical.not_imp.mp st
      have ⟨tm, st⟩ := Classical.not_imp.mp st
      have wz : W n ts (k + 1) (Grp.mul y t) := .mul wy tm
      have oz := wz.ok ht
      generalize Grp.mul y t = z at st wz oz
      refine .inr ⟨L ++ C.map (fun h => Grp.mul h z), ?_, ?_, ?_⟩
      · refine List.nodup_append.mpr ⟨l1, ?_, ?_⟩
        · refine List.pairwise_map.mpr (List.Pairwise.imp_of_mem (fun {h h'} m m' ne e => ?_) c1)
          exact ne (mul_right hn oz (cO _ m) (cO _ m') e)
        · rintro x hx x' hx' rfl
          obtain ⟨h', m', e'⟩ := List.mem_map.mp hx'
          obtain ⟨_, h, m, b, wb, e⟩ := l2 x hx
          obtain ⟨hi, mi, ei⟩ := ci h' m'
          apply st
          refine ⟨Grp.mul hi h, cm _ mi _ m, b, wb, ?_⟩
          rw [mul_assoc (cO _ m) (wb.ok ht), ← e, ← e', ← mul_assoc (cO _ m') oz, ei, one_mul oz]
      · intro x hx
        rcases List.mem_append.mp hx with h | h
        · obtain ⟨a, h, m, b, wb, e⟩ := l2 x h
          exact ⟨a, h, m, b, .more wb, e⟩
        · obtain ⟨h', m', e'⟩ := List.mem_map.mp h
          exact ⟨e' ▸ (cO _ m').mul oz, h', m', z, wz, e'.symm⟩
      · rw [List.length_append, List.length_map]
        have : (k + 1 + 1) * C.length = (k + 1) * C.length + C.length := Nat.succ_mul _ _
        omega
theorem short_of (hn : n ≤ 4) (ht : ∀ t ∈ ts, Ok n t) {C : List El} (c1 : C.Nodup) (cO : ∀ h ∈ C, Ok n h) (cm : ∀ h ∈ C, ∀ h' ∈ C, Grp.mul h h' ∈ C) (ci : ∀ h ∈ C, ∃ h' ∈ C, Grp.mul h' h = one n) (cone : one n ∈ C) {a m : Nat} (la : C.length = a) (ca : ∀ h ∈ C, W n ts (a - 1) h) (hm : 48 < (m + 1) * a) :
    ∀ k x, W n ts k x → W n ts (a - 1 + (m - 1)) x := by
  rcases short_aux hn ht c1 cO cm ci cone m with ⟨j, hj, st⟩ | ⟨L, l1, l2, l3⟩
  · have all' : ∀ k x, W n ts k x → ∃ h ∈ C, ∃ b, W n ts j b ∧ x = Grp.mul h b := by
      intro k x w
      induction w with
      | one => exact ⟨one n, cone, one n, W.one.le (Nat.zero_le _), (mul_one Ok.one).symm⟩
      | more _ ih => exact ih
      | mul w tm ih =>
        obtain ⟨h, mh, b, wb, e⟩ := ih
        obtain ⟨h', mh', b', wb', e'⟩ := st b _ wb tm
        refine ⟨Grp.mul h h', cm _ mh _ mh', b', wb', ?_⟩
        rw [e, mul_assoc (wb.ok ht) (ht _ tm), e', ← mul_assoc (cO _ mh') (wb'.ok ht)]
    intro k x w
    obtain ⟨h, mh, b, wb, rfl⟩ := all' k x w
    exact (W.app ht (ca h mh) wb).le (by omega)
  · have := nodup_len L (all n) l1 fun x hx => (l2 x hx).1.mem
    have h48 := all_len n hn
    rw [la] at l3
    omega
theorem W.short (hn : n ≤ 4) (ht : ∀ t ∈ ts, Ok n t) : ∀ k x, W n ts k x → W n ts 24 x := by
  by_cases h1 : ∀ t ∈ ts, t = Grp.one n
  · intro k x w
    have e : x = Grp.one n := by
      induction w with
      | one => rfl
      | more _ ih => exact ih
      | mul _ tm ih => rw [ih, h1 _ tm, mul_one Ok.one]
    rw [e]
    exact W.one.le (Nat.zero_le _)
  · have ⟨g, h1⟩ := Classical.not_forall.mp h1
    have ⟨gm, g1⟩ := Classical.not_imp.mp h1
    have h := List.all_eq_true.mp (okG_all n hn) g (ht g gm).mem
    unfold okG at h
    rw [decide_eq_false g1, Bool.false_or] at h
    obtain ⟨a, am, h⟩ := List.any_eq_true.mp h
    unfold okC at h
    rw [Bool.and_eq_true, Bool.and_eq_true, decide_eq_true_iff] at h
    obtain ⟨⟨h2, h3⟩, h4⟩ := h
    have wC : ∀ h ∈ cyc n g a, W n ts (a - 1) h := fun h hm => by
      obtain ⟨i, hi, rfl⟩ := List.mem_map.mp hm
      exact (W.pw gm i).le (by have := List.mem_range.mp hi; omega)
    have fin : ∀ m, 48 < (m + 1) * a → a - 1 + (m - 1) ≤ 24 → 0 < a → ∀ k x, W n ts k x → W n ts 24 x := fun m h48 l a0 k x w =>
      (short_of hn ht h2 (fun h hm => (wC h hm).ok ht) (fun h hm h' hm' => of_decide_eq_true (List.all_eq_true.mp (List.all_eq_true.mp h3 h hm) h' hm'))
        (fun h hm => by
          obtain ⟨h', hm', e⟩ := List.any_eq_true.mp (List.all_eq_true.mp h4 h hm)
          exact ⟨h', hm', of_decide_eq_true e⟩) (List.mem_map.mpr ⟨0, List.mem_range.mpr a0, rfl⟩) (by unfold cyc; rw [List.length_map, List.length_range]) wC h48 k x w).le l
    simp only [List.mem_cons, List.not_mem_nil, or_false] at am
    rcases am with rfl | rfl | rfl | rfl
    · exact fin 24 (by decide) (by decide) (by decide)
    · exact fin 16 (by decide) (by decide) (by decide)
    · exact fin 12 (by decide) (by decide) (by decide)
    · exact fin 8 (by decide) (by decide) (by decide)
end
end Grp

set_option maxHeartbeats 1000000
/-! group_of's turns are the words; the law's own list too -/
namespace Grp
section
variable {n : Nat} {ts : List El}
/-- a word of any length -/
def Rch (n : Nat) (ts : List El) (x : El) : Prop := ∃ k, W n ts k x
theorem Rch.one : Rch n ts (Grp.one n) := ⟨0, .one⟩
theorem Rch.mul {x t : El} (h : Rch n ts x) (m : t ∈ ts) : Rch n ts (Grp.mul x t) := by
  obtain ⟨k, h⟩ := h
  exact ⟨_, .mul h m⟩
theorem Rch.ok (ht : ∀ t ∈ ts, Ok n t) {x : El} (h : Rch n ts x) : Ok n x := by
  obtain ⟨k, h⟩ := h
  exact h.ok ht
theorem Rch.app (ht : ∀ t ∈ ts, Ok n t) {x y : El} (h : Rch n ts x) (h' : Rch n ts y) : Rch n ts (Grp.mul x y) := by
  obtain ⟨k, h⟩ := h
  obtain ⟨k', h'⟩ := h'
  exact ⟨_, W.app ht h h'⟩
theorem Rch.gen (ht : ∀ t ∈ ts, Ok n t) {t : El} (m : t ∈ ts) : Rch n ts t := by
  have := Rch.mul (Rch.one (n := n) (ts := ts)) m
  rwa [one_mul (ht t m)] at this
/-- what is made of words of ts is a word of ts -/
theorem Rch.of (ht : ∀ t ∈ ts, Ok n t) {us : List El} (hu : ∀ u ∈ us, Rch n ts u) {x : El} (h : Rch n us x) : Rch n ts x := by
  obtain ⟨k, w⟩ := h
  induction w with
  | one => exact Rch.one
  | more _ ih => exact ih
  | mul _ tm ih => exact Rch.app ht ih (hu _ tm)
/-- a list that holds one and what follows by ts -/
theorem Rch.mem {xs : List El} (h1 : Grp.one n ∈ xs) (hc : ∀ x ∈ xs, ∀ t ∈ ts, Grp.mul x t ∈ xs) {x : El} (h : Rch n ts x) : x ∈ xs := by
  obtain ⟨k, w⟩ := h
  induction w with
  | one => exact h1
  | more _ ih => exact ih
  | mul _ tm ih => exact hc _ ih _ tm
/-! ### found -/
theorem mem_put (xs : List El) (y : El) : y ∈ put xs y := by
  unfold put
  split
  · assumption
  · exact List.mem_append_right _ List.mem_cons_self
theorem put_sub {xs : List El} {y x : El} (h : x ∈ xs) : x ∈ put xs y := by
  obtain ⟨zs, e⟩ := put_pre xs y
  rw [e]; exact List.mem_append_left _ h
theorem put_of {xs : List El} {y x : El} (h : x ∈ put xs y) : x ∈ xs ∨ x = y := by
  unfold put at h
  split at h
  · exact .inl h
  · rcases List.mem_append.mp h with h | h
    · exact .inl h
    · exact .inr (List.mem_singleton.mp h)
theorem turn_sub (x : El) {y : El} : ∀ (ts acc : List El), y ∈ acc → y ∈ turnAll ts x acc := fun ts acc h => by
  obtain ⟨zs, e⟩ := turn_pre x ts acc
  rw [e]; exact List.mem_append_left _ h
theorem turn_mem (x : El) {t : El} : ∀ (ts acc : List El), t ∈ ts → Grp.mul x t ∈ turnAll ts x acc
  | [], _, h => nomatch h
  | u :: ts, acc, h => by
    show _ ∈ turnAll ts x (put acc (Grp.mul x u))
    rcases List.mem_cons.mp h with rfl | h
    · exact turn_sub x ts _ (mem_put _ _)
    · exact turn_mem x ts _ h
theorem turn_of (x : El) {y : El} : ∀ (ts acc : List El), y ∈ turnAll ts x acc → y ∈ acc ∨ ∃ t ∈ ts, y = Grp.mul x t
  | [], _, h => .inl h
  | u :: ts, acc, h => by
    have h : y ∈ turnAll ts x (put acc (Grp.mul x u)) := h
    rcases turn_of x ts _ h with h | ⟨t, m, e⟩
    · rcases put_of h with h | h
      · exact .inl h
      · exact .inr ⟨u, List.mem_cons_self, h⟩
    · exact .inr ⟨t, List.mem_cons_of_mem _ m, e⟩
theorem go_spec (hn : n ≤ 4) (ht : ∀ t ∈ ts, Ok n t) : ∀ (f j : Nat) (xs : List El), Good n xs → 48 ≤ f + j → (∀ x ∈ xs, Rch n ts x) → (∀ i x, i < j → xs[i]? = some x → ∀ t ∈ ts, Grp.mul x t ∈ xs) →
    Good n (go ts f j xs) ∧ (∀ x ∈ xs, x ∈ go ts f j xs) ∧ (∀ x ∈ go ts f j xs, Rch n ts x) ∧ ∀ x ∈ go ts f j xs, ∀ t ∈ ts, Grp.mul x t ∈ go ts f j xs
  | 0, j, xs, g, hj, hr, hc => by
    refine ⟨g, fun x h => h, hr, fun x hx t tm => ?_⟩
    have hx : x ∈ xs := hx
    obtain ⟨i, hi⟩ := List.getElem?_of_mem hx
    have := (List.getElem?_eq_some_iff.mp hi).1
    have l := g.len hn
    exact hc i x (by omega) hi t tm
  | f + 1, j, xs, g, hj, hr, hc => by
    show Good n (match xs[j]? with | none => xs | some x => go ts f (j + 1) (turnAll ts x xs)) ∧ (∀ y ∈ xs, y ∈ (match xs[j]? with | none => xs | some x => go ts f (j + 1) (turnAll ts x xs))) ∧ (∀ y ∈ (match xs[j]? with | none => xs | some x => go ts f (j + 1) (turnAll ts x xs)), Rch n ts y) ∧ ∀ y ∈ (match xs[j]? with | none => xs | some x => go ts f (j + 1) (turnAll ts x xs)), ∀ t ∈ ts, Grp.mul y t ∈ (match xs[j]? with | none => xs | some x => go ts f (j + 1) (turnAll ts x xs))
    cases e : xs[j]? with
    | none =>
      refine ⟨g, fun x h => h, hr, fun x hx t tm => ?_⟩
      have hx : x ∈ xs := hx
      obtain ⟨i, hi⟩ := List.getElem?_of_mem hx
      have h1 := (List.getElem?_eq_some_iff.mp hi).1
      have h2 := List.getElem?_eq_none_iff.mp e
      exact hc i x (by omega) hi t tm
    | some x =>
      have hx : x ∈ xs := List.mem_of_getElem? e
      have := go_spec hn ht f (j + 1) (turnAll ts x xs) (Good.turn (g.ok x hx) ht g) (by omega) (fun y hy => ?_) (fun i y hi ey t tm => ?_)
      · exact ⟨this.1, fun y hy => this.2.1 y (turn_sub x ts xs hy), this.2.2.1, this.2.2.2⟩
      · rcases turn_of x ts xs hy with h | ⟨t, tm, rfl⟩
        · exact hr y h
        · exact (hr x hx).mul tm
      · obtain ⟨zs, ez⟩ := turn_pre x ts xs
        have jl := (List.getElem?_eq_some_iff.mp e).1
        rw [ez, List.getElem?_append_left (by omega)] at ey
        rcases Nat.lt_or_ge i j with h | h
        · exact turn_sub x ts xs (hc i y h ey t tm)
        · have : i = j := by omega
          subst this
          rw [e] at ey
          cases ey
          exact turn_mem x ts xs tm
theorem good_one : Good n [Grp.one n] := ⟨fun e he => by rw [List.mem_singleton.mp he]; exact Ok.one, by simp⟩
theorem found_good (hn : n ≤ 4) (ht : ∀ t ∈ ts, Ok n t) : Good n (found n ts) := (go_spec hn ht 48 0 [Grp.one n] good_one (by omega) (fun x hx => by rw [List.mem_singleton.mp hx]; exact Rch.one) (fun i x h => by omega)).1
theorem found_mem (hn : n ≤ 4) (ht : ∀ t ∈ ts, Ok n t) {x : El} : x ∈ found n ts ↔ Rch n ts x := by
  have h := go_spec hn ht 48 0 [Grp.one n] good_one (by omega) (fun x hx => by rw [List.mem_singleton.mp hx]; exact Rch.one) (fun i x h => by omega)
  exact ⟨h.2.2.1 x, fun w => Rch.mem (h.2.1 _ (List.mem_singleton.mpr rfl)) h.2.2.2 w⟩
/-! ### the law's list -/
def lfr1 (xs : List El) (x : El) (acc : List El) (t : El) : List El := if Grp.mul x t ∈ xs ∨ Grp.mul x t ∈ acc then acc else acc ++ [Grp.mul x t]
def lfr2 (ts xs : List El) (acc : List El) (x : El) : List El := ts.foldl (lfr1 xs x) acc
def lfr (ts xs : List El) : List El := xs.foldl (lfr2 ts xs) []
def lst (ts xs : List El) : List El := xs ++ lfr ts xs
def lgr (n : Nat) (ts : List El) : Nat → List El
  | 0 => [Grp.one n]
  | k + 1 => lst ts (lgr n ts k)
structure Fr (ts xs acc : List El) : Prop where
  nd : acc.Nodup
  out : ∀ y ∈ acc, y ∉ xs
  of : ∀ y ∈ acc, ∃ x ∈ xs, ∃ t ∈ ts, y = Grp.mul x t
theorem Fr.put1 {xs acc : List El} {x t : El} (h : Fr ts xs acc) (hx : x ∈ xs) (tm : t ∈ ts) : Fr ts xs (lfr1 xs x acc t) ∧ (∀ y ∈ acc, y ∈ lfr1 xs x acc t) ∧ (Grp.mul x t ∈ xs ∨ Grp.mul x t ∈ lfr1 xs x acc t) := by
  unfold lfr1
  split
  · rename_i z
    exact ⟨h, fun y hy => hy, z⟩
  · rename_i z
    have ⟨z1, z2⟩ := not_or.mp z
    refine ⟨⟨List.nodup_append.mpr ⟨h.nd, by simp, fun a ha b hb e => ?_⟩, fun y hy => ?_, fun y hy => ?_⟩, fun y hy => List.mem_append_left _ hy, .inr (List.mem_append_right _ List.mem_cons_self)⟩
    · rw [List.mem_singleton.mp hb] at e
      exact z2 (e ▸ ha)
    · rcases List.mem_append.mp hy with k | k
      · exact h.out y k
      · rw [List.mem_singleton.mp k]; exact z1
    · rcases List.mem_append.mp hy with k | k
      · exact h.of y k
      · exact ⟨x, hx, t, tm, List.mem_singleton.mp k⟩
theorem Fr.put2 {xs : List El} {x : El} (hx : x ∈ xs) : ∀ (us acc : List El), (∀ u ∈ us, u ∈ ts) → Fr ts xs acc → Fr ts xs (us.foldl (lfr1 xs x) acc) ∧ (∀ y ∈ acc, y ∈ us.foldl (lfr1 xs x) acc) ∧ ∀ t ∈ us, Grp.mul x t ∈ xs ∨ Grp.mul x t ∈ us.foldl (lfr1 xs x) acc
  | [], acc, _, h => ⟨h, fun y hy => hy, (fun t tm => nomatch tm)⟩
  | u :: us, acc, hu, h => by
    obtain ⟨a1, a2, a3⟩ := h.put1 hx (hu u List.mem_cons_self)
    obtain ⟨b1, b2, b3⟩ := Fr.put2 hx us (lfr1 xs x acc u) (fun v hv => hu v (List.mem_cons_of_mem _ hv)) a1
    refine ⟨b1, fun y hy => b2 y (a2 y hy), fun t tm => ?_⟩
    rcases List.mem_cons.mp tm with rfl | tm
    · exact a3.imp (fun z => z) (b2 _)
    · exact b3 t tm
theorem Fr.put3 {xs : List El} : ∀ (zs acc : List El), (∀ z ∈ zs, z ∈ xs) → Fr ts xs acc → Fr ts xs (zs.foldl (lfr2 ts xs) acc) ∧ (∀ y ∈ acc, y ∈ zs.foldl (lfr2 ts xs) acc) ∧ ∀ z ∈ zs, ∀ t ∈ ts, Grp.mul z t ∈ xs ∨ Grp.mul z t ∈ zs.foldl (lfr2 ts xs) acc
  | [], acc, _, h => ⟨h, fun y hy => hy, (fun t tm => nomatch tm)⟩
  | u :: us, acc, hu, h => by
    obtain ⟨a1, a2, a3⟩ := Fr.put2 (hu u List.mem_cons_self) ts acc (fun v hv => hv) h
    obtain ⟨b1, b2, b3⟩ := Fr.put3 us (lfr2 ts xs acc u) (fun v hv => hu v (List.mem_cons_of_mem _ hv)) a1
    refine ⟨b1, fun y hy => b2 y (a2 y hy), fun z zm t tm => ?_⟩
    rcases List.mem_cons.mp zm with rfl | zm
    · exact (a3 t tm).imp (fun z => z) (b2 _)
    · exact b3 z zm t tm
theorem fr_ok (ts xs : List El) : Fr ts xs (lfr ts xs) ∧ ∀ z ∈ xs, ∀ t ∈ ts, Grp.mul z t ∈ xs ∨ Grp.mul z t ∈ lfr ts xs := by
  have := Fr.put3 (ts := ts) (xs := xs) xs [] (fun z hz => hz) ⟨List.nodup_nil, (fun y hy => nomatch hy), (fun y hy => nomatch hy)⟩
  exact ⟨this.1, this.2.2⟩
theorem lgr_mem : ∀ k : Nat, (∀ x, x ∈ lgr n ts k ↔ W n ts k x) ∧ (lgr n ts k).Nodup
  | 0 => ⟨fun x => ⟨fun h => by rw [List.mem_singleton.mp h]; exact .one, fun h => by cases h; exact List.mem_singleton.mpr rfl⟩, by show [Grp.one n].Nodup; simp⟩
  | k + 1 => by
    obtain ⟨i1, i2⟩ := lgr_mem k
    obtain ⟨f1, f2⟩ := fr_ok ts (lgr n ts k)
    refine ⟨fun x => ⟨fun h => ?_, fun h => ?_⟩, ?_⟩
    · rcases List.mem_append.mp h with h | h
      · exact .more ((i1 x).mp h)
      · obtain ⟨y, hy, t, tm, rfl⟩ := f1.of x h
        exact .mul ((i1 y).mp hy) tm
    · cases h with
      | more h => exact List.mem_append_left _ ((i1 x).mpr h)
      | mul h tm => exact List.mem_append.mpr (f2 _ ((i1 _).mpr h) _ tm)
    · exact List.nodup_append.mpr ⟨i2, f1.nd, fun a ha b hb e => f1.out b hb (e ▸ ha)⟩
theorem W.more24 {k : Nat} {x : El} (hn : n ≤ 4) (ht : ∀ t ∈ ts, Ok n t) : W n ts 24 x ↔ Rch n ts x := ⟨fun h => ⟨_, h⟩, fun ⟨_, h⟩ => W.short hn ht _ _ h⟩
/-- the law's list has the turns of group_of -/
theorem lgr_perm (hn : n ≤ 4) (ht : ∀ t ∈ ts, Ok n t) : (lgr n ts 24).Perm (found n ts) :=
  (List.perm_ext_iff_of_nodup (lgr_mem 24).2 (found_good hn ht).nd).mpr fun x => by rw [(lgr_mem 24).1 x, found_mem hn ht, W.more24 (k := 0) hn ht]
theorem lgr_len (hn : n ≤ 4) (ht : ∀ t ∈ ts, Ok n t) (k : Nat) : (lgr n ts k).length ≤ 48 :=
  Nat.le_trans (nodup_len _ (all n) (lgr_mem k).2 fun x hx => (((lgr_mem k).1 x).mp hx |>.ok ht).mem) (all_len n hn)
theorem lgr_ok (ht : ∀ t ∈ ts, Ok n t) (k : Nat) : ∀ x ∈ lgr n ts k, Ok n x := fun x hx => ((lgr_mem k).1 x).mp hx |>.ok ht
/-- turns of the group lead to no more -/
theorem found_sub (hn : n ≤ 4) (ht : ∀ t ∈ ts, Ok n t) {us : List El} (hu : ∀ u ∈ us, u ∈ found n ts) : ∀ x ∈ found n us, x ∈ found n ts := fun x hx => by
  have hu' := fun u m => (found_mem hn ht).mp (hu u m)
  have ou := fun u m => (hu' u m).ok ht
  exact (found_mem hn ht).mpr (Rch.of ht hu' ((found_mem hn ou).mp hx))
/-- all turns of the group lead to the group -/
theorem found_all (hn : n ≤ 4) (ht : ∀ t ∈ ts, Ok n t) {us : List El} (hu : ∀ u, u ∈ us ↔ u ∈ found n ts) : (found n us).Perm (found n ts) := by
  have hu' := fun u m => (found_mem hn ht).mp ((hu u).mp m)
  have ou := fun u m => (hu' u m).ok ht
  refine (List.perm_ext_iff_of_nodup (found_good hn ou).nd (found_good hn ht).nd).mpr fun x => ⟨found_sub hn ht (fun u m => (hu u).mp m) x, fun hx => ?_⟩
  exact (found_mem hn ou).mpr (Rch.gen ou ((hu x).mpr hx))
theorem found_gen (hn : n ≤ 4) (ht : ∀ t ∈ ts, Ok n t) {t : El} (m : t ∈ ts) : t ∈ found n ts := (found_mem hn ht).mpr (Rch.gen ht m)
theorem found_one (hn : n ≤ 4) (ht : ∀ t ∈ ts, Ok n t) : Grp.one n ∈ found n ts := (found_mem hn ht).mpr Rch.one
theorem found_nil (hn : n ≤ 4) : found n [] = [Grp.one n] := by
  show go [] 47 1 [Grp.one n] = _
  exact go_stay [] 47 1 _ (by simp)
end
end Grp

set_option maxHeartbeats 600000
namespace K11
open PySem PySem.Spec PyProof.Rows L2 RtL ErL StX NSet
open Grp (El mul)
section
variable {P : Program} {w : World} {K : Fr} {mg : Str → Option Value} {base : Heap} {f : Addr} {fd : FuncData}
theorem scM9 : FnScope ["self", "name"] ["self", "name"] (defScope (inT 9)) := ⟨rfl, rfl, rfl, by decide +kernel, rfl, by decide +kernel, by decide +kernel⟩
/-- a table that is asked again: what it is made of -/
structure TabOk (nm : Str) (zs : List Str) (l : List El) : Prop where
  nm : NmOk nm
  sz : ∀ z ∈ zs, NmOk z
  l1 : 1 ≤ zs.length
  l4 : zs.length ≤ 4
  tu : ∀ e ∈ l, Grp.Ok zs.length e ∧ Keeps zs e
  lt : l.length ≤ 48
def spM9 (K : Fr) : Sp := fun vs H Q _ => ∃ (a : Addr) (nm n2 : Str) (zs : List Str) (es : List (Addr × El)), vs = [.ref a, .str n2] ∧ TabAt K H a nm zs es ∧ TabOk n2 zs (els es) ∧ (List.range zs.length, -1) ∉ Grp.found zs.length (els es) ∧
  ∀ (x : Addr) (es' : List (Addr × El)) (H' : Hp), Same H H' → H x = none → TabAt K H' x n2 zs es' → els es' = srt (Grp.found zs.length (els es)) → Q (.ref x) H'
theorem ok_m9 {q : Str} (F : FunD K "renamed" q (defArgs (inT 9)) (defBody (inT 9)) (defScope (inT 9)) [] [] f fd) (T : TT K mg) (I : TId P w K mg base) : FnOk P w K mg base CX0 6 f fd ["self", "name"] (spM9 K) := by
  refine F.ok scM9 (fun vs H Q E h => ?_) (fun cdv A outer s H vs Q E hr h => ?_)
  · obtain ⟨a, nm, n2, zs, es, rfl, _⟩ := h
    rfl
  · obtain ⟨a, nm, n2, zs, es, rfl, ta, ok, hv, qq⟩ := h
    refine ⟨_, PSs.nox (pss_one (ps_ret (pe_makeRS T.mkr I hr (by rfl) (T.gl "Table" (by decide)) pass0 (pa_cons (pv 1) (pa_cons (pe_fld (pv 0) rfl) (pa_star (pe_fld (pv 0) rfl) pa_nil)))))), ?_⟩
    obtain ⟨dx, sl, g, ea, esl, eg, hes⟩ := _root_.id ta
    refine ⟨_, rfl, _, rfl, a, _, dx, _, _, rfl, ea, T.cl, T.no "_slots" (by decide), rfl, _, rfl, a, _, dx, _, _, rfl, ea, T.cl, T.no "_group" (by decide), rfl, g, _, rfl, .inl (SqT.of eg), ?_⟩
    have ti : TabIn H n2 sl zs es := ⟨ok.nm, .inr esl, ok.sz, ok.l1, ok.l4, fun p hp => ⟨hes p hp, ok.tu _ (List.mem_map.mpr ⟨p, hp, rfl⟩)⟩, by have := ok.lt; rw [List.length_map] at this; omega⟩
    show ∀ x dx, H x = none → H dx = none → dx ≠ x → spTi K (.ref x :: .str n2 :: .ref sl :: (refs es ++ [])) _ _ _
    rw [List.append_nil]
    exact fun x dx nx nd ne => madeT_at nx nd ne ti hv fun H' es' s' ta' hs => ⟨rfl, qq x es' H' s' nx ta' hs⟩
abbrev M9d (P : Program) (w : World) (K : Fr) (mg : Str → Option Value) (base : Heap) : Prop := ∃ d, Md P w K mg base 6 (tm K "renamed") d ["self", "name"] (spM9 K)
/-! ### __eq__ -/
theorem scMe : FnScope ["self", "other"] ["self", "other"] (defScope (inT 10)) := ⟨rfl, rfl, rfl, by decide +kernel, rfl, by decide +kernel, by decide +kernel⟩
def spEqT (K : Fr) : Sp := fun vs H Q _ => ∃ (a b : Addr) (nm n2 : Str) (zs z2 : List Str) (es e2 : List (Addr × El)), vs = [.ref a, .ref b] ∧ TabAt K H a nm zs es ∧ TabAt K H b n2 z2 e2 ∧ (∀ z ∈ zs, NmOk z) ∧ (∀ z ∈ z2, NmOk z) ∧ Q (.bl (decide (nm = n2 ∧ zs = z2 ∧ els es = els e2))) H
def spEqO (K : Fr) : Sp := fun vs H Q _ => ∃ (a b : Addr) (nm : Str) (zs : List Str) (es : List (Addr × El)) (xs : List V), vs = [.ref a, .ref b] ∧ TabAt K H a nm zs es ∧ H b = some (.tup xs) ∧ Q (.bl false) H
theorem eqv_strs : ∀ a b : List Str, PyData.eqvAll (a.map PyData.str) (b.map PyData.str) = decide (a = b)
  | [], [] => rfl
  | [], _ :: _ => by simp [PyData.eqvAll]
  | _ :: _, [] => by simp [PyData.eqvAll]
  | x :: a, y :: b => by
    rw [List.map_cons, List.map_cons, PyData.eqvAll, eqv_strs a b, PyData.eqv, Bool.eq_iff_iff]
    simp
theorem dep_strs : ∀ l : List Str, PyData.depthAll (l.map PyData.str) = 0
  | [] => rfl
  | x :: l => by
    show max 0 (PyData.depthAll _) = 0
    rw [dep_strs l]
    rfl
theorem NmOk.sok {z : Str} (h : NmOk z) : PyData.strOk z = true := by
  have a : (z.cps.all fun c => decide (c < 128)) = true := h.asc
  show (z.cps.all fun c => decide (c < 0x110000)) = true
  rw [← Array.all_toList] at a ⊢
  refine List.all_eq_true.mpr fun c hc => decide_eq_true ?_
  have := of_decide_eq_true (List.all_eq_true.mp a c hc)
  omega
theorem lay_strs : ∀ l : List Str, (∀ z ∈ l, NmOk z) → PyData.canLayAll0 (l.map PyData.str) = true
  | [], _ => rfl
  | x :: l, h => by
    show (PyData.strOk x && PyData.canLayAll0 (l.map PyData.str)) = true
    rw [lay_strs l fun z hz => h z (List.mem_cons_of_mem _ hz), (h x List.mem_cons_self).sok]
    rfl
theorem shp_strt (l : List Str) (h : ∀ z ∈ l, NmOk z) : SeqAt.shaped (.tuple (l.map PyData.str)) = true := by
  unfold SeqAt.shaped
  refine Bool.and_eq_true_iff.mpr ⟨lay_strs l h, decide_eq_true ?_⟩
  show PyData.depthAll (l.map PyData.str) + 1 ≤ 64
  rw [dep_strs]
  decide
theorem shp_strl (l : List Str) (h : ∀ z ∈ l, NmOk z) : SeqAt.shaped (.list (l.map PyData.str)) = true := by
  unfold SeqAt.shaped
  refine Bool.and_eq_true_iff.mpr ⟨lay_strs l h, decide_eq_true ?_⟩
  show PyData.depthAll (l.map PyData.str) + 1 ≤ 64
  rw [dep_strs]
  decide
theorem strs_dp {K : Fr} {H : Hp} : ∀ l : List Str, DpAll K H (l.map V.str) (l.map PyData.str)
  | [] => .nil
  | i :: l => .cons (.str i) (strs_dp l)
theorem eqv_els : ∀ a b : List El, PyData.eqvAll (a.map dEl) (b.map dEl) = decide (a = b)
  | [], [] => rfl
  | [], _ :: _ => by simp [PyData.eqvAll]
  | _ :: _, [] => by simp [PyData.eqvAll]
  | x :: a, y :: b => by
    rw [List.map_cons, List.map_cons, PyData.eqvAll, eqv_els a b, eqv_el, Bool.eq_iff_iff]
    simp
theorem shp_elt (l : List El) : SeqAt.shaped (.tuple (l.map dEl)) = true := by
  unfold SeqAt.shaped
  refine Bool.and_eq_true_iff.mpr ⟨lays_el l, decide_eq_true ?_⟩
  have := deps_el l
  show PyData.depthAll _ + 1 ≤ 64
  omega
theorem ok_eqT {q : Str} (F : FunD K "__eq__" q (defArgs (inT 10)) (defBody (inT 10)) (defScope (inT 10)) [] [] f fd) (T : TT K mg) : FnOk P w K mg base CX0 1 f fd ["self", "other"] (spEqT K) := by
  refine F.ok scMe (fun vs H Q E h => ?_) (fun cdv A outer s H vs Q E hr h => ?_)
  · obtain ⟨a, b, nm, n2, zs, z2, es, e2, rfl, _⟩ := h
    rfl
  · obtain ⟨a, b, nm, n2, zs, z2, es, e2, rfl, ⟨dx, sl, g, ea, esl, eg, hes⟩, ⟨dy, s2, g2, eb, es2, eg2, hes2⟩, hz, hz2, qq⟩ := h
    have hu : (A.deeper (envOfC q (defScope (inT 10)) s.heap.objs.size f cdv)).units + 64 < cLine := by have := hr.un; omega
    refine ⟨_, PSs.nox (pss_cons (ps_if (pt_not (pt_val (pe_callB call_isi (by rfl) T.fre (by decide +kernel) (pa_cons (pv 1) (pa_cons (pe_glob (v := .ref (TC K)) (by rfl) (T.gl "Table" (by decide)) rfl) pa_nil))))) (pss_one (ps_ret pe_bl)) pss_nil)
      (pss_one (ps_ret (pe_and (pe_cmpR op_eq (pe_fld (pv 0) rfl) (pe_fld (pv 1) rfl) (nomark _)) (pe_and (pe_cmpR (op_eqD hu) (pe_fld (pv 0) rfl) (pe_fld (pv 1) rfl) (nomark _)) (pe_one (pe_cmpR (op_eqD hu) (pe_fld (pv 0) rfl) (pe_fld (pv 1) rfl) (nomark _)))))))), ?_⟩
    refine ⟨_, rfl, _, _, _, _, true, rfl, .own _, T.ty eb, T.kitS, true, rfl, iteF ?_⟩
    refine ⟨_, rfl, a, _, dx, _, _, rfl, ea, T.cl, T.no "name" (by decide), rfl, _, rfl, b, _, dy, _, _, rfl, eb, T.cl, T.no "name" (by decide), rfl, rfl, decide (nm = n2), ?_, ite2 (fun h1 => ?_) (fun h1 => ?_)⟩
    · refine congrArg V.bl ?_
      rw [Bool.eq_iff_iff, decide_eq_true_iff, decide_eq_true_iff]
      exact ⟨fun z => V.str.inj z, fun z => by rw [z]⟩
    · have h1 := of_decide_eq_true h1
      refine ⟨_, rfl, a, _, dx, _, _, rfl, ea, T.cl, T.no "_slots" (by decide), rfl, _, rfl, b, _, dy, _, _, rfl, eb, T.cl, T.no "_slots" (by decide), rfl, _, _, .tup (SqT.of esl) (strs_dp zs), .tup (SqT.of es2) (strs_dp z2), shp_strt zs hz, shp_strt z2 hz2, decide (zs = z2), ?_, ite2 (fun h2 => ?_) (fun h2 => ?_)⟩
      · rw [PyData.eqv, eqv_strs]
      · have h2 := of_decide_eq_true h2
        refine ⟨_, rfl, a, _, dx, _, _, rfl, ea, T.cl, T.no "_group" (by decide), rfl, _, rfl, b, _, dy, _, _, rfl, eb, T.cl, T.no "_group" (by decide), rfl, _, _, .tup (SqT.of eg) (els_dp es hes), .tup (SqT.of eg2) (els_dp e2 hes2), shp_elt _, shp_elt _, ?_⟩
        rw [PyData.eqv, eqv_els]
        have : decide (nm = n2 ∧ zs = z2 ∧ els es = els e2) = decide (els es = els e2) := by
          rw [Bool.eq_iff_iff, decide_eq_true_iff, decide_eq_true_iff]
          exact ⟨fun z => z.2.2, fun z => ⟨h1, h2, z⟩⟩
        rw [this] at qq
        exact qq
      · rw [decide_eq_false (fun z => h2 (decide_eq_true z.2.1))] at qq
        exact qq
    · rw [decide_eq_false (fun z => h1 (decide_eq_true z.1))] at qq
      exact qq
theorem ok_eqO {q : Str} (F : FunD K "__eq__" q (defArgs (inT 10)) (defBody (inT 10)) (defScope (inT 10)) [] [] f fd) (T : TT K mg) : FnOk P w K mg base CX0 1 f fd ["self", "other"] (spEqO K) := by
  refine F.ok scMe (fun vs H Q E h => ?_) (fun cdv A outer s H vs Q E hr h => ?_)
  · obtain ⟨a, b, nm, zs, es, xs, rfl, _⟩ := h
    rfl
  · obtain ⟨a, b, nm, zs, es, xs, rfl, _, eb, qq⟩ := h
    have hu : (A.deeper (envOfC q (defScope (inT 10)) s.heap.objs.size f cdv)).units + 64 < cLine := by have := hr.un; omega
    refine ⟨_, PSs.nox (pss_cons (ps_if (pt_not (pt_val (pe_callB call_isi (by rfl) T.fre (by decide +kernel) (pa_cons (pv 1) (pa_cons (pe_glob (v := .ref (TC K)) (by rfl) (T.gl "Table" (by decide)) rfl) pa_nil))))) (pss_one (ps_ret pe_bl)) pss_nil)
      (pss_one ps_never)), ?_⟩
    exact ⟨_, rfl, _, _, _, _, false, rfl, .own _, .base (.tup eb), T.kitT "tuple" (by decide), false, rfl, iteT qq⟩
end
end K11

set_option maxHeartbeats 4000000
set_option exponentiation.threshold 3000
namespace RtL
open PySem PySem.Spec PyProof.Rows L2 ErL
section
variable {P : Program} {w : World} {K : PySem.W.Frag} {mg : Str → Option Value} {base : Heap} {k : Nat} {f : Addr} {ps N : List Str} {sp : SpG}
/-- a def's promise that holds where nothing is being shown, from its record -/
theorem fnG_D {x qual : Str} {params : Arguments} {body : List Stmt} {scope : Scope} {fd : FuncData} (F : FunD K x qual params body scope [] [] f fd) (S : FnScope N ps scope) (len : ∀ vs H Q, sp vs H Q → vs.length = ps.length)
    (hbody : ∀ (cdv : Value) (A : Around) (outer : List Env) (s : Shared) (H : Hp) (vs : List V) (Q : VK), Room k (A.deeper (envOfC qual scope s.heap.objs.size f cdv)) →
      (A.deeper (envOfC qual scope s.heap.objs.size f cdv)).guards = some [] → sp vs H Q →
      ∃ t, PSs (cxOf CX0 P w K mg base N qual scope f cdv A outer s H E0).nox body t ∧ t { nx := fun _ H' => Q .non H', rt := Q } (start N vs) H) :
    FnG P w K mg base (k + 1) f fd ps sp := by
  obtain ⟨oc, od, dV, kV, doc, pm, an, cdv, ct, osl, rfl, lk, hcd, _, _⟩ := F.ex
  refine ⟨len, fun A outer s H args us vs Q hr hg e0 hb r hsp => ?_⟩
  exact LamX.run_ofS (N := N) lk hcd S hr e0 hb r (len _ _ _ hsp) fun hr' => by
    obtain ⟨t, ht, hq⟩ := hbody cdv A outer s H vs Q hr' (guards_deeper hg) hsp
    exact ⟨t, ht.nox, hq⟩
structure GdG (P : Program) (w : World) (K : PySem.W.Frag) (mg : Str → Option Value) (base : Heap) (k : Nat) (x : Str) (f : Addr) (fd : FuncData) (ps : List Str) (sp : SpG) : Prop where
  ok : FnG P w K mg base k f fd ps sp
  gl : mg x = some (.ref f)
  kp : PySem.W.keepIn K (.ref f) = true
  bd : Binds K fd ps []
end
section
variable {X : Cx} {k : Nat} {x : Str} {p pos : Pos} {e : Expr} {es : List Expr} {t : TA} {f : Addr} {fd : FuncData} {ps : List Str} {sp : SpG}
theorem pe_gg (C : GdG X.prog X.w X.K X.mg X.base k x f fd ps sp) (hr : Room k X.A) (hG : X.A.guards = some []) (hg : Gl X x) (ha : PA X (e :: es) t) (hdb : (x == ("__debug__" : Str)) = false := by decide)
    (he : starEach (e :: es) X.env = (false, eval e X.env) :: starEach es X.env := by rfl) (hpl : (backTo pos (starEach es X.env)).any (·.1) = false := by rfl) : PE X (.Call (.Name x p) (e :: es) [] pos) (tCallG sp t) :=
  pe_callG C.ok hr hG hg C.gl C.kp C.bd ha hdb he hpl
end
section
variable {X : Cx} {k : Nat} {f C : Addr} {fd : FuncData} {sp : Sp} {ps : List Str}
/-- f(x), x of the class: a method that makes a text -/
def rOwnTxt (C : Addr) (sp : Sp) : List V → Hp → VK → Prop := fun xs H Q => ∃ a dx fs, xs = [.ref a] ∧ H a = some (.ins C dx fs) ∧ sp [.ref a] H (fun v H' => (∃ z, v = .str z) ∧ Q v H') E0
theorem call_strOwn (hs : PySem.W.findIn X.K (.ref C) "__str__" = some (some (.ref f))) (hf : PySem.W.isFn X.K (.ref f) = true) (F : FnOk X.prog X.w X.K X.mg X.base CX0 k f fd ps sp) (hr : Room (k + 2) X.A) (hb : Binds X.K fd ps []) : CallR X (.type "str") (rOwnTxt C sp) := by
  intro pins s σ H xs us Q I r h
  obtain ⟨a, dx, fs, rfl, ha, q⟩ := h
  obtain ⟨u, rfl, rx⟩ := vals1 r
  cases (show u = Value.ref a from rx)
  obtain ⟨mA, oa, _⟩ := ins_get I.hok ha
  obtain ⟨od, J, _⟩ := oa.look
  have un := hr.un
  have hl : ([Value.ref a] ++ []).length = ps.length := by
    rw [← F.len _ _ _ _ q]
    rfl
  refine PySem.W.kso_call (by have := hr.in1.in1.un; omega) I.kIn J hs hf ?_
  refine wpAny_call (codeAny_mono (F.run X.A.in1.in1 X.stack s H ⟨[.ref a], []⟩ [.ref a] [.ref a] _ E0 hr.in1.in1 I.env0.in1.in1 (hb s [.ref a] I.kIn hl) (.cons rfl .nil) q) fun r s' hq => ?_)
  match r, hq with
  | .ok (.ret u), hq =>
    obtain ⟨v, H', I3, rv, ⟨z, ez⟩, q3⟩ := I.after hq
    subst ez
    obtain ⟨tk, e⟩ := rv
    subst e
    exact ⟨.str z, H', I3, ⟨tk, rfl⟩, q3⟩
  | .ok .next, hq => exact False.elim hq
  | .ok .brk, hq => exact False.elim hq
  | .ok .cont, hq => exact False.elim hq
  | .error e, hq => exact False.elim hq
theorem call_reprOwn (hs : PySem.W.findIn X.K (.ref C) "__repr__" = some (some (.ref f))) (hf : PySem.W.isFn X.K (.ref f) = true) (F : FnOk X.prog X.w X.K X.mg X.base CX0 k f fd ps sp) (hr : Room (k + 1) X.A) (hb : Binds X.K fd ps []) : CallR X (.builtin "repr") (rOwnTxt C sp) := by
  intro pins s σ H xs us Q I r h
  obtain ⟨a, dx, fs, rfl, ha, q⟩ := h
  obtain ⟨u, rfl, rx⟩ := vals1 r
  cases (show u = Value.ref a from rx)
  obtain ⟨mA, oa, _⟩ := ins_get I.hok ha
  obtain ⟨od, J, _⟩ := oa.look
  have un := hr.un
  have hl : ([Value.ref a] ++ []).length = ps.length := by
    rw [← F.len _ _ _ _ q]
    rfl
  obtain ⟨m, hF⟩ := I.fr
  refine PySem.W.repr_K (by show X.A.units + _ < cLine; omega) hF I.ok.mod.kin J hs hf ?_
  refine wpAny_call (codeAny_mono (F.run X.A.in1 X.stack s H ⟨[.ref a], []⟩ [.ref a] [.ref a] _ E0 hr.in1 I.env0.in1 (hb s [.ref a] I.kIn hl) (.cons rfl .nil) q) fun r s' hq => ?_)
  match r, hq with
  | .ok (.ret u), hq =>
    obtain ⟨v, H', I3, rv, ⟨z, ez⟩, q3⟩ := I.after hq
    subst ez
    obtain ⟨tk, e⟩ := rv
    subst e
    exact ⟨.str z, H', I3, ⟨tk, rfl⟩, q3⟩
  | .ok .next, hq => exact False.elim hq
  | .ok .brk, hq => exact False.elim hq
  | .ok .cont, hq => exact False.elim hq
  | .error e, hq => exact False.elim hq
/-! ### repr of data whose texts may be long -/
structure OkW (d : PyData) : Prop where
  sh : d.showable = true
  dp : d.depth ≤ 20
  sz : d.shown.length ≤ sizeLine
def rReprW : List V → Hp → VK → Prop := fun xs H Q => ∃ a d, xs = [.ref a] ∧ Dq H (.ref a) d ∧ OkW d ∧ Q (.str d.shown) H
theorem call_reprW (hu : X.A.units + 70 < cLine) (hg : X.A.guards = some []) (y : SysIn X.K) : CallR X (.builtin "repr") rReprW := by
  intro pins s σ H xs us Q I r h
  obtain ⟨a, d, rfl, hd, ok, q⟩ := h
  obtain ⟨u, rfl, ru⟩ := vals1 r
  cases (show u = Value.ref a from ru)
  obtain ⟨as, ra, ta⟩ := hd.reads I (u := .ref a) rfl
  obtain ⟨o, ho⟩ := y
  refine repr_of_reads' ra ok.sh (fun _ z => ?_) hg (by have := ok.dp; omega) (fun _ _ z => z) (fun h' t tk k => ⟨.str d.shown, H, I.kept k, ⟨t, rfl⟩, q⟩) ok.sz
  obtain ⟨o', e⟩ := ta _ z
  have n := (I.bs _ o (I.ok.mod.kin _ _ ho)).2
  rw [n] at e
  cases e
/-- every sign of it is a sign of Unicode -/
def Cps (x : Str) : Prop := ∀ c ∈ TL.tl x, c < 0x110000
theorem Cps.app {x y : Str} (h : Cps x) (h' : Cps y) : Cps (x ++ y) := fun c hc => by
  rw [TL.tl_append] at hc
  exact (List.mem_append.mp hc).elim (h c) (h' c)
theorem joinL_mem {y : List Nat} : ∀ (ps : List (List Nat)) {c : Nat}, c ∈ TL.joinL y ps → c ∈ y ∨ ∃ p ∈ ps, c ∈ p
  | [], c, h => by cases h
  | [p], c, h => .inr ⟨p, List.mem_cons_self, h⟩
  | p :: q :: r, c, h => by
    rcases List.mem_append.mp (show c ∈ p ++ (y ++ TL.joinL y (q :: r)) from by simpa [TL.joinL] using h) with z | z
    · exact .inr ⟨p, List.mem_cons_self, z⟩
    · rcases List.mem_append.mp z with z | z
      · exact .inl z
      · rcases joinL_mem (q :: r) z with z | ⟨p', hp, z⟩
        · exact .inl z
        · exact .inr ⟨p', List.mem_cons_of_mem _ hp, z⟩
theorem Cps.join {y : Str} {ps : List Str} (h : Cps y) (h' : ∀ p ∈ ps, Cps p) : Cps (Txt.join y ps) := fun c hc => by
  rw [TL.join_eq, TL.tl_join] at hc
  rcases joinL_mem _ hc with z | ⟨p, hp, z⟩
  · exact h c z
  · obtain ⟨q, hq, rfl⟩ := List.mem_map.mp hp
    exact h' q hq c z
theorem shown_str {x : Str} (h : Cps x) : (PyData.str x).showable = true ∧ (PyData.str x).shown.length ≤ 10 * x.length + 2 := ⟨rfl, PySem.StrLaws.reprText_len x fun c hc => Nat.lt_trans (h c hc) (by decide)⟩
end
end RtL

set_option maxHeartbeats 1000000
/-! {x!r} of data; repr(o) where __repr__ shows data -/
namespace RtL
open PySem PySem.Spec PyProof.Rows L2 ErL
section
variable {X : Cx} {k : Nat} {f C : Addr} {fd : FuncData} {ps : List Str} {sp : SpG}
/-- {x!r}, x a list or a tuple -/
def tFmtRW (te : TE) : TE := fun σ H Q => te σ H fun x H1 => ∃ a d, x = .ref a ∧ Dq H1 (.ref a) d ∧ OkW d ∧ Q (.str d.shown) H1
theorem pe_fmtRW {e : Expr} {te : TE} {pos : Pos} (hu : X.A.units + 70 < cLine) (hg : X.A.guards = some []) (y : SysIn X.K) (he : PE X e te) : PE X (.FormattedValue e 114 none pos) (tFmtRW te) := by
  refine ⟨fun pins s σ H Q I h => wpAny_FormattedValue_repr (thn (he.run pins s σ H _ I h) fun v s1 ⟨x, H1, I1, r1, a, d, ex, hd, ok, q⟩ => ?_)⟩
  subst ex
  cases (show v = Value.ref a from r1)
  obtain ⟨as, ra, ta⟩ := hd.reads I1 (u := .ref a) rfl
  obtain ⟨o, ho⟩ := y
  refine pyReprObj_of_reads ra ok.sh (fun _ z => ?_) hg (by have := ok.dp; omega) (fun _ _ z => z) (fun h' t tk kp => ?_) ok.sz
  · obtain ⟨o', e⟩ := ta _ z
    have n := (I1.bs _ o (I1.ok.mod.kin _ _ ho)).2
    rw [n] at e
    cases e
  · have J : Inv X pins σ H1 { s1 with heap := h', toks := tk } := I1.kept kp
    exact wpAny_formatField_str ⟨.str d.shown, H1, J, ⟨t, rfl⟩, q⟩ ⟨.str d.shown, H1, J.tok _, ⟨_, rfl⟩, q⟩ ok.sz
/-- repr(x), x of the class, whose __repr__ shows data -/
def rOwnTxtG (C : Addr) (sp : SpG) : List V → Hp → VK → Prop := fun xs H Q => ∃ a dx fs, xs = [.ref a] ∧ H a = some (.ins C dx fs) ∧ sp [.ref a] H (fun v H' => (∃ z, v = .str z) ∧ Q v H')
theorem call_reprOwnG (hs : PySem.W.findIn X.K (.ref C) "__repr__" = some (some (.ref f))) (hf : PySem.W.isFn X.K (.ref f) = true) (F : FnG X.prog X.w X.K X.mg X.base k f fd ps sp) (hr : Room (k + 1) X.A) (hg : X.A.guards = some []) (hb : Binds X.K fd ps []) : CallR X (.builtin "repr") (rOwnTxtG C sp) := by
  intro pins s σ H xs us Q I r h
  obtain ⟨a, dx, fs, rfl, ha, q⟩ := h
  obtain ⟨u, rfl, rx⟩ := vals1 r
  cases (show u = Value.ref a from rx)
  obtain ⟨_, oa, _⟩ := ins_get I.hok ha
  obtain ⟨od, J, _⟩ := oa.look
  have ln : ([Value.ref a] ++ []).length = ps.length := (F.len _ _ _ q) ▸ rfl
  obtain ⟨m, hF⟩ := I.fr
  have un := hr.un
  refine PySem.W.repr_K (by show X.A.units + _ < cLine; omega) hF I.ok.mod.kin J hs hf (wpAny_call (codeAny_mono (F.run X.A.in1 X.stack s H ⟨[.ref a], []⟩ [.ref a] [.ref a] _ hr.in1 (by exact hg) I.env0.in1 (hb s _ I.kIn ln) (.cons rfl .nil) q) fun r s' hq => ?_))
  rcases r with e | fl
  · exact hq.elim
  · cases fl with
    | ret u =>
      obtain ⟨v, H', I3, rv, ⟨z, ez⟩, q3⟩ := I.after hq
      subst ez
      obtain ⟨tk, e⟩ := rv
      subst e
      exact ⟨.str z, H', I3, ⟨tk, rfl⟩, q3⟩
    | next => exact hq.elim
    | brk => exact hq.elim
    | cont => exact hq.elim
end
end RtL

set_option maxHeartbeats 600000
namespace K11
open PySem PySem.Spec PyProof.Rows L2 RtL ErL StX NSet
open Grp (El mul)
/-- texts as data -/
abbrev dSt (zs : List Str) : PyData := .tuple (zs.map PyData.str)
theorem dq_strs {H : Hp} : ∀ l : List Str, DqAll H (l.map V.str) (l.map PyData.str)
  | [] => .nil
  | z :: l => .cons (.str z) (dq_strs l)
theorem showable_strs : ∀ l : List Str, PyData.showableAll (l.map PyData.str) = true
  | [] => rfl
  | z :: l => by
    show (true && PyData.showableAll (l.map PyData.str)) = true
    rw [showable_strs l]
    rfl
theorem NmOk.cps {z : Str} (h : NmOk z) : Cps z := fun c hc => by
  have a : (z.cps.all fun c => decide (c < 128)) = true := h.asc
  rw [← Array.all_toList] at a
  have := of_decide_eq_true (List.all_eq_true.mp a c hc)
  omega
theorem NmOk.rep {z : Str} (h : NmOk z) : (reprText z).length ≤ 82 := by
  have := (shown_str h.cps).2
  have l := h.l8
  have e : (PyData.str z).shown = reprText z := rfl
  rw [e] at this
  omega
theorem piled_strs : ∀ l : List Str, (∀ z ∈ l, NmOk z) → piled (PyData.shownAll (l.map PyData.str)) ≤ 84 * l.length
  | [], _ => Nat.le_refl _
  | z :: l, h => by
    have ih := piled_strs l fun y hy => h y (List.mem_cons_of_mem _ hy)
    have hz := (h z List.mem_cons_self).rep
    show piled (reprText z :: PyData.shownAll (l.map PyData.str)) ≤ _
    rw [piled_cons, List.length_cons]
    omega
theorem shown_strs {l : List Str} (h : ∀ z ∈ l, NmOk z) (l4 : l.length ≤ 4) : (dSt l).shown.length ≤ 400 := by
  have a := piled_strs l h
  have b := fmt_text (PyData.shownAll (l.map PyData.str))
  have e : (dSt l).shown = tupleText (PyData.shownAll (l.map PyData.str)) := by simp only [PyData.shown]
  rw [e]
  omega
theorem okW_strs {l : List Str} (h : ∀ z ∈ l, NmOk z) (l4 : l.length ≤ 4) : OkW (dSt l) := by
  refine ⟨showable_strs l, ?_, ?_⟩
  · show PyData.depthAll (l.map PyData.str) + 1 ≤ 20
    rw [dep_strs]
    decide
  · have := shown_strs h l4
    rw [sizeLine_eq]
    omega
/-- what a table shows -/
def tabTxt (nm : Str) (zs : List Str) : Str := "Table(" ++ reprText nm ++ ", " ++ (dSt zs).shown ++ ")"
section
variable {P : Program} {w : World} {K : Fr} {mg : Str → Option Value} {base : Heap} {f : Addr} {fd : FuncData}
theorem scMr : FnScope ["self"] ["self"] (defScope (inT 11)) := ⟨rfl, rfl, rfl, by decide +kernel, rfl, by decide +kernel, by decide +kernel⟩
def spRp (K : Fr) : SpG := fun vs H Q => ∃ (a : Addr) (nm : Str) (zs : List Str) (es : List (Addr × El)), vs = [.ref a] ∧ TabAt K H a nm zs es ∧ NmOk nm ∧ (∀ z ∈ zs, NmOk z) ∧ zs.length ≤ 4 ∧ Q (.str (tabTxt nm zs)) H
theorem ok_rp {q : Str} (F : FunD K "__repr__" q (defArgs (inT 11)) (defBody (inT 11)) (defScope (inT 11)) [] [] f fd) (T : TT K mg) : FnG P w K mg base 1 f fd ["self"] (spRp K) := by
  refine fnG_D F scMr (fun vs H Q h => ?_) (fun cdv A outer s H vs Q hr hg h => ?_)
  · obtain ⟨a, nm, zs, es, rfl, _⟩ := h
    rfl
  · obtain ⟨a, nm, zs, es, rfl, ⟨dx, sl, g, ea, esl, eg, hes⟩, hn, hz, l4, qq⟩ := h
    have hu : (A.deeper (envOfC q (defScope (inT 11)) s.heap.objs.size f cdv)).units + 70 < cLine := by have := hr.un; omega
    refine ⟨_, PSs.nox (pss_one (ps_ret (pe_joined (.cons pe_str (.cons (pe_fmtR (pe_fld (pv 0) rfl)) (.cons pe_str (.cons (pe_fmtRW hu hg T.sys (pe_fld (pv 0) rfl)) (.cons pe_str .nil)))))))), ?_⟩
    have lz : 10000 ≤ sizeLine := by rw [sizeLine_eq]; decide
    have rn := hn.rep
    have rs := shown_strs hz l4
    have e1 : ("Table(" : Str).length = 6 := rfl
    have e2 : (", " : Str).length = 2 := rfl
    have e3 : (")" : Str).length = 1 := rfl
    have e0 : Str.empty.length = 0 := rfl
    have L : ∀ a b : Str, (a ++ b).length = a.length + b.length := strLen_append
    refine ⟨_, rfl, by rw [L, e0, e1]; omega, _, rfl, a, _, dx, _, _, rfl, ea, T.cl, T.no "name" (by decide), rfl, .inl ⟨nm, rfl, by omega, _, rfl, by rw [L, L, e0, e1]; omega, _, rfl, by rw [L, L, L, e0, e1, e2]; omega, _, rfl, a, _, dx, _, _, rfl, ea, T.cl, T.no "_slots" (by decide), rfl, sl, dSt zs, rfl, .tup esl (dq_strs zs), okW_strs hz l4, _, rfl, by rw [L, L, L, L, e0, e1, e2]; omega, _, rfl, by rw [L, L, L, L, L, e0, e1, e2, e3]; omega, ?_⟩⟩
    have em : Str.empty ++ Str.ofString "Table(" = Str.ofString "Table(" := rfl
    rw [em]
    exact qq
end
end K11

set_option maxHeartbeats 4000000
/-! set comprehensions over any kind of set; sorted(set) of data -/
namespace NSet
open PySem PySem.Spec PyProof.Rows L2 RtL
open PySem.W (EachIs AllAlike Sortable dataLe SortsAt sortVals sortingHeap list_sort_vals sortVals_data each_map)
section
variable {X : Cx}
/-- {elt for target in iter if ..}: D the new set, e0 what an empty one is, ad what add asks -/
def tScG (e0 : Addr → HO) (ad : V → List V → Hp → VK → Prop) (wi : TI) (g : TG) (tt : TT) (te : TE) (ws : List Nat) : TE := fun σ H Q => wi σ H fun J H1 => ∀ D, H1 D = none →
  ∃ W : Nat → Nat → Hp → Prop, (∃ m, W 0 m (upd H1 D (e0 D))) ∧ ∀ i m G, W i m G → (J.stop i G ∧ Q (.ref D) G) ∨ (J.go i G ∧ ∃ Nx : Hp → Prop, (∀ G', Nx G' → ∃ m', m' < m ∧ W (i + 1) m' G') ∧
    ∀ x G', J.yld i G x G' → g x (wipe σ ws) G' fun σ2 G2 => wipe σ2 ws = wipe σ ws ∧ tt σ2 G2 fun b G3 => if b = true then te σ2 G3 fun y G4 => ad (.ref D) [y] G4 (fun _ G5 => Nx G5) else Nx G3)
/-- a context of a comprehension's block -/
abbrev Blks (X : Cx) (scope : Scope) (p : Cx → Prop) : Prop := ∀ (s : Shared) (H : Hp) (C : Addr) (cl : List (PySem.Str × Addr)) (fp : List Addr), p (X.blk s H scope (compEnvC scope cl C X.env) fp)
variable {e0 : Addr → HO} {ad : V → List V → Hp → VK → Prop} {elt tg src : Expr} {ifs : List Expr} {scope : Scope} {own : List (PySem.Str × Nat)} {wi : TI} {g : TG} {tt : TT} {te : TE}
theorem scG_core {pins : List (Addr × Obj)} {s : Shared} {σ : L2.St} {H : Hp} {Q : VK} {pos pos' : Pos} {use : Option (Value → Sem Unit)} {Qf : Value → Shared → Prop}
    (new0 : ∀ {H : Hp} {h : Heap} {a : Addr}, h.get? a = some (noneIn X.w) → ObjOk X.prog X.w H h a (e0 a)) (hadd : Blks X scope fun Y => MtR Y "set.add" ad) (hc : X.calm = true) (hN : X.N.Nodup) (I : Inv X pins σ H s) (hi : PI X tg src wi) (ok : BlkOk X.N X.env.scope scope own)
    (hg : Blks X scope fun Y => PG Y tg g) (ht : Blks X scope fun Y => PTs Y ifs tt) (he : Blks X scope fun Y => PE Y elt te) (hs : ∀ x, foldedSetIterable src X.env x = pure x) (h : tScG e0 ad wi g tt te (own.map (·.2)) σ H Q)
    (fin0 : ∀ D C s' m H', Inv X pins σ H' s' → Q (.ref D) H' → s'.heap.Ns C m → FpOk X pins H' C → compPost (model X.prog X.w) X.A X.xe use Qf (.ref D) C (.ok .next) s') :
    wpAny (model X.prog X.w) X.A (comprehension (.SetComp elt [⟨tg, src, ifs, 0⟩] scope pos) scope X.env pos' (newSet (.type "set")) false (eval src X.env) use) Qf X.xe s := by
  refine wpAny_comprehension_free (use := use) rfl hs (closure_ok fun y hy e => (ok.free y hy e).elim (fun k => I.ok.has _ (.inl k)) fun k => I.ok.has _ (.inr k)) ok.kind (fun y hy e => (ok.uniq y hy).trans (congrArg some e))
    (thn (hi.run pins s σ H _ I h) fun xv s1 hx => thn hx fun itv s2 h2 => ?_)
  obtain ⟨it, fp, tn, J, H2, e, I2, T, st2, f2, q⟩ := h2
  subst e
  refine PpSet.newSet_ok (newEnv_comp ?_)
  generalize hD : s2.heap.objs.size = D
  obtain ⟨W, ⟨m0, w0⟩, turn⟩ := q D (I2.hok.fresh (Nat.le_of_eq hD))
  generalize hs3 : ({ s2 with heap := s2.heap.push (noneIn X.w) } : Shared) = s3
  have h3 : s3.heap = s2.heap.push (noneIn X.w) := hs3 ▸ rfl
  generalize hH3 : upd H2 D (e0 D) = H3 at w0
  have I3 : Inv X pins σ H3 s3 := by
    subst hs3 hH3 hD
    exact I2.laid (t' := s2.toks) (fun b o e => Heap.get?_push_of_some _ e) (Nat.le_refl _) (new0 (Heap.get?_push_size _ rfl))
  have f3 : ∀ b ∈ fp, FpOk X pins H3 b ∧ b < s3.heap.objs.size := fun b hb => by
    obtain ⟨o, eo, _⟩ := T.obj _ _ st2 b hb
    have lt := Heap.lt_size eo
    refine ⟨⟨?_, (f2 b hb).2⟩, by rw [h3, Heap.size_push]; exact Nat.lt_succ_of_lt lt⟩
    rw [← hH3, upd_ne (by rw [← hD]; exact Nat.ne_of_lt lt)]
    exact (f2 b hb).1
  have st3 : tn 0 s3.heap := T.keep _ _ _ st2 fun b _ o e => by rw [h3]; exact Heap.get?_push_of_some _ e
  have I4 := block_start I3 ok hN f3
  show codeAny _ _ (.compStart (.SetComp elt [⟨tg, src, ifs, 0⟩] scope pos) 0 (.ref it) (.ref D) (compEnvC scope (cellsFrom (s3.heap.objs.size + 1) scope.names (cloFrom X.env.cells scope.names [])) s3.heap.objs.size X.env)) (compPost (model X.prog X.w) X.A X.xe use Qf (.ref D) s3.heap.objs.size) { s3 with heap := pushCells (s3.heap.push { cls := .type "dict", data := .dict #[] }) scope.names }
  generalize hcl : cellsFrom (s3.heap.objs.size + 1) scope.names (cloFrom X.env.cells scope.names []) = cl at I4 ⊢
  have pg := hg s3 H3 s3.heap.objs.size cl fp
  have pt := ht s3 H3 s3.heap.objs.size cl fp
  have pe := he s3 H3 s3.heap.objs.size cl fp
  have pa := hadd s3 H3 s3.heap.objs.size cl fp
  have free : ∀ b ∈ fp, H3 b = none := fun b hb => (f3 b hb).1.1
  generalize hce : compEnvC scope cl s3.heap.objs.size X.env = ce at I4 pg pt pe pa ⊢
  have cL : ce.locals = s3.heap.objs.size := hce ▸ rfl
  generalize hs4 : ({ s3 with heap := pushCells (s3.heap.push { cls := .type "dict", data := .dict #[] }) scope.names } : Shared) = s4 at I4 ⊢
  have st4 : tn 0 s4.heap := T.keep _ _ _ st3 fun b _ o e => by subst hs4; exact pushCells_keeps _ _ _ _ (Heap.get?_push_of_some _ e)
  generalize hB : X.blk s3 H3 scope ce fp = B at I4 pg pt pe pa
  have fpB : ∀ {σ' : L2.St} {H' : Hp} {s' : Shared}, Inv B [] σ' H' s' → (∀ b ∈ fp, H' b = none) → ∀ b ∈ fp, FpOk B [] H' b := fun {σ' H' s'} I' hn b hb => by
    subst hB
    exact ⟨hn b hb, (I'.ok.exf b hb).1, I'.ok.exfs b hb, .inl hb, fun x c e => (I'.ok.exf b hb).2 x c e, fun p hp => absurd (show p ∈ ([] : List (Addr × Obj)) ++ [] from hp) (by simp)⟩
  have loop : codeAny (model X.prog X.w) X.A (.compLoop (.SetComp elt [⟨tg, src, ifs, 0⟩] scope pos) 0 (.ref it) (.ref D) ce) (compPost (model X.prog X.w) X.A X.xe use Qf (.ref D) s3.heap.objs.size) s4 := by
    refine PpSet.compLoopS_any (fun n s' => ∃ i H', Inv B [] (wipe σ (own.map (·.2))) H' s' ∧ tn i s'.heap ∧ (∀ b ∈ fp, H' b = none) ∧ W i n H') ?_ m0 ⟨0, H3, I4, st4, free, w0⟩
    rintro n s5 ⟨i, H5, I5, st5, n5, w5⟩
    rcases turn i n H5 w5 with ⟨stop, qq⟩ | ⟨go, Nx, hNx, step⟩
    · subst hB
      refine thnF (T.done (X.blk s3 H3 scope ce fp) rfl rfl rfl hc i [] s5 _ H5 (fun _ _ => False) I5 (fpB I5 n5) st5 stop) fun r s6 ⟨hr, I6⟩ => ?_
      subst hr
      obtain ⟨m, hn, _⟩ := I6.loc
      have hn : s6.heap.Ns ce.locals m := hn
      have nC : H5 ce.locals = none := I6.free
      rw [cL] at hn nC
      exact fin0 D s3.heap.objs.size s6 m H5 (I3.call' (ch := fp) I6.os I6.base I6.hok I6.bare fun b hb => ⟨(f3 b hb).1.2.2.2.1, (f3 b hb).1.2.1, (f3 b hb).1.2.2.2.2.1, (f3 b hb).1.2.2.2.2.2⟩) qq hn (I3.fpOk (Nat.le_refl _) nC)
    · subst hB
      refine thnF (T.item (X.blk s3 H3 scope ce fp) rfl rfl rfl hc i [] s5 _ H5 (fun _ _ => False) I5 (fpB I5 n5) st5 go) fun r s6 ⟨u, hr, h6⟩ => ?_
      subst hr
      refine thnF h6 fun _ s7 ⟨x, H7, I7, r7, y7, st7, n7⟩ => ?_
      refine thnF (pg.run _ s7 _ H7 x u _ (I7.pinned (fpB I7 n7) (T.obj _ _ st7)) r7 (step x H7 y7)) fun _ s8 ⟨σ8, H8, I8, hw8, q8⟩ => thnF (pt.run _ s8 σ8 H8 _ I8 q8) fun b s9 ⟨H9, I9, q9⟩ => ?_
      have next : ∀ {s' : Shared} {H' : Hp}, Inv (X.blk s3 H3 scope ce fp) ([] ++ pinsAt fp s7.heap) σ8 H' s' → Nx H' → ∃ m, m < n ∧ ∃ i H', Inv (X.blk s3 H3 scope ce fp) [] (wipe σ (own.map (·.2))) H' s' ∧ tn i s'.heap ∧ (∀ b ∈ fp, H' b = none) ∧ W i m H' := fun {s' H'} I' nx => by
        obtain ⟨m', hm, w'⟩ := hNx H' nx
        have stay : ∀ b ∈ fp, ∀ o, s7.heap.get? b = some o → s'.heap.get? b = some o ∧ H' b = none := fun b hb o e => by
          have z := I'.pin (b, o) (List.mem_append_right _ (List.mem_append_right _ (mem_pinsAt hb e)))
          exact ⟨z.1, z.2.1⟩
        refine ⟨m', hm, i + 1, H', (I'.unpinned (pins := [])).weak (by rw [← hw8, wipe_length]) (fun j v e => (wipe_some (by rw [hw8]; exact e)).1), T.keep _ _ _ st7 fun b hb o e => (stay b hb o e).1, fun b hb => ?_, w'⟩
        obtain ⟨o, e, _⟩ := T.obj _ _ st7 b hb
        exact (stay b hb o e).2
      cases b with
      | false =>
        simp only [Bool.false_eq_true, if_false] at q9 ⊢
        exact next I9 q9
      | true =>
        simp only [if_true] at q9 ⊢
        refine thnF (pe.run _ s9 σ8 H9 _ I9 q9) fun z s10 ⟨yv, H10, I10, r10, qa⟩ => ?_
        exact thnF (pa _ s10 σ8 H10 (.ref D) [yv] (.ref D) [z] _ I10 rfl (.cons r10 .nil) qa) fun _ s11 ⟨_, H11, I11, _, nx⟩ => next I11 nx
  exact PpSet.codeAny_compStart_set loop (T.self X.A 0 _ _ _ st4 loop)
/-- as a value -/
theorem pe_scG {pos : Pos} (new0 : ∀ {H : Hp} {h : Heap} {a : Addr}, h.get? a = some (noneIn X.w) → ObjOk X.prog X.w H h a (e0 a)) (hadd : Blks X scope fun Y => MtR Y "set.add" ad) (hc : X.calm = true) (hN : X.N.Nodup) (hi : PI X tg src wi) (ok : BlkOk X.N X.env.scope scope own)
    (hg : Blks X scope fun Y => PG Y tg g) (ht : Blks X scope fun Y => PTs Y ifs tt) (he : Blks X scope fun Y => PE Y elt te) (hs : ∀ x, foldedSetIterable src X.env x = pure x := by intro _; rfl) : PE X (.SetComp elt [⟨tg, src, ifs, 0⟩] scope pos) (tScG e0 ad wi g tt te (own.map (·.2))) := by
  refine ⟨fun pins s σ H Q I h => ?_⟩
  rw [PpSet.eval_SetComp]
  refine scG_core new0 hadd hc hN I hi ok hg ht he hs h fun D C s' m H' I' q hn ⟨f0, f1, f2, f3, f4, f5⟩ => ⟨m, hn, fun h'' sb => ?_⟩
  exact ⟨.ref D, H', I'.turned (t' := s'.toks) (fun b o hb e => (sb.2 b hb).trans e) f0 f1 f3 f4 f5, rfl, q⟩
end
/-- the reading, over what has a walk -/
theorem sc_it {J : It} {n : Nat} {G0 : Hp → Prop} {Y : Nat → Hp → V → Hp → Prop} (w : Walk J n G0 Y) {e0 : Addr → HO} {ad : V → List V → Hp → VK → Prop} {g : TG} {tt : TT} {te : TE} {ws : List Nat} {σ : L2.St} {H1 : Hp} {D : Addr} {Qd : Hp → Prop} (Pv : Nat → Hp → Prop) (h0 : Pv 0 (upd H1 D (e0 D))) (hG : ∀ i H, i ≤ n → Pv i H → G0 H)
    (hs : ∀ i x H H', i < n → Pv i H → Y i H x H' → g x (wipe σ ws) H' fun σ2 H2 => wipe σ2 ws = wipe σ ws ∧ tt σ2 H2 fun b H3 => if b = true then te σ2 H3 fun y H4 => ad (.ref D) [y] H4 (fun _ H5 => Pv (i + 1) H5) else Pv (i + 1) H3) (hd : ∀ H, Pv n H → Qd H) :
    ∃ W : Nat → Nat → Hp → Prop, (∃ m, W 0 m (upd H1 D (e0 D))) ∧ ∀ i m G, W i m G → (J.stop i G ∧ Qd G) ∨ (J.go i G ∧ ∃ Nx : Hp → Prop, (∀ G', Nx G' → ∃ m', m' < m ∧ W (i + 1) m' G') ∧
      ∀ x G', J.yld i G x G' → g x (wipe σ ws) G' fun σ2 G2 => wipe σ2 ws = wipe σ ws ∧ tt σ2 G2 fun b G3 => if b = true then te σ2 G3 fun y G4 => ad (.ref D) [y] G4 (fun _ G5 => Nx G5) else Nx G3) := by
  refine ⟨fun i m H => m + i = n ∧ Pv i H, ⟨n, rfl, h0⟩, fun i m H ⟨hm, p⟩ => ?_⟩
  have q := hG i H (by omega) p
  rcases Nat.lt_or_ge i n with lt | ge
  · exact .inr ⟨w.goes i H lt q, Pv (i + 1), fun H' p' => ⟨n - (i + 1), by omega, by omega, p'⟩, fun x H' y => hs i x H H' lt p (w.yields i H x H' lt q y)⟩
  · obtain rfl : i = n := by omega
    exact .inl ⟨w.stops H q, hd H p⟩
/-! ### sorted(set) -/
theorem each_perm {α β : Type} {R : α → β → Prop} {us vs : List α} (p : vs.Perm us) : ∀ {bs : List β}, EachIs R us bs → ∃ cs : List β, cs.Perm bs ∧ EachIs R vs cs := by
  induction p with
  | nil => intro bs h; cases h; exact ⟨[], .nil, .nil⟩
  | cons x _ ih =>
    intro bs h
    cases h with
    | cons r rs =>
      obtain ⟨cs, p, e⟩ := ih rs
      exact ⟨_ :: cs, p.cons _, .cons r e⟩
  | swap x y l =>
    intro bs h
    cases h with
    | cons r rs =>
      cases rs with
      | cons r' rs => exact ⟨_ :: _ :: _, List.Perm.swap _ _ _, .cons r' (.cons r rs)⟩
  | trans _ _ ih1 ih2 =>
    intro bs h
    obtain ⟨cs, p, e⟩ := ih2 h
    obtain ⟨ds, p', e'⟩ := ih1 e
    exact ⟨ds, p'.trans p, e'⟩
theorem each_left {α β : Type} {R S : α → β → Prop} {us : List α} {bs : List β} (h : EachIs (fun a b => R a b ∧ S a b) us bs) : EachIs R us bs ∧ EachIs S us bs := by
  induction h with
  | nil => exact ⟨.nil, .nil⟩
  | cons r _ ih => exact ⟨.cons r.1 ih.1, .cons r.2 ih.2⟩
section
variable {prog : Program} {w : World} {A : Around} {E : Value → Shared → Prop} {s : Shared} {β : Type}
theorem sorted_setD {a : Addr} {es : Array (Int × Value)} {ep : Nat} {t : SetTable} {enc : β → PyData} {R : Value → β → Prop} {bs : List β} {Q : Value → Shared → Prop} (at_ : SetAt s.heap a es ep t) (hf : t.fits es.size = true) (hb : es.size < scanBound) (ris : Ris t.place.toList)
    (led : w.params.followText "set-order" = true ∨ t.led = true) (hh : A.handled = none) (e : EachIs (fun v b => R v b ∧ ∃ as, Reads s.heap v (enc b) as) (es.toList.map (·.2)) bs) (al : ∀ cs : List β, cs.Perm bs → AllAlike (cs.map enc) ∧ Sortable (cs.map enc)) (hu : ∀ b ∈ bs, A.units + 2 + (enc b).depth < cLine) (hL : bs.length ≤ sizeLine)
    (h : ∀ s' p out c (cs : List β), (∀ b o, s.heap.get? b = some o → s'.heap.get? b = some o) → s'.gens = s.gens → s'.os = s.os → s.heap.objs.size ≤ p → s'.heap.get? p = some (seqObj "list" (List.toArray out) c) → cs.Perm bs → EachIs R out (cs.mergeSort (dataLe false enc)) → Q (.ref p) s') :
    wpAny (model prog w) A (call (.builtin "sorted") [.ref a]) Q E s := by
  refine Calls.call_function_entry kind_sorted plain_sorted entry_sorted (args_sorted1 _) ?_
  unfold Builtin.«sorted»
  refine wpAny_bind (m := checkCount "sorted" 1 1 _) (wpAny_pure (wpAny_bind (collect_set (A := A.in1) hh at_ hf hb ris led fun s1 vs k1 hz g1 o1 pm => ?_)))
  obtain ⟨cs, pc, ec⟩ := each_perm pm e
  obtain ⟨eR, eD⟩ := each_left ec
  have lv : vs.length = bs.length := by rw [← pc.length_eq]; exact eR.length
  refine wpAny_bind (wpAny_newList ?_ (by omega))
  have hoL : (s1.heap.push (seqObj "list" vs.toArray 0)).get? s1.heap.objs.size = some (seqObj "list" vs.toArray 0) := Heap.get?_push_size _ rfl
  have old : ∀ b o, s.heap.get? b = some o → b ≠ s1.heap.objs.size ∧ (s1.heap.push (seqObj "list" vs.toArray 0)).get? b = some o := fun b o e => ⟨Nat.ne_of_lt (Heap.lt_size (k1 b o e)), Heap.get?_push_of_some _ (k1 b o e)⟩
  have eD' : EachIs (fun v b => ∃ as, Reads (sortingHeap (s1.heap.push (seqObj "list" vs.toArray 0)) s1.heap.objs.size vs) v (enc b) as) vs cs := eD.mono fun _ _ ⟨as, r⟩ => ⟨as, PyProof.Rows.Reads.keeps (fun b o z => PySem.W.sortingHeap_old (old b o z).1 (old b o z).2) r⟩
  obtain ⟨al1, al2⟩ := al cs pc
  refine wpAny_bind (wpAny_holding (wpAny_call_entry slot_list_sort ⟨_, hoL, rfl⟩ entry_list_sort (list_sort_vals (s := { s1 with heap := s1.heap.push (seqObj "list" vs.toArray 0) }) (κ := PySem.W.dataKind (sortingHeap (s1.heap.push (seqObj "list" vs.toArray 0)) s1.heap.objs.size vs) (cs.map enc)) hoL
    (SortsAt.data (s := { s1 with heap := sortingHeap (s1.heap.push (seqObj "list" vs.toArray 0)) s1.heap.objs.size vs }) (each_map (R := fun v d => ∃ as, Reads (sortingHeap (s1.heap.push (seqObj "list" vs.toArray 0)) s1.heap.objs.size vs) v d as) enc eD') al1 al2 fun d hd' => ?_) (by omega) ⟨_, rfl, ?_⟩) (args_list_sort _)))
  · obtain ⟨b, hb', rfl⟩ := List.mem_map.mp hd'
    have := hu b (pc.mem_iff.mp hb')
    simp only [Around.in1_units]
    omega
  · have eo := sortVals_data (enc := enc) false eR eD' al1
    obtain ⟨c, hc⟩ := sortedHeap_at (vs := vs) (out := (sortVals (PySem.W.dataKind (sortingHeap (s1.heap.push (seqObj "list" vs.toArray 0)) s1.heap.objs.size vs) (cs.map enc)) false vs vs).toArray) hoL
    refine wpAny_pure ⟨_, rfl, h _ s1.heap.objs.size _ c cs (fun b o z => ?_) g1 o1 hz hc pc eo⟩
    show (sortedHeap _ _ _ _).get? b = some o
    rw [sortedHeap_old (old b o z).1 (by rw [size_push']; exact Nat.lt_succ_of_lt (Heap.lt_size (k1 b o z)))]
    exact (old b o z).2
end
section
variable {X : Cx}
/-- sorted(found), found a set of nested tuples -/
def rSortN (K : PySem.W.Frag) (w : World) : List V → Hp → VK → Prop := fun vs H Q => ∃ (a : Addr) (L : List (Addr × NestedKey)) (enc : Addr × NestedKey → PyData), vs = [.ref a] ∧ H a = some (SN w a L) ∧ KL H L ∧ (∀ q ∈ L, Dp K H (.ref q.1) (enc q) ∧ (enc q).depth ≤ 20) ∧
  (∀ cs : List (Addr × NestedKey), cs.Perm L → AllAlike (cs.map enc) ∧ Sortable (cs.map enc)) ∧ ∀ (p : Addr) (cs : List (Addr × NestedKey)), H p = none → cs.Perm L → (keys L).Nodup → Q (.ref p) (upd H p (.lst ((cs.mergeSort (dataLe false enc)).map fun q => V.ref q.1)))
theorem refs_each {cs : List (Addr × NestedKey)} {us : List Value} (h : EachIs (fun (v : Value) (q : Addr × NestedKey) => v = .ref q.1) us cs) : Vals (cs.map fun q => V.ref q.1) us := by
  induction h with
  | nil => exact .nil
  | cons r _ ih => exact .cons r ih
theorem cr_sortN (hc : X.calm = true) (hu : X.A.units + 64 < cLine) : CallR X (.builtin "sorted") (rSortN X.K X.w) := by
  intro pins s σ H vs us Q I r h
  obtain ⟨a, L, enc, rfl, ha, hL, hd, al, q⟩ := h
  rw [Vals.ref1 r]
  obtain ⟨es, ep, t, R⟩ := sn_get I ha hL
  obtain ⟨o, ho, hex, hdt⟩ := R.ob
  have few := R.few
  have hsz := R.size
  have ee : es.toList.map (·.2) = L.map fun q => Value.ref q.1 := by rw [R.row, List.map_map]; rfl
  have go : ∀ M : List (Addr × NestedKey), (∀ q ∈ M, q ∈ L) → EachIs (fun (v : Value) (q : Addr × NestedKey) => v = .ref q.1 ∧ ∃ as, Reads s.heap v (enc q) as) (M.map fun q => Value.ref q.1) M := by
    intro M
    induction M with
    | nil => exact fun _ => .nil
    | cons q M ih => exact fun h => .cons ⟨rfl, Dp.reads I _ _ _ (hd q (h q List.mem_cons_self)).1 rfl⟩ (ih fun z hz => h z (List.mem_cons_of_mem _ hz))
  have lz : 10000 ≤ sizeLine := by rw [sizeLine_eq]; decide
  refine sorted_setD (enc := enc) (R := fun v q => v = Value.ref q.1) (bs := L) ⟨o, ho, hex.1, hdt⟩ R.fits (by unfold scanBound; omega) R.tab.ris R.led (I.ok.hd hc) (by rw [ee]; exact go L fun _ h => h) al (fun b hb => by have := (hd b hb).2; omega) (by omega) fun s' p out c cs kp g1 o1 hz hp pc eo => ?_
  have hlen : ((cs.mergeSort (dataLe false enc)).map fun q => V.ref q.1).length ≤ sizeLine := by
    rw [List.length_map, (List.mergeSort_perm _ _).length_eq, pc.length_eq]; omega
  have hn : H p = none := I.hok.fresh hz
  have J : Inv X pins σ (upd H p (.lst ((cs.mergeSort (dataLe false enc)).map fun q => V.ref q.1))) { s with heap := s'.heap, gens := s'.gens, drawn := s'.drawn, toks := s'.toks } :=
    I.call (ch := []) (Un.laid kp hz hn) (I.hok.laid kp hz ⟨hlen, out, c, refs_each eo, hp⟩) (by rw [g1]; exact I.bare) (fun _ z => nomatch z)
  have e : s' = { s with heap := s'.heap, gens := s'.gens, drawn := s'.drawn, toks := s'.toks } := by
    cases s'
    cases s
    cases o1
    rfl
  rw [e]
  exact ⟨.ref p, _, J, rfl, q p cs hn pc R.nd⟩
end
end NSet

set_option maxHeartbeats 4000000
/-! sorted rows: what sorting leaves does not ask for the sequence -/
namespace NSet
open PySem PySem.Spec PyProof.Rows L2 RtL
open PySem.W (alike alikeAll keyToks keyToksAll dataLe AllAlike Sortable sortLe_total)
open PyProof.Rows (lex_total lex_irrefl)
theorem toks_inj {x y : PyData} (al : alike x y = true) (e : keyToks x = keyToks y) : PyData.eqv x y = true := by
  cases z : PyData.eqv x y with
  | true => rfl
  | false =>
    have h := (PySem.W.toks_eqv x y al).2 z [] [.inl 0]
    rw [e, PySem.W.lex_pre, lex_irrefl] at h
    cases h
theorem le_anti {β : Type} {enc : β → PyData} {a b : β} (al : alike (enc a) (enc b) = true) (h1 : dataLe false enc a b = true) (h2 : dataLe false enc b a = true) : PyData.eqv (enc a) (enc b) = true := by
  refine toks_inj al (lex_total (O := itemOrd) _ _ ?_ ?_)
  · have h2 : (!PyProof.Rows.lexLt itemOrd (keyToks (enc a)) (keyToks (enc b))) = true := h2
    simpa using h2
  · have h1 : (!PyProof.Rows.lexLt itemOrd (keyToks (enc b)) (keyToks (enc a))) = true := h1
    simpa using h1
theorem sort_perm {β : Type} {enc : β → PyData} (al : ∀ a b, alike (enc a) (enc b) = true) (inj : ∀ a b, PyData.eqv (enc a) (enc b) = true → a = b) {l l' : List β} (p : l.Perm l') : l.mergeSort (dataLe false enc) = l'.mergeSort (dataLe false enc) := by
  have T := sortLe_total (listOrd itemOrd) false fun b => keyToks (enc b)
  refine ((List.mergeSort_perm l _).trans (p.trans (List.mergeSort_perm l' _).symm)).eq_of_pairwise (le := fun a b => dataLe false enc a b = true) (fun a b _ _ h1 h2 => inj a b (le_anti (al a b) h1 h2)) ?_ ?_
  · exact List.pairwise_mergeSort (le := dataLe false enc) (fun a b c => T.trans a b c) (fun a b => Bool.or_eq_true_iff.mpr (T.total a b)) l
  · exact List.pairwise_mergeSort (le := dataLe false enc) (fun a b c => T.trans a b c) (fun a b => Bool.or_eq_true_iff.mpr (T.total a b)) l'
/-- each once -/
def ddp {α : Type} [DecidableEq α] : List α → List α
  | [] => []
  | x :: l => if x ∈ ddp l then ddp l else x :: ddp l
theorem mem_ddp {α : Type} [DecidableEq α] {x : α} : ∀ l : List α, x ∈ ddp l ↔ x ∈ l
  | [] => Iff.rfl
  | y :: l => by
    show (x ∈ if y ∈ ddp l then ddp l else y :: ddp l) ↔ _
    split
    · rename_i h
      rw [List.mem_cons, mem_ddp l]
      exact ⟨.inr, fun z => z.elim (fun e => by rw [e]; exact (mem_ddp l).mp h) id⟩
    · rw [List.mem_cons, List.mem_cons, mem_ddp l]
theorem nodup_ddp {α : Type} [DecidableEq α] : ∀ l : List α, (ddp l).Nodup
  | [] => List.nodup_nil
  | y :: l => by
    show (if y ∈ ddp l then ddp l else y :: ddp l).Nodup
    split
    · exact nodup_ddp l
    · rename_i h
      exact List.nodup_cons.mpr ⟨h, nodup_ddp l⟩
theorem perm_ddp {α : Type} [DecidableEq α] {l l' : List α} (n : l'.Nodup) (m : ∀ x, x ∈ l' ↔ x ∈ l) : l'.Perm (ddp l) := (List.perm_ext_iff_of_nodup n (nodup_ddp l)).mpr fun x => by rw [m, mem_ddp]
/-! ### rows of whole numbers -/
def dRow (ns : List Int) : PyData := .tuple (ns.map PyData.int)
def rowKey (ns : List Int) : NestedKey := .tup (ns.map NestedKey.num)
theorem dRow_alike (a b : List Int) : alike (dRow a) (dRow b) = true := by
  show alikeAll (a.map PyData.int) (b.map PyData.int) = true
  exact PySem.W.alike_ints a b
theorem dep_row : ∀ l : List Int, PyData.depthAll (l.map PyData.int) = 0
  | [] => rfl
  | x :: l => by
    show max 0 (PyData.depthAll _) = 0
    rw [dep_row l]
    rfl
theorem dRow_depth (a : List Int) : (dRow a).depth ≤ 20 := by
  show PyData.depthAll (a.map PyData.int) + 1 ≤ 20
  rw [dep_row]
  decide
theorem eqv_row : ∀ a b : List Int, PyData.eqvAll (a.map PyData.int) (b.map PyData.int) = decide (a = b)
  | [], [] => rfl
  | [], _ :: _ => by simp [PyData.eqvAll]
  | _ :: _, [] => by simp [PyData.eqvAll]
  | x :: a, y :: b => by
    rw [List.map_cons, List.map_cons, PyData.eqvAll, eqv_row a b, PyData.eqv, Bool.eq_iff_iff]
    simp
theorem dRow_inj (a b : List Int) (h : PyData.eqv (dRow a) (dRow b) = true) : a = b := by
  unfold dRow at h
  rw [PyData.eqv, eqv_row] at h
  exact of_decide_eq_true h
theorem nums_inj' : ∀ a b : List Int, a.map NestedKey.num = b.map NestedKey.num → a = b
  | [], [], _ => rfl
  | [], _ :: _, h => by cases h
  | _ :: _, [], h => by cases h
  | x :: a, y :: b, h => by
    injection h with h1 h2
    injection h1 with h1
    rw [nums_inj' a b h2, h1]
theorem rowKey_inj {a b : List Int} (h : rowKey a = rowKey b) : a = b := by
  unfold rowKey at h
  injection h with h
  exact nums_inj' a b h
theorem numsD : ∀ l : List Int, NestedKey.depthAll (l.map NestedKey.num) = 0
  | [] => rfl
  | x :: l => by
    show max 0 (NestedKey.depthAll _) = 0
    rw [numsD l]
    rfl
theorem rowKey_depth (a : List Int) : (rowKey a).depth ≤ 8 := by
  show NestedKey.depthAll (a.map NestedKey.num) + 1 ≤ 8
  rw [numsD]
  decide
theorem row_keys {H : Hp} : ∀ l : List Int, KeyVs H (l.map NestedKey.num) (l.map V.int)
  | [] => .nil
  | i :: l => .cons (.int i) (row_keys l)
theorem row_key {H : Hp} {a : Addr} {l : List Int} (h : H a = some (.tup (l.map V.int))) : KeyV H (rowKey l) (.ref a) := .tup h (row_keys l)
theorem row_dps {K : PySem.W.Frag} {H : Hp} : ∀ l : List Int, DpAll K H (l.map V.int) (l.map PyData.int)
  | [] => .nil
  | i :: l => .cons (.int i) (row_dps l)
theorem row_dp {K : PySem.W.Frag} {H : Hp} {a : Addr} {l : List Int} (h : H a = some (.tup (l.map V.int))) : Dp K H (.ref a) (dRow l) := .tup (SqT.of h) (row_dps l)
/-- sorted(set(rows)) -/
def rowSet (l : List (List Int)) : List (List Int) := (ddp l).mergeSort (dataLe false dRow)
theorem rowSet_of {l l' : List (List Int)} (n : l'.Nodup) (m : ∀ x, x ∈ l' ↔ x ∈ l) : l'.mergeSort (dataLe false dRow) = rowSet l := sort_perm dRow_alike dRow_inj (perm_ddp n m)
/-- the rows of a set of rows -/
theorem rows_of {H : Hp} {L : List (Addr × NestedKey)} : (∀ q ∈ L, ∃ r : List Int, q.2 = rowKey r ∧ H q.1 = some (.tup (r.map V.int))) → ∃ R : List (Addr × List Int), L = R.map (fun q => (q.1, rowKey q.2)) ∧ ∀ q ∈ R, H q.1 = some (.tup (q.2.map V.int)) := by
  induction L with
  | nil => exact fun _ => ⟨[], rfl, fun q h => nomatch h⟩
  | cons q L ih =>
    intro h
    obtain ⟨r, e1, e2⟩ := h q List.mem_cons_self
    obtain ⟨R, f1, f2⟩ := ih fun z hz => h z (List.mem_cons_of_mem _ hz)
    refine ⟨(q.1, r) :: R, by rw [List.map_cons, ← f1, ← e1], fun z hz => ?_⟩
    rcases List.mem_cons.mp hz with rfl | hz
    · exact e2
    · exact f2 z hz
/-- a key back to its row -/
def unRow : NestedKey → List Int
  | .tup ks => ks.map fun | .num i => i | _ => 0
  | _ => []
theorem unRow_key (r : List Int) : unRow (rowKey r) = r := by
  show (r.map NestedKey.num).map _ = r
  rw [List.map_map]
  exact Eq.trans (List.map_congr_left (g := id) fun i _ => rfl) (List.map_id _)
section
variable {X : Cx}
/-- sorted(found), found a set of rows of whole numbers -/
def rSortRows (w : World) : List V → Hp → VK → Prop := fun vs H Q => ∃ (a : Addr) (R : List (Addr × List Int)) (rows : List (List Int)), vs = [.ref a] ∧ H a = some (SN w a (R.map fun q => (q.1, rowKey q.2))) ∧ (∀ q ∈ R, H q.1 = some (.tup (q.2.map V.int))) ∧ (∀ r, r ∈ R.map (·.2) ↔ r ∈ rows) ∧ (∀ r ∈ rows, r ≠ []) ∧
  ∀ (p : Addr) (ms : List (Addr × List Int)), H p = none → (∀ m ∈ ms, m ∈ R) → ms.map (·.2) = rowSet rows → Q (.ref p) (upd H p (.lst (ms.map fun q => V.ref q.1)))
theorem cr_sortRows (hc : X.calm = true) (hu : X.A.units + 64 < cLine) : CallR X (.builtin "sorted") (rSortRows X.w) := by
  intro pins s σ H vs us Q I r h
  obtain ⟨a, R, rows, rfl, ha, hr, hm, hne, q⟩ := h
  have un : ∀ q : Addr × List Int, unRow (rowKey q.2) = q.2 := fun q => unRow_key _
  refine cr_sortN hc hu pins s σ H _ us Q I r ⟨a, _, fun q => dRow (unRow q.2), rfl, ha, fun p hp => ?_, fun p hp => ?_, fun cs pc => ⟨?_, ?_⟩, fun p cs hp pc nd => ?_⟩
  · obtain ⟨z, hz, rfl⟩ := List.mem_map.mp hp
    exact ⟨row_key (hr z hz), rowKey_depth _⟩
  · obtain ⟨z, hz, rfl⟩ := List.mem_map.mp hp
    refine ⟨?_, dRow_depth _⟩
    show Dp X.K H (.ref z.1) (dRow (unRow (rowKey z.2)))
    rw [un z]
    exact row_dp (hr z hz)
  · exact AllAlike.of fun _ _ => dRow_alike _ _
  · refine .inl fun d hd => ?_
    obtain ⟨z, hz, rfl⟩ := List.mem_map.mp hd
    obtain ⟨y, hy, rfl⟩ := List.mem_map.mp (pc.mem_iff.mp hz)
    have ne := hne y.2 ((hm _).mp (List.mem_map.mpr ⟨y, hy, rfl⟩))
    show ∃ x r, dRow (unRow (rowKey y.2)) = .tuple (x :: r)
    rw [un y]
    cases e : y.2 with
    | nil => exact absurd e ne
    | cons i l => exact ⟨_, _, rfl⟩
  · have sub : ∀ z ∈ cs, ∃ y ∈ R, z = (y.1, rowKey y.2) := fun z hz => by
      obtain ⟨y, hy, e⟩ := List.mem_map.mp (pc.mem_iff.mp hz)
      exact ⟨y, hy, e.symm⟩
    have e1 : (cs.mergeSort (dataLe false fun q => dRow (unRow q.2))).map (fun q : Addr × NestedKey => (q.1, unRow q.2)) = (cs.map fun q : Addr × NestedKey => (q.1, unRow q.2)).mergeSort (dataLe false fun q => dRow q.2) := PySem.W.sort_maps (r := dataLe false fun q : Addr × NestedKey => dRow (unRow q.2)) (s := dataLe false fun q : Addr × List Int => dRow q.2) (fun q : Addr × NestedKey => (q.1, unRow q.2)) (l := cs) fun a _ b _ => rfl
    have e2 : ((cs.map fun q : Addr × NestedKey => (q.1, unRow q.2)).mergeSort (dataLe false fun q => dRow q.2)).map (·.2) = ((cs.map fun q : Addr × NestedKey => (q.1, unRow q.2)).map (·.2)).mergeSort (dataLe false dRow) := PySem.W.sort_maps (r := dataLe false fun q : Addr × List Int => dRow q.2) (s := dataLe false dRow) (fun q : Addr × List Int => q.2) fun a _ b _ => rfl
    have fin := q p ((cs.map fun q : Addr × NestedKey => (q.1, unRow q.2)).mergeSort (dataLe false fun q => dRow q.2)) hp (fun m hm' => ?_) ?_
    · have e3 : ((cs.map fun q : Addr × NestedKey => (q.1, unRow q.2)).mergeSort (dataLe false fun q => dRow q.2)).map (fun q => V.ref q.1) = (cs.mergeSort (dataLe false fun q => dRow (unRow q.2))).map fun q => V.ref q.1 := by
        rw [← e1, List.map_map]
        rfl
      rw [e3] at fin
      exact fin
    · obtain ⟨z, hz, rfl⟩ := List.mem_map.mp ((List.mergeSort_perm _ _).mem_iff.mp hm')
      obtain ⟨y, hy, rfl⟩ := sub z hz
      show (y.1, unRow (rowKey y.2)) ∈ R
      rw [un y]
      exact hy
    · rw [e2, List.map_map]
      refine rowSet_of ?_ fun r => ?_
      · have nd' : (cs.map fun q : Addr × NestedKey => q.2).Nodup := ((pc.map (·.2)).nodup_iff).mpr nd
        refine List.pairwise_map.mpr (List.Pairwise.imp_of_mem (fun {a b} ha' hb' ne e => ?_) (List.pairwise_map.mp nd'))
        obtain ⟨y, hy, rfl⟩ := sub a ha'
        obtain ⟨y', hy', rfl⟩ := sub b hb'
        have e : unRow (rowKey y.2) = unRow (rowKey y'.2) := e
        rw [un y, un y'] at e
        exact ne (congrArg rowKey e)
      · rw [← hm, List.mem_map, List.mem_map]
        constructor
        · rintro ⟨z, hz, rfl⟩
          obtain ⟨y, hy, rfl⟩ := sub z hz
          exact ⟨y, hy, (un y).symm⟩
        · rintro ⟨y, hy, rfl⟩
          exact ⟨(y.1, rowKey y.2), pc.mem_iff.mpr (List.mem_map.mpr ⟨y, hy, rfl⟩), un y⟩
end
end NSet

set_option maxHeartbeats 600000
namespace K11
open PySem PySem.Spec PyProof.Rows L2 RtL ErL StX NSet
open Grp (El mul)
theorem dEl_inj (a b : El) (h : PyData.eqv (dEl a) (dEl b) = true) : a = b := by
  rw [eqv_el] at h
  exact of_decide_eq_true h
theorem srt_of_perm {l l' : List El} (p : l.Perm l') : srt l = srt l' := sort_perm alike_el dEl_inj p
section
variable {P : Program} {w : World} {K : Fr} {mg : Str → Option Value} {base : Heap} {f : Addr} {fd : FuncData}
theorem scM8 : FnScope ["self", "places", "order", "sign"] ["self", "places"] (defScope (inT 8)) := ⟨rfl, rfl, rfl, by decide +kernel, rfl, by decide +kernel, by decide +kernel⟩
def spM8 (K : Fr) : Sp := fun vs H Q _ => ∃ (a b : Addr) (nm : Str) (zs : List Str) (es : List (Addr × El)) (ns : List Int), vs = [.ref a, .ref b] ∧ TabAt K H a nm zs es ∧ 1 ≤ zs.length ∧ zs.length ≤ 4 ∧ H b = some (.tup (ns.map V.int)) ∧ ns.length = zs.length ∧ (∀ i ∈ ns, 0 ≤ i) ∧ (∀ p ∈ es, Grp.Ok zs.length p.2) ∧ es.length ≤ 48 ∧
  ∀ (l : Addr) (ms : List (Addr × List Int)) (H' : Hp), Same H H' → H l = none → H' l = some (.lst (ms.map fun m => V.ref m.1)) → (∀ m ∈ ms, H' m.1 = some (.tup (m.2.map V.int))) → ms.map (·.2) = rowSet ((els es).map (tn ns)) → Q (.ref l) H'
theorem ok_m8 {q : Str} (F : FunD K "class_of" q (defArgs (inT 8)) (defBody (inT 8)) (defScope (inT 8)) [] [] f fd) (T : TT K mg) (A1 : M6d P w K mg base) (A2 : TuG P w K mg base) : FnOk P w K mg base CX0 5 f fd ["self", "places"] (spM8 K) := by
  obtain ⟨d1, G1⟩ := A1
  obtain ⟨f2, d2, G2⟩ := A2
  refine F.ok scM8 (fun vs H Q E h => ?_) (fun cdv A outer s H vs Q E hr h => ?_)
  · obtain ⟨a, b, nm, zs, es, ns, rfl, _⟩ := h
    rfl
  · obtain ⟨a, b, nm, zs, es, ns, rfl, ta, z1, z4, eb, hl, h0, ho, e48, qq⟩ := h
    have hu : (A.deeper (envOfC q (defScope (inT 8)) s.heap.objs.size f cdv)).units + 64 < cLine := by have := hr.un; omega
    refine ⟨_, PSs.nox (pss_cons (ps_if (pt_not (pt_val (pe_meth (pv 0) T.cl (T.meth "is_slot_places" (by decide)) G1.ok hr G1.bd .nil pass0 (pa_cons (pv 1) pa_nil)))) (pss_one ps_never) pss_nil)
      (pss_one (ps_ret (pe_callB (cr_sortRows (by rfl) hu) (by rfl) T.fre (by decide +kernel) (pa_cons (pe_scG (own := [("order", 2), ("sign", 3)]) (e0 := fun D => SN w D []) (ad := rNAdd w) (g := gTup K 2 (gCons (gName 2) (gCons (gName 3) gNil))) (tt := tYes) (fun h => sn_new (ns_fresh h).n0) (fun _ _ _ _ _ => mt_add hu) (by rfl) scM8.nd (pi_tup (pe_fld (pv 0) rfl)) (blkOk_by (N := ["self", "places", "order", "sign"]) (sc := defScope (inT 8)) (by decide +kernel))
        (fun _ _ _ _ _ => pg_tup (by rfl) (pgs_cons (pg_name (i := 2) scM8.nd rfl (.inl rfl)) (pgs_cons (pg_name (i := 3) scM8.nd rfl (.inl rfl)) pgs_nil))) (fun _ _ _ _ _ => pts_nil)
        (fun _ _ _ _ _ => pe_gd G2 (hr.mono (by decide)) (by rfl) (pa_cons (pv 1) (pa_cons (pv 2) pa_nil)))) pa_nil))))), ?_⟩
    have lz : 10000 ≤ sizeLine := by rw [sizeLine_eq]; decide
    obtain ⟨dx, sl, g, ea, esl, eg, hes⟩ := _root_.id ta
    refine ⟨_, rfl, a, dx, _, rfl, ea, rfl, _, rfl, a, b, nm, zs, es, ns, rfl, ta, z4, eb, hl, h0, fun H1 s1 => ⟨true, rfl, iteF ?_⟩⟩
    have le : (refs es).length = es.length := List.length_map _
    refine ⟨_, rfl, a, _, dx, _, _, rfl, s1 _ _ ea, T.cl, T.no "_group" (by decide), rfl, g, rfl, ⟨_, SqT.of (s1 _ _ eg)⟩, fun D nD => ?_⟩
    have nD0 : H D = none := gone s1 nD
    refine sc_it (walk_tup (xs := refs es)) (e0 := fun D => SN w D []) (fun i H' => Same H1 H' ∧ ∃ R : List (Addr × List Int), H' D = some (SN w D (R.map fun q => (q.1, rowKey q.2))) ∧ (∀ q ∈ R, H' q.1 = some (.tup (q.2.map V.int))) ∧ (∀ r, r ∈ R.map (·.2) ↔ r ∈ ((els es).take i).map (tn ns)) ∧ R.length ≤ i) ⟨same_new nD, [], upd_same, (fun q h => nomatch h), (fun r => Iff.rfl), Nat.le_refl _⟩ (fun i H' _ pv => SqT.of (pv.1 _ _ (s1 _ _ eg))) ?_ ?_
    · rintro i v H7 H8 hi ⟨s7, R, e7, hR, hm, hlen⟩ ⟨rfl, hx⟩
      obtain ⟨pr, hpr, rfl⟩ : ∃ pr, es[i]? = some pr ∧ v = .ref pr.1 := by
        have hx : (refs es)[i]? = some v := hx
        rw [List.getElem?_map] at hx
        cases e : es[i]? with
        | none => rw [e] at hx; cases hx
        | some z => rw [e] at hx; cases hx; exact ⟨z, rfl, rfl⟩
      have a2 := ho pr (List.mem_of_getElem? hpr)
      obtain ⟨o, ht, hoo⟩ := (hes pr (List.mem_of_getElem? hpr)).same (s1.trans s7)
      have ex : (els es)[i]? = some pr.2 := by rw [List.getElem?_map, hpr]; rfl
      refine ⟨pr.1, _, rfl, SqT.of ht, rfl, _, _, rfl, _, _, rfl, rfl, rfl, _, rfl, _, rfl, b, o, ns.map V.int, pr.2.1, rfl, s7 _ _ (s1 _ _ eb), hoo, fun j hj => by rw [List.length_map, hl]; exact a2.lt hj, by rw [a2.len]; omega, fun t H9 s9 n9 e9 => ?_⟩
      have et : (pr.2.1.map fun i => (ns.map V.int).getD i .non) = (tn ns pr.2).map V.int := by
        unfold tn
        rw [List.map_map]
        refine List.map_congr_left fun j hj => ?_
        have lt : j < ns.length := by rw [hl]; exact a2.lt hj
        show (ns.map V.int).getD j .non = V.int (ns.getD j 0)
        rw [List.getD_eq_getElem?_getD, List.getElem?_map, List.getD_eq_getElem?_getD, List.getElem?_eq_getElem lt]
        rfl
      rw [et] at e9
      have e97 := s9 _ _ e7
      have hR9 : ∀ q ∈ R, H9 q.1 = some (.tup (q.2.map V.int)) := fun q hq => s9 _ _ (hR q hq)
      have hm' : ∀ r, r ∈ ((els es).take (i + 1)).map (tn ns) ↔ r ∈ R.map (·.2) ∨ r = tn ns pr.2 := fun r => by
        rw [List.take_add_one, ex, hm]
        show r ∈ List.map (tn ns) (_ ++ [pr.2]) ↔ _
        rw [List.map_append, List.mem_append, List.map_singleton, List.mem_singleton]
      have kk : ∀ r, rowKey r ∈ keys (R.map fun q => (q.1, rowKey q.2)) ↔ r ∈ R.map (·.2) := fun r => by
        constructor
        · intro h
          obtain ⟨z, hz, e⟩ := List.mem_map.mp h
          obtain ⟨y, hy, rfl⟩ := List.mem_map.mp hz
          exact List.mem_map.mpr ⟨y, hy, rowKey_inj e⟩
        · intro h
          obtain ⟨y, hy, rfl⟩ := List.mem_map.mp h
          exact List.mem_map.mpr ⟨_, List.mem_map.mpr ⟨y, hy, rfl⟩, rfl⟩
      refine ⟨D, t, rowKey (tn ns pr.2), _, rfl, rfl, e97, fun p hp => ?_, row_key e9, rowKey_depth _, by rw [List.length_map]; omega, fun hk => ?_, fun hk L' pm => ?_⟩
      · obtain ⟨z, hz, rfl⟩ := List.mem_map.mp hp
        exact ⟨row_key (hR9 z hz), rowKey_depth _⟩
      · refine ⟨s7.trans s9, R, e97, hR9, fun r => ?_, by omega⟩
        rw [hm']
        exact ⟨.inl, fun z => z.elim id fun e => by rw [e]; exact (kk _).mp hk⟩
      · have st : Tst H9 (upd H9 D (SN w D L')) := tst_set e97
        obtain ⟨R', rfl, hR'⟩ := rows_of (H := upd H9 D (SN w D L')) (L := L') fun q hq => by
          rcases List.mem_cons.mp (pm.mem_iff.mp hq) with rfl | h
          · exact ⟨_, rfl, st _ _ e9⟩
          · obtain ⟨y, hy, rfl⟩ := List.mem_map.mp h
            exact ⟨_, rfl, st _ _ (hR9 y hy)⟩
        refine ⟨fun b' o' e' => ?_, R', upd_same, hR', fun r => ?_, ?_⟩
        · rw [upd_ne (ne_of_none e' nD)]
          exact s9 _ _ (s7 _ _ e')
        · rw [hm']
          have pk : ∀ x, x ∈ R'.map (fun q => rowKey q.2) ↔ x = rowKey (tn ns pr.2) ∨ x ∈ R.map (fun q => rowKey q.2) := fun x => by
            have := (pm.map (fun z : Addr × NestedKey => z.2)).mem_iff (a := x)
            rw [List.map_map, List.map_cons, List.mem_cons, List.map_map] at this
            exact this
          have inj : ∀ (S : List (Addr × List Int)) r, rowKey r ∈ S.map (fun q => rowKey q.2) ↔ r ∈ S.map (·.2) := fun S r => by
            constructor
            · intro h
              obtain ⟨y, hy, e⟩ := List.mem_map.mp h
              exact List.mem_map.mpr ⟨y, hy, rowKey_inj e⟩
            · intro h
              obtain ⟨y, hy, rfl⟩ := List.mem_map.mp h
              exact List.mem_map.mpr ⟨y, hy, rfl⟩
          rw [← inj, pk, inj]
          exact ⟨fun z => z.elim (fun e => .inr (rowKey_inj e)) .inl, fun z => z.elim .inr fun e => .inl (by rw [e])⟩
        · have := pm.length_eq
          rw [List.length_map, List.length_cons, List.length_map] at this
          omega
    · rintro H7 ⟨s7, R, e7, hR, hm, hlen⟩
      have lf : (els es).length = es.length := List.length_map _
      rw [le, ← lf, List.take_length] at hm
      refine ⟨D, R, (els es).map (tn ns), rfl, e7, hR, hm, fun r hr => ?_, fun p ms np hms hrs => ?_⟩
      · obtain ⟨e, he, rfl⟩ := List.mem_map.mp hr
        obtain ⟨pr, hpr, rfl⟩ := List.mem_map.mp he
        intro z
        have := congrArg List.length z
        unfold tn at this
        rw [List.length_map, (ho pr hpr).len, List.length_nil] at this
        omega
      · exact qq p ms _ (s1.trans (s7.trans (same_new np))) (gone (s1.trans s7) np) upd_same (fun m hm' => same_new np _ _ (hR m (hms m hm'))) hrs
abbrev M8d (P : Program) (w : World) (K : Fr) (mg : Str → Option Value) (base : Heap) : Prop := ∃ d, Md P w K mg base 5 (tm K "class_of") d ["self", "places"] (spM8 K)
end
end K11

set_option maxHeartbeats 4000000
namespace K11
open PySem PySem.Spec PyProof.Rows L2 RtL ErL StX NSet
section
variable {P : Program} {w : World} {K : Fr} {mg : Str → Option Value} {base : Heap} {f : Addr} {fd : FuncData}
/-! ### a pot -/
abbrev sPot : Stmt := top 31
theorem scPot : FnScope ["_law_script", "_law_k", "_law_cell"] ["_law_script", "_law_k"] (defScope sPot) := ⟨rfl, rfl, rfl, by decide +kernel, rfl, by decide +kernel, by decide +kernel⟩
/-- a pot at p -/
def PotAt (H : Hp) (p : Addr) : Prop := ∃ x y : Int, H p = some (.lst [.int x, .int y]) ∧ 0 ≤ x ∧ 0 ≤ y ∧ y < 2147483648
def spPot (K : Fr) : Sp := fun vs H Q _ => ∃ (a : Addr) (ns : List Int) (k : Int), vs = [.ref a, .int k] ∧ SqL K H a (ns.map V.int) ∧ ns.length ≤ 63 ∧ 0 ≤ k ∧ k < 64 ∧ ∀ p H', H p = none → Same H H' → PotAt H' p → Q (.ref p) H'
theorem ok_pot (F : FunD K "_law_pot" "_law_pot" (defArgs sPot) (defBody sPot) (defScope sPot) [] [] f fd) (T : TT K mg) : FnOk P w K mg base CX0 1 f fd ["_law_script", "_law_k"] (spPot K) := by
  refine F.ok scPot (fun vs H Q E h => ?_) (fun cdv A outer s H vs Q E hr h => ?_)
  · obtain ⟨a, ns, k, rfl, _⟩ := h
    rfl
  · obtain ⟨a, ns, k, rfl, hS, hl, k0, k63, q⟩ := h
    refine ⟨_, pss_cons (ps_set (i := 2) scPot.nd rfl (Or.inl rfl) (pe_ifExp (pt_cmpR op_lt (pv 1) (pe_callB call_len_seq (by rfl) T.fre PySem.boot_len (pa_cons (pv 0) pa_nil)) (nomark _))
        (pe_callB call_abs (by rfl) T.fre (by decide +kernel) (pa_cons (pe_ix ix_list (pv 0) (pv 1) (fun _ _ => rfl)) pa_nil)) pe_int))
      (pss_one (ps_ret (pe_lst (pa_cons (pe_callB (call_max2 rfl) (by rfl) T.fre (by decide +kernel) (pa_cons pe_int (pa_cons (pe_op op_sub (pv 2) (pe_op op_pow pe_int pe_int)) pa_nil)))
        (pa_cons (pe_op op_mod (pe_callTy call_int1 (by rfl) T.fre (by decide +kernel) (pa_cons (pe_op op_add (pe_op op_add (pe_op op_mul (pe_op op_mod (pe_callTy call_int1 (by rfl) T.fre (by decide +kernel) (pa_cons (pv 2) pa_nil)) pe_int) pe_int) (pe_op op_mul pe_int (pv 1))) pe_int) pa_nil)) pe_int) pa_nil))))), ?_⟩
    refine ⟨_, rfl, _, rfl, _, _, rfl, .inl hS, _, _, rfl, rfl, _, rfl, ite2 (fun h1 => ?_) (fun _ => ?_)⟩
    · have hk : k < (ns.length : Int) := by
        have z := of_decide_eq_true h1
        rw [List.length_map] at z
        exact z
      obtain ⟨j, rfl⟩ : ∃ j : Nat, k = (j : Int) := ⟨k.toNat, by omega⟩
      have hj : j < ns.length := by omega
      have hat : (ns.map V.int)[j]? = some (.int ns[j]) := by
        rw [List.getElem?_map, List.getElem?_eq_getElem hj]
        rfl
      refine ⟨_, rfl, _, rfl, a, _, _, _, rfl, rfl, hS, atI_nat hat, _, rfl, ?_⟩
      refine ⟨_, rfl, _, _, rfl, rfl, ⟨by decide, by decide, by decide⟩, _, _, rfl, rfl, _, _, rfl, _, rfl, .inl ⟨_, rfl, _, _, rfl, rfl, (by show (0 : Int) < 2147483579; decide), _, _, rfl, rfl, .inr ⟨by decide, by decide⟩, _, rfl, _, _, rfl, rfl, .inl ⟨by decide, by decide⟩, _, _, rfl, rfl, _, _, rfl, rfl, .inl ⟨_, rfl, _, _, rfl, rfl, (by show (0 : Int) < 2147483647; decide), (by show 2 ≤ sizeLine; decide), fun p hp => ?_⟩⟩⟩
      refine q p _ hp (fun b o e => by rw [upd_ne (ne_of_none e hp)]; exact e) ⟨_, _, upd_same, ?_, Int.emod_nonneg _ (by decide), Int.lt_trans (Int.emod_lt_of_pos _ (by decide)) (by decide)⟩
      split <;> omega
    · refine ⟨_, rfl, _, _, rfl, rfl, ⟨by decide, by decide, by decide⟩, _, _, rfl, rfl, _, _, rfl, _, rfl, .inl ⟨_, rfl, _, _, rfl, rfl, (by show (0 : Int) < 2147483579; decide), _, _, rfl, rfl, .inr ⟨by decide, by decide⟩, _, rfl, _, _, rfl, rfl, .inl ⟨by decide, by decide⟩, _, _, rfl, rfl, _, _, rfl, rfl, .inl ⟨_, rfl, _, _, rfl, rfl, (by show (0 : Int) < 2147483647; decide), (by show 2 ≤ sizeLine; decide), fun p hp => ?_⟩⟩⟩
      refine q p _ hp (fun b o e => by rw [upd_ne (ne_of_none e hp)]; exact e) ⟨_, _, upd_same, ?_, Int.emod_nonneg _ (by decide), Int.lt_trans (Int.emod_lt_of_pos _ (by decide)) (by decide)⟩
      split <;> omega
/-- C divides by a number of at most two digits itself -/
theorem by_c {x m : Int} (h : m ≤ 1000000000000000000) (m0 : 0 < m := by assumption) : Builtin.divisionGoesByPylong x m = false := by
  unfold Builtin.divisionGoesByPylong
  have l : m.natAbs.log2 < 60 := by
    rw [Nat.log2_lt (by omega)]
    have : (2 : Nat) ^ 60 = 1152921504606846976 := by decide
    omega
  have d : ¬ ((if (m == 0) = true then 0 else m.natAbs.log2 / 30 + 1) > 300) := by
    split <;> omega
  show (decide ((if (m == 0) = true then 0 else m.natAbs.log2 / 30 + 1) > 300) && _) = false
  rw [decide_eq_false d, Bool.false_and]
/-! ### a draw -/
abbrev sDraw : Stmt := top 32
theorem scDraw : FnScope ["_law_pot_here", "_law_many", "_law_digit"] ["_law_pot_here", "_law_many"] (defScope sDraw) := ⟨rfl, rfl, rfl, by decide +kernel, rfl, by decide +kernel, by decide +kernel⟩
def PBut (p : Addr) (H H' : Hp) : Prop := ∀ b o, H b = some o → b ≠ p → H' b = some o
def spDraw : Sp := fun vs H Q _ => ∃ (p : Addr) (m : Int), vs = [.ref p, .int m] ∧ PotAt H p ∧ 0 < m ∧ m ≤ 1000000000000000000 ∧ ∀ d H', 0 ≤ d → d < m → PotAt H' p → PBut p H H' → Q (.int d) H'
theorem ok_draw (F : FunD K "_law_draw" "_law_draw" (defArgs sDraw) (defBody sDraw) (defScope sDraw) [] [] f fd) (T : TT K mg) : FnOk P w K mg base CX0 1 f fd ["_law_pot_here", "_law_many"] spDraw := by
  refine F.ok scDraw (fun vs H Q E h => ?_) (fun cdv A outer s H vs Q E hr h => ?_)
  · obtain ⟨p, m, rfl, _⟩ := h
    rfl
  · obtain ⟨p, m, rfl, ⟨x, y, hp, x0, y0, y1⟩, m0, m1, q⟩ := h
    refine ⟨_, pss_cons (ps_if (pt_cmpR op_gt (pe_ix ix_list (pv 0) pe_int (fun _ _ => rfl)) pe_int (nomark _))
        (pss_cons (ps_asg (pe_callB call_divmodW (by rfl) T.fre (by decide +kernel) (pa_cons (pe_ix ix_list (pv 0) pe_int (fun _ _ => rfl)) (pa_cons (pv 1) pa_nil))) (pg_tup (by rfl) (pgs_cons (pg_sub (pv 0) pe_int set_list) (pgs_cons (pg_name (i := 2) scDraw.nd rfl (.inl rfl)) pgs_nil))))
          (pss_one (ps_ret (pv 2)))) pss_nil)
      (pss_cons (ps_asg (pe_op op_mod (pe_callTy call_int1 (by rfl) T.fre (by decide +kernel) (pa_cons (pe_op op_add (pe_op op_mul (pe_ix ix_list (pv 0) pe_int (fun _ _ => rfl)) pe_int) pe_int) pa_nil)) pe_int) (pg_sub (pv 0) pe_int set_list))
      (pss_one (ps_ret (pe_op op_mod (pe_callTy call_int1 (by rfl) T.fre (by decide +kernel) (pa_cons (pe_op op_fdiv (pe_op op_mod (pe_callTy call_int1 (by rfl) T.fre (by decide +kernel) (pa_cons (pe_op op_mul (pe_ix ix_list (pv 0) pe_int (fun _ _ => rfl)) (pe_ix ix_list (pv 0) pe_int (fun _ _ => rfl))) pa_nil)) pe_int) pe_int) pa_nil)) (pv 1))))), ?_⟩
    refine ⟨_, rfl, p, _, _, _, rfl, rfl, SqL.of hp, atI_nat (j := 0) rfl, _, _, rfl, rfl, _, rfl, ite2 (fun h1 => ?_) (fun _ => ?_)⟩
    · have hx : 0 < x := of_decide_eq_true h1
      refine ⟨_, rfl, p, _, _, _, rfl, rfl, SqL.of hp, atI_nat (j := 0) rfl, _, rfl, _, _, rfl, ⟨m0, by_c m1⟩, fun t nt => ?_⟩
      have hpt : p ≠ t := ne_of_none hp nt
      have e2 : (upd H t (.tup [.int (x / m), .int (x % m)])) p = some (.lst [.int x, .int y]) := by rw [upd_ne hpt]; exact hp
      refine ⟨t, _, rfl, SqT.of upd_same, rfl, ?_⟩
      refine ⟨_, _, rfl, _, rfl, p, _, _, 0, rfl, rfl, e2, rfl, _, _, rfl, rfl, ?_⟩
      refine ⟨_, rfl, q _ _ (Int.emod_nonneg _ (Int.ne_of_gt m0)) (Int.emod_lt_of_pos _ m0) ⟨x / m, y, upd_same, Int.ediv_nonneg x0 (Int.le_of_lt m0), y0, y1⟩ fun b o e hb => ?_⟩
      rw [upd_ne hb, upd_ne (ne_of_none e nt)]
      exact e
    · refine ⟨_, rfl, p, _, _, _, rfl, rfl, SqL.of hp, atI_nat (j := 1) rfl, _, _, rfl, rfl, .inr ⟨by decide, by decide⟩, _, _, rfl, rfl, .inl ⟨_, rfl, _, _, rfl, rfl, (by show (0 : Int) < 2147483549; decide), ?_⟩⟩
      refine ⟨_, rfl, p, _, _, 1, rfl, rfl, hp, rfl, ?_⟩
      have z0 : 0 ≤ (y * 48271 + 10007) % 2147483549 := Int.emod_nonneg _ (by decide)
      have z1 : (y * 48271 + 10007) % 2147483549 < 2147483549 := Int.emod_lt_of_pos _ (by decide)
      refine ⟨_, rfl, p, _, _, _, rfl, rfl, SqL.of upd_same, atI_nat (j := 1) rfl, _, rfl, p, _, _, _, rfl, rfl, SqL.of upd_same, atI_nat (j := 1) rfl, _, _, rfl, rfl, .inl ⟨by omega, by omega⟩, .inl ⟨_, rfl, _, _, rfl, rfl, (by show (0 : Int) < 2147483497; decide), _, _, rfl, rfl, ⟨by decide, by decide⟩, .inl ⟨_, rfl, _, rfl, _, _, rfl, rfl, m0, ?_⟩⟩⟩
      refine q _ _ (Int.emod_nonneg _ (Int.ne_of_gt m0)) (Int.emod_lt_of_pos _ m0) ⟨x, _, upd_same, x0, z0, by omega⟩ fun b o e hb => ?_
      rw [upd_ne hb]
      exact e

end
end K11

set_option maxHeartbeats 4000000
namespace K11
open PySem PySem.Spec PyProof.Rows L2 RtL ErL StX NSet
theorem PBut.trans {p : Addr} {H1 H2 H3 : Hp} (a : PBut p H1 H2) (b : PBut p H2 H3) : PBut p H1 H3 := fun c o e h => b c o (a c o e h) h
theorem PBut.of {p : Addr} {H1 H2 : Hp} (s : Same H1 H2) : PBut p H1 H2 := fun c o e _ => s c o e
theorem PotAt.same {p : Addr} {H1 H2 : Hp} (h : PotAt H1 p) (s : Same H1 H2) : PotAt H2 p := by
  obtain ⟨x, y, e, r⟩ := h
  exact ⟨x, y, s _ _ e, r⟩
theorem tup_but {p a : Addr} {H1 H2 : Hp} {vs : List V} (e : H1 a = some (.tup vs)) (hp : PotAt H1 p) (s : PBut p H1 H2) : H2 a = some (.tup vs) := by
  obtain ⟨x, y, e2, _⟩ := hp
  exact s _ _ e (ne_of e e2 (by intro z; cases z))
section
variable {P : Program} {w : World} {K : Fr} {mg : Str → Option Value} {base : Heap} {f : Addr} {fd : FuncData}
abbrev DrawG (P : Program) (w : World) (K : Fr) (mg : Str → Option Value) (base : Heap) : Prop := ∃ f d, Gd P w K mg base 1 "_law_draw" f d ["_law_pot_here", "_law_many"] spDraw
/-! ### a pick -/
abbrev sPick : Stmt := top 33
theorem scPick : FnScope ["_law_pot_here", "_law_some"] ["_law_pot_here", "_law_some"] (defScope sPick) := ⟨rfl, rfl, rfl, by decide +kernel, rfl, by decide +kernel, by decide +kernel⟩
def spPick : Sp := fun vs H Q _ => ∃ (p l : Addr) (xs : List V), vs = [.ref p, .ref l] ∧ PotAt H p ∧ H l = some (.lst xs) ∧ l ≠ p ∧ 0 < xs.length ∧ xs.length < 1000 ∧ ∀ (i : Nat) v H', xs[i]? = some v → PotAt H' p → PBut p H H' → Q v H'
theorem ok_pick (F : FunD K "_law_pick" "_law_pick" (defArgs sPick) (defBody sPick) (defScope sPick) [] [] f fd) (T : TT K mg) (D : DrawG P w K mg base) : FnOk P w K mg base CX0 2 f fd ["_law_pot_here", "_law_some"] spPick := by
  obtain ⟨fD, dD, GD⟩ := D
  refine F.ok scPick (fun vs H Q E h => ?_) (fun cdv A outer s H vs Q E hr h => ?_)
  · obtain ⟨p, l, xs, rfl, _⟩ := h
    rfl
  · obtain ⟨p, l, xs, rfl, hp, hl, ne, l0, l1, q⟩ := h
    refine ⟨_, PSs.nox (pss_one (ps_ret (pe_ix ix_list (pv 1) (pe_gd GD hr (by rfl) (pa_cons (pv 0) (pa_cons (pe_callB call_len_seq (by rfl) T.fre PySem.boot_len (pa_cons (pv 1) pa_nil)) pa_nil))) (fun _ _ => rfl)))), ?_⟩
    refine ⟨_, rfl, _, rfl, _, rfl, _, _, rfl, .inl (SqL.of hl), p, _, rfl, hp, by omega, by omega, fun d H' d0 d1 hp' hb => ?_⟩
    obtain ⟨j, rfl⟩ : ∃ j : Nat, d = (j : Int) := ⟨d.toNat, by omega⟩
    have hj : j < xs.length := by omega
    exact ⟨l, _, _, _, rfl, rfl, SqL.of (hb _ _ hl ne), atI_nat (List.getElem?_eq_getElem hj), q j _ H' (List.getElem?_eq_getElem hj) hp' hb⟩
abbrev PickG (P : Program) (w : World) (K : Fr) (mg : Str → Option Value) (base : Heap) : Prop := ∃ f d, Gd P w K mg base 2 "_law_pick" f d ["_law_pot_here", "_law_some"] spPick
end
end K11

set_option maxHeartbeats 4000000
/-! itertools.permutations: what the library has not of it -/
namespace PermX
open PySem PySem.Spec PyProof.Rows L2
open PySem.Sem (wp)
theorem slot_init : Slot "itertools.permutations" "__init__" "object.__init__" :=
  .of (owner := "object") (n := "__init__") (by rw [typeLookup_type, builtinLookup_eq_fast]; kernel_rfl) (by decide +kernel) (by decide +kernel) (by decide +kernel)
    (by first | exact .inl (by decide +kernel) | exact .inr (by decide +kernel)) (by rw [isSubtype_type]; kernel_rfl)
theorem slot_iter : Slot "itertools.permutations" "__iter__" "itertools.permutations.__iter__" :=
  .of (owner := "itertools.permutations") (n := "__iter__") (by rw [typeLookup_type, builtinLookup_eq_fast]; kernel_rfl) (by decide +kernel) (by decide +kernel) (by decide +kernel)
    (by first | exact .inl (by decide +kernel) | exact .inr (by decide +kernel)) (by rw [isSubtype_type]; kernel_rfl)
theorem slot_next : Slot "itertools.permutations" "__next__" "itertools.permutations.__next__" :=
  .of (owner := "itertools.permutations") (n := "__next__") (by rw [typeLookup_type, builtinLookup_eq_fast]; kernel_rfl) (by decide +kernel) (by decide +kernel) (by decide +kernel)
    (by first | exact .inl (by decide +kernel) | exact .inr (by decide +kernel)) (by rw [isSubtype_type]; kernel_rfl)
theorem owner_ : Manifest.owners.lookup (String.ofList ("itertools.permutations".toList.reverse.reverse)) = some Manifest.sig_itertools_permutations := by kernel_rfl
theorem args_next (a : Value) : argsOk "itertools.permutations.__next__" ⟨[a], []⟩ := by
  unfold argsOk; rw [signature?_of (id := "itertools.permutations.__next__") (n := "__next__".toList.reverse) (o := "itertools.permutations".toList.reverse) (by kernel_rfl) owner_]; kernel_rfl
theorem args_iter (a : Value) : argsOk "itertools.permutations.__iter__" ⟨[a], []⟩ := by
  unfold argsOk; rw [signature?_of (id := "itertools.permutations.__iter__") (n := "__iter__".toList.reverse) (o := "itertools.permutations".toList.reverse) (by kernel_rfl) owner_]; kernel_rfl
theorem entry_next : entryFor table "itertools.permutations.__next__" = some Builtin.«itertools.permutations.__next__» := entryFor_of_tree (by kernel_rfl)
theorem entry_new : entryFor table "itertools.permutations.__new__" = some Builtin.«itertools.permutations.__new__» := entryFor_of_tree (by kernel_rfl)
theorem entry_iter : entryFor table "itertools.permutations.__iter__" = some Builtin.«dict_keyiterator.__iter__» :=
  entryFor_alias (id' := "dict_keyiterator.__iter__") (by kernel_rfl) (by first | rfl | decide +kernel | (unfold String.splitOn; simp +decide [String.splitOnAux])) (by decide +kernel) (by kernel_rfl)
theorem mro_ : mroOf (.type "itertools.permutations") = pure [.type "itertools.permutations", .type "object"] := by rw [mroOf_type]; kernel_rfl
theorem lookup_new : typeLookup (.type "itertools.permutations") "__new__" = pure (some (.builtin "itertools.permutations.__new__")) := by rw [typeLookup_type, builtinLookup_eq_fast]; kernel_rfl
theorem called : TypeCalled "itertools.permutations" "itertools.permutations.__new__" "object.__init__" :=
  ⟨by decide +kernel, by decide +kernel, ⟨_, _, mro_⟩, madeBy_type mro_ lookup_new (by decide +kernel), by decide +kernel, by rw [isSubtype_type]; kernel_rfl, slot_init⟩
theorem typeCall (a : Value) : checkTypeCall "itertools.permutations" ⟨[a], []⟩ = pure () := by kernel_rfl
theorem newCall (a : Value) : checkBuiltinCall "itertools.permutations.__new__" ⟨[.type "itertools.permutations", a], []⟩ = pure () := by kernel_rfl
end PermX

set_option maxHeartbeats 4000000
namespace PermX
open PySem PySem.Spec PyProof.Rows L2
open PySem.Sem (wp)
open PySem.Builtin.Itertools
/-- the places and the cycles at each turn of permutations(range(n)) -/
def nums : Nat → List (List Nat × List Nat)
  | 1 => [([0], [1])]
  | 2 => [([0, 1], [2, 1]), ([1, 0], [1, 1])]
  | 3 => [([0, 1, 2], [3, 2, 1]), ([0, 2, 1], [3, 1, 1]), ([1, 0, 2], [2, 2, 1]), ([1, 2, 0], [2, 1, 1]), ([2, 0, 1], [1, 2, 1]), ([2, 1, 0], [1, 1, 1])]
  | 4 => [([0, 1, 2, 3], [4, 3, 2, 1]), ([0, 1, 3, 2], [4, 3, 1, 1]), ([0, 2, 1, 3], [4, 2, 2, 1]), ([0, 2, 3, 1], [4, 2, 1, 1]), ([0, 3, 1, 2], [4, 1, 2, 1]), ([0, 3, 2, 1], [4, 1, 1, 1]), ([1, 0, 2, 3], [3, 3, 2, 1]), ([1, 0, 3, 2], [3, 3, 1, 1]), ([1, 2, 0, 3], [3, 2, 2, 1]), ([1, 2, 3, 0], [3, 2, 1, 1]), ([1, 3, 0, 2], [3, 1, 2, 1]), ([1, 3, 2, 0], [3, 1, 1, 1]), ([2, 0, 1, 3], [2, 3, 2, 1]), ([2, 0, 3, 1], [2, 3, 1, 1]), ([2, 1, 0, 3], [2, 2, 2, 1]), ([2, 1, 3, 0], [2, 2, 1, 1]), ([2, 3, 0, 1], [2, 1, 2, 1]), ([2, 3, 1, 0], [2, 1, 1, 1]), ([3, 0, 1, 2], [1, 3, 2, 1]), ([3, 0, 2, 1], [1, 3, 1, 1]), ([3, 1, 0, 2], [1, 2, 2, 1]), ([3, 1, 2, 0], [1, 2, 1, 1]), ([3, 2, 0, 1], [1, 1, 2, 1]), ([3, 2, 1, 0], [1, 1, 1, 1])]
  | _ => []
/-- one turn, and the last ones -/
def trans : List (Nat × List Nat × List Nat × List Nat × List Nat) := [(2, [0, 1], [2, 1], [1, 0], [1, 1]), (3, [0, 1, 2], [3, 2, 1], [0, 2, 1], [3, 1, 1]), (3, [0, 2, 1], [3, 1, 1], [1, 0, 2], [2, 2, 1]), (3, [1, 0, 2], [2, 2, 1], [1, 2, 0], [2, 1, 1]), (3, [1, 2, 0], [2, 1, 1], [2, 0, 1], [1, 2, 1]), (3, [2, 0, 1], [1, 2, 1], [2, 1, 0], [1, 1, 1]), (4, [0, 1, 2, 3], [4, 3, 2, 1], [0, 1, 3, 2], [4, 3, 1, 1]), (4, [0, 1, 3, 2], [4, 3, 1, 1], [0, 2, 1, 3], [4, 2, 2, 1]), (4, [0, 2, 1, 3], [4, 2, 2, 1], [0, 2, 3, 1], [4, 2, 1, 1]), (4, [0, 2, 3, 1], [4, 2, 1, 1], [0, 3, 1, 2], [4, 1, 2, 1]), (4, [0, 3, 1, 2], [4, 1, 2, 1], [0, 3, 2, 1], [4, 1, 1, 1]), (4, [0, 3, 2, 1], [4, 1, 1, 1], [1, 0, 2, 3], [3, 3, 2, 1]), (4, [1, 0, 2, 3], [3, 3, 2, 1], [1, 0, 3, 2], [3, 3, 1, 1]), (4, [1, 0, 3, 2], [3, 3, 1, 1], [1, 2, 0, 3], [3, 2, 2, 1]), (4, [1, 2, 0, 3], [3, 2, 2, 1], [1, 2, 3, 0], [3, 2, 1, 1]), (4, [1, 2, 3, 0], [3, 2, 1, 1], [1, 3, 0, 2], [3, 1, 2, 1]), (4, [1, 3, 0, 2], [3, 1, 2, 1], [1, 3, 2, 0], [3, 1, 1, 1]), (4, [1, 3, 2, 0], [3, 1, 1, 1], [2, 0, 1, 3], [2, 3, 2, 1]), (4, [2, 0, 1, 3], [2, 3, 2, 1], [2, 0, 3, 1], [2, 3, 1, 1]), (4, [2, 0, 3, 1], [2, 3, 1, 1], [2, 1, 0, 3], [2, 2, 2, 1]), (4, [2, 1, 0, 3], [2, 2, 2, 1], [2, 1, 3, 0], [2, 2, 1, 1]), (4, [2, 1, 3, 0], [2, 2, 1, 1], [2, 3, 0, 1], [2, 1, 2, 1]), (4, [2, 3, 0, 1], [2, 1, 2, 1], [2, 3, 1, 0], [2, 1, 1, 1]), (4, [2, 3, 1, 0], [2, 1, 1, 1], [3, 0, 1, 2], [1, 3, 2, 1]), (4, [3, 0, 1, 2], [1, 3, 2, 1], [3, 0, 2, 1], [1, 3, 1, 1]), (4, [3, 0, 2, 1], [1, 3, 1, 1], [3, 1, 0, 2], [1, 2, 2, 1]), (4, [3, 1, 0, 2], [1, 2, 2, 1], [3, 1, 2, 0], [1, 2, 1, 1]), (4, [3, 1, 2, 0], [1, 2, 1, 1], [3, 2, 0, 1], [1, 1, 2, 1]), (4, [3, 2, 0, 1], [1, 1, 2, 1], [3, 2, 1, 0], [1, 1, 1, 1])]
def ends : List (Nat × List Nat × List Nat) := [(1, [0], [1]), (2, [1, 0], [1, 1]), (3, [2, 1, 0], [1, 1, 1]), (4, [3, 2, 1, 0], [1, 1, 1, 1])]
abbrev fldsP (p : Addr) (st : Int) (n : Nat) (last : Value) (ix cy : List Nat) : List Value := .ref p :: rawInt st :: rawInt n :: last :: (ix ++ cy).map fun i : Nat => rawInt i
abbrev IsPerm (h : Heap) (e p : Addr) (st : Int) (n : Nat) (last : Value) (ix cy : List Nat) : Prop :=
  h.get? e = some { cls := .type "itertools.permutations", dict := none, data := .fields (fldsP p st n last ix cy).toArray, slots := #[] }
section
variable {prog : Program} {w : World} {A : Around} {E : Value → Shared → Prop} {s : Shared} {e p : Addr} {n : Nat} {st : Int} {items : Array Value} {last : Value} {ix cy ix' cy' : List Nat}
theorem nums_back (l : List Nat) : (l.map fun i : Nat => rawInt i).map (fun | .int n _ => n.toNat | _ => 0) = l := by
  rw [List.map_map]
  exact (List.map_congr_left fun i _ => Int.toNat_natCast i).trans (List.map_id _)
theorem numbers_ {Q : List Nat → Shared → Prop} (hP : IsPerm s.heap e p st n last ix cy) (h : Q (ix ++ cy) s) : wpAny (model prog w) A (itNumbersFrom (.ref e) 4) Q E s := by
  unfold itNumbersFrom
  refine wpAny_bind (wpAny_load hP (wpAny_pure ?_))
  exact (congrArg (fun l => Q l s) (nums_back (ix ++ cy))).mpr h
/-- a turn -/
theorem next_ {Q : Value → Shared → Prop} (hP : IsPerm s.heap e p st n last ix cy) (hT : s.heap.IsTuple p items) (li : ix.length = n) (li' : ix'.length = n) (n4 : n ≤ 4)
    (hs : (st = 0 ∧ ix' = ix ∧ cy' = cy) ∨ (st = 1 ∧ (n, ix, cy, ix', cy') ∈ trans))
    (go : ∀ h', IsPerm h' e p 1 n (.ref s.heap.objs.size) ix' cy' → h'.get? s.heap.objs.size = some { cls := .type "tuple", data := .seq (ix'.map fun i => items.getD i .none).toArray } → h'.objs.size = s.heap.objs.size + 1 →
      (∀ b o, b ≠ e → s.heap.get? b = some o → h'.get? b = some o) → Q (.ref s.heap.objs.size) { s with heap := h' }) (zi : items.size = n) :
    wpAny (model prog w) A (Builtin.«itertools.permutations.__next__» ⟨[.ref e], []⟩) (fun fin s' => ∃ v, fin = .done (.ret v) ∧ Q v s') E s := by
  obtain ⟨ot, ht, hc, nt, hd⟩ := id hT
  show wpAny _ _ (field (.ref e) 0 >>= _) _ _ _
  refine wpAny_bind (wpAny_field hP rfl (x := .ref p) (by simp) ?_)
  refine wpAny_bind (?_ : wpAny _ _ (itPoolItems (.ref p)) _ _ _)
  unfold itPoolItems
  refine wpAny_bind (wpAny_seqItems ht hd (wpAny_pure ?_))
  refine wpAny_bind (?_ : wpAny _ _ (itIntField (.ref e) 2) _ _ _)
  unfold itIntField
  refine wpAny_bind (wpAny_field hP rfl (x := rawInt n) (by simp) (wpAny_pure ?_))
  refine wpAny_bind (numbers_ hP ?_)
  refine wpAny_bind (?_ : wpAny _ _ (itIntField (.ref e) 1) _ _ _)
  unfold itIntField
  refine wpAny_bind (wpAny_field hP rfl (x := rawInt st) (by simp) (wpAny_pure ?_))
  obtain ⟨hp, g, d, tk, os⟩ := s
  have le : e < hp.objs.size := Heap.lt_size hP
  rcases hs with ⟨rfl, rfl, rfl⟩ | ⟨rfl, hm⟩
  · refine wpAny_bind (wpAny_setField_rec hP (by simp) fun g1 E1 S1 => ?_)
    have S1 : Heap.SameBut e hp g1 := S1
    rw [List.setIfInBounds_toArray] at E1
    have E1 : IsPerm g1 e p 1 n last ix' cy' := E1
    have ix0 : List.take (Int.toNat (n : Int)) (ix' ++ cy') = ix' := by rw [Int.toNat_natCast, ← li, List.take_left]
    dsimp only
    rw [ix0]
    have z1 : g1.objs.size = hp.objs.size := S1.1
    have k1 : ∀ b o, b ≠ e → hp.get? b = some o → g1.get? b = some o := fun b o hb q => (S1.2 b hb).trans q
    have P1 : IsPerm (g1.push { cls := .type "tuple", data := .seq (ix'.map fun i => items.getD i .none).toArray }) e p 1 n last ix' cy' := Heap.get?_push_of_some _ E1
    have T1 : (g1.push { cls := .type "tuple", data := .seq (ix'.map fun i => items.getD i .none).toArray }).get? hp.objs.size = some { cls := .type "tuple", data := .seq (ix'.map fun i => items.getD i .none).toArray } := by
      rw [← z1]
      exact Heap.get?_push_size _ rfl
    refine wpAny_bind (wpAny_newTuple (h := ?_) (by rw [List.length_map, sizeLine_eq]; omega))
    refine wpAny_bind (wpAny_field P1 rfl (x := last) (by simp) ?_)
    refine wpAny_bind (wpAny_setField_rec P1 (by simp) fun g2 E2 S2 => ?_)
    have S2 : Heap.SameBut e (g1.push { cls := .type "tuple", data := .seq (ix'.map fun i => items.getD i .none).toArray }) g2 := S2
    rw [List.setIfInBounds_toArray] at E2
    have E2 : IsPerm g2 e p 1 n (.ref g1.objs.size) ix' cy' := E2
    rw [z1] at E2
    have z2 : g2.objs.size = hp.objs.size + 1 := S2.1.trans ((Heap.size_push ..).trans (congrArg (· + 1) z1))
    exact wpAny_bind (wpAny_letGo (wpAny_pure ⟨_, congrArg (fun k => Fin.done (Flow.ret (Value.ref k))) z1, go g2 E2 ((S2.2 _ (Nat.ne_of_gt le)).trans T1) z2 fun b o hb q => (S2.2 b hb).trans (Heap.get?_push_of_some _ (k1 b o hb q))⟩))
  · have t1 : List.take n (ix ++ cy) = ix := by rw [← li, List.take_left]
    have t2 : List.drop n (ix ++ cy) = cy := by rw [← li, List.drop_left]
    simp only [zi, Int.toNat_natCast]
    rw [t1, t2]
    split
    · rename_i a b heq
      obtain ⟨rfl, rfl, lb⟩ : a = ix' ∧ b = cy' ∧ b.length ≤ 4 := by
        clear go hP hT ht hd li li' n4 zi t1 t2
        simp only [trans, List.mem_cons, List.not_mem_nil, or_false] at hm
        rcases hm with h | h | h | h | h | h | h | h | h | h | h | h | h | h | h | h | h | h | h | h | h | h | h | h | h | h | h | h | h
        all_goals (cases h; cases heq; exact ⟨rfl, rfl, by decide⟩)
      refine wpAny_bind (?_ : wpAny _ _ (itSetNumbersFrom (.ref e) 4 (a ++ b)) _ _ _)
      unfold itSetNumbersFrom
      refine wpAny_updateFields hP rfl ?_ ?_
      · obtain ⟨g1, e1⟩ : ∃ g1, g1 = hp.update e (Obj.mapFields fun fs => fs.extract 0 4 ++ (List.map (fun i : Nat => rawInt i) (a ++ b)).toArray) := ⟨_, rfl⟩
        have S1 : Heap.SameBut e hp g1 := by rw [e1]; exact Heap.SameBut.update ..
        have E1 : IsPerm g1 e p 1 n last a b := by
          rw [e1]
          refine (Heap.get?_update_self _ hP rfl).trans (congrArg some ?_)
          show Obj.mk (.type "itertools.permutations") none (.fields ((fldsP p 1 n last ix cy).toArray.extract 0 4 ++ (List.map (fun i : Nat => rawInt i) (a ++ b)).toArray)) #[] = Obj.mk (.type "itertools.permutations") none (.fields (fldsP p 1 n last a b).toArray) #[]
          have e2 : (fldsP p 1 n last ix cy).toArray.extract 0 4 ++ (List.map (fun i : Nat => rawInt i) (a ++ b)).toArray = (fldsP p 1 n last a b).toArray := by
            simp
          rw [e2]
        have z1 : g1.objs.size = hp.objs.size := S1.1
        have k1 : ∀ b o, b ≠ e → hp.get? b = some o → g1.get? b = some o := fun b o hb q => (S1.2 b hb).trans q
        have t3 : List.take n a = a := by rw [← li', List.take_length]
        rw [t3]
        show wpAny _ _ _ _ _ ⟨hp.update e _, g, d, tk, os⟩
        rw [← e1]
        have P1 : IsPerm (g1.push { cls := .type "tuple", data := .seq (a.map fun i => items.getD i .none).toArray }) e p 1 n last a b := Heap.get?_push_of_some _ E1
        have T1 : (g1.push { cls := .type "tuple", data := .seq (a.map fun i => items.getD i .none).toArray }).get? hp.objs.size = some { cls := .type "tuple", data := .seq (a.map fun i => items.getD i .none).toArray } := by
          rw [← z1]
          exact Heap.get?_push_size _ rfl
        refine wpAny_bind (wpAny_newTuple (h := ?_) (by rw [List.length_map, sizeLine_eq]; omega))
        refine wpAny_bind (wpAny_field P1 rfl (x := last) (by simp) ?_)
        refine wpAny_bind (wpAny_setField_rec P1 (by simp) fun g2 E2 S2 => ?_)
        have S2 : Heap.SameBut e (g1.push { cls := .type "tuple", data := .seq (a.map fun i => items.getD i .none).toArray }) g2 := S2
        rw [List.setIfInBounds_toArray] at E2
        have E2 : IsPerm g2 e p 1 n (.ref g1.objs.size) a b := E2
        rw [z1] at E2
        have z2 : g2.objs.size = hp.objs.size + 1 := S2.1.trans ((Heap.size_push ..).trans (congrArg (· + 1) z1))
        exact wpAny_bind (wpAny_letGo (wpAny_pure ⟨_, congrArg (fun k => Fin.done (Flow.ret (Value.ref k))) z1, go g2 E2 ((S2.2 _ (Nat.ne_of_gt le)).trans T1) z2 fun b0 o hb q => (S2.2 b0 hb).trans (Heap.get?_push_of_some _ (k1 b0 o hb q))⟩))
      · rw [Array.size_append, Array.size_extract, List.size_toArray, List.size_toArray, List.length_map, List.length_append, li', sizeLine_eq]
        omega
    · rename_i heq
      exfalso
      clear go hP hT ht hd li li' n4 zi t1 t2
      simp only [trans, List.mem_cons, List.not_mem_nil, or_false] at hm
      rcases hm with h | h | h | h | h | h | h | h | h | h | h | h | h | h | h | h | h | h | h | h | h | h | h | h | h | h | h | h | h
      all_goals (cases h; cases heq)
end
end PermX

set_option maxHeartbeats 4000000
namespace PermX
open PySem PySem.Spec PyProof.Rows L2
open PySem.Sem (wp)
open PySem.Builtin.Itertools
section
variable {prog : Program} {w : World} {A : Around} {E : Value → Shared → Prop} {s : Shared} {e p : Addr} {n : Nat} {st : Int} {items : Array Value} {last : Value} {ix cy ix' cy' : List Nat}
theorem item_ {Q : Option Value → Shared → Prop} (hP : IsPerm s.heap e p st n last ix cy) (hT : s.heap.IsTuple p items) (li : ix.length = n) (li' : ix'.length = n) (n4 : n ≤ 4)
    (hs : (st = 0 ∧ ix' = ix ∧ cy' = cy) ∨ (st = 1 ∧ (n, ix, cy, ix', cy') ∈ trans))
    (go : ∀ h', IsPerm h' e p 1 n (.ref s.heap.objs.size) ix' cy' → h'.get? s.heap.objs.size = some { cls := .type "tuple", data := .seq (ix'.map fun i => items.getD i .none).toArray } → h'.objs.size = s.heap.objs.size + 1 →
      (∀ b o, b ≠ e → s.heap.get? b = some o → h'.get? b = some o) → Q (some (.ref s.heap.objs.size)) { s with heap := h' }) (zi : items.size = n) :
    wpAny (model prog w) A (pyNext (.ref e)) Q E s := by
  have ty : s.TypeIs (.ref e) "itertools.permutations" := ⟨_, hP, rfl⟩
  unfold pyNext
  refine wpAny_bind (wpAny_attempt (wpAny_callSpecial?_slot (name := Str.ofString "__next__") ty slot_next ?_))
  exact wpAny_call_entry slot_next ty entry_next (next_ hP hT li li' n4 hs (fun h' a1 a2 a3 a4 => wpAny_pure (go h' a1 a2 a3 a4)) zi) (args_next _)
theorem end_ {Q : Option Value → Shared → Prop} (hh : A.handled = none) (hP : IsPerm s.heap e p 1 n last ix cy) (hT : s.heap.IsTuple p items) (li : ix.length = n) (hs : (n, ix, cy) ∈ ends)
    (go : ∀ h', Heap.ExtBut e s.heap h' → Q none { s with heap := h' }) (zi : items.size = n) : wpAny (model prog w) A (pyNext (.ref e)) Q E s := by
  have ty : s.TypeIs (.ref e) "itertools.permutations" := ⟨_, hP, rfl⟩
  unfold pyNext
  refine wpAny_bind (wpAny_attempt (wpAny_callSpecial?_slot (name := Str.ofString "__next__") ty slot_next (wpAny_call_entry slot_next ty entry_next ?_ (args_next _))))
  obtain ⟨ot, ht, hc, nt, hd⟩ := id hT
  show wpAny _ _ (field (.ref e) 0 >>= _) _ _ _
  refine wpAny_bind (wpAny_field hP rfl (x := .ref p) (by simp) ?_)
  refine wpAny_bind (?_ : wpAny _ _ (itPoolItems (.ref p)) _ _ _)
  unfold itPoolItems
  refine wpAny_bind (wpAny_seqItems ht hd (wpAny_pure ?_))
  refine wpAny_bind (?_ : wpAny _ _ (itIntField (.ref e) 2) _ _ _)
  unfold itIntField
  refine wpAny_bind (wpAny_field hP rfl (x := rawInt n) (by simp) (wpAny_pure ?_))
  refine wpAny_bind (numbers_ hP ?_)
  refine wpAny_bind (?_ : wpAny _ _ (itIntField (.ref e) 1) _ _ _)
  unfold itIntField
  refine wpAny_bind (wpAny_field hP rfl (x := rawInt 1) (by simp) (wpAny_pure ?_))
  have t1 : List.take n (ix ++ cy) = ix := by rw [← li, List.take_left]
  have t2 : List.drop n (ix ++ cy) = cy := by rw [← li, List.drop_left]
  simp only [zi, Int.toNat_natCast]
  rw [t1, t2]
  split
  · rename_i a b heq
    exfalso
    clear go hP hT ht hd li zi t1 t2 ty
    simp only [ends, List.mem_cons, List.not_mem_nil, or_false] at hs
    rcases hs with h | h | h | h
    all_goals (cases h; cases heq)
  · refine wpAny_bind (wpAny_setField hP rfl (by simp) ?_)
    unfold itStop
    show wpAny _ _ (newExc (.type "StopIteration") [] >>= _) _ _ _
    refine wpAny_bind ?_
    simp only [newExc, newTuple]
    refine wpAny_bind (wpAny_newObj_type ?_ (by size_fits))
    refine wpAny_bind (m := firstArgMember _ _) (wpAny_of_eq (a := Value.none) (by first | rfl | (simp only [firstArgMember]; rfl)) ?_)
    refine wpAny_newObj_type ?_ (by size_fits)
    simp only [raiseNew]
    refine wpAny_bind (wpAny_handled ?_)
    rw [show A.in1.handled = none from hh]
    refine wpAny_bind (wpAny_pure (wpAny_throw ?_))
    refine wpAny_bind (wpAny_isInstance (T := "StopIteration") (b := true) ⟨_, Heap.get?_push_size _ rfl, rfl⟩ isSubtype_stop ?_)
    exact wpAny_pure (go _ (((Heap.SameBut.update ..).extBut.push _).push _))
theorem iter_ {Q : Value → Shared → Prop} (hP : IsPerm s.heap e p st n last ix cy) (h : Q (.ref e) s) : wpAny (model prog w) A (pyIter (.ref e)) Q E s := by
  have hT : s.TypeIs (.ref e) "itertools.permutations" := ⟨_, hP, rfl⟩
  refine wpAny_pyIter_slot hT slot_iter (wpAny_call_entry slot_iter hT entry_iter ?_ (args_iter _))
  show wpAny _ _ (ret (.ref e)) _ _ s
  exact wpAny_pure ⟨_, rfl, "itertools.permutations", _, hT, slot_next.lookup, h⟩
end
end PermX

set_option maxHeartbeats 4000000
namespace PermX
open PySem PySem.Spec PyProof.Rows L2
open PySem.Sem (wp)
open PySem.Builtin.Itertools
section
variable {prog : Program} {w : World} {A : Around} {E : Value → Shared → Prop} {s : Shared} {r : Addr} {n : Nat} {t u v : Tok}
theorem class_ {Q : Value × List Value → Shared → Prop} (h : Q (.type "itertools.permutations", [.ref r]) s) : wpAny (model prog w) A (itClassAndRest "permutations" ⟨[.type "itertools.permutations", .ref r], []⟩) Q E s := by
  have hsub := called.sub
  unfold itClassAndRest
  wp_walk
  refine wpAny_of_eq (a := true) ((congrArg (fun x => isSubtype (.type "itertools.permutations") (.type x)) (show ("itertools." ++ "permutations" : String) = "itertools.permutations" from by decide)).trans hsub) ?_
  exact wpAny_pure h
theorem named_ {Q : List (Option Value) → Shared → Prop} (h : Q [some (.ref r), none] s) : wpAny (model prog w) A (itBindNamed "permutations" ["iterable", "r"] 1 2 [.ref r] []) Q E s := by
  unfold itBindNamed
  wp_walk
  exact h
theorem new_ (r : Addr) (n : Nat) (t u v : Tok) (n4 : n ≤ 4) :
    Meets (Builtin.«itertools.permutations.__new__» ⟨[.type "itertools.permutations", .ref r], []⟩) (fun A R s => A.handled = none ∧ IsRange s.heap r 0 n 1 t u v ∧
      ∀ (h1 h' : Heap) (tk : Nat) (items : Array Value), (∀ b o, s.heap.get? b = some o → h1.get? b = some o) → (∀ b o, h1.get? b = some o → h'.get? b = some o) → h'.IsTuple h1.objs.size items → items.size = n → (∀ (i : Nat) v, items[i]? = some v → ∃ t, v = .int i t) →
        IsPerm h' (h1.objs.size + 1) h1.objs.size 0 n .none (List.range n) ((List.range n).map fun i => n - i) → R (.ok (.ret (.ref (h1.objs.size + 1)))) { s with heap := h', toks := tk }) :=
  .of_wp fun prog w A R s h => by
    obtain ⟨hh, hr, go⟩ := h
    show wpAny _ _ (itClassAndRest "permutations" ⟨[.type "itertools.permutations", .ref r], []⟩ >>= _) _ _ _
    refine wpAny_bind (class_ ?_)
    dsimp only
    refine wpAny_bind (named_ ?_)
    dsimp only
    have sm : Builtin.Range.small 0 n 1 = true := by
      have : n = 0 ∨ n = 1 ∨ n = 2 ∨ n = 3 ∨ n = 4 := by omega
      rcases this with rfl | rfl | rfl | rfl | rfl <;> decide
    have sz : Builtin.Range.rangeSize 0 n 1 = n := by
      have : n = 0 ∨ n = 1 ∨ n = 2 ∨ n = 3 ∨ n = 4 := by omega
      rcases this with rfl | rfl | rfl | rfl | rfl <;> decide
    refine wpAny_bind (collect_range (A := A.in1) hh hr sm sz (by omega) fun h1 tk acc k1 it => ?_)
    have la : acc.toList.length = n := by rw [Array.length_toList]; exact it.1
    refine wpAny_bind (?_ : wpAny _ _ (pure (acc.toList.length : Int)) _ _ _)
    refine wpAny_pure ?_
    rw [la]
    rw [if_neg (by omega), if_neg (by unfold itTooMany; simp; omega)]
    refine wpAny_bind (wpAny_newTuple ?_ (by rw [la, sizeLine_eq]; omega))
    refine wpAny_bind (?_ : wpAny _ _ (itNewRecord (.type "itertools.permutations") _) _ _ _)
    unfold itNewRecord
    rw [if_pos (by decide +kernel)]
    refine wpAny_newObj_type ?_ ?_
    · obtain ⟨g1, e1⟩ : ∃ g1, g1 = h1.push { cls := .type "tuple", data := .seq acc.toList.toArray } := ⟨_, rfl⟩
      have z1 : g1.objs.size = h1.objs.size + 1 := by rw [e1]; exact Heap.size_push ..
      have T1 : g1.get? h1.objs.size = some { cls := .type "tuple", data := .seq acc.toList.toArray } := by rw [e1]; exact Heap.get?_push_size _ rfl
      have c1 : ∀ b o, h1.get? b = some o → g1.get? b = some o := fun b o q => by rw [e1]; exact Heap.get?_push_of_some _ q
      show wpAny _ _ _ _ _ ⟨(h1.push { cls := .type "tuple", data := .seq acc.toList.toArray }).push _, s.gens, s.drawn, tk, s.os⟩
      have fl : ([Value.ref h1.objs.size, rawInt (if (n : Int).toNat > n then 2 else 0), rawInt (n : Int).toNat, Value.none] ++ List.map (fun i : Nat => rawInt i) (List.range n) ++ List.map (fun i : Nat => rawInt ((n : Int) - i)) (List.range (n : Int).toNat)) = fldsP h1.objs.size 0 n .none (List.range n) ((List.range n).map fun i => n - i) := by
        rw [Int.toNat_natCast, if_neg (by omega)]
        unfold fldsP
        rw [List.map_append, List.map_map]
        refine congrArg (fun l => Value.ref h1.objs.size :: rawInt 0 :: rawInt (n : Int) :: Value.none :: ((List.range n).map (fun i : Nat => rawInt i) ++ l)) (List.map_congr_left fun i hi => ?_)
        have := List.mem_range.mp hi
        exact congrArg rawInt (show (n : Int) - (i : Int) = ((n - i : Nat) : Int) by omega)
      have P : IsPerm ((h1.push { cls := .type "tuple", data := .seq acc.toList.toArray }).push { cls := .type "itertools.permutations", data := .fields (fldsP h1.objs.size 0 n .none (List.range n) ((List.range n).map fun i => n - i)).toArray }) (h1.objs.size + 1) h1.objs.size 0 n .none (List.range n) ((List.range n).map fun i => n - i) := by
        rw [← e1, ← z1]
        exact Heap.get?_push_size _ rfl
      show wpAny _ _ (ret (.ref (h1.push { cls := .type "tuple", data := .seq acc.toList.toArray }).objs.size)) _ _ _
      rw [fl, ← e1, z1]
      rw [← e1] at P
      have ta : acc.toList.toArray = acc := Array.toArray_toList
      rw [ta] at T1
      refine wpAny_pure ⟨_, rfl, go h1 _ tk acc k1 (fun b o q => Heap.get?_push_of_some _ (c1 _ _ q)) ⟨_, Heap.get?_push_of_some _ T1, rfl, _, rfl⟩ it.1 (fun i v q => by
        obtain ⟨t, ht⟩ := it.2 i v q
        exact ⟨t, by rw [ht]; exact congrArg (fun z => Value.int z t) (show (0 : Int) + (i : Int) * 1 = i by omega)⟩) P⟩
    · show Array.size _ ≤ sizeLine + 2
      rw [List.size_toArray, sizeLine_eq]
      simp only [List.length_append, List.length_map, List.length_range, List.length_cons, List.length_nil, Int.toNat_natCast]
      omega
end
end PermX

set_option maxHeartbeats 4000000
/-! for order in permutations(range(n)), n = 1 to 4 -/
namespace PermX
open PySem PySem.Spec PyProof.Rows L2 RtL
/-- what is asked of the rows of numbers, for n at most 4: one check -/
theorem rows_ok : ((List.range 5).all fun n => (nums n).length ≤ 24 && (decide ((nums n)[0]? = if n = 0 then none else some (List.range n, (List.range n).map fun i => n - i)) && (List.range 25).all fun j => match (nums n)[j]?, (nums n)[j + 1]? with
    | some x, some y => decide ((n, x.1, x.2, y.1, y.2) ∈ trans)
    | some x, none => decide ((n, x.1, x.2) ∈ ends)
    | none, _ => true) && (nums n).all fun x => decide (x.1.length = n) && x.1.all fun i => decide (i < n)) = true := by decide +kernel
section
variable {n : Nat} (n4 : n ≤ 4)
include n4 in
theorem row_le : (nums n).length ≤ 24 := by
  have h := List.all_eq_true.mp rows_ok n (List.mem_range.mpr (by omega))
  simp only [Bool.and_eq_true, decide_eq_true_eq] at h
  exact h.1.1
include n4 in
theorem row_0 (n1 : 1 ≤ n) : (nums n)[0]? = some (List.range n, (List.range n).map fun i => n - i) := by
  have h := List.all_eq_true.mp rows_ok n (List.mem_range.mpr (by omega))
  simp only [Bool.and_eq_true, decide_eq_true_eq] at h
  rw [h.1.2.1, if_neg (by omega)]
include n4 in
theorem row_next {j : Nat} {x y : List Nat × List Nat} (hx : (nums n)[j]? = some x) (hy : (nums n)[j + 1]? = some y) : (n, x.1, x.2, y.1, y.2) ∈ trans := by
  have h := List.all_eq_true.mp rows_ok n (List.mem_range.mpr (by omega))
  simp only [Bool.and_eq_true, decide_eq_true_eq] at h
  have hj : j < 24 := Nat.lt_of_lt_of_le (List.getElem?_eq_some_iff.mp hx).1 (row_le n4)
  have z := List.all_eq_true.mp h.1.2.2 j (List.mem_range.mpr (by omega))
  rw [hx, hy] at z
  exact of_decide_eq_true z
include n4 in
theorem row_end {j : Nat} {x : List Nat × List Nat} (hx : (nums n)[j]? = some x) (hy : (nums n)[j + 1]? = none) : (n, x.1, x.2) ∈ ends := by
  have h := List.all_eq_true.mp rows_ok n (List.mem_range.mpr (by omega))
  simp only [Bool.and_eq_true, decide_eq_true_eq] at h
  have hj : j < 24 := Nat.lt_of_lt_of_le (List.getElem?_eq_some_iff.mp hx).1 (row_le n4)
  have z := List.all_eq_true.mp h.1.2.2 j (List.mem_range.mpr (by omega))
  rw [hx, hy] at z
  exact of_decide_eq_true z
include n4 in
theorem row_in {j : Nat} {x : List Nat × List Nat} (hx : (nums n)[j]? = some x) : x.1.length = n ∧ ∀ i ∈ x.1, i < n := by
  have h := List.all_eq_true.mp rows_ok n (List.mem_range.mpr (by omega))
  simp only [Bool.and_eq_true, decide_eq_true_eq] at h
  have z := List.all_eq_true.mp h.2 x (List.mem_of_getElem? hx)
  simp only [Bool.and_eq_true, decide_eq_true_eq] at z
  exact ⟨z.1, fun i hi => of_decide_eq_true (List.all_eq_true.mp z.2 i hi)⟩
end
/-- the n! orders of 0 to n - 1, each in a new tuple -/
def IteP (n : Nat) : It :=
  ⟨fun i _ => i < (nums n).length, fun i H v H' => ∃ T x, v = .ref T ∧ H T = none ∧ H' = upd H T (.tup (x.1.map fun i : Nat => V.int i)) ∧ (nums n)[i]? = some x, fun i _ => (nums n).length ≤ i⟩
/-- the iterator's state ahead of turn i -/
def StP (e p : Addr) (n : Nat) (i : Nat) (h : Heap) : Prop :=
  (∃ st last ix cy, IsPerm h e p st n last ix cy ∧ ((i = 0 ∧ st = 0 ∧ (nums n)[0]? = some (ix, cy)) ∨ ∃ j, i = j + 1 ∧ st = 1 ∧ (nums n)[j]? = some (ix, cy))) ∧
    (∃ items : Array Value, h.IsTuple p items ∧ items.size = n ∧ ∀ (i : Nat) v, items[i]? = some v → ∃ t, v = .int i t) ∧ e ≠ p
theorem vals_of {items : Array Value} (hv : ∀ (i : Nat) v, items[i]? = some v → ∃ t, v = .int i t) : ∀ (l : List Nat), (∀ i ∈ l, i < items.size) → Vals (l.map fun i : Nat => V.int i) (l.map fun i => items.getD i .none)
  | [], _ => .nil
  | i :: l, h => by
    have hi := h i List.mem_cons_self
    refine .cons ?_ (vals_of hv l fun j hj => h j (List.mem_cons_of_mem _ hj))
    obtain ⟨t, ht⟩ := hv i items[i] (Array.getElem?_eq_getElem hi)
    show RelV (V.int i) (items.getD i .none)
    rw [Array.getD_eq_getD_getElem?, Array.getElem?_eq_getElem hi]
    exact ⟨t, ht⟩
theorem turn_perm {P : Program} {w : World} {K : PySem.W.Frag} {tg : Expr} (e p : Addr) {n : Nat} (n4 : n ≤ 4) (n1 : 1 ≤ n) : Turn P w K tg (IteP n) [e, p] e (StP e p n) where
  mem := List.mem_cons_self
  obj := fun i h st b hb => by
    obtain ⟨⟨st, last, ix, cy, hP, _⟩, ⟨items, ⟨o, ho, hc, k, hd⟩, _⟩, _⟩ := st
    simp only [List.mem_cons, List.not_mem_nil, or_false] at hb
    rcases hb with rfl | rfl
    · exact ⟨_, hP, fun v q => by cases q⟩
    · refine ⟨o, ho, fun v q => ?_⟩
      rw [hd] at q
      cases q
  keep := fun i h h' ⟨⟨st, last, ix, cy, hP, q⟩, ⟨items, ⟨o, ho, hr⟩, r⟩, ne⟩ k => ⟨⟨st, last, ix, cy, k e List.mem_cons_self _ hP, q⟩, ⟨items, ⟨o, k p (List.mem_cons_of_mem _ List.mem_cons_self) o ho, hr⟩, r⟩, ne⟩
  self := fun A i s Q E ⟨⟨_, _, _, _, hP, _⟩, _⟩ h => iter_ hP h
  done := by
    rintro X rfl rfl rfl cal i pins s σ H E I fp ⟨⟨st, last, ix, cy, hP, q⟩, ⟨items, hT, zi, hv⟩, ne⟩ hx
    have hx : (nums n).length ≤ i := hx
    obtain ⟨f0, f1, f2, f3, f4, f5⟩ := fp e List.mem_cons_self
    rcases q with ⟨rfl, rfl, h0⟩ | ⟨j, rfl, rfl, hj⟩
    · have := (List.getElem?_eq_some_iff.mp h0).1
      omega
    · exact end_ (I.ok.hd cal) hP hT (row_in n4 hj).1 (row_end n4 hj (List.getElem?_eq_none hx)) (fun h' eb => ⟨rfl, I.turned (t' := s.toks) (fun b o b1 q => eb b o b1 q) f0 f1 f3 f4 f5⟩) zi
  item := by
    rintro X rfl rfl rfl cal i pins s σ H E I fp ⟨⟨st, last, ix, cy, hP, q⟩, ⟨items, hT, zi, hv⟩, ne⟩ hx
    have hx : i < (nums n).length := hx
    obtain ⟨x, hx⟩ : ∃ x, (nums n)[i]? = some x := ⟨_, List.getElem?_eq_getElem hx⟩
    obtain ⟨lx, mx⟩ := row_in n4 hx
    obtain ⟨li, hs⟩ : ix.length = n ∧ ((st = 0 ∧ x.1 = ix ∧ x.2 = cy) ∨ (st = 1 ∧ (n, ix, cy, x.1, x.2) ∈ trans)) := by
      rcases q with ⟨rfl, rfl, h0⟩ | ⟨j, rfl, rfl, hj⟩
      · rw [hx] at h0
        cases h0
        exact ⟨lx, .inl ⟨rfl, rfl, rfl⟩⟩
      · exact ⟨(row_in n4 hj).1, .inr ⟨rfl, row_next n4 hj hx⟩⟩
    have le : e < s.heap.objs.size := Heap.lt_size hP
    obtain ⟨op, hop, hcp, kp, hdp⟩ := id hT
    have lp : p < s.heap.objs.size := Heap.lt_size hop
    refine item_ (ix' := x.1) (cy' := x.2) hP hT li lx n4 hs (fun h1 P1 T1 z1 k1 => ⟨_, rfl, ?_⟩) zi
    refine go_of (s := { s with heap := h1 }) P1 rfl rfl (by decide) ?_
    have ob : ObjOk X.prog X.w (upd H s.heap.objs.size (.tup (x.1.map fun i : Nat => V.int i))) h1 s.heap.objs.size (.tup (x.1.map fun i : Nat => V.int i)) := ⟨by rw [List.length_map, lx, sizeLine_eq]; omega, _, vals_of hv x.1 (by rw [zi]; exact mx), ⟨_, T1, rfl, _, rfl⟩⟩
    have I1 : Inv X pins σ (upd H s.heap.objs.size (.tup (x.1.map fun i : Nat => V.int i))) { s with heap := h1 } := I.turnedNew (t' := s.toks) (ch := [e, p]) (fun b o hb q => k1 b o (fun z => hb (by rw [z]; exact List.mem_cons_self)) q) fp (Nat.le_refl _) ob
    refine ⟨.ref s.heap.objs.size, _, I1, rfl, ⟨_, x, rfl, I.hok.fresh (Nat.le_refl _), rfl, hx⟩, ⟨⟨1, _, x.1, x.2, P1, .inr ⟨i, rfl, rfl, hx⟩⟩, ⟨items, ⟨op, k1 _ _ (Ne.symm ne) hop, hcp, kp, hdp⟩, zi, hv⟩, ne⟩, fun b hb => ?_⟩
    have lb : b < s.heap.objs.size := by
      simp only [List.mem_cons, List.not_mem_nil, or_false] at hb
      rcases hb with rfl | rfl <;> assumption
    rw [upd_ne (Nat.ne_of_lt lb)]
    exact (fp b hb).1
def iPerm (tr : L2.St → Hp → (Int → Int → Hp → Prop) → Prop) : TI := fun σ H R => tr σ H fun a b H1 => a = 0 ∧ ∃ n : Nat, b = n ∧ 1 ≤ n ∧ n ≤ 4 ∧ R (IteP n) H1
theorem pi_perm {X : Cx} {tg e : Expr} {tr : L2.St → Hp → (Int → Int → Hp → Prop) → Prop} {x : Str} {p pos : Pos} (hg : Gl X x) (hm : X.mg x = some (.type "itertools.permutations")) (cal : X.calm = true) (he : PRg X e tr) (na : starEach [e] X.env = (false, eval e X.env) :: starEach [] X.env := by rfl)
    (hd : (x == ("__debug__" : Str)) = false := by decide) : PI X tg (.Call (.Name x p) [e] [] pos) (iPerm tr) := by
  refine ⟨fun pins s σ H R I h => Call_ (ld_glob I hg hm (PyProof.Rows.callWith_type1 (args_cons (thn (he pins s σ H _ I h) fun v s1 hh => args_nil ?_) na) na) hd)⟩
  obtain ⟨r, a, b, t, u, v', H1, rfl, hr, I1, rfl, n, rfl, n1, n4, q⟩ := hh
  refine callType_new called (by decide) (typeCall _) (newCall _) (fun obj => F.args_object_init_2 obj _) entry_new (new_ r n t u v' n4) ⟨I1.ok.hd cal, hr, fun h1 h' tk items k1 k2 hT zi hv hP => ⟨⟨_, hP, rfl⟩, iter_ hP ?_⟩⟩
  have J : Inv X pins σ H1 { s1 with heap := h1 } := I1.kept (t' := s1.toks) k1
  have J2 : Inv X pins σ H1 { s1 with heap := h', toks := tk } := J.kept (t' := tk) k2
  refine ⟨h1.objs.size + 1, [h1.objs.size + 1, h1.objs.size], _, _, H1, rfl, J2, turn_perm (h1.objs.size + 1) h1.objs.size n4 n1, ⟨⟨0, _, _, _, hP, .inl ⟨rfl, rfl, row_0 n4 n1⟩⟩, ⟨items, hT, zi, hv⟩, Nat.succ_ne_self _⟩, fun b hb => ?_, q⟩
  have lb : h1.objs.size ≤ b := by
    simp only [List.mem_cons, List.not_mem_nil, or_false] at hb
    rcases hb with rfl | rfl
    · exact Nat.le_succ _
    · exact Nat.le_refl _
  exact J.fpOk lb (J.hok.fresh lb)
theorem walk_perm {n : Nat} : Walk (IteP n) (nums n).length (fun _ => True) fun i H v H' => ∃ T x, v = .ref T ∧ H T = none ∧ H' = upd H T (.tup (x.1.map fun i : Nat => V.int i)) ∧ (nums n)[i]? = some x :=
  ⟨fun i _ hi _ => hi, fun _ _ => Nat.le_refl _, fun i H v H' _ _ h => h⟩
end PermX

set_option maxHeartbeats 600000
namespace K11
open PySem PySem.Spec PyProof.Rows L2 RtL ErL StX NSet
open Grp (El mul)
/-- how many pairs stand crossed among the first j of place i, behind i whole rows -/
def crs (l : List Nat) (i j : Nat) : Nat := ((List.range j).filter fun k => decide (l.getD k 0 > l.getD i 0)).length
def crossed (l : List Nat) (i : Nat) : Nat := ((List.range i).map fun i => crs l i i).sum
def par (l : List Nat) : Int := if crossed l l.length % 2 = 1 then -1 else 1
theorem crs_succ (l : List Nat) (i j : Nat) : crs l i (j + 1) = crs l i j + if l.getD j 0 > l.getD i 0 then 1 else 0 := by
  unfold crs
  rw [List.range_succ, List.filter_append, List.length_append]
  by_cases h : l.getD j 0 > l.getD i 0
  · rw [if_pos h, List.filter_cons_of_pos (by simpa using h)]
    rfl
  · rw [if_neg h, List.filter_cons_of_neg (by simpa using h)]
    rfl
theorem crossed_succ (l : List Nat) (i : Nat) : crossed l (i + 1) = crossed l i + crs l i i := by
  unfold crossed
  rw [List.range_succ, List.map_append, List.sum_append]
  simp
theorem crs_le (l : List Nat) (i j : Nat) : crs l i j ≤ j := by
  unfold crs
  exact Nat.le_trans (List.length_filter_le ..) (by rw [List.length_range]; exact Nat.le_refl _)
theorem crossed_le (l : List Nat) : ∀ i, i ≤ 4 → crossed l i ≤ 16
  | 0, _ => by simp [crossed]
  | 1, _ => by have := crs_le l 0 0; rw [crossed_succ]; simp [crossed]; omega
  | 2, _ => by have := crs_le l 0 0; have := crs_le l 1 1; rw [crossed_succ, crossed_succ]; simp [crossed]; omega
  | 3, _ => by have := crs_le l 0 0; have := crs_le l 1 1; have := crs_le l 2 2; rw [crossed_succ, crossed_succ, crossed_succ]; simp [crossed]; omega
  | 4, _ => by have := crs_le l 0 0; have := crs_le l 1 1; have := crs_le l 2 2; have := crs_le l 3 3; rw [crossed_succ, crossed_succ, crossed_succ, crossed_succ]; simp [crossed]; omega
  | i + 5, h => by omega
section
variable {P : Program} {w : World} {K : Fr} {mg : Str → Option Value} {base : Heap} {f : Addr} {fd : FuncData}
abbrev NPa : List Str := ["order", "crossed", "later", "sooner"]
theorem scPa : FnScope NPa ["order"] (defScope (top 21)) := ⟨rfl, rfl, rfl, by decide +kernel, rfl, by decide +kernel, by decide +kernel⟩
def spPa : Sp := fun vs H Q _ => ∃ (a : Addr) (l : List Nat), vs = [.ref a] ∧ H a = some (.tup (nv l)) ∧ l.length ≤ 4 ∧ ∀ H', Same H H' → Q (.int (par l)) H'
theorem ok_pa (F : FunD K "parity" "parity" (defArgs (top 21)) (defBody (top 21)) (defScope (top 21)) [] [] f fd) (T : TT K mg) : FnOk P w K mg base CX0 1 f fd ["order"] spPa := by
  refine F.ok scPa (fun vs H Q E h => ?_) (fun cdv A outer s H vs Q E hr h => ?_)
  · obtain ⟨a, l, rfl, _⟩ := h
    rfl
  · obtain ⟨a, l, rfl, ea, l4, qq⟩ := h
    refine ⟨_, PSs.nox (pss_cons (ps_setLc2 (i := 1) (own := [("later", 2), ("sooner", 3)]) (vs1 := [3]) (g := gName 2) (g1 := gName 3) (tt := tYes) (by rfl) scPa.nd rfl rfl (sw_true rfl rfl rfl (by decide +kernel)) (pi_range1 (by rfl) T.fre (pa_cons (pe_callB call_len_seq (by rfl) T.fre (by decide +kernel) (pa_cons (pv 0) pa_nil)) pa_nil)) (blkOk_by (N := NPa) (sc := defScope (top 21)) (by decide +kernel)) (by decide)
      (fun _ _ _ _ _ => pg_name (i := 2) scPa.nd rfl (Or.inl rfl)) (fun _ _ _ _ _ => pts_nil) (fun _ _ _ _ _ => pi_range1 (by rfl) T.fre (pa_cons (pv 2) pa_nil)) (fun _ _ _ _ _ => pg_name (i := 3) scPa.nd rfl (Or.inl rfl))
      (fun _ _ _ _ _ => pts_one (pt_cmpR op_gt (pe_ix (r := rIxT K) ix_tup (pv 0) (pv 3) (fun _ _ => rfl)) (pe_ix (r := rIxT K) ix_tup (pv 0) (pv 2) (fun _ _ => rfl)) (nomark _))) (fun _ _ _ _ _ => pe_int))
      (pss_one (ps_ret (pe_ifExp (pt_cmpR op_eq (pe_op op_mod (pe_callB call_len_seq (by rfl) T.fre (by decide +kernel) (pa_cons (pv 1) pa_nil)) pe_int) pe_int (nomark _)) (pe_un un_neg pe_int) pe_int)))), ?_⟩
    have lz : 10000 ≤ sizeLine := by rw [sizeLine_eq]; decide
    have lv : (nv l).length = l.length := List.length_map _
    refine ⟨_, rfl, a, _, rfl, .inr (SqT.of ea), _, rfl, by omega, by omega, fun D nD => ⟨fun i m H' => m = l.length - i ∧ i ≤ l.length ∧ Same H H' ∧ H' D = some (.lst (List.replicate (crossed l i) (V.int 1))), ⟨_, rfl, Nat.zero_le _, same_new nD, upd_same⟩, ?_⟩⟩
    rintro i m H7 ⟨rfl, hi, s7, e7⟩
    by_cases hlt : i < l.length
    · refine .inr ⟨?_, fun H' => Same H H' ∧ H' D = some (.lst (List.replicate (crossed l (i + 1)) (V.int 1))), fun H' z => ⟨l.length - (i + 1), by omega, rfl, hlt, z.1, z.2⟩, ?_⟩
      · show i < ((nv l).length : Int).toNat
        omega
      · rintro x H8 ⟨rfl, rfl⟩
        refine ⟨rfl, _, rfl, _, rfl, by omega, by omega, fun j k H' => k = i - j ∧ j ≤ i ∧ Same H H' ∧ H' D = some (.lst (List.replicate (crossed l i + crs l i j) (V.int 1))), ⟨_, rfl, Nat.zero_le _, s7, by rw [show crs l i 0 = 0 from rfl]; exact e7⟩, ?_⟩
        rintro j k H8 ⟨rfl, hj, s8, e8⟩
        by_cases hjt : j < i
        · refine .inr ⟨?_, fun H' => Same H H' ∧ H' D = some (.lst (List.replicate (crossed l i + crs l i (j + 1)) (V.int 1))), fun H' z => ⟨i - (j + 1), by omega, rfl, hjt, z.1, z.2⟩, ?_⟩
          · show j < ((0 : Int) + i).toNat
            omega
          · rintro x H9 ⟨rfl, rfl⟩
            have ev : ∀ c : Nat, c < l.length → atI (nv l) (0 + (c : Int)) = some (.int ((l.getD c 0 : Nat) : Int)) := fun c hc => by
              rw [Int.zero_add]
              refine atI_nat ?_
              rw [List.getElem?_map, List.getD_eq_getElem?_getD, List.getElem?_eq_getElem hc]
              rfl
            refine ⟨rfl, _, rfl, _, rfl, a, _, _, _, rfl, rfl, SqT.of (s8 _ _ ea), ev j (by omega), _, rfl, _, rfl, a, _, _, _, rfl, rfl, SqT.of (s8 _ _ ea), ev i hlt, _, _, rfl, rfl, _, rfl, ?_⟩
            rw [crs_succ]
            by_cases hg : l.getD j 0 > l.getD i 0
            · rw [if_pos hg, decide_eq_true (show ((l.getD i 0 : Nat) : Int) < ((l.getD j 0 : Nat) : Int) by omega)]
              refine iteT ⟨_, e8, ?_, ?_, ?_⟩
              · rw [List.length_replicate]
                have := crossed_le l (i + 1) (by omega)
                rw [crossed_succ] at this
                have := crs_le l i j
                have := crossed_le l i (by omega)
                omega
              · intro b o e
                rw [upd_ne (ne_of_none e nD)]
                exact s8 _ _ e
              · rw [upd_same, ← Nat.add_assoc, List.replicate_succ']
            · rw [if_neg hg, decide_eq_false (show ¬ ((l.getD i 0 : Nat) : Int) < ((l.getD j 0 : Nat) : Int) by omega)]
              exact iteF ⟨s8, e8⟩
        · refine .inl ⟨?_, s8, ?_⟩
          · show ((0 : Int) + i).toNat ≤ j
            omega
          · rw [crossed_succ]
            obtain rfl : j = i := by omega
            exact e8
    · refine .inl ⟨?_, ?_⟩
      · show ((nv l).length : Int).toNat ≤ i
        omega
      · obtain rfl : i = l.length := by omega
        have lr : ((List.replicate (crossed l l.length) (V.int 1)).length : Int) % 2 = ((crossed l l.length % 2 : Nat) : Int) := by rw [List.length_replicate]; rfl
        refine ⟨_, rfl, D, _, rfl, .inl (SqL.of e7), _, _, rfl, rfl, (by show (0 : Int) < 2; decide), rfl, _, rfl, ?_⟩
        have qp := qq H7 s7
        unfold par at qp
        by_cases hp : crossed l l.length % 2 = 1
        · rw [if_pos hp] at qp
          rw [decide_eq_true (show V.int (((List.replicate (crossed l l.length) (V.int 1)).length : Int) % 2) = V.int 1 by rw [lr, hp]; rfl)]
          exact iteT ⟨1, rfl, qp⟩
        · rw [if_neg hp] at qp
          rw [decide_eq_false (show ¬ V.int (((List.replicate (crossed l l.length) (V.int 1)).length : Int) % 2) = V.int 1 by rw [lr]; intro z; injection z with z; omega)]
          exact iteF qp
abbrev PaG (P : Program) (w : World) (K : Fr) (mg : Str → Option Value) (base : Heap) : Prop := ∃ f d, Gd P w K mg base 1 "parity" f d ["order"] spPa
end
end K11

set_option maxHeartbeats 600000
namespace K11
open PySem PySem.Spec PyProof.Rows L2 RtL ErL StX NSet PermX
open Grp (El mul)
section
variable {P : Program} {w : World} {K : Fr} {mg : Str → Option Value} {base : Heap} {f : Addr} {fd : FuncData}
theorem scCe : FnScope ["name", "sort", "many"] ["name", "sort", "many"] (defScope (top 28)) := ⟨rfl, rfl, rfl, by decide +kernel, rfl, by decide +kernel, by decide +kernel⟩
def spCe : Sp := fun vs H Q _ => ∃ (nm z : Str) (n : Nat), vs = [.str nm, .str z, .int n] ∧ NmOk nm ∧ NmOk z ∧ 1 ≤ n ∧ n ≤ 4 ∧ Q .non H
theorem ok_ce (F : FunD K "check_even_slots" "check_even_slots" (defArgs (top 28)) (defBody (top 28)) (defScope (top 28)) [] [] f fd) (T : TT K mg) (A1 : CkG P w K mg base) (A2 : IsintG P w K mg base) : FnOk P w K mg base CX0 3 f fd ["name", "sort", "many"] spCe := by
  obtain ⟨f1, d1, G1⟩ := A1
  obtain ⟨f2, d2, G2⟩ := A2
  obtain ⟨tk, gM⟩ := T.most
  refine F.ok scCe (fun vs H Q E h => ?_) (fun cdv A outer s H vs Q E hr h => ?_)
  · obtain ⟨nm, z, n, rfl, _⟩ := h
    rfl
  · obtain ⟨nm, z, n, rfl, h1, h2, n1, n4, qq⟩ := h
    refine ⟨_, PSs.nox (pss_cons (ps_expr (pe_gd G1 (hr.mono (by decide)) (by rfl) (pa_cons (pv 0) pa_nil))) (pss_cons (ps_expr (pe_gd G1 (hr.mono (by decide)) (by rfl) (pa_cons (pv 1) pa_nil)))
      (pss_one (ps_if (PW.pt (pw_or (pt_not (pt_val (pe_gd G2 (hr.mono (by decide)) (by rfl) (pa_cons (pv 2) pa_nil)))) (pw_or1 (pt_not (pt_chain op_le op_le pe_int (pv 2) (pe_glob (v := .int 4) (by rfl) gM ⟨tk, rfl⟩)))))) (pss_one ps_never) pss_nil)))), ?_⟩
    exact ⟨_, rfl, nm, rfl, h1, _, rfl, z, rfl, h2, _, rfl, n, rfl, true, rfl, iteF ⟨_, rfl, _, _, rfl, rfl, true, congrArg V.bl (decide_eq_true (by omega)), iteT ⟨_, _, rfl, rfl, true, congrArg V.bl (decide_eq_true (by omega)), iteF qq⟩⟩⟩
abbrev CeG (P : Program) (w : World) (K : Fr) (mg : Str → Option Value) (base : Heap) : Prop := ∃ f d, Gd P w K mg base 3 "check_even_slots" f d ["name", "sort", "many"] spCe
/-! ### symmetric -/
abbrev NSy : List Str := ["cls", "name", "sort", "many", "slots", "turns", "order"]
theorem scSy : FnScope NSy ["cls", "name", "sort", "many"] (defScope (inT 1)) := ⟨rfl, rfl, rfl, by decide +kernel, rfl, by decide +kernel, by decide +kernel⟩
theorem scAl : FnScope NSy ["cls", "name", "sort", "many"] (defScope (inT 2)) := ⟨rfl, rfl, rfl, by decide +kernel, rfl, by decide +kernel, by decide +kernel⟩
/-- the turns that a maker hands on -/
def symT (n : Nat) : List El := (nums n).map fun x => (x.1, 1)
def altT (n : Nat) : List El := (nums n).map fun x => (x.1, par x.1)
/-- what a maker makes -/
def spMk (K : Fr) (ts : Nat → List El) : Sp := fun vs H Q _ => ∃ (nm z : Str) (n : Nat), vs = [.ref (TC K), .str nm, .str z, .int n] ∧ NmOk nm ∧ NmOk z ∧ 1 ≤ n ∧ n ≤ 4 ∧
  ∀ (x : Addr) (es : List (Addr × El)) (H' : Hp), Same H H' → H x = none → TabAt K H' x nm (List.replicate n z) es → els es = srt (Grp.found n (ts n)) → Q (.ref x) H'
theorem turns_ok {n : Nat} {z : Str} (n4 : n ≤ 4) {x : List Nat × List Nat} (hx : x ∈ nums n) {sg : Int} (hs : sg = 1 ∨ sg = -1) : Grp.Ok (List.replicate n z).length (x.1, sg) ∧ Keeps (List.replicate n z) (x.1, sg) := by
  have all : ((List.range 5).all fun n => (nums n).all fun x => decide (x.1.Perm (List.range n))) = true := by decide +kernel
  have pm : x.1.Perm (List.range n) := of_decide_eq_true (List.all_eq_true.mp (List.all_eq_true.mp all n (List.mem_range.mpr (by omega))) x hx)
  rw [List.length_replicate]
  have ok : Grp.Ok n (x.1, sg) := ⟨pm, hs⟩
  refine ⟨ok, fun i hi => ?_⟩
  rw [List.length_replicate] at hi
  have li : i < x.1.length := by rw [show x.1.length = n from ok.len]; exact hi
  have lt : x.1.getD i 0 < n := ok.lt (by rw [List.getD_eq_getElem?_getD, List.getElem?_eq_getElem li]; exact List.getElem_mem li)
  show (List.replicate n z)[x.1.getD i 0]? = _
  rw [List.getElem?_replicate, List.getElem?_replicate, if_pos lt, if_pos hi]
theorem par_or (l : List Nat) : par l = 1 ∨ par l = -1 := by
  unfold par
  by_cases h : crossed l l.length % 2 = 1
  · rw [if_pos h]; exact .inr rfl
  · rw [if_neg h]; exact .inl rfl
theorem flat_rep (n : Nat) (v : V) : (List.replicate n [v]).flatten = List.replicate n v := by
  induction n with
  | zero => rfl
  | succ n ih => rw [List.replicate_succ, List.flatten_cons, ih]; rfl
theorem strs_rep (n : Nat) (z : Str) : List.replicate n (V.str z) = (List.replicate n z).map V.str := by rw [List.map_replicate]
/-- what is handed to Table -/
theorem mk_in {H : Hp} {nm z : Str} {n : Nat} {a : Addr} {ts : List (Addr × El)} {sg : List Nat → Int} (hsg : ∀ l, sg l = 1 ∨ sg l = -1) (h1 : NmOk nm) (h2 : NmOk z) (n1 : 1 ≤ n) (n4 : n ≤ 4) (ea : H a = some (.lst ((List.replicate n z).map V.str))) (ht : ∀ p ∈ ts, ElAt H p.1 p.2)
    (he : els ts = (nums n).map fun x => (x.1, sg x.1)) : TabIn H nm a (List.replicate n z) ts := by
  refine ⟨h1, .inl ea, fun y hy => by rw [List.eq_of_mem_replicate hy]; exact h2, by rw [List.length_replicate]; exact n1, by rw [List.length_replicate]; exact n4, fun p hp => ?_, ?_⟩
  · have m : p.2 ∈ els ts := List.mem_map.mpr ⟨p, hp, rfl⟩
    rw [he] at m
    obtain ⟨x, hx, e⟩ := List.mem_map.mp m
    refine ⟨ht p hp, ?_⟩
    rw [← e]
    exact turns_ok n4 hx (hsg _)
  · have l : (els ts).length = (nums n).length := by rw [he, List.length_map]
    rw [List.length_map] at l
    have := row_le n4
    omega
/-- one turn more in the list at D -/
theorem grow {H0 H7 H9 : Hp} {D T t : Addr} {ts : List (Addr × El)} {x : List Nat} {sg : Int} (s7 : Same H0 H7) (nD : H0 D = none) (e7 : H7 D = some (.lst (refs ts))) (ht : ∀ q ∈ ts, ElAt H7 q.1 q.2) (s9 : Same H7 H9) (eT : H9 T = some (.tup (nv x))) (nt : H9 t = none) :
    (upd H9 t (.tup [.ref T, .int sg])) D = some (.lst (refs ts)) ∧ Same H0 (upd (upd H9 t (.tup [.ref T, .int sg])) D (.lst (refs ts ++ [.ref t]))) ∧ (upd (upd H9 t (.tup [.ref T, .int sg])) D (.lst (refs ts ++ [.ref t]))) D = some (.lst (refs (ts ++ [(t, (x, sg))]))) ∧
      ∀ q ∈ ts ++ [(t, (x, sg))], ElAt (upd (upd H9 t (.tup [.ref T, .int sg])) D (.lst (refs ts ++ [.ref t]))) q.1 q.2 := by
  have sA : Same H9 (upd H9 t (.tup [.ref T, .int sg])) := same_new nt
  have eD : (upd H9 t (.tup [.ref T, .int sg])) D = some (.lst (refs ts)) := sA _ _ (s9 _ _ e7)
  refine ⟨eD, fun b o e => ?_, by rw [upd_same]; show _ = some (HO.lst (List.map _ _)); rw [List.map_append]; rfl, fun q hq => ?_⟩
  · rw [upd_ne (ne_of_none e nD)]
    exact sA _ _ (s9 _ _ (s7 _ _ e))
  · have el : ElAt (upd H9 t (.tup [.ref T, .int sg])) q.1 q.2 := by
      rcases List.mem_append.mp hq with h | h
      · exact ((ht q h).same s9).same sA
      · rw [List.mem_singleton.mp h]
        exact ⟨T, upd_same, sA _ _ eT⟩
    exact el.but (x := D) (But.of (Same.refl _)).put (fun vs z => by rw [eD] at z; cases z)
theorem take_one {α β : Type} {l : List α} {g : α → β} {i : Nat} {x : α} (h : l[i]? = some x) : (l.take (i + 1)).map g = (l.take i).map g ++ [g x] := by
  rw [List.take_add_one, h, List.map_append]
  rfl
theorem mk_ok : ((List.range 5).all fun n => (decide ((List.range n, -1) ∉ Grp.found n (symT n)) && decide ((List.range n, -1) ∉ Grp.found n (altT n)))) = true := by decide +kernel
theorem ok_sy {q : Str} (F : FunD K "symmetric" q (defArgs (inT 1)) (defBody (inT 1)) (defScope (inT 1)) [] [] f fd) (T : TT K mg) (A1 : CeG P w K mg base) (I : TId P w K mg base) : FnOk P w K mg base CX0 6 f fd ["cls", "name", "sort", "many"] (spMk K symT) := by
  obtain ⟨f1, d1, G1⟩ := A1
  refine F.ok scSy (fun vs H Q E h => ?_) (fun cdv A outer s H vs Q E hr h => ?_)
  · obtain ⟨nm, z, n, rfl, _⟩ := h
    rfl
  · obtain ⟨nm, z, n, rfl, h1, h2, n1, n4, qq⟩ := h
    refine ⟨_, PSs.nox (pss_cons (ps_expr (pe_gd G1 (hr.mono (by decide)) (by rfl) (pa_cons (pv 1) (pa_cons (pv 2) (pa_cons (pv 3) pa_nil)))))
      (pss_cons (ps_set (i := 4) scSy.nd rfl (Or.inl rfl) (pe_op op_rep (pe_lst (pa_cons (pv 2) pa_nil)) (pv 3)))
      (pss_cons (ps_setLc (i := 5) (own := [("order", 6)]) (g := gName 6) (tt := tYes) (by rfl) scSy.nd rfl rfl (sw_true rfl rfl rfl (by decide +kernel)) (pi_perm (by rfl) T.perm (by rfl) (prg_1 (by rfl) T.fre (pv 3))) (blkOk_by (N := NSy) (sc := defScope (inT 1)) (by decide +kernel)) (fun _ _ _ _ _ => pg_name (i := 6) scSy.nd rfl (Or.inl rfl)) (fun _ _ _ _ _ => pts_nil)
        (fun _ _ _ _ _ => pe_tup (pa_cons (pv 6) (pa_cons pe_int pa_nil))))
      (pss_one (ps_ret (pe_makeRS T.mkr I hr (by rfl) (T.gl "Table" (by decide)) pass0 (pa_cons (pv 1) (pa_cons (pv 4) (pa_star (pv 5) pa_nil))))))))), ?_⟩
    have lz : 10000 ≤ sizeLine := by rw [sizeLine_eq]; decide
    refine ⟨_, rfl, _, rfl, _, rfl, nm, z, n, rfl, h1, h2, n1, n4, ?_⟩
    refine ⟨_, rfl, by show 1 ≤ sizeLine; omega, fun p np => ⟨_, rfl, p, n, [.str z], rfl, rfl, upd_same, by omega, by omega, by show 1 * ((n : Int)).toNat ≤ sizeLine; omega, fun p2 np2 => ?_⟩⟩
    have s1 : Same H (upd H p (.lst [.str z])) := same_new np
    have s2 : Same H (upd (upd H p (.lst [.str z])) p2 (.lst (List.replicate ((n : Int)).toNat [V.str z]).flatten)) := s1.trans (same_new np2)
    have e2 : (upd (upd H p (.lst [.str z])) p2 (.lst (List.replicate ((n : Int)).toNat [V.str z]).flatten)) p2 = some (.lst ((List.replicate n z).map V.str)) := by rw [upd_same, Int.toNat_natCast, flat_rep, strs_rep]
    refine ⟨_, rfl, n, rfl, rfl, n, rfl, n1, n4, fun D nD => ?_⟩
    refine lc_it walk_perm (fun i H' => Same (upd (upd H p (.lst [.str z])) p2 (.lst (List.replicate ((n : Int)).toNat [V.str z]).flatten)) H' ∧ ∃ ts : List (Addr × El), H' D = some (.lst (refs ts)) ∧ (∀ q ∈ ts, ElAt H' q.1 q.2) ∧ els ts = ((nums n).take i).map fun x => (x.1, 1)) ⟨same_new nD, [], upd_same, (fun q hq => nomatch hq), rfl⟩ (fun i H' _ _ => trivial) ?_ ?_
    · rintro i v H7 H8 hi ⟨s7, ts, e7, ht, hs⟩ ⟨T, x, rfl, nT, rfl, hx⟩
      have s8 : Same H7 (upd H7 T (.tup (x.1.map fun i : Nat => V.int i))) := same_new nT
      refine ⟨rfl, _, rfl, by show 2 ≤ sizeLine; omega, fun t nt => ?_⟩
      obtain ⟨g1, g2, g3, g4⟩ := grow (sg := 1) s7 nD e7 ht s8 upd_same nt
      refine ⟨_, g1, ?_, g2, ts ++ [(t, (x.1, 1))], g3, g4, ?_⟩
      · have l : (els ts).length = _ := congrArg List.length hs
        rw [List.length_map, List.length_map, List.length_take] at l
        have := row_le n4
        rw [List.length_map]
        omega
      · rw [take_one hx, ← hs]
        exact List.map_append
    · rintro H7 ⟨s7, ts, e7, ht, hs⟩
      rw [List.take_length] at hs
      have ti : TabIn H7 nm p2 (List.replicate n z) ts := mk_in (sg := fun _ => 1) (fun _ => .inl rfl) h1 h2 n1 n4 (s7 _ _ e2) ht hs
      have hv : (List.range (List.replicate n z).length, -1) ∉ Grp.found (List.replicate n z).length (els ts) := by
        have h := List.all_eq_true.mp mk_ok n (List.mem_range.mpr (by omega))
        simp only [Bool.and_eq_true, decide_eq_true_eq] at h
        rw [List.length_replicate, hs]
        exact h.1
      refine ⟨_, rfl, _, rfl, _, rfl, D, refs ts, rfl, .inr (SqL.of e7), ?_⟩
      show ∀ x dx, H7 x = none → H7 dx = none → dx ≠ x → spTi K (.ref x :: .str nm :: .ref p2 :: (refs ts ++ [])) _ _ _
      rw [List.append_nil]
      refine fun x dx nx nd ne => madeT_at nx nd ne ti hv fun H' es' s' ta' hs' => ⟨rfl, qq x es' H' (s2.trans (s7.trans s')) (gone (s2.trans s7) nx) ta' ?_⟩
      rw [hs', List.length_replicate, hs]
      rfl
abbrev SyG (P : Program) (w : World) (K : Fr) (mg : Str → Option Value) (base : Heap) : Prop := ∃ d, FnOk P w K mg base CX0 6 (recA K (TC K) "symmetric" "classmethod") d ["cls", "name", "sort", "many"] (spMk K symT) ∧ Binds K d ["cls", "name", "sort", "many"] []
theorem ok_al {q : Str} (F : FunD K "alternating" q (defArgs (inT 2)) (defBody (inT 2)) (defScope (inT 2)) [] [] f fd) (T : TT K mg) (A1 : CeG P w K mg base) (A2 : PaG P w K mg base) (I : TId P w K mg base) : FnOk P w K mg base CX0 6 f fd ["cls", "name", "sort", "many"] (spMk K altT) := by
  obtain ⟨f1, d1, G1⟩ := A1
  obtain ⟨f2, d2, G2⟩ := A2
  refine F.ok scAl (fun vs H Q E h => ?_) (fun cdv A outer s H vs Q E hr h => ?_)
  · obtain ⟨nm, z, n, rfl, _⟩ := h
    rfl
  · obtain ⟨nm, z, n, rfl, h1, h2, n1, n4, qq⟩ := h
    refine ⟨_, PSs.nox (pss_cons (ps_expr (pe_gd G1 (hr.mono (by decide)) (by rfl) (pa_cons (pv 1) (pa_cons (pv 2) (pa_cons (pv 3) pa_nil)))))
      (pss_cons (ps_set (i := 4) scAl.nd rfl (Or.inl rfl) (pe_op op_rep (pe_lst (pa_cons (pv 2) pa_nil)) (pv 3)))
      (pss_cons (ps_setLc (i := 5) (own := [("order", 6)]) (g := gName 6) (tt := tYes) (by rfl) scAl.nd rfl rfl (sw_true rfl rfl rfl (by decide +kernel)) (pi_perm (by rfl) T.perm (by rfl) (prg_1 (by rfl) T.fre (pv 3))) (blkOk_by (N := NSy) (sc := defScope (inT 2)) (by decide +kernel)) (fun _ _ _ _ _ => pg_name (i := 6) scAl.nd rfl (Or.inl rfl)) (fun _ _ _ _ _ => pts_nil)
        (fun _ _ _ _ _ => pe_tup (pa_cons (pv 6) (pa_cons (pe_gd G2 (hr.mono (by decide)) (by rfl) (pa_cons (pv 6) pa_nil)) pa_nil))))
      (pss_one (ps_ret (pe_makeRS T.mkr I hr (by rfl) (T.gl "Table" (by decide)) pass0 (pa_cons (pv 1) (pa_cons (pv 4) (pa_star (pv 5) pa_nil))))))))), ?_⟩
    have lz : 10000 ≤ sizeLine := by rw [sizeLine_eq]; decide
    refine ⟨_, rfl, _, rfl, _, rfl, nm, z, n, rfl, h1, h2, n1, n4, ?_⟩
    refine ⟨_, rfl, by show 1 ≤ sizeLine; omega, fun p np => ⟨_, rfl, p, n, [.str z], rfl, rfl, upd_same, by omega, by omega, by show 1 * ((n : Int)).toNat ≤ sizeLine; omega, fun p2 np2 => ?_⟩⟩
    have s1 : Same H (upd H p (.lst [.str z])) := same_new np
    have s2 : Same H (upd (upd H p (.lst [.str z])) p2 (.lst (List.replicate ((n : Int)).toNat [V.str z]).flatten)) := s1.trans (same_new np2)
    have e2 : (upd (upd H p (.lst [.str z])) p2 (.lst (List.replicate ((n : Int)).toNat [V.str z]).flatten)) p2 = some (.lst ((List.replicate n z).map V.str)) := by rw [upd_same, Int.toNat_natCast, flat_rep, strs_rep]
    refine ⟨_, rfl, n, rfl, rfl, n, rfl, n1, n4, fun D nD => ?_⟩
    refine lc_it walk_perm (fun i H' => Same (upd (upd H p (.lst [.str z])) p2 (.lst (List.replicate ((n : Int)).toNat [V.str z]).flatten)) H' ∧ ∃ ts : List (Addr × El), H' D = some (.lst (refs ts)) ∧ (∀ q ∈ ts, ElAt H' q.1 q.2) ∧ els ts = ((nums n).take i).map fun x => (x.1, par x.1)) ⟨same_new nD, [], upd_same, (fun q hq => nomatch hq), rfl⟩ (fun i H' _ _ => trivial) ?_ ?_
    · rintro i v H7 H8 hi ⟨s7, ts, e7, ht, hs⟩ ⟨T, x, rfl, nT, rfl, hx⟩
      have s8 : Same H7 (upd H7 T (.tup (x.1.map fun i : Nat => V.int i))) := same_new nT
      have lx := row_in n4 hx
      refine ⟨rfl, _, rfl, _, rfl, T, x.1, rfl, upd_same, by omega, fun H9 s9 => ⟨by show 2 ≤ sizeLine; omega, fun t nt => ?_⟩⟩
      obtain ⟨g1, g2, g3, g4⟩ := grow (sg := par x.1) s7 nD e7 ht (s8.trans s9) (s9 _ _ upd_same) nt
      refine ⟨_, g1, ?_, g2, ts ++ [(t, (x.1, par x.1))], g3, g4, ?_⟩
      · have l : (els ts).length = _ := congrArg List.length hs
        rw [List.length_map, List.length_map, List.length_take] at l
        have := row_le n4
        rw [List.length_map]
        omega
      · rw [take_one hx, ← hs]
        exact List.map_append
    · rintro H7 ⟨s7, ts, e7, ht, hs⟩
      rw [List.take_length] at hs
      have ti : TabIn H7 nm p2 (List.replicate n z) ts := mk_in (sg := par) par_or h1 h2 n1 n4 (s7 _ _ e2) ht hs
      have hv : (List.range (List.replicate n z).length, -1) ∉ Grp.found (List.replicate n z).length (els ts) := by
        have h := List.all_eq_true.mp mk_ok n (List.mem_range.mpr (by omega))
        simp only [Bool.and_eq_true, decide_eq_true_eq] at h
        rw [List.length_replicate, hs]
        exact h.2
      refine ⟨_, rfl, _, rfl, _, rfl, D, refs ts, rfl, .inr (SqL.of e7), ?_⟩
      show ∀ x dx, H7 x = none → H7 dx = none → dx ≠ x → spTi K (.ref x :: .str nm :: .ref p2 :: (refs ts ++ [])) _ _ _
      rw [List.append_nil]
      refine fun x dx nx nd ne => madeT_at nx nd ne ti hv fun H' es' s' ta' hs' => ⟨rfl, qq x es' H' (s2.trans (s7.trans s')) (gone (s2.trans s7) nx) ta' ?_⟩
      rw [hs', List.length_replicate, hs]
      rfl
abbrev AlG (P : Program) (w : World) (K : Fr) (mg : Str → Option Value) (base : Heap) : Prop := ∃ d, FnOk P w K mg base CX0 6 (recA K (TC K) "alternating" "classmethod") d ["cls", "name", "sort", "many"] (spMk K altT) ∧ Binds K d ["cls", "name", "sort", "many"] []
end
end K11

set_option maxHeartbeats 600000
namespace K11
open PySem PySem.Spec PyProof.Rows L2 RtL ErL StX NSet PermX
open Grp (El mul)
section
variable {P : Program} {w : World} {K : Fr} {mg : Str → Option Value} {base : Heap} {f : Addr} {fd : FuncData}
abbrev sMv : Stmt := top 37
theorem scMv : FnScope ["_law_places_here", "_law_order", "_law_position"] ["_law_places_here", "_law_order"] (defScope sMv) := ⟨rfl, rfl, rfl, by decide +kernel, rfl, by decide +kernel, by decide +kernel⟩
def spMv (K : Fr) : Sp := fun vs H Q _ => ∃ (r o : Addr) (rs : List V) (l : List Nat), vs = [.ref r, .ref o] ∧ H r = some (.tup rs) ∧ H o = some (.tup (nv l)) ∧ (∀ i ∈ l, i < rs.length) ∧ l.length ≤ 1000 ∧
  ∀ t H', Same H H' → H t = none → H' t = some (.tup (l.map fun i => rs.getD i .non)) → Q (.ref t) H'
theorem ok_mv (F : FunD K "_law_moved" "_law_moved" (defArgs sMv) (defBody sMv) (defScope sMv) [] [] f fd) (T : TT K mg) : FnOk P w K mg base CX0 1 f fd ["_law_places_here", "_law_order"] (spMv K) := by
  refine F.ok scMv (fun vs H Q E h => ?_) (fun cdv A outer s H vs Q E hr h => ?_)
  · obtain ⟨r, o, rs, l, rfl, _⟩ := h
    rfl
  · obtain ⟨r, o, rs, l, rfl, er, eo, hl, h1, q⟩ := h
    refine ⟨_, PSs.nox (pss_one (ps_ret (pe_callTy call_tuple_of (by rfl) T.fre (by decide +kernel) (pa_cons (pe_lc (own := [("_law_position", 2)]) (g := gName 2) (tt := tYes) (by rfl) scMv.nd (pi_tup (pv 1)) (blkOk_by (N := ["_law_places_here", "_law_order", "_law_position"]) (sc := defScope sMv) (by decide +kernel)) (fun _ _ _ _ _ => pg_name (i := 2) scMv.nd rfl (Or.inl rfl)) (fun _ _ _ _ _ => pts_nil)
      (fun _ _ _ _ _ => pe_ix (r := rIxT K) ix_tup (pv 0) (pv 2) (fun _ _ => rfl))) pa_nil)))), ?_⟩
    have lz : 10000 ≤ sizeLine := by rw [sizeLine_eq]; decide
    refine ⟨_, rfl, o, rfl, ⟨_, SqT.of eo⟩, fun D nD => ?_⟩
    refine lc_it (walk_tup (xs := nv l)) (fun i H' => Same H H' ∧ H' D = some (.lst ((l.take i).map fun i => rs.getD i .non))) ⟨same_new nD, upd_same⟩ (fun i H' _ pv => SqT.of (pv.1 _ _ eo)) ?_ ?_
    · rintro i v H7 H8 hi ⟨s7, e7⟩ ⟨rfl, hx⟩
      obtain ⟨c, hc, rfl⟩ := getn hx
      have hcl := hl c (List.mem_of_getElem? hc)
      have tk : l.take (i + 1) = l.take i ++ [c] := by rw [List.take_add_one, hc]; rfl
      have ev : rs[c]? = some (rs.getD c .non) := by rw [List.getD_eq_getElem?_getD, List.getElem?_eq_getElem hcl]; rfl
      refine ⟨rfl, _, rfl, _, rfl, r, _, _, _, rfl, rfl, SqT.of (s7 _ _ er), atI_nat ev, _, e7, ?_, ?_, ?_⟩
      · rw [List.length_map, List.length_take]
        omega
      · intro b' o' e'
        rw [upd_ne (ne_of_none e' nD)]
        exact s7 _ _ e'
      · rw [upd_same, tk, List.map_append]
        rfl
    · rintro H7 ⟨s7, e7⟩
      have e8 : l.take (nv l).length = l := List.take_of_length_le (by rw [List.length_map]; exact Nat.le_refl _)
      rw [e8] at e7
      exact ⟨D, _, rfl, .inl ⟨SqL.of e7, fun t nt => q t _ (s7.trans (same_new nt)) (gone s7 nt) upd_same⟩⟩
abbrev MvG (P : Program) (w : World) (K : Fr) (mg : Str → Option Value) (base : Heap) : Prop := ∃ f d, Gd P w K mg base 1 "_law_moved" f d ["_law_places_here", "_law_order"] (spMv K)
/-! ### _law_orders -/
/-- the orders with one number more -/
def ext (n : Nat) (l : List Nat) : List (List Nat) := ((List.range n).filter fun p => decide (p ∉ l)).map fun p => l ++ [p]
def ordL (n : Nat) : Nat → List (List Nat)
  | 0 => [[]]
  | k + 1 => (ordL n k).flatMap (ext n)
theorem ordL_nums : ((List.range 5).all fun n => (n == 0 || decide (ordL n n = (nums n).map (·.1))) && (List.range 5).all fun k => decide ((ordL n k).length ≤ 24) && (ordL n k).all fun l => decide (l.length = k) && l.all fun i => decide (i < n)) = true := by decide +kernel
theorem ordL_eq {n : Nat} (n1 : 1 ≤ n) (n4 : n ≤ 4) : ordL n n = (nums n).map (·.1) := by
  have h := List.all_eq_true.mp ordL_nums n (List.mem_range.mpr (by omega))
  simp only [Bool.and_eq_true, Bool.or_eq_true, beq_iff_eq, decide_eq_true_eq] at h
  rcases h.1 with z | z
  · omega
  · exact z
theorem ordL_in {n k : Nat} (n4 : n ≤ 4) (k4 : k ≤ 4) : (ordL n k).length ≤ 24 ∧ ∀ l ∈ ordL n k, l.length = k ∧ ∀ i ∈ l, i < n := by
  have h := List.all_eq_true.mp ordL_nums n (List.mem_range.mpr (by omega))
  simp only [Bool.and_eq_true] at h
  have z := List.all_eq_true.mp h.2 k (List.mem_range.mpr (by omega))
  simp only [Bool.and_eq_true, decide_eq_true_eq] at z
  refine ⟨z.1, fun l hl => ?_⟩
  have y := List.all_eq_true.mp z.2 l hl
  simp only [Bool.and_eq_true, decide_eq_true_eq] at y
  exact ⟨y.1, fun i hi => of_decide_eq_true (List.all_eq_true.mp y.2 i hi)⟩
/-- at a stands the order l -/
abbrev OrdAt (H : Hp) (p : Addr × List Nat) : Prop := H p.1 = some (.tup (nv p.2))
abbrev rfo (os : List (Addr × List Nat)) : List V := os.map fun p => V.ref p.1
theorem inV_nat (p : Nat) : ∀ l : List Nat, inV (V.int (p : Int)) (nv l) = decide (p ∈ l)
  | [] => rfl
  | i :: l => by
    show (((i : Int) == (p : Int)) || inV (V.int (p : Int)) (nv l)) = _
    rw [inV_nat p l, Bool.eq_iff_iff, Bool.or_eq_true, beq_iff_eq, decide_eq_true_iff, decide_eq_true_iff, List.mem_cons]
    constructor
    · rintro (h | h)
      · exact .inl (by omega)
      · exact .inr h
    · rintro (h | h)
      · exact .inl (by omega)
      · exact .inr h
theorem flat_nat (l : List Nat) : (nv l).all flatV = true := by
  rw [List.all_map, List.all_eq_true]
  exact fun _ _ => rfl
theorem OrdAt.same {H H' : Hp} {p : Addr × List Nat} (h : OrdAt H p) (s : Same H H') : OrdAt H' p := s _ _ h
theorem ext_len (n : Nat) (l : List Nat) : (ext n l).length ≤ n := by
  unfold ext
  rw [List.length_map]
  exact Nat.le_trans (List.length_filter_le ..) (by rw [List.length_range]; exact Nat.le_refl _)
theorem flat_len (n : Nat) : ∀ L : List (List Nat), (L.flatMap (ext n)).length ≤ L.length * n
  | [] => by simp
  | l :: L => by
    rw [List.flatMap_cons, List.length_append, List.length_cons, Nat.succ_mul]
    have := ext_len n l
    have := flat_len n L
    omega
/-- an order more in the list at D, which is new -/
theorem growO {H0 H7 H9 : Hp} {D t : Addr} {os : List (Addr × List Nat)} {l : List Nat} (s7 : Same H0 H7) (nD : H0 D = none) (e7 : H7 D = some (.lst (rfo os))) (ht : ∀ q ∈ os, OrdAt H7 q) (s9 : Same H7 H9) (et : H9 t = some (.tup (nv l))) :
    H9 D = some (.lst (rfo os)) ∧ Same H0 (upd H9 D (.lst (rfo os ++ [.ref t]))) ∧ (upd H9 D (.lst (rfo os ++ [.ref t]))) D = some (.lst (rfo (os ++ [(t, l)]))) ∧ ∀ q ∈ os ++ [(t, l)], OrdAt (upd H9 D (.lst (rfo os ++ [.ref t]))) q := by
  have eD : H9 D = some (.lst (rfo os)) := s9 _ _ e7
  refine ⟨eD, fun b o e => ?_, by rw [upd_same]; show _ = some (HO.lst (List.map _ _)); rw [List.map_append]; rfl, fun q hq => ?_⟩
  · rw [upd_ne (ne_of_none e nD)]
    exact s9 _ _ (s7 _ _ e)
  · have el : OrdAt H9 q := by
      rcases List.mem_append.mp hq with h | h
      · exact (ht q h).same s9
      · rw [List.mem_singleton.mp h]
        exact et
    show (upd H9 D _) q.1 = _
    rw [upd_ne (fun z => by have el : H9 q.1 = _ := el; rw [z, eD] at el; cases el)]
    exact el
abbrev NOs : List Str := ["_law_many", "_law_found", "_law_k", "_law_longer", "_law_order", "_law_position"]
theorem scOs : FnScope NOs ["_law_many"] (defScope (top 35)) := ⟨rfl, rfl, rfl, by decide +kernel, rfl, by decide +kernel, by decide +kernel⟩
def spOs (K : Fr) : Sp := fun vs H Q _ => ∃ n : Nat, vs = [.int n] ∧ 1 ≤ n ∧ n ≤ 4 ∧ ∀ (a : Addr) (os : List (Addr × List Nat)) (H' : Hp), Same H H' → H a = none → H' a = some (.lst (rfo os)) → (∀ p ∈ os, OrdAt H' p) → os.map (·.2) = (nums n).map (·.1) → Q (.ref a) H'
theorem ok_os (F : FunD K "_law_orders" "_law_orders" (defArgs (top 35)) (defBody (top 35)) (defScope (top 35)) [] [] f fd) (T : TT K mg) : FnOk P w K mg base CX0 1 f fd ["_law_many"] (spOs K) := by
  refine F.ok scOs (fun vs H Q E h => ?_) (fun cdv A outer s H vs Q E hr h => ?_)
  · obtain ⟨n, rfl, _⟩ := h
    rfl
  · obtain ⟨n, rfl, n1, n4, qq⟩ := h
    have hu : (A.deeper (envOfC "_law_orders" (defScope (top 35)) s.heap.objs.size f cdv)).units + 64 < cLine := by have := hr.un; omega
    refine ⟨_, PSs.nox (pss_cons (ps_set (i := 1) scOs.nd rfl (Or.inl rfl) (pe_lst (pa_cons (pe_tup pa_nil) pa_nil)))
      (pss_cons (ps_for PassesOwn.never rfl (pi_range1 (by rfl) T.fre (pa_cons (pv 0) pa_nil)) (pg_name (i := 2) scOs.nd rfl (.inl rfl))
        (pss_cons (ps_set (i := 3) scOs.nd rfl (Or.inl rfl) (pe_lst pa_nil))
        (pss_cons (ps_for PassesOwn.never rfl (pi_list (pv 1)) (pg_name (i := 4) scOs.nd rfl (.inr rfl))
          (pss_one (ps_set (i := 3) scOs.nd rfl (Or.inl rfl) (pe_op op_cat (pv 3) (pe_lc (own := [("_law_position", 5)]) (g := gName 5) (by rfl) scOs.nd (pi_range1 (by rfl) T.fre (pa_cons (pv 0) pa_nil)) (blkOk_by (N := NOs) (sc := defScope (top 35)) (by decide +kernel)) (fun _ _ _ _ _ => pg_name (i := 5) scOs.nd rfl (Or.inl rfl))
            (fun _ _ _ _ _ => pts_one (pt_cmpR (show OpR _ _ (rIn K true) from op_notIn_seq) (pv 5) (pv 4) (by rfl))) (fun _ _ _ _ _ => pe_op (show OpR _ _ (rCatA K) from op_catA) (pv 4) (pe_tup (pa_cons (pv 5) pa_nil))))))))
        (pss_one (ps_set (i := 1) scOs.nd rfl (Or.inl rfl) (pv 3))))))
      (pss_one (ps_ret (pv 1))))), ?_⟩
    have lz : 10000 ≤ sizeLine := by rw [sizeLine_eq]; decide
    refine ⟨by show 0 ≤ sizeLine; omega, fun t0 nt0 => ⟨by show 1 ≤ sizeLine; omega, fun a0 na0 => ?_⟩⟩
    have s0 : Same H (upd (upd H t0 (.tup [])) a0 (.lst [.ref t0])) := (same_new nt0).trans (same_new na0)
    refine ⟨_, rfl, n, rfl, by omega, by omega, for_it walk_range (fun k σ H' => Same H H' ∧ ∃ a os u2 u3 u4, σ = [some (.int (n : Int)), some (.ref a), u2, u3, u4, none] ∧ H a = none ∧ H' a = some (.lst (rfo os)) ∧ (∀ q ∈ os, OrdAt H' q) ∧ os.map (·.2) = ordL n k) ⟨s0, a0, [(t0, [])], none, none, none, rfl, gone (same_new nt0) na0, upd_same, ?_, rfl⟩ (fun k σ H' _ _ => trivial) ?_ ?_⟩
    · intro q hq
      rw [List.mem_singleton.mp hq]
      show (upd _ a0 _) t0 = _
      rw [upd_ne (fun z => by rw [← z, upd_same] at na0; cases na0), upd_same]
      rfl
    · rintro k v σ H1 H2 hk ⟨s1, a, os, u2, u3, u4, rfl, na, ea, ho, hs⟩ ⟨rfl, hv⟩
      obtain rfl : v = .int (k : Int) := by rw [hv]; show V.int _ = _; rw [Int.zero_add]
      have k4 : k ≤ 4 := by omega
      obtain ⟨l24, hin⟩ := ordL_in n4 k4
      have lo24 : os.length ≤ 24 := by rw [← hs, List.length_map] at l24; exact l24
      refine ⟨by show 0 ≤ sizeLine; omega, fun b0 nb0 => ?_⟩
      refine ⟨_, rfl, a, rfl, ⟨_, SqL.of (same_new nb0 _ _ ea)⟩, ?_⟩
      refine for_it (walk_list (xs := rfo os)) (fun j σ H' => Same H2 H' ∧ ∃ b os2 u4, σ = [some (.int (n : Int)), some (.ref a), some (.int (k : Int)), some (.ref b), u4, none] ∧ H2 b = none ∧ H' b = some (.lst (rfo os2)) ∧ (∀ q ∈ os2, OrdAt H' q) ∧ os2.map (·.2) = ((os.take j).map (·.2)).flatMap (ext n)) ⟨same_new nb0, b0, [], u4, rfl, nb0, upd_same, (fun q hq => nomatch hq), rfl⟩ (fun j σ H' _ pv => SqL.of (pv.1 _ _ ea)) ?_ ?_
      · rintro j v σ H3 H4 hj ⟨s3, b, os2, u4', rfl, nb, eb, ho2, hs2⟩ ⟨rfl, hx⟩
        obtain ⟨pr, hpr, rfl⟩ : ∃ pr, os[j]? = some pr ∧ v = .ref pr.1 := by
          have hx : (rfo os)[j]? = some v := hx
          rw [List.getElem?_map] at hx
          cases e : os[j]? with
          | none => rw [e] at hx; cases hx
          | some y => rw [e] at hx; cases hx; exact ⟨y, rfl, rfl⟩
        have op : H2 pr.1 = some (.tup (nv pr.2)) := ho pr (List.mem_of_getElem? hpr)
        obtain ⟨lk, hl⟩ := hin pr.2 (by rw [← hs]; exact List.mem_map.mpr ⟨pr, List.mem_of_getElem? hpr, rfl⟩)
        have jl : j < os.length := (List.getElem?_eq_some_iff.mp hpr).1
        have l2 : os2.length ≤ 96 := by
          have e : (os2.map (·.2)).length = _ := congrArg List.length hs2
          have := flat_len n ((os.take j).map (·.2))
          rw [List.length_map] at e
          rw [List.length_map, List.length_take] at this
          have : min j os.length * n ≤ 24 * 4 := Nat.mul_le_mul (by omega) n4
          omega
        refine ⟨_, rfl, _, rfl, n, rfl, by omega, by omega, fun D nD => ?_⟩
        refine lc_it walk_range (fun i H' => Same H4 H' ∧ ∃ os3, H' D = some (.lst (rfo os3)) ∧ (∀ q ∈ os3, OrdAt H' q) ∧ os3.map (·.2) = ((List.range i).filter fun p => decide (p ∉ pr.2)).map fun p => pr.2 ++ [p]) ⟨same_new nD, [], upd_same, (fun q hq => nomatch hq), rfl⟩ (fun i H' _ _ => trivial) ?_ ?_
        · rintro i v H5 H6 hi ⟨s5, os3, e5, ho3, hs3⟩ ⟨rfl, hv⟩
          obtain rfl : v = .int (i : Int) := by rw [hv]; show V.int _ = _; rw [Int.zero_add]
          have hi : i < (n : Int).toNat := hi
          have hp6 : H6 pr.1 = some (.tup (nv pr.2)) := s5 _ _ (s3 _ _ op)
          have l3 : os3.length ≤ i := by
            have e : (os3.map (·.2)).length = _ := congrArg List.length hs3
            rw [List.length_map, List.length_map] at e
            have := List.length_filter_le (fun p => decide (p ∉ pr.2)) (List.range i)
            rw [List.length_range] at this
            omega
          refine ⟨rfl, _, rfl, _, rfl, pr.1, nv pr.2, rfl, .inr (SqT.of hp6), rfl, flat_nat _, _, rfl, ?_⟩
          show (if (if true = true then !inV (V.int (i : Int)) (nv pr.2) else inV (V.int (i : Int)) (nv pr.2)) = true then _ else _)
          rw [inV_nat, if_pos rfl, List.range_succ, List.filter_append]
          by_cases hm : i ∈ pr.2
          · rw [decide_eq_true hm]
            refine iteF ⟨s5, os3, e5, ho3, ?_⟩
            rw [hs3, List.filter_cons_of_neg (by simpa using hm)]
            simp
          · rw [decide_eq_false hm]
            have fl : (((List.range i).filter fun p => decide (p ∉ pr.2)) ++ [i].filter fun p => decide (p ∉ pr.2)).map (fun p => pr.2 ++ [p]) = os3.map (·.2) ++ [pr.2 ++ [i]] := by
              rw [hs3, List.filter_cons_of_pos (by simpa using hm), List.map_append]
              rfl
            have fin : ∀ (H9 : Hp) (t : Addr), Same H6 H9 → H9 t = some (.tup (nv (pr.2 ++ [i]))) → ∃ acc, H9 D = some (.lst acc) ∧ acc.length < sizeLine ∧ (Same H4 (upd H9 D (.lst (acc ++ [.ref t]))) ∧ ∃ os3, (upd H9 D (.lst (acc ++ [.ref t]))) D = some (.lst (rfo os3)) ∧ (∀ q ∈ os3, OrdAt (upd H9 D (.lst (acc ++ [.ref t]))) q) ∧
                os3.map (·.2) = (((List.range i).filter fun p => decide (p ∉ pr.2)) ++ [i].filter fun p => decide (p ∉ pr.2)).map fun p => pr.2 ++ [p]) := fun H9 t s9 et => by
              obtain ⟨g1, g2, g3, g4⟩ := growO s5 nD e5 ho3 s9 et
              refine ⟨_, g1, by rw [List.length_map]; omega, g2, _, g3, g4, ?_⟩
              rw [fl, List.map_append]
              rfl
            refine iteT ⟨_, rfl, _, rfl, by show 1 ≤ sizeLine; omega, fun T nT => ?_⟩
            have sT : Same H6 (upd H6 T (.tup [.int (i : Int)])) := same_new nT
            refine ⟨pr.1, T, nv pr.2, [.int (i : Int)], rfl, rfl, SqT.of (sT _ _ hp6), SqT.of upd_same, by rw [List.length_map, lk]; show k + 1 ≤ sizeLine; omega, fun z => ?_, fun _ z => (by cases z), fun _ _ p np => ?_⟩
            · refine fin _ T sT ?_
              rw [upd_same]
              have z : pr.2 = [] := List.map_eq_nil_iff.mp z
              rw [z]
              rfl
            · refine fin _ p (sT.trans (same_new np)) ?_
              rw [upd_same]
              show _ = some (HO.tup (List.map _ _))
              rw [List.map_append]
              rfl
        · rintro H5 ⟨s5, os3, e5, ho3, hs3⟩
          have l3 : os3.length ≤ 4 := by
            have e : (os3.map (·.2)).length = _ := congrArg List.length hs3
            rw [List.length_map, List.length_map] at e
            have := List.length_filter_le (fun p => decide (p ∉ pr.2)) (List.range (n : Int).toNat)
            rw [List.length_range] at this
            omega
          have eb5 : H5 b = some (.lst (rfo os2)) := s5 _ _ eb
          refine ⟨b, D, rfo os2, rfo os3, rfl, rfl, eb5, e5, by rw [List.length_map, List.length_map]; omega, fun p np => ⟨(s3.trans s5).trans (same_new np), p, os2 ++ os3, _, rfl, gone (s3.trans s5) np, ?_, ?_, ?_⟩⟩
          · rw [upd_same]
            show _ = some (HO.lst (List.map _ _))
            rw [List.map_append]
          · intro q hq
            rcases List.mem_append.mp hq with h | h
            · exact ((ho2 q h).same s5).same (same_new np)
            · exact (ho3 q h).same (same_new np)
          · rw [List.map_append, hs2, hs3, List.take_add_one, hpr]
            show _ = List.flatMap _ (List.map _ (_ ++ [pr]))
            rw [List.map_append, List.flatMap_append]
            show _ = _ ++ List.flatMap (ext n) [pr.2]
            rw [List.flatMap_cons, List.flatMap_nil, List.append_nil]
            rfl
      · rintro σ H3 ⟨s3, b, os2, u4', rfl, nb, eb, ho2, hs2⟩
        refine ⟨_, rfl, s1.trans s3, b, os2, _, _, _, rfl, gone s1 nb, eb, ho2, ?_⟩
        rw [hs2, show (rfo os).length = os.length from List.length_map _, List.take_length, hs]
        rfl
    · rintro σ H1 ⟨s1, a, os, u2, u3, u4, rfl, na, ea, ho, hs⟩
      exact ⟨_, rfl, qq a os H1 s1 na ea ho (hs.trans (ordL_eq n1 n4))⟩
end
end K11

set_option maxHeartbeats 600000
namespace K11
open PySem PySem.Spec PyProof.Rows L2 RtL ErL StX NSet PermX SX
open Grp (El mul)
section
variable {P : Program} {w : World} {K : Fr} {mg : Str → Option Value} {base : Heap} {f : Addr} {fd : FuncData}
theorem PBut.gone {p b : Addr} {H H' : Hp} (h : PBut p H H') (hb : b ≠ p) (n : H' b = none) : H b = none := by
  cases z : H b with
  | none => rfl
  | some o =>
    rw [h _ _ z hb] at n
    cases n
theorem PotAt.ne {p b : Addr} {H : Hp} (h : PotAt H p) (n : H b = none) : b ≠ p := by
  obtain ⟨x, y, e, _⟩ := h
  exact (ne_of_none e n).symm
/-- the letters -/
abbrev letZ : Str := "abcdefghijklmnopqrstuvwxyzABCDEFGHIJKLMNOPQRSTUVWXYZ"
def goodC (c : Nat) : Bool := decide (c < 128) && Unicode.isAlpha c
theorem let_ok : ((List.range 52).all fun d => match letZ.cps.toList[d]? with
    | some c => goodC c
    | none => false) = true := by decide +kernel
theorem let_at {d : Int} (h0 : 0 ≤ d) (h1 : d < 52) : ∃ c, atI letZ.cps.toList d = some c ∧ goodC c = true := by
  obtain ⟨k, rfl⟩ := Int.eq_ofNat_of_zero_le h0
  have h := List.all_eq_true.mp let_ok k (List.mem_range.mpr (by omega))
  cases e : letZ.cps.toList[k]? with
  | none => rw [e] at h; cases h
  | some c =>
    rw [e] at h
    exact ⟨c, atI_nat e, h⟩
theorem join_one : ∀ cs : List Nat, TL.joinL [] (cs.map fun c => [c]) = cs
  | [] => rfl
  | [c] => rfl
  | c :: d :: cs => by
    show [c] ++ ([] ++ TL.joinL [] ((d :: cs).map fun c => [c])) = _
    rw [join_one (d :: cs)]
    rfl
theorem sum_one : ∀ cs : List Nat, ((cs.map fun c => S [c]).map (·.length)).sum = cs.length
  | [] => rfl
  | c :: cs => by
    have := sum_one cs
    show 1 + ((cs.map fun c => S [c]).map (·.length)).sum = _
    rw [this, List.length_cons]
    omega
theorem nm_of {cs : List Nat} (l1 : 1 ≤ cs.length) (l8 : cs.length ≤ 8) (h : ∀ c ∈ cs, goodC c = true) : NmOk (S cs) := by
  have g : ∀ c ∈ cs, c < 128 ∧ Unicode.isAlpha c = true := fun c hc => by
    have := h c hc
    unfold goodC at this
    rw [Bool.and_eq_true] at this
    exact ⟨of_decide_eq_true this.1, this.2⟩
  have ln : (S cs).length = cs.length := by show cs.toArray.size = _; exact List.size_toArray
  refine ⟨by rw [ln]; exact l1, by rw [ln]; exact l8, ?_, ?_⟩
  · show (cs.toArray.all fun c => decide (c < 128)) = true
    rw [← Array.all_toList]
    exact List.all_eq_true.mpr fun c hc => decide_eq_true (g c hc).1
  · show (decide ((S cs).length > 0) && cs.toArray.all Unicode.isAlpha) = true
    rw [ln, decide_eq_true (by omega), ← Array.all_toList]
    exact List.all_eq_true.mpr fun c hc => (g c hc).2
abbrev NNa : List Str := ["_law_pot_here", "_law_letters", "_law_k"]
theorem scNa : FnScope NNa ["_law_pot_here"] (defScope (top 34)) := ⟨rfl, rfl, rfl, by decide +kernel, rfl, by decide +kernel, by decide +kernel⟩
def spNa : Sp := fun vs H Q _ => ∃ p : Addr, vs = [.ref p] ∧ PotAt H p ∧ ∀ z H', NmOk z → PotAt H' p → PBut p H H' → Q (.str z) H'
theorem ok_na (F : FunD K "_law_name" "_law_name" (defArgs (top 34)) (defBody (top 34)) (defScope (top 34)) [] [] f fd) (T : TT K mg) (D : DrawG P w K mg base) (C : PickG P w K mg base) : FnOk P w K mg base CX0 3 f fd ["_law_pot_here"] spNa := by
  obtain ⟨f1, d1, G1⟩ := D
  obtain ⟨f2, d2, G2⟩ := C
  refine F.ok scNa (fun vs H Q E h => ?_) (fun cdv A outer s H vs Q E hr h => ?_)
  · obtain ⟨p, rfl, _⟩ := h
    rfl
  · obtain ⟨p, rfl, hp, qq⟩ := h
    refine ⟨_, PSs.nox (pss_cons (ps_set (i := 1) scNa.nd rfl (Or.inr rfl) pe_str)
      (pss_one (ps_ret (pe_bm PySem.F.plainAttrs_str PySem.F.slot_str_join PySem.F.type_str_join mt_join pe_str (pa_cons (pe_lc (own := [("_law_k", 2)]) (g := gName 2) (tt := tYes) (by rfl) scNa.nd (pi_range1 (by rfl) T.fre (pa_cons (pe_gd G2 (hr.mono (by decide)) (by rfl) (pa_cons (pv 0) (pa_cons (pe_lst (pa_cons pe_int (pa_cons pe_int (pa_cons pe_int (pa_cons pe_int (pa_cons (pe_op op_add pe_int (pe_gd G1 (hr.mono (by decide)) (by rfl) (pa_cons (pv 0) (pa_cons pe_int pa_nil)))) pa_nil)))))) pa_nil))) pa_nil)) (blkOk_by (N := NNa) (sc := defScope (top 34)) (by decide +kernel))
        (fun _ _ _ _ _ => pg_name (i := 2) scNa.nd rfl (Or.inl rfl)) (fun _ _ _ _ _ => pts_nil) (fun _ _ _ _ _ => pe_ix (r := rIxS) ix_str (pv 1) (pe_gd G1 (hr.mono (by decide)) (by rfl) (pa_cons (pv 0) (pa_cons pe_int pa_nil))) (fun _ _ => rfl))) pa_nil))))), ?_⟩
    have lz : 10000 ≤ sizeLine := by rw [sizeLine_eq]; decide
    refine ⟨rfl, _, rfl, _, rfl, p, 8, rfl, hp, by decide, by decide, fun d H1 d0 d8 hp1 b1 => ⟨_, _, rfl, rfl, by show 5 ≤ sizeLine; omega, fun l nl => ?_⟩⟩
    have nlp := hp1.ne nl
    have e1 : (upd H1 l (.lst [.int 1, .int 1, .int 2, .int 8, .int (1 + d)])) l = some (.lst [.int 1, .int 1, .int 2, .int 8, .int (1 + d)]) := upd_same
    have hp1' : PotAt (upd H1 l (.lst [.int 1, .int 1, .int 2, .int 8, .int (1 + d)])) p := hp1.same (same_new nl)
    refine ⟨p, l, _, rfl, hp1', e1, nlp, by show 0 < 5; omega, by show 5 < 1000; omega, fun i v H2 hv hp2 b2 => ?_⟩
    obtain ⟨m, rfl, m1, m8⟩ : ∃ m : Nat, v = .int (m : Int) ∧ 1 ≤ m ∧ m ≤ 8 := by
      have hm := List.mem_of_getElem? hv
      simp only [List.mem_cons, List.not_mem_nil, or_false] at hm
      rcases hm with rfl | rfl | rfl | rfl | rfl
      · exact ⟨1, rfl, by omega, by omega⟩
      · exact ⟨1, rfl, by omega, by omega⟩
      · exact ⟨2, rfl, by omega, by omega⟩
      · exact ⟨8, rfl, by omega, by omega⟩
      · exact ⟨(1 + d).toNat, congrArg V.int (by omega), by omega, by omega⟩
    have b02 : PBut p H H2 := (b1.trans (PBut.of (same_new nl))).trans b2
    refine ⟨m, rfl, by omega, by omega, fun D nD => ?_⟩
    have nDp := hp2.ne nD
    refine lc_it walk_range (fun i H' => PotAt H' p ∧ PBut p H H' ∧ ∃ cs : List Nat, cs.length = i ∧ (∀ c ∈ cs, goodC c = true) ∧ H' D = some (.lst ((cs.map fun c => S [c]).map V.str))) ⟨hp2.same (same_new nD), b02.trans (PBut.of (same_new nD)), [], rfl, (fun c hc => nomatch hc), upd_same⟩ (fun i H' _ _ => trivial) ?_ ?_
    · rintro i v H3 H4 hi ⟨hp3, b3, cs, lc, hc, eD⟩ ⟨rfl, hv⟩
      have hi : i < (m : Int).toNat := hi
      refine ⟨rfl, _, rfl, _, rfl, p, 52, rfl, hp3, by decide, by decide, fun d H5 d0 d52 hp5 b5 => ?_⟩
      obtain ⟨c, hat, gc⟩ := let_at d0 d52
      refine ⟨letZ, d, c, rfl, rfl, by rw [sizeLine_eq]; decide, hat, _, b5 _ _ eD nDp, by rw [List.length_map, List.length_map, lc]; omega, ?_, ?_, cs ++ [c], by rw [List.length_append, lc]; rfl, ?_, ?_⟩
      · obtain ⟨x, y, e, r⟩ := hp5
        exact ⟨x, y, by rw [upd_ne (Ne.symm nDp)]; exact e, r⟩
      · intro b o e hb
        rw [upd_ne (ne_of_none e (b02.gone nDp nD))]
        exact (b3.trans b5) _ _ e hb
      · intro c' h'
        rcases List.mem_append.mp h' with h | h
        · exact hc c' h
        · rw [List.mem_singleton.mp h]
          exact gc
      · rw [upd_same, List.map_append, List.map_append]
        rfl
    · rintro H3 ⟨hp3, b3, cs, lc, hc, eD⟩
      have lc : cs.length = m := by rw [lc]; exact Int.toNat_natCast m
      have en : S [] = Str.ofString "" := by decide
      refine ⟨_, D, cs.map fun c => S [c], rfl, rfl, .inl (SqL.of eD), ?_, ?_⟩
      · have sm := sum_one cs
        rw [sm, List.length_map, ← en]
        show _ + _ * 0 ≤ _
        omega
      · have e : Txt.join (Str.ofString "") (cs.map fun c => S [c]) = S cs := by
          have j := join_S [] (cs.map fun c => [c])
          rw [join_one, List.map_map] at j
          rw [← en]
          exact j
        rw [e]
        exact qq _ H3 (nm_of (by omega) (by omega) hc) hp3 b3
abbrev NaG (P : Program) (w : World) (K : Fr) (mg : Str → Option Value) (base : Heap) : Prop := ∃ f d, Gd P w K mg base 3 "_law_name" f d ["_law_pot_here"] spNa
end
end K11

set_option maxHeartbeats 600000
namespace K11
open PySem PySem.Spec PyProof.Rows L2 RtL ErL StX NSet PermX SX
open Grp (El mul)
section
variable {P : Program} {w : World} {K : Fr} {mg : Str → Option Value} {base : Heap} {f : Addr} {fd : FuncData}
/-! ### _law_places -/
abbrev NPl : List Str := ["_law_pot_here", "_law_many", "_law_far", "_law_k"]
theorem scPl : FnScope NPl ["_law_pot_here", "_law_many"] (defScope (top 39)) := ⟨rfl, rfl, rfl, by decide +kernel, rfl, by decide +kernel, by decide +kernel⟩
def spPl : Sp := fun vs H Q _ => ∃ (p : Addr) (n : Nat), vs = [.ref p, .int n] ∧ PotAt H p ∧ 1 ≤ n ∧ n ≤ 4 ∧ ∀ (t : Addr) (ns : List Int) H', ns.length = n → (∀ x ∈ ns, 0 ≤ x ∧ x < 1000000000000000000) → H t = none → H' t = some (.tup (ns.map V.int)) → PotAt H' p → PBut p H H' → Q (.ref t) H'
theorem ok_pl (F : FunD K "_law_places" "_law_places" (defArgs (top 39)) (defBody (top 39)) (defScope (top 39)) [] [] f fd) (T : TT K mg) (D : DrawG P w K mg base) (C : PickG P w K mg base) : FnOk P w K mg base CX0 3 f fd ["_law_pot_here", "_law_many"] spPl := by
  obtain ⟨f1, d1, G1⟩ := D
  obtain ⟨f2, d2, G2⟩ := C
  refine F.ok scPl (fun vs H Q E h => ?_) (fun cdv A outer s H vs Q E hr h => ?_)
  · obtain ⟨p, n, rfl, _⟩ := h
    rfl
  · obtain ⟨p, n, rfl, hp, n1, n4, qq⟩ := h
    refine ⟨_, PSs.nox (pss_cons (ps_set (i := 2) scPl.nd rfl (Or.inr rfl) (pe_gd G2 (hr.mono (by decide)) (by rfl) (pa_cons (pv 0) (pa_cons (pe_lst (pa_cons pe_int (pa_cons pe_int (pa_cons pe_int (pa_cons (pe_op op_pow pe_int pe_int) pa_nil))))) pa_nil))))
      (pss_one (ps_ret (pe_callTy call_tuple_of (by rfl) T.fre (by decide +kernel) (pa_cons (pe_lc (own := [("_law_k", 3)]) (g := gName 3) (tt := tYes) (by rfl) scPl.nd (pi_range1 (by rfl) T.fre (pa_cons (pv 1) pa_nil)) (blkOk_by (N := NPl) (sc := defScope (top 39)) (by decide +kernel)) (fun _ _ _ _ _ => pg_name (i := 3) scPl.nd rfl (Or.inl rfl)) (fun _ _ _ _ _ => pts_nil)
        (fun _ _ _ _ _ => pe_gd G1 (hr.mono (by decide)) (by rfl) (pa_cons (pv 0) (pa_cons (pv 2) pa_nil)))) pa_nil))))), ?_⟩
    have lz : 10000 ≤ sizeLine := by rw [sizeLine_eq]; decide
    refine ⟨_, rfl, _, _, rfl, rfl, ⟨by decide, by decide, by decide⟩, by show 4 ≤ sizeLine; omega, fun l nl => ?_⟩
    have nlp := hp.ne nl
    refine ⟨p, l, _, rfl, hp.same (same_new nl), upd_same, nlp, by show 0 < 4; omega, by show 4 < 1000; omega, fun i v H2 hv hp2 b2 => ?_⟩
    obtain ⟨m, rfl, m0, m1⟩ : ∃ m : Int, v = .int m ∧ 0 < m ∧ m ≤ 1000000000000000000 := by
      have hm := List.mem_of_getElem? hv
      simp only [List.mem_cons, List.not_mem_nil, or_false] at hm
      rcases hm with rfl | rfl | rfl | rfl
      · exact ⟨1, rfl, by decide, by decide⟩
      · exact ⟨2, rfl, by decide, by decide⟩
      · exact ⟨4, rfl, by decide, by decide⟩
      · exact ⟨_, rfl, by decide, by decide⟩
    have b02 : PBut p H H2 := (PBut.of (same_new nl)).trans b2
    refine ⟨_, rfl, n, rfl, by omega, by omega, fun D nD => ?_⟩
    have nDp := hp2.ne nD
    refine lc_it walk_range (fun i H' => PotAt H' p ∧ PBut p H H' ∧ ∃ ns : List Int, ns.length = i ∧ (∀ x ∈ ns, 0 ≤ x ∧ x < 1000000000000000000) ∧ H' D = some (.lst (ns.map V.int))) ⟨hp2.same (same_new nD), b02.trans (PBut.of (same_new nD)), [], rfl, (fun c hc => nomatch hc), upd_same⟩ (fun i H' _ _ => trivial) ?_ ?_
    · rintro i v H3 H4 hi ⟨hp3, b3, ns, ln, hn, eD⟩ ⟨rfl, hv⟩
      have hi : i < (n : Int).toNat := hi
      refine ⟨rfl, _, rfl, _, rfl, p, m, rfl, hp3, m0, m1, fun d H5 d0 dm hp5 b5 => ?_⟩
      refine ⟨_, b5 _ _ eD nDp, by rw [List.length_map, ln]; omega, ?_, ?_, ns ++ [d], by rw [List.length_append, ln]; rfl, ?_, ?_⟩
      · obtain ⟨x, y, e, r⟩ := hp5
        exact ⟨x, y, by rw [upd_ne (Ne.symm nDp)]; exact e, r⟩
      · intro b o e hb
        rw [upd_ne (ne_of_none e (b02.gone nDp nD))]
        exact (b3.trans b5) _ _ e hb
      · intro c' h'
        rcases List.mem_append.mp h' with h | h
        · exact hn c' h
        · rw [List.mem_singleton.mp h]
          omega
      · rw [upd_same, List.map_append]
        rfl
    · rintro H3 ⟨hp3, b3, ns, ln, hn, eD⟩
      refine ⟨D, _, rfl, .inl ⟨SqL.of eD, fun t nt => ?_⟩⟩
      have ntp := hp3.ne nt
      exact qq t ns _ (by rw [ln]; exact Int.toNat_natCast n) hn (b3.gone ntp nt) upd_same (hp3.same (same_new nt)) (b3.trans (PBut.of (same_new nt)))
abbrev PlG (P : Program) (w : World) (K : Fr) (mg : Str → Option Value) (base : Heap) : Prop := ∃ f d, Gd P w K mg base 3 "_law_places" f d ["_law_pot_here", "_law_many"] spPl
end
end K11

set_option maxHeartbeats 600000
namespace K11
open PySem PySem.Spec PyProof.Rows L2 RtL ErL StX NSet PermX SX
open Grp (El mul)
section
variable {P : Program} {w : World} {K : Fr} {mg : Str → Option Value} {base : Heap} {f : Addr} {fd : FuncData}
/-! ### _law_parity -/
def less (x : Nat) (r : List Nat) : Nat := (r.filter fun y => decide (y < x)).length
def swps : List Nat → Nat
  | [] => 0
  | x :: r => less x r + swps r
def lpar (l : List Nat) : Int := 1 - 2 * ((swps l % 2 : Nat) : Int)
theorem swps_le : ∀ l : List Nat, swps l ≤ l.length * l.length
  | [] => Nat.le_refl _
  | x :: r => by
    have a := swps_le r
    have b : less x r ≤ r.length := List.length_filter_le ..
    show less x r + swps r ≤ (r.length + 1) * (r.length + 1)
    have : (r.length + 1) * (r.length + 1) = r.length * r.length + r.length + r.length + 1 := by
      rw [Nat.add_mul, Nat.mul_add]
      omega
    omega
theorem swps_drop {l : List Nat} {k : Nat} (h : k < l.length) : swps (l.drop k) = less l[k] (l.drop (k + 1)) + swps (l.drop (k + 1)) := by
  rw [List.drop_eq_getElem_cons h]
  rfl
abbrev NLp : List Str := ["_law_order", "_law_swaps", "_law_k", "_law_first", "_law_second"]
theorem scLp : FnScope NLp ["_law_order"] (defScope (top 36)) := ⟨rfl, rfl, rfl, by decide +kernel, rfl, by decide +kernel, by decide +kernel⟩
def spLp (K : Fr) : Sp := fun vs H Q _ => ∃ (a : Addr) (l : List Nat), vs = [.ref a] ∧ H a = some (.tup (nv l)) ∧ l.length ≤ 4 ∧ ∀ H', Same H H' → Q (.int (lpar l)) H'
theorem ok_lp (F : FunD K "_law_parity" "_law_parity" (defArgs (top 36)) (defBody (top 36)) (defScope (top 36)) [] [] f fd) (T : TT K mg) : FnOk P w K mg base CX0 1 f fd ["_law_order"] (spLp K) := by
  refine F.ok scLp (fun vs H Q E h => ?_) (fun cdv A outer s H vs Q E hr h => ?_)
  · obtain ⟨a, l, rfl, _⟩ := h
    rfl
  · obtain ⟨a, l, rfl, ea, l4, qq⟩ := h
    refine ⟨_, PSs.nox (pss_cons (ps_set (i := 1) scLp.nd rfl (Or.inl rfl) pe_int)
      (pss_cons (ps_for PassesOwn.never rfl (pi_enumT (by rfl) T.fre (pa_cons (pv 0) pa_nil)) (pg_tup (by rfl) (pgs_cons (pg_name (i := 2) scLp.nd rfl (.inl rfl)) (pgs_cons (pg_name (i := 3) scLp.nd rfl (.inr rfl)) pgs_nil)))
        (pss_one (ps_set (i := 1) scLp.nd rfl (Or.inl rfl) (pe_op op_add (pv 1) (pe_callB call_len_seq (by rfl) T.fre (by decide +kernel) (pa_cons (pe_lc (own := [("_law_second", 4)]) (g := gName 4) (by rfl) scLp.nd (pi_tup (pe_slice sl_tup (pv 0) (po_some (pe_op op_add (pv 2) pe_int)) po_none)) (blkOk_by (N := NLp) (sc := defScope (top 36)) (by decide +kernel)) (fun _ _ _ _ _ => pg_name (i := 4) scLp.nd rfl (Or.inl rfl))
          (fun _ _ _ _ _ => pts_one (pt_cmpR op_lt (pv 4) (pv 3) (nomark _))) (fun _ _ _ _ _ => pv 4)) pa_nil))))))
      (pss_one (ps_ret (pe_op op_sub pe_int (pe_op op_mul pe_int (pe_op op_mod (pe_callTy call_int1 (by rfl) T.fre (by decide +kernel) (pa_cons (pv 1) pa_nil)) pe_int))))))), ?_⟩
    have lz : 10000 ≤ sizeLine := by rw [sizeLine_eq]; decide
    have lv : (nv l).length = l.length := List.length_map _
    refine ⟨_, rfl, a, _, rfl, SqT.of ea, for_it walk_enumT (fun k σ H' => Same H H' ∧ ∃ (c : Nat) (u2 u3 : Option V), σ = [some (.ref a), some (.int (c : Int)), u2, u3, none] ∧ c + swps (l.drop k) = swps l) ⟨Same.refl _, 0, none, none, rfl, by rw [List.drop_zero]; omega⟩ (fun k σ H' _ pv => SqT.of (pv.1 _ _ ea)) ?_ ?_⟩
    · rintro k v σ H1 H2 hk ⟨s1, c, u2, u3, rfl, hc⟩ ⟨t, y1, y2, rfl, nt, rfl, hx, hy⟩
      obtain ⟨c0, hc0, rfl⟩ := getn hy
      obtain rfl : y1 = .int (k : Int) := (Option.some.inj hx).symm
      have hk : k < (nv l).length := hk
      have kl : k < l.length := by omega
      have s2 : Same H1 (upd H1 t (.tup [.int (k : Int), .int (c0 : Int)])) := same_new nt
      have ck : l[k] = c0 := by
        rw [List.getElem?_eq_getElem kl] at hc0
        exact Option.some.inj hc0
      have lo : HT.sIx (nv l).length 0 (some ((k : Int) + 1)) = k + 1 := by
        rw [show (k : Int) + 1 = ((k + 1 : Nat) : Int) by omega, HT.sIx_nat]
        omega
      have cut : cutV (nv l) (some ((k : Int) + 1)) none = nv (l.drop (k + 1)) := by
        unfold cutV
        rw [lo, show HT.sIx (nv l).length (nv l).length none = (nv l).length from rfl, List.take_of_length_le (by rw [List.length_drop]; exact Nat.le_refl _)]
        exact List.map_drop.symm
      refine ⟨t, _, rfl, SqT.of upd_same, rfl, _, _, rfl, _, _, rfl, rfl, ?_⟩
      refine ⟨_, rfl, _, rfl, _, rfl, _, _, rfl, rfl, _, rfl, a, nv l, rfl, SqT.of (s2 _ _ (s1 _ _ ea)), fun z => (by rw [lo] at z; omega), fun p np => ?_⟩
      rw [cut]
      have s3 : Same (upd H1 t (.tup [.int (k : Int), .int (c0 : Int)])) (upd (upd H1 t (.tup [.int (k : Int), .int (c0 : Int)])) p (.tup (nv (l.drop (k + 1))))) := same_new np
      refine ⟨p, rfl, ⟨_, SqT.of upd_same⟩, fun D nD => ?_⟩
      refine lc_it (walk_tup (xs := nv (l.drop (k + 1)))) (fun j H' => Same (upd (upd H1 t (.tup [.int (k : Int), .int (c0 : Int)])) p (.tup (nv (l.drop (k + 1))))) H' ∧ H' D = some (.lst (nv (((l.drop (k + 1)).take j).filter fun y => decide (y < c0))))) ⟨same_new nD, upd_same⟩ (fun j H' _ pv => SqT.of (pv.1 _ _ upd_same)) ?_ ?_
      · rintro j v H3 H4 hj ⟨s4, e4⟩ ⟨rfl, hy'⟩
        obtain ⟨d, hd, rfl⟩ := getn hy'
        have tk : (l.drop (k + 1)).take (j + 1) = (l.drop (k + 1)).take j ++ [d] := by rw [List.take_add_one, hd]; rfl
        refine ⟨rfl, _, rfl, _, rfl, _, _, rfl, rfl, _, rfl, ?_⟩
        rw [tk, List.filter_append]
        by_cases hl : d < c0
        · rw [decide_eq_true (show (d : Int) < (c0 : Int) by omega), List.filter_cons_of_pos (by simpa using hl)]
          refine iteT ⟨_, rfl, _, e4, ?_, ?_, ?_⟩
          · have := List.length_filter_le (fun y => decide (y < c0)) ((l.drop (k + 1)).take j)
            rw [List.length_take, List.length_drop] at this
            rw [List.length_map]
            omega
          · intro b o e
            rw [upd_ne (ne_of_none e nD)]
            exact s4 _ _ e
          · rw [upd_same]
            show _ = some (HO.lst (List.map _ _))
            rw [List.map_append]
            rfl
        · rw [decide_eq_false (show ¬ (d : Int) < (c0 : Int) by omega), List.filter_cons_of_neg (by simpa using hl), List.filter_nil, List.append_nil]
          exact iteF ⟨s4, e4⟩
      · rintro H3 ⟨s4, e4⟩
        have tl : (l.drop (k + 1)).take (nv (l.drop (k + 1))).length = l.drop (k + 1) := List.take_of_length_le (by rw [List.length_map]; exact Nat.le_refl _)
        rw [tl] at e4
        refine ⟨D, _, rfl, .inl (SqL.of e4), _, _, rfl, rfl, s1.trans (s2.trans (s3.trans s4)), c + less c0 (l.drop (k + 1)), some (.int (k : Int)), some (.int (c0 : Int)), ?_, ?_⟩
        · have e : (c : Int) + ((nv ((l.drop (k + 1)).filter fun y => decide (y < c0))).length : Int) = ((c + less c0 (l.drop (k + 1)) : Nat) : Int) := by
            rw [List.length_map]
            rfl
          show [_, some (V.int ((c : Int) + ((nv ((l.drop (k + 1)).filter fun y => decide (y < c0))).length : Int))), _, _, _] = _
          rw [e]
        · rw [← hc, swps_drop kl, ck]
          omega
    · rintro σ H1 ⟨s1, c, u2, u3, rfl, hc⟩
      have hd : c = swps l := by
        rw [lv, List.drop_length] at hc
        exact hc
      have := swps_le l
      have : l.length * l.length ≤ 4 * 4 := Nat.mul_le_mul l4 l4
      refine ⟨_, rfl, .inl ⟨_, rfl, _, _, rfl, rfl, (by show (0 : Int) < 2; decide), _, _, rfl, rfl, .inl ⟨by decide, by decide⟩, _, _, rfl, rfl, ?_⟩⟩
      rw [hd]
      exact qq H1 s1
abbrev LpG (P : Program) (w : World) (K : Fr) (mg : Str → Option Value) (base : Heap) : Prop := ∃ f d, Gd P w K mg base 1 "_law_parity" f d ["_law_order"] (spLp K)
/-! ### the two parities agree -/
theorem lpar_par {n : Nat} (n4 : n ≤ 4) {x : List Nat × List Nat} (hx : x ∈ nums n) : lpar x.1 = par x.1 := by
  have all : ((List.range 5).all fun n => (nums n).all fun x => decide (lpar x.1 = par x.1)) = true := by decide +kernel
  exact of_decide_eq_true (List.all_eq_true.mp (List.all_eq_true.mp all n (List.mem_range.mpr (by omega))) x hx)
end
end K11

set_option maxHeartbeats 4000000
namespace RtL
open PySem PySem.Spec PyProof.Rows L2
section
variable {X : Cx}
/-- set(l) -/
def rSetL (K : PySem.W.Frag) (w : World) : List V → Hp → VK → Prop := fun vs H Q => ∃ (l : Addr) (ns : List Int), vs = [.ref l] ∧ SqL K H l (ns.map V.int) ∧ ns.length + 1 < scanBound ∧
  ∀ (a : Addr) (c : Nat), H a = none → c ≤ ns.length → Q (.ref a) (upd H a (SetO w a (fun j => decide (j ∈ ns)) c))
theorem call_setL (hc : X.calm = true) : CallR X (.type "set") (rSetL X.K X.w) := by
  intro pins s σ H vs us Q I r h
  obtain ⟨l, ns, rfl, hl, hb, q⟩ := h
  rw [Vals.ref1 r]
  obtain ⟨its, rv, ⟨o, n, ho, hcl, hdn, hd⟩, _⟩ := I.list hl
  have hL : s.heap.IsList l its.toArray := ⟨o, ho, hcl, n, hd⟩
  have hi := ints_of_vals rv
  refine set_of_list ns (I.ok.hd hc) hL (by simpa using hi) hb fun h' tk c R hle keep => ?_
  have J : Inv X pins σ (upd H s.heap.objs.size (SetO X.w s.heap.objs.size (fun j => decide (j ∈ ns)) c)) { s with heap := h', toks := tk } :=
    I.laid (t' := tk) keep (Nat.le_refl _) (setO_new R)
  exact ⟨.ref _, _, J, rfl, q _ c (I.hok.fresh (Nat.le_refl _)) hle⟩
end
end RtL

set_option maxHeartbeats 4000000
/-! set(t), t a tuple of whole numbers, with the number of its items -/
namespace RtL
open PySem PySem.Spec PyProof.Rows L2
theorem nodup_le {α : Type} [DecidableEq α] : ∀ {a b : List α}, a.Nodup → (∀ x ∈ a, x ∈ b) → a.length ≤ b.length
  | [], b, _, _ => Nat.zero_le _
  | x :: a, b, nd, h => by
    have hx := h x List.mem_cons_self
    have nd := List.nodup_cons.mp nd
    have := nodup_le (a := a) (b := b.erase x) nd.2 (fun y hy => (List.mem_erase_of_ne (fun e => nd.1 (by rw [← e]; exact hy))).mpr (h y (List.mem_cons_of_mem _ hy)))
    rw [List.length_erase_of_mem hx] at this
    have := List.length_pos_of_mem hx
    rw [List.length_cons]
    omega
theorem dup_lt {α : Type} [DecidableEq α] : ∀ {a b : List α}, a.Nodup → (∀ x ∈ a, x ∈ b) → ¬ b.Nodup → a.length < b.length := by
  intro a b nd h nb
  obtain ⟨x, hx⟩ : ∃ x, x ∈ b ∧ x ∈ b.erase x := by
    apply Classical.byContradiction
    intro no
    apply nb
    rw [List.nodup_iff_count]
    intro x
    apply Classical.byContradiction
    intro hc
    have hm : x ∈ b := List.count_pos_iff.mp (by omega)
    refine no ⟨x, hm, List.count_pos_iff.mp ?_⟩
    rw [List.count_erase_self]
    omega
  have := nodup_le (a := a) (b := b.erase x) nd fun y hy => by
    by_cases e : y = x
    · rw [e]
      exact hx.2
    · exact (List.mem_erase_of_ne e).mpr (h y hy)
  rw [List.length_erase_of_mem hx.1] at this
  have := List.length_pos_of_mem hx.1
  omega
section
variable {X : Cx}
def rSetTI (K : PySem.W.Frag) (w : World) : List V → Hp → VK → Prop := fun vs H Q => ∃ (l : Addr) (ns : List Int), vs = [.ref l] ∧ SqT K H l (ns.map V.int) ∧ ns.length + 1 < scanBound ∧
  ∀ (a : Addr) (c : Nat), H a = none → c ≤ ns.length → (c < ns.length ↔ ¬ ns.Nodup) → Q (.ref a) (upd H a (SetO w a (fun j => decide (j ∈ ns)) c))
theorem call_setTI (hc : X.calm = true) : CallR X (.type "set") (rSetTI X.K X.w) := by
  intro pins s σ H vs us Q I r h
  obtain ⟨l, ns, rfl, hl, hb, q⟩ := h
  rw [Vals.ref1 r]
  obtain ⟨its, rv, tp, hz⟩ := I.tuple hl
  have hi := ints_of_vals rv
  refine call_set_tupI ns (I.ok.hd hc) tp (by simpa using hi) hb fun h' tk c R hle keep => ?_
  have J : Inv X pins σ (upd H s.heap.objs.size (SetO X.w s.heap.objs.size (fun j => decide (j ∈ ns)) c)) { s with heap := h', toks := tk } :=
    I.laid (t' := tk) keep (Nat.le_refl _) (setO_new R)
  refine ⟨.ref _, _, J, rfl, q _ c (I.hok.fresh (Nat.le_refl _)) hle ?_⟩
  obtain ⟨o, es, ep, t, _, _, _, _, nd, mem, _, _, sz, _⟩ := R
  have lk : (es.toList.map keyOf).length = c := by rw [List.length_map, Array.length_toList, sz]
  have sub : ∀ x ∈ es.toList.map keyOf, x ∈ ns := fun x hx => of_decide_eq_true ((mem x).mpr hx)
  constructor
  · intro lt hn
    have := nodup_le hn fun x hx => (mem x).mp (decide_eq_true hx)
    omega
  · intro hn
    rw [← lk]
    exact dup_lt nd sub hn
/-- len(s), s a set of whole numbers -/
def rLenSet (w : World) : List V → Hp → VK → Prop := fun vs H Q => ∃ (a : Addr) (S : Int → Bool) (c : Nat), vs = [.ref a] ∧ H a = some (SetO w a S c) ∧ Q (.int c) H
theorem call_lenSet : CallR X (.builtin "len") (rLenSet X.w) := by
  intro pins s σ H vs us Q I r h
  obtain ⟨a, S, c, rfl, ha, q⟩ := h
  rw [Vals.ref1 r]
  have R : SetR X.w s.heap a S c := setO_get I ha
  obtain ⟨o, es, ep, t, ho, hex, hd, _, _, _, lt, hf, sz, _⟩ := R
  have l := line63
  refine call_len_set ho hex hd hf (by have := fits_of_scanBound lt; rw [sizeLine_eq] at this; omega) ?_
  rw [sz]
  exact ⟨.int c, H, I.tok _, ⟨_, rfl⟩, q⟩
end
end RtL

set_option maxHeartbeats 600000
namespace K11
open PySem PySem.Spec PyProof.Rows L2 RtL ErL StX NSet PermX SX
open Grp (El mul)
/-- a row that is another one put in order is turned into it by one of the orders -/
theorem perm_map_ex {α β : Type} (f : α → β) {m k : List β} (h : m.Perm k) : ∀ {l : List α}, k = l.map f → ∃ l' : List α, l'.Perm l ∧ m = l'.map f := by
  induction h with
  | nil =>
    intro l e
    exact ⟨l, .refl _, e⟩
  | cons x _ ih =>
    intro l e
    cases l with
    | nil => cases e
    | cons a l =>
      obtain ⟨e1, e2⟩ := List.cons.inj e
      obtain ⟨l', p, q⟩ := ih e2
      exact ⟨a :: l', p.cons a, by rw [e1, q]; rfl⟩
  | swap x y t =>
    intro l e
    match l, e with
    | a :: b :: l, e =>
      obtain ⟨e1, e2⟩ := List.cons.inj e
      obtain ⟨e2, e3⟩ := List.cons.inj e2
      exact ⟨b :: a :: l, .swap .., by rw [e1, e2, e3]; rfl⟩
  | trans _ _ i1 i2 =>
    intro l e
    obtain ⟨l2, p2, q2⟩ := i2 e
    obtain ⟨l1, p1, q1⟩ := i1 q2
    exact ⟨l1, p1.trans p2, q1⟩
theorem mem_nums {n : Nat} (n4 : n ≤ 4) (n1 : 1 ≤ n) {l : List Nat} (h : l.Perm (List.range n)) : ∃ x ∈ nums n, x.1 = l := by
  have all : ((List.range 5).all fun n => n == 0 || (Grp.perms (List.range n)).all fun l => decide (l ∈ (nums n).map (·.1))) = true := by decide +kernel
  have z := List.all_eq_true.mp all n (List.mem_range.mpr (by omega))
  rw [Bool.or_eq_true, beq_iff_eq] at z
  rcases z with z | z
  · omega
  · have := of_decide_eq_true (List.all_eq_true.mp z l (Grp.mem_perms _ _ h))
    obtain ⟨x, hx, e⟩ := List.mem_map.mp this
    exact ⟨x, hx, e⟩
/-- the row turned -/
abbrev trn (ns : List Int) (l : List Nat) : List Int := l.map fun i => ns.getD i 0
theorem row_self (ns : List Int) : trn ns (List.range ns.length) = ns := tn_one ns
theorem ex_ord {ns ls : List Int} (l1 : 1 ≤ ns.length) (l4 : ns.length ≤ 4) (h : ls.Perm ns) : ∃ x ∈ nums ns.length, trn ns x.1 = ls := by
  obtain ⟨l, p, e⟩ := perm_map_ex (fun i => ns.getD i 0) h (row_self ns).symm
  obtain ⟨x, hx, rfl⟩ := mem_nums l4 l1 p
  exact ⟨x, hx, e.symm⟩
/-- the signs of the orders that lead to ls -/
def sgs (ns ls : List Int) (os : List (List Nat)) : List Int := (os.filter fun l => decide (trn ns l = ls)).map lpar
theorem sgs_pos {ns ls : List Int} (l1 : 1 ≤ ns.length) (l4 : ns.length ≤ 4) (h : ls.Perm ns) : ∃ s r, sgs ns ls ((nums ns.length).map (·.1)) = s :: r := by
  obtain ⟨x, hx, e⟩ := ex_ord l1 l4 h
  have m : lpar x.1 ∈ sgs ns ls ((nums ns.length).map (·.1)) := List.mem_map.mpr ⟨x.1, List.mem_filter.mpr ⟨List.mem_map.mpr ⟨x, hx, rfl⟩, decide_eq_true e⟩, rfl⟩
  cases z : sgs ns ls ((nums ns.length).map (·.1)) with
  | nil => rw [z] at m; cases m
  | cons s r => exact ⟨s, r, rfl⟩
section
variable {P : Program} {w : World} {K : Fr} {mg : Str → Option Value} {base : Heap} {f : Addr} {fd : FuncData}
abbrev OsG (P : Program) (w : World) (K : Fr) (mg : Str → Option Value) (base : Heap) : Prop := ∃ f d, Gd P w K mg base 1 "_law_orders" f d ["_law_many"] (spOs K)
abbrev NLl : List Str := ["_law_places_here", "_law_turning", "_law_least_here", "_law_signs", "_law_order"]
theorem scLl : FnScope NLl ["_law_places_here", "_law_turning"] (defScope (top 38)) := ⟨rfl, rfl, rfl, by decide +kernel, rfl, by decide +kernel, by decide +kernel⟩
/-- the sign that is due -/
def dueS (b : Bool) (ns ls : List Int) : Int := if b = true then (if ns.Nodup then (sgs ns ls ((nums ns.length).map (·.1))).headD 0 else 0) else 1
def spLl (K : Fr) : Sp := fun vs H Q _ => ∃ (a : Addr) (b : Bool) (ns : List Int), vs = [.ref a, .bl b] ∧ H a = some (.tup (ns.map V.int)) ∧ 1 ≤ ns.length ∧ ns.length ≤ 4 ∧
  ∀ (t l : Addr) (ls : List Int) (H' : Hp), Same H H' → H t = none → H' t = some (.tup [.int (dueS b ns ls), .ref l]) → H' l = some (.tup (ls.map V.int)) → ls.Perm ns → ls.Pairwise (· ≤ ·) → Q (.ref t) H'
theorem ok_ll (F : FunD K "_law_least" "_law_least" (defArgs (top 38)) (defBody (top 38)) (defScope (top 38)) [] [] f fd) (T : TT K mg) (A1 : OsG P w K mg base) (A2 : MvG P w K mg base) (A3 : LpG P w K mg base) : FnOk P w K mg base CX0 3 f fd ["_law_places_here", "_law_turning"] (spLl K) := by
  obtain ⟨f1, d1, G1⟩ := A1
  obtain ⟨f2, d2, G2⟩ := A2
  obtain ⟨f3, d3, G3⟩ := A3
  refine F.ok scLl (fun vs H Q E h => ?_) (fun cdv A outer s H vs Q E hr h => ?_)
  · obtain ⟨a, b, ns, rfl, _⟩ := h
    rfl
  · obtain ⟨a, b, ns, rfl, ea, l1, l4, qq⟩ := h
    have hu : (A.deeper (envOfC "_law_least" (defScope (top 38)) s.heap.objs.size f cdv)).units + 64 < cLine := by have := hr.un; omega
    refine ⟨_, PSs.nox (pss_cons (ps_set (i := 2) scLl.nd rfl (Or.inr rfl) (pe_callTy call_tuple_of (by rfl) T.fre (by decide +kernel) (pa_cons (pe_callB (cr_sortedTI hu) (by rfl) T.fre (by decide +kernel) (pa_cons (pv 0) pa_nil)) pa_nil)))
      (pss_cons (ps_if (pt_not (pt_val (pv 1))) (pss_one (ps_ret (pe_tup (pa_cons pe_int (pa_cons (pv 2) pa_nil))))) pss_nil)
      (pss_cons (ps_if (pt_cmpR op_lt (pe_callB call_lenSet (by rfl) T.fre (by decide +kernel) (pa_cons (pe_callTy (call_setTI rfl) (by rfl) T.fre (by decide +kernel) (pa_cons (pv 0) pa_nil)) pa_nil)) (pe_callB call_len_seq (by rfl) T.fre (by decide +kernel) (pa_cons (pv 0) pa_nil)) (nomark _)) (pss_one (ps_ret (pe_tup (pa_cons pe_int (pa_cons (pv 2) pa_nil))))) pss_nil)
      (pss_cons (ps_setLc (i := 3) (own := [("_law_order", 4)]) (g := gName 4) (by rfl) scLl.nd rfl rfl (sw_true rfl rfl rfl (by decide +kernel)) (pi_list (pe_gd G1 (hr.mono (by decide)) (by rfl) (pa_cons (pe_callB call_len_seq (by rfl) T.fre (by decide +kernel) (pa_cons (pv 0) pa_nil)) pa_nil))) (blkOk_by (N := NLl) (sc := defScope (top 38)) (by decide +kernel)) (fun _ _ _ _ _ => pg_name (i := 4) scLl.nd rfl (Or.inl rfl))
        (fun _ _ _ _ _ => pts_one (pt_cmpR (show OpR _ _ (rEqD K) from op_eqD hu) (pe_gd G2 (hr.mono (by decide)) (by rfl) (pa_cons (pv 0) (pa_cons (pv 4) pa_nil))) (pv 2) (nomark _))) (fun _ _ _ _ _ => pe_gd G3 (hr.mono (by decide)) (by rfl) (pa_cons (pv 4) pa_nil)))
      (pss_one (ps_ret (pe_tup (pa_cons (pe_ix ix_list (pv 3) pe_int (fun _ _ => rfl)) (pa_cons (pv 2) pa_nil))))))))), ?_⟩
    have lz : 10000 ≤ sizeLine := by rw [sizeLine_eq]; decide
    have sb : 10 < scanBound := by decide +kernel
    refine ⟨_, rfl, a, ns, rfl, SqT.of ea, fun ls p pm pw np => ⟨p, _, rfl, .inl ⟨SqL.of upd_same, fun l nl => ?_⟩⟩⟩
    have s2 : Same H (upd (upd H p (.lst (ls.map V.int))) l (.tup (ls.map V.int))) := (same_new np).trans (same_new nl)
    have el : (upd (upd H p (.lst (ls.map V.int))) l (.tup (ls.map V.int))) l = some (.tup (ls.map V.int)) := upd_same
    have lls : ls.length = ns.length := pm.length_eq
    generalize upd (upd H p (.lst (ls.map V.int))) l (.tup (ls.map V.int)) = H2 at s2 el
    refine ⟨_, rfl, b, rfl, ?_⟩
    cases b with
    | false => exact iteT ⟨_, rfl, by show 2 ≤ sizeLine; omega, fun t nt => qq t l ls _ (s2.trans (same_new nt)) (gone s2 nt) upd_same (same_new nt _ _ el) pm pw⟩
    | true =>
      refine iteF ⟨_, rfl, a, ns, rfl, SqT.of (s2 _ _ ea), by omega, fun st c nst hc hlt => ⟨st, _, c, rfl, upd_same, _, rfl, a, _, rfl, .inr (SqT.of (same_new nst _ _ (s2 _ _ ea))), _, _, rfl, rfl, _, rfl, ?_⟩⟩
      have s3 := s2.trans (same_new (o := SetO w st (fun j => decide (j ∈ ns)) c) nst)
      have el3 := same_new (o := SetO w st (fun j => decide (j ∈ ns)) c) nst _ _ el
      rw [List.length_map]
      by_cases hn : ns.Nodup
      · have nlt : ¬ (c : Int) < (ns.length : Int) := fun z => (hlt.mp (by omega)) hn
        rw [decide_eq_false nlt]
        refine iteF ?_
        obtain ⟨s0, r0, hs0⟩ := sgs_pos l1 l4 pm
        refine ⟨_, rfl, a, _, rfl, .inr (SqT.of (s3 _ _ ea)), ns.length, by rw [List.length_map]; rfl, l1, l4, fun oa os H4 s4 noa eoa ho hso => ?_⟩
        have s04 := s3.trans s4
        have lo : os.length ≤ 24 := by
          have e : (os.map (·.2)).length = _ := congrArg List.length hso
          rw [List.length_map, List.length_map] at e
          have := row_le l4
          omega
        refine ⟨oa, rfl, ⟨_, SqL.of eoa⟩, fun D nD => ?_⟩
        refine lc_it (walk_list (xs := rfo os)) (fun i H' => Same H4 H' ∧ H' D = some (.lst ((sgs ns ls ((os.map (·.2)).take i)).map V.int))) ⟨same_new nD, upd_same⟩ (fun i H' _ pv => SqL.of (pv.1 _ _ eoa)) ?_ ?_
        · rintro i v H5 H6 hi ⟨s5, e5⟩ ⟨rfl, hx⟩
          obtain ⟨pr, hpr, rfl⟩ : ∃ pr, os[i]? = some pr ∧ v = .ref pr.1 := by
            have hx : (rfo os)[i]? = some v := hx
            rw [List.getElem?_map] at hx
            cases e : os[i]? with
            | none => rw [e] at hx; cases hx
            | some y => rw [e] at hx; cases hx; exact ⟨y, rfl, rfl⟩
          have op : H6 pr.1 = some (.tup (nv pr.2)) := s5 _ _ (ho pr (List.mem_of_getElem? hpr))
          obtain ⟨x, hx', ex⟩ : ∃ x ∈ nums ns.length, x.1 = pr.2 := by
            have m : pr.2 ∈ os.map (·.2) := List.mem_map.mpr ⟨pr, List.mem_of_getElem? hpr, rfl⟩
            rw [hso] at m
            exact List.mem_map.mp m
          obtain ⟨j, hj⟩ := List.getElem?_of_mem hx'
          obtain ⟨lx, mx⟩ := row_in l4 hj
          rw [ex] at lx mx
          have et0 : (pr.2.map fun i => (ns.map V.int).getD i .non) = (trn ns pr.2).map V.int := by
            rw [List.map_map]
            refine List.map_congr_left fun j hj => ?_
            have lt : j < ns.length := mx j hj
            show (ns.map V.int).getD j .non = V.int (ns.getD j 0)
            rw [List.getD_eq_getElem?_getD, List.getElem?_map, List.getD_eq_getElem?_getD, List.getElem?_eq_getElem lt]
            rfl
          have tk : (os.map (·.2)).take (i + 1) = (os.map (·.2)).take i ++ [pr.2] := by rw [List.take_add_one, List.getElem?_map, hpr]; rfl
          have s06 := s04.trans s5
          refine ⟨rfl, _, rfl, _, rfl, a, pr.1, ns.map V.int, pr.2, rfl, s06 _ _ ea, op, fun j hj => by rw [List.length_map]; exact mx j hj, by omega, fun t H7 s7 nt et => ?_⟩
          rw [et0] at et
          have eeq : PyData.eqv (.tuple ((trn ns pr.2).map PyData.int)) (.tuple (ls.map PyData.int)) = decide (trn ns pr.2 = ls) := by
            rw [PyData.eqv, eqv_intl]
          refine ⟨_, rfl, .tuple ((trn ns pr.2).map PyData.int), .tuple (ls.map PyData.int), .tup (SqT.of et) (ints_dp _), .tup (SqT.of (s7 _ _ (s5 _ _ (s4 _ _ el3)))) (ints_dp _), shp_intt _, shp_intt _, _, congrArg V.bl eeq, ?_⟩
          have sg1 : sgs ns ls ((os.map (·.2)).take i ++ [pr.2]) = sgs ns ls ((os.map (·.2)).take i) ++ if trn ns pr.2 = ls then [lpar pr.2] else [] := by
            unfold sgs
            rw [List.filter_append, List.map_append]
            by_cases h : trn ns pr.2 = ls
            · rw [if_pos h, List.filter_cons_of_pos (by simpa using h)]
              rfl
            · rw [if_neg h, List.filter_cons_of_neg (by simpa using h)]
              rfl
          rw [tk, sg1]
          by_cases h : trn ns pr.2 = ls
          · rw [if_pos h, decide_eq_true h]
            refine iteT ⟨_, rfl, pr.1, pr.2, rfl, s7 _ _ op, by omega, fun H8 s8 => ⟨_, s8 _ _ (s7 _ _ e5), ?_, ?_, ?_⟩⟩
            · have : (sgs ns ls ((os.map (·.2)).take i)).length ≤ ((os.map (·.2)).take i).length := by
                unfold sgs
                rw [List.length_map]
                exact List.length_filter_le ..
              rw [List.length_take, List.length_map] at this
              rw [List.length_map]
              omega
            · intro b o e
              rw [upd_ne (ne_of_none e nD)]
              exact s8 _ _ (s7 _ _ (s5 _ _ e))
            · rw [upd_same, List.map_append]
              rfl
          · rw [if_neg h, decide_eq_false h, List.append_nil]
            exact iteF ⟨fun b o e => s7 _ _ (s5 _ _ e), s7 _ _ e5⟩
        · rintro H5 ⟨s5, e5⟩
          have tl : (os.map (·.2)).take (rfo os).length = os.map (·.2) := List.take_of_length_le (by rw [List.length_map, List.length_map]; exact Nat.le_refl _)
          rw [tl, hso, hs0] at e5
          refine ⟨_, rfl, D, _, 0, _, rfl, rfl, SqL.of e5, atI_nat (j := 0) rfl, _, rfl, by show 2 ≤ sizeLine; omega, fun t nt => qq t l ls _ ((s04.trans s5).trans (same_new nt)) (gone (s04.trans s5) nt) ?_ (same_new nt _ _ (s5 _ _ (s4 _ _ el3))) pm pw⟩
          rw [upd_same]
          unfold dueS
          rw [if_pos rfl, if_pos hn, hs0]
          rfl
      · have lt : (c : Int) < (ns.length : Int) := by have := hlt.mpr hn; omega
        rw [decide_eq_true lt]
        refine iteT ⟨_, rfl, by show 2 ≤ sizeLine; omega, fun t nt => qq t l ls _ (s3.trans (same_new nt)) (gone s3 nt) ?_ (same_new nt _ _ el3) pm pw⟩
        rw [upd_same]
        unfold dueS
        rw [if_pos rfl, if_neg hn]
abbrev LlG (P : Program) (w : World) (K : Fr) (mg : Str → Option Value) (base : Heap) : Prop := ∃ f d, Gd P w K mg base 3 "_law_least" f d ["_law_places_here", "_law_turning"] (spLl K)
end
end K11

set_option maxHeartbeats 600000
namespace K11
open PySem PySem.Spec PyProof.Rows L2 RtL ErL StX NSet PermX SX
open Grp (El mul)
/-! ### _law_other_way -/
def cyc (n : Nat) : List Nat := (List.range (n - 1)).map (· + 1) ++ [0]
def swp (n : Nat) : List Nat := [1, 0] ++ (List.range (n - 2)).map (· + 2)
theorem rg_nv (k n : Nat) : rgV (k : Int) (n : Int) = nv ((List.range (n - k)).map (· + k)) := by
  unfold rgV
  rw [show ((n : Int) - (k : Int)).toNat = n - k by omega]
  show _ = List.map _ (List.map _ _)
  rw [List.map_map]
  refine List.map_congr_left fun i _ => ?_
  exact congrArg V.int (show (k : Int) + (i : Int) = ((i + k : Nat) : Int) by omega)
/-- the turns handed on -/
def twoT (b : Bool) (n : Nat) : List El := [(cyc n, if b = true then lpar (cyc n) else 1), (swp n, if b = true then lpar (swp n) else 1), (cyc n, if b = true then lpar (cyc n) else 1)]
def mkT (b : Bool) (n : Nat) : List El := if b = true then altT n else symT n
theorem two_ok : ((List.range 5).all fun n => decide (n < 2) || ([true, false].all fun b => decide ((Grp.found n (twoT b n)).Perm (Grp.found n (mkT b n))) && (decide ((List.range n, -1) ∉ Grp.found n (twoT b n)) && (twoT b n).all fun e => decide (e.1.Perm (List.range n)) && (decide (e.2 = 1) || decide (e.2 = -1))))) = true := by decide +kernel
theorem two_at {b : Bool} {n : Nat} (n2 : 2 ≤ n) (n4 : n ≤ 4) : srt (Grp.found n (twoT b n)) = srt (Grp.found n (mkT b n)) ∧ (List.range n, -1) ∉ Grp.found n (twoT b n) ∧ ∀ e ∈ twoT b n, Grp.Ok n e := by
  have h := List.all_eq_true.mp two_ok n (List.mem_range.mpr (by omega))
  rw [Bool.or_eq_true, decide_eq_true_iff] at h
  rcases h with h | h
  · omega
  · have h := List.all_eq_true.mp h b (by cases b <;> simp)
    simp only [Bool.and_eq_true, decide_eq_true_eq] at h
    refine ⟨srt_of_perm h.1, h.2.1, fun e he => ?_⟩
    have z := List.all_eq_true.mp h.2.2 e he
    simp only [Bool.and_eq_true, Bool.or_eq_true, decide_eq_true_eq] at z
    exact ⟨z.1, z.2⟩
/-- the group in its sequence -/
theorem grp_ok : ((List.range 5).all fun n => decide (n = 0) || ([true, false].all fun b => decide ((Grp.found n (mkT b n)).Perm (mkT b n)) && decide ((mkT b n).Pairwise fun x y => PySem.W.dataLe false dEl x y = true))) = true := by decide +kernel
theorem grp_at {b : Bool} {n : Nat} (n1 : 1 ≤ n) (n4 : n ≤ 4) : srt (Grp.found n (mkT b n)) = mkT b n := by
  have h := List.all_eq_true.mp grp_ok n (List.mem_range.mpr (by omega))
  rw [Bool.or_eq_true, decide_eq_true_iff] at h
  rcases h with h | h
  · omega
  · have h := List.all_eq_true.mp h b (by cases b <;> simp)
    simp only [Bool.and_eq_true, decide_eq_true_eq] at h
    rw [srt_of_perm h.1]
    exact List.mergeSort_of_pairwise h.2
theorem keeps_rep {n : Nat} {z : Str} {e : El} (ok : Grp.Ok n e) : Keeps (List.replicate n z) e := by
  intro i hi
  rw [List.length_replicate] at hi
  have li : i < e.1.length := by rw [ok.len]; exact hi
  have lt : e.1.getD i 0 < n := ok.lt (by rw [List.getD_eq_getElem?_getD, List.getElem?_eq_getElem li]; exact List.getElem_mem li)
  show (List.replicate n z)[e.1.getD i 0]? = _
  rw [List.getElem?_replicate, List.getElem?_replicate, if_pos lt, if_pos hi]
section
variable {P : Program} {w : World} {K : Fr} {mg : Str → Option Value} {base : Heap} {f : Addr} {fd : FuncData}
abbrev NOw : List Str := ["_law_name_here", "_law_sort", "_law_many", "_law_turning", "_law_order", "_law_swap", "_law_signs", "_law_handed", "_law_made"]
theorem scOw : FnScope NOw ["_law_name_here", "_law_sort", "_law_many", "_law_turning"] (defScope (top 41)) := ⟨rfl, rfl, rfl, by decide +kernel, rfl, by decide +kernel, by decide +kernel⟩
def spOw (K : Fr) : Sp := fun vs H Q _ => ∃ (nm z : Str) (n : Nat) (b : Bool), vs = [.str nm, .str z, .int n, .bl b] ∧ NmOk nm ∧ NmOk z ∧ 2 ≤ n ∧ n ≤ 4 ∧
  ∀ (x : Addr) (es : List (Addr × El)) (H' : Hp), Same H H' → H x = none → TabAt K H' x nm (List.replicate n z) es → els es = srt (Grp.found n (mkT b n)) → Q (.ref x) H'
theorem ok_ow (F : FunD K "_law_other_way" "_law_other_way" (defArgs (top 41)) (defBody (top 41)) (defScope (top 41)) [] [] f fd) (T : TT K mg) (A1 : LpG P w K mg base) (I : TId P w K mg base) : FnOk P w K mg base CX0 6 f fd ["_law_name_here", "_law_sort", "_law_many", "_law_turning"] (spOw K) := by
  obtain ⟨f1, d1, G1⟩ := A1
  refine F.ok scOw (fun vs H Q E h => ?_) (fun cdv A outer s H vs Q E hr h => ?_)
  · obtain ⟨nm, z, n, b, rfl, _⟩ := h
    rfl
  · obtain ⟨nm, z, n, b, rfl, h1, h2, n2, n4, qq⟩ := h
    refine ⟨_, PSs.nox (pss_cons (ps_set (i := 4) scOw.nd rfl (Or.inl rfl) (pe_callTy call_tuple_of (by rfl) T.fre (by decide +kernel) (pa_cons (pe_op op_cat (pe_listRg rfl (by rfl) T.fre (prg_2 (by rfl) T.fre pe_int (pv 2))) (pe_lst (pa_cons pe_int pa_nil))) pa_nil)))
      (pss_cons (ps_set (i := 5) scOw.nd rfl (Or.inl rfl) (pe_callTy call_tuple_of (by rfl) T.fre (by decide +kernel) (pa_cons (pe_op op_cat (pe_lst (pa_cons pe_int (pa_cons pe_int pa_nil))) (pe_listRg rfl (by rfl) T.fre (prg_2 (by rfl) T.fre pe_int (pv 2)))) pa_nil)))
      (pss_cons (ps_set (i := 6) scOw.nd rfl (Or.inl rfl) (pe_ifExp (pt_val (pv 3)) (pe_lst (pa_cons (pe_gd G1 (hr.mono (by decide)) (by rfl) (pa_cons (pv 4) pa_nil)) (pa_cons (pe_gd G1 (hr.mono (by decide)) (by rfl) (pa_cons (pv 5) pa_nil)) pa_nil))) (pe_lst (pa_cons pe_int (pa_cons pe_int pa_nil)))))
      (pss_cons (ps_set (i := 7) scOw.nd rfl (Or.inl rfl) (pe_op op_rep (pe_lst (pa_cons (pv 1) pa_nil)) (pv 2)))
      (pss_cons (ps_set (i := 8) scOw.nd rfl (Or.inl rfl) (pe_makeR T.mkr I hr (by rfl) (T.gl "Table" (by decide)) pass0 (pa_cons (pv 0) (pa_cons (pv 7) (pa_cons (pe_tup (pa_cons (pv 4) (pa_cons (pe_ix ix_list (pv 6) pe_int (fun _ _ => rfl)) pa_nil))) (pa_cons (pe_tup (pa_cons (pv 5) (pa_cons (pe_ix ix_list (pv 6) pe_int (fun _ _ => rfl)) pa_nil))) (pa_cons (pe_tup (pa_cons (pv 4) (pa_cons (pe_ix ix_list (pv 6) pe_int (fun _ _ => rfl)) pa_nil))) pa_nil)))))))
      (pss_cons (ps_expr (pe_bm PySem.F.plainAttrs_list PySem.F.slot_list_append PySem.F.type_list_append mt_append (pv 7) (pa_cons pe_str pa_nil)))
      (pss_one (ps_ret (pv 8))))))))), ?_⟩
    have lz : 10000 ≤ sizeLine := by rw [sizeLine_eq]; decide
    have lr : ∀ k : Nat, (rgV (k : Int) (n : Int)).length ≤ 4 := fun k => by rw [rg_nv, List.length_map, List.length_map, List.length_range]; omega
    refine ⟨_, rfl, _, _, rfl, rfl, RgOk.of_le (by decide) (by omega) (by decide) (by omega), fun q1 nq1 => ⟨by show 1 ≤ sizeLine; omega, fun r1 nr1 => ⟨q1, r1, _, _, rfl, rfl, same_new nr1 _ _ upd_same, upd_same, ?_, fun p1 np1 => ⟨p1, _, rfl, .inl ⟨SqL.of upd_same, fun o no => ?_⟩⟩⟩⟩⟩
    · have := lr 1
      show (rgV ((1 : Nat) : Int) (n : Int)).length + 1 ≤ sizeLine
      omega
    generalize hH1 : upd (upd (upd (upd H q1 _) r1 _) p1 _) o _ = H1
    have s1 : Same H H1 := by rw [← hH1]; exact (((same_new nq1).trans (same_new nr1)).trans (same_new np1)).trans (same_new no)
    have eo : H1 o = some (.tup (nv (cyc n))) := by
      rw [← hH1, upd_same]
      show some (HO.tup (rgV ((1 : Nat) : Int) (n : Int) ++ [V.int 0])) = _
      rw [rg_nv]
      show _ = some (HO.tup (List.map _ (_ ++ [0])))
      rw [List.map_append]
      rfl
    refine ⟨by show 2 ≤ sizeLine; omega, fun q2 nq2 => ⟨_, rfl, _, _, rfl, rfl, RgOk.of_le (by decide) (by omega) (by decide) (by omega), fun r2 nr2 => ⟨q2, r2, _, _, rfl, rfl, same_new nr2 _ _ upd_same, upd_same, ?_, fun p2 np2 => ⟨p2, _, rfl, .inl ⟨SqL.of upd_same, fun o2 no2 => ?_⟩⟩⟩⟩⟩
    · have := lr 2
      show 2 + (rgV ((2 : Nat) : Int) (n : Int)).length ≤ sizeLine
      omega
    generalize hH2 : upd (upd (upd (upd H1 q2 _) r2 _) p2 _) o2 _ = H2
    have s2' : Same H1 H2 := by rw [← hH2]; exact (((same_new nq2).trans (same_new nr2)).trans (same_new np2)).trans (same_new no2)
    have s2 := s1.trans s2'
    have eo2 : H2 o2 = some (.tup (nv (swp n))) := by
      rw [← hH2, upd_same]
      show some (HO.tup ([V.int 1, V.int 0] ++ rgV ((2 : Nat) : Int) (n : Int))) = _
      rw [rg_nv]
      show _ = some (HO.tup (List.map _ ([1, 0] ++ _)))
      rw [List.map_append]
      rfl
    have eo1 := s2' _ _ eo
    have lc : (cyc n).length = n := by unfold cyc; rw [List.length_append, List.length_map, List.length_range]; show n - 1 + 1 = n; omega
    have lw : (swp n).length = n := by unfold swp; rw [List.length_append, List.length_map, List.length_range]; show 2 + (n - 2) = n; omega
    -- the signs
    have signs : ∀ k : VK, (∀ (g : Addr) (H3 : Hp), Same H2 H3 → H3 g = some (.lst [.int (if b = true then lpar (cyc n) else 1), .int (if b = true then lpar (swp n) else 1)]) → k (.ref g) H3) →
        (if b = true then tLst (tCons (tCall (spLp K) [] E0 (tCons (tVar 4) tNil)) (tCons (tCall (spLp K) [] E0 (tCons (tVar 5) tNil)) tNil)) [some (.str nm), some (.str z), some (.int (n : Int)), some (.bl b), some (.ref o), some (.ref o2), none, none, none] H2 k
         else tLst (tCons (tC (.int 1)) (tCons (tC (.int 1)) tNil)) [some (.str nm), some (.str z), some (.int (n : Int)), some (.bl b), some (.ref o), some (.ref o2), none, none, none] H2 k) := fun k hk => by
      cases b with
      | true => exact iteT ⟨_, rfl, o, cyc n, rfl, eo1, by omega, fun H3 s3 => ⟨_, rfl, o2, swp n, rfl, s3 _ _ eo2, by omega, fun H4 s4 => ⟨by show 2 ≤ sizeLine; omega, fun g ng => hk g _ ((s3.trans s4).trans (same_new ng)) upd_same⟩⟩⟩
      | false => exact iteF ⟨by show 2 ≤ sizeLine; omega, fun g ng => hk g _ (same_new ng) upd_same⟩
    refine ⟨_, rfl, b, rfl, signs _ fun g H3 s3 eg => ?_⟩
    have s03 := s2.trans s3
    have eo3 := s3 _ _ eo1
    have eo23 := s3 _ _ eo2
    refine ⟨_, rfl, by show 1 ≤ sizeLine; omega, fun p np => ⟨_, rfl, p, n, [.str z], rfl, rfl, upd_same, by omega, by omega, by show 1 * ((n : Int)).toNat ≤ sizeLine; omega, fun h nh => ?_⟩⟩
    generalize hH4 : upd (upd H3 p _) h _ = H4
    have s34 : Same H3 H4 := by rw [← hH4]; exact (same_new np).trans (same_new nh)
    have s04 := s03.trans s34
    have nh0 : H3 h = none := gone (same_new np) nh
    have eh : H4 h = some (.lst ((List.replicate n z).map V.str)) := by rw [← hH4, upd_same, Int.toNat_natCast, flat_rep, strs_rep]
    have eg4 := s34 _ _ eg
    refine ⟨_, rfl, _, rfl, _, rfl, _, rfl, g, _, 0, _, rfl, rfl, SqL.of eg4, atI_nat (j := 0) rfl, by show 2 ≤ sizeLine; omega, fun t1 nt1 => ?_⟩
    have sA : Same H4 (upd H4 t1 (.tup [.ref o, .int (if b = true then lpar (cyc n) else 1)])) := same_new nt1
    refine ⟨_, rfl, _, rfl, g, _, 1, _, rfl, rfl, SqL.of (sA _ _ eg4), atI_nat (j := 1) rfl, by show 2 ≤ sizeLine; omega, fun t2 nt2 => ?_⟩
    have sB := sA.trans (same_new (o := HO.tup [.ref o2, .int (if b = true then lpar (swp n) else 1)]) nt2)
    refine ⟨_, rfl, _, rfl, g, _, 0, _, rfl, rfl, SqL.of (sB _ _ eg4), atI_nat (j := 0) rfl, by show 2 ≤ sizeLine; omega, fun t3 nt3 => ?_⟩
    have sC := sB.trans (same_new (o := HO.tup [.ref o, .int (if b = true then lpar (cyc n) else 1)]) nt3)
    have e1 := (same_new (o := HO.tup [.ref o, .int (if b = true then lpar (cyc n) else 1)]) nt3) _ _ ((same_new (o := HO.tup [.ref o2, .int (if b = true then lpar (swp n) else 1)]) nt2) t1 _ (upd_same (H := H4) (a := t1) (o := HO.tup [.ref o, .int (if b = true then lpar (cyc n) else 1)])))
    have e2 := (same_new (o := HO.tup [.ref o, .int (if b = true then lpar (cyc n) else 1)]) nt3) t2 _ upd_same
    generalize hH5 : upd (upd (upd H4 t1 _) t2 _) t3 _ = H5 at sC e1 e2
    have e3 : H5 t3 = some (.tup [.ref o, .int (if b = true then lpar (cyc n) else 1)]) := by rw [← hH5]; exact upd_same
    have eo5 := sC _ _ (s34 _ _ eo3)
    have eo25 := sC _ _ (s34 _ _ eo23)
    obtain ⟨w1, w2, w3⟩ := two_at (b := b) n2 n4
    have ti : TabIn H5 nm h (List.replicate n z) [(t1, (cyc n, if b = true then lpar (cyc n) else 1)), (t2, (swp n, if b = true then lpar (swp n) else 1)), (t3, (cyc n, if b = true then lpar (cyc n) else 1))] := by
      refine ⟨h1, .inl (sC _ _ eh), fun y hy => by rw [List.eq_of_mem_replicate hy]; exact h2, by rw [List.length_replicate]; omega, by rw [List.length_replicate]; exact n4, fun p hp => ?_, by show 3 ≤ 100; decide⟩
      have ok : Grp.Ok n p.2 := w3 p.2 (by
        simp only [List.mem_cons, List.not_mem_nil, or_false] at hp
        rcases hp with rfl | rfl | rfl <;> simp [twoT])
      refine ⟨?_, by rw [List.length_replicate]; exact ok, keeps_rep ok⟩
      simp only [List.mem_cons, List.not_mem_nil, or_false] at hp
      rcases hp with rfl | rfl | rfl
      · exact ⟨o, e1, eo5⟩
      · exact ⟨o2, e2, eo25⟩
      · exact ⟨o, e3, eo5⟩
    have hv : (List.range (List.replicate n z).length, -1) ∉ Grp.found (List.replicate n z).length (twoT b n) := by rw [List.length_replicate]; exact w2
    refine fun x dx nx nd ne => madeT_at nx nd ne ti hv fun H' es s' ta hs => ⟨rfl, ?_⟩
    have eh' := s' _ _ (sC _ _ eh)
    have nhH : H h = none := gone s03 nh0
    obtain ⟨dx', sl, gg, a1, a2, a3, a4⟩ := ta
    have ta6 : TabAt K (upd H' h (.lst ((List.replicate n z).map V.str ++ [.str "zz"]))) x nm (List.replicate n z) es := by
      refine ⟨dx', sl, gg, ?_, ?_, ?_, fun p hp => (a4 p hp).but (x := h) (But.of (Same.refl _)).put (fun vs z => by rw [eh'] at z; cases z)⟩
      · rw [upd_ne (fun z => by rw [z, eh'] at a1; cases a1)]
        exact a1
      · rw [upd_ne (fun z => by rw [z, eh'] at a2; cases a2)]
        exact a2
      · rw [upd_ne (fun z => by rw [z, eh'] at a3; cases a3)]
        exact a3
    have s6 : Same H (upd H' h (.lst ((List.replicate n z).map V.str ++ [.str "zz"]))) := fun b' o' e' => by
      rw [upd_ne (ne_of_none e' nhH)]
      exact s' _ _ (sC _ _ (s04 _ _ e'))
    have fin := qq x es _ s6 (gone (s04.trans sC) nx) ta6 (by rw [hs, List.length_replicate]; exact w1)
    exact ⟨_, rfl, .inl ⟨rfl, _, SqL.of eh'⟩, h, _, _, rfl, rfl, eh', by rw [List.length_map, List.length_replicate]; omega, _, rfl, fin⟩
abbrev OwG (P : Program) (w : World) (K : Fr) (mg : Str → Option Value) (base : Heap) : Prop := ∃ f d, Gd P w K mg base 6 "_law_other_way" f d ["_law_name_here", "_law_sort", "_law_many", "_law_turning"] (spOw K)
end
end K11

set_option maxHeartbeats 600000
namespace K11
open PySem PySem.Spec PyProof.Rows L2 RtL ErL StX NSet PermX SX
open Grp (El mul)
/-- no name: a text that is none, or no text -/
def BadNm (H : Hp) (v : V) : Prop := (∃ z, v = .str z ∧ z.length ≤ 1000 ∧ ¬ NmOk z) ∨ (∃ i, v = .int i) ∨ ∃ t, OddV H v t ∧ t ≠ "str"
section
variable {P : Program} {w : World} {K : Fr} {mg : Str → Option Value} {base : Heap} {f : Addr} {fd : FuncData}
def spNmX : Sp := fun vs H Q _ => ∃ v, vs = [v] ∧ BadNm H v ∧ Q (.bl false) H
theorem ok_nmX (F : FunD K "is_name" "is_name" (defArgs (top 12)) (defBody (top 12)) (defScope (top 12)) [] [] f fd) (T : TT K mg) : FnOk P w K mg base CX0 1 f fd ["value"] spNmX := by
  refine F.ok sc11 (fun vs H Q E h => ?_) (fun cdv A outer s H vs Q E hr h => ?_)
  · obtain ⟨v, rfl, _⟩ := h
    rfl
  · obtain ⟨v, rfl, hb, q⟩ := h
    refine ⟨_, PSs.nox (pss_one (ps_ret (pe_and (pe_callB call_isi (by rfl) T.fre (by decide +kernel) (pa_cons (pv 0) (pa_cons (pe_bltn (v := .ty "str") (u := .type "str") (by rfl) T.fre (by decide +kernel) rfl) pa_nil)))
      (pe_and (pe_chain op_le op_le pe_int (pe_callB call_len_str (by rfl) T.fre (by decide +kernel) (pa_cons (pv 0) pa_nil)) pe_int)
      (pe_and (pe_bm0 PySem.F.plainAttrs_str PySem.F.slot_str_isascii PySem.F.type_str_isascii mt_isascii (pv 0)) (pe_one (pe_bm0 PySem.F.plainAttrs_str PySem.F.slot_str_isalpha PySem.F.type_str_isalpha mt_isalpha (pv 0)))))))), ?_⟩
    have lz : 10000 ≤ sizeLine := by rw [sizeLine_eq]; decide
    rcases hb with ⟨z, rfl, zl, hz⟩ | ⟨i, rfl⟩ | ⟨t, od, nt⟩
    · refine ⟨_, rfl, _, _, _, _, true, rfl, .ty "str", .base (.str z), kit_ty rfl, true, rfl, iteT ?_⟩
      by_cases h1 : 1 ≤ z.length
      · by_cases h8 : z.length ≤ 8
        · refine ⟨_, rfl, z, rfl, by omega, _, _, rfl, rfl, true, congrArg V.bl (decide_eq_true (by omega)), iteT ⟨_, _, rfl, rfl, true, congrArg V.bl (decide_eq_true (by omega)), iteT ?_⟩⟩
          by_cases ha : Txt.isascii z = true
          · refine ⟨_, rfl, rfl, z, rfl, rfl, trivial, true, congrArg V.bl ha, iteT ⟨_, rfl, rfl, z, rfl, rfl, trivial, ?_⟩⟩
            have hp : Txt.isalpha z = false := Bool.eq_false_iff.mpr fun hp => hz ⟨h1, h8, ha, hp⟩
            rw [hp]
            exact q
          · exact ⟨_, rfl, rfl, z, rfl, rfl, trivial, false, congrArg V.bl (Bool.eq_false_iff.mpr ha), iteF q⟩
        · exact ⟨_, rfl, z, rfl, by omega, _, _, rfl, rfl, true, congrArg V.bl (decide_eq_true (by omega)), iteT ⟨_, _, rfl, rfl, false, congrArg V.bl (decide_eq_false (by omega)), iteF q⟩⟩
      · exact ⟨_, rfl, z, rfl, by omega, _, _, rfl, rfl, false, congrArg V.bl (decide_eq_false (by omega)), iteF ⟨false, rfl, iteF q⟩⟩
    · exact ⟨_, rfl, _, _, _, _, false, rfl, .ty "str", .base (.int i), kit_ty rfl, false, rfl, iteF q⟩
    · have ty := od.ty (K := K)
      have ht := od.mem
      simp only [RtL.oddT, List.mem_cons, List.not_mem_nil, or_false] at ht
      rcases ht with rfl | rfl | rfl | rfl | rfl | rfl
      all_goals first
        | exact absurd rfl nt
        | exact ⟨_, rfl, _, _, _, _, false, rfl, .ty "str", ty, kit_ty rfl, false, rfl, iteF q⟩
abbrev NmXG (P : Program) (w : World) (K : Fr) (mg : Str → Option Value) (base : Heap) : Prop := ∃ f d, Gd P w K mg base 1 "is_name" f d ["value"] spNmX
/-- what a refusal tells -/
def RefE (K : Fr) (C : Str) (H : Hp) (v : V) (E : XK) : Prop := ∀ d H', Same H H' → H' d = some (.xd [("value", v)]) → E (.ref (He.ga K C)) (some d) H'
theorem RefE.same {K : Fr} {C : Str} {H H1 : Hp} {v : V} {E : XK} (r : RefE K C H v E) (s : Same H H1) : RefE K C H1 v E := fun d H' s' e => r d H' (s.trans s') e
def spCkX (K : Fr) : Sp := fun vs H Q E => ∃ v, vs = [v] ∧ BadNm H v ∧ RefE K "InvalidName" H v E
theorem ok_ckX (F : FunD K "check_name" "check_name" (defArgs (top 25)) (defBody (top 25)) (defScope (top 25)) [] [] f fd) (T : TT K mg) (G : NmXG P w K mg base) : FnOk P w K mg base (L2.CX P w) 2 f fd ["name"] (spCkX K) := by
  obtain ⟨fN, dN, GN⟩ := G
  have er := T.er "InvalidName" (by decide)
  refine F.ok sc23 (fun vs H Q E h => ?_) (fun cdv A outer s H vs Q E hr h => ?_)
  · obtain ⟨v, rfl, _⟩ := h
    rfl
  · obtain ⟨v, rfl, hb, r⟩ := h
    refine ⟨_, (pss_one (ps_if (pt_not (pt_val (pe_gd GN hr (by rfl) (pa_cons (pv 0) pa_nil)))) (pss_one (ps_raise rfl (takes_of rfl rfl rfl rfl) (pmk_er1 er.cl (T.in1 (by decide)) bd1_value hr (by rfl) (T.gl "InvalidName" (by decide)) (raises_own er.be er.tc) (pa_cons (pv 0) pa_nil)))) pss_nil)), ?_⟩
    exact ⟨_, rfl, v, rfl, hb, false, rfl, iteT ⟨_, rfl, v, rfl, fun d nd => r d _ (same_new nd) upd_same⟩⟩
end
end K11

set_option maxHeartbeats 600000
namespace K11
open PySem PySem.Spec PyProof.Rows L2 RtL ErL StX NSet PermX SX
open Grp (El mul)
/-- no count: a whole number out of 1 to 4, or no whole number -/
def BadCt (H : Hp) (v : V) : Prop := (∃ i, v = .int i ∧ ¬ (1 ≤ i ∧ i ≤ 4)) ∨ ∃ t, OddV H v t
section
variable {P : Program} {w : World} {K : Fr} {mg : Str → Option Value} {base : Heap} {f : Addr} {fd : FuncData}
theorem ok_both {k : Nat} {ps : List Str} {sp1 sp2 : Sp} (F1 : FnOk P w K mg base CX0 k f fd ps sp1) (F2 : FnOk P w K mg base (L2.CX P w) k f fd ps sp2) : FnOk P w K mg base (L2.CX P w) k f fd ps (fun vs H Q E => sp1 vs H Q E ∨ sp2 vs H Q E) := by
  refine ⟨fun vs H Q E h => h.elim (F1.len vs H Q E) (F2.len vs H Q E), fun A outer s H args us vs Q E hr e0 hb r h => h.elim (fun h => codeAny_mono (F1.run A outer s H args us vs Q E hr e0 hb r h) fun r' s' hq => ?_) (F2.run A outer s H args us vs Q E hr e0 hb r)⟩
  rcases r' with e | fl
  · exact hq.elim
  · cases fl with
    | ret u => exact hq
    | next => exact hq.elim
    | brk => exact hq.elim
    | cont => exact hq.elim
theorem ok_or0 {k : Nat} {ps : List Str} {sp1 sp2 : Sp} (F1 : FnOk P w K mg base CX0 k f fd ps sp1) (F2 : FnOk P w K mg base CX0 k f fd ps sp2) : FnOk P w K mg base CX0 k f fd ps (fun vs H Q E => sp1 vs H Q E ∨ sp2 vs H Q E) :=
  ⟨fun vs H Q E h => h.elim (F1.len vs H Q E) (F2.len vs H Q E), fun A outer s H args us vs Q E hr e0 hb r h => h.elim (F1.run A outer s H args us vs Q E hr e0 hb r) (F2.run A outer s H args us vs Q E hr e0 hb r)⟩
def spIsintO : Sp := fun vs H Q _ => ∃ v, vs = [v] ∧ (∃ t, OddV H v t) ∧ Q (.bl false) H
theorem ok_isintO (F : FunD K "is_an_integer" "is_an_integer" (defArgs (top 10)) (defBody (top 10)) (defScope (top 10)) [] [] f fd) (T : TT K mg) : FnOk P w K mg base CX0 1 f fd ["value"] (spIsintO) := by
  refine F.ok sc9 (fun vs H Q E h => ?_) (fun cdv A outer s H vs Q E hr h => ?_)
  · obtain ⟨v, rfl, _⟩ := h
    rfl
  · obtain ⟨v, rfl, ⟨t, od⟩, q⟩ := h
    have ty := od.ty (K := K)
    have ht := od.mem
    refine ⟨_, PSs.nox (pss_one (ps_ret (pe_and (pe_callB call_isi (by rfl) T.fre (by decide +kernel) (pa_cons (pv 0) (pa_cons (pe_bltn (v := .ty "int") (u := .type "int") (by rfl) T.fre (by decide +kernel) rfl) pa_nil)))
      (pe_one (pe_not (pe_callB call_isi (by rfl) T.fre (by decide +kernel) (pa_cons (pv 0) (pa_cons (pe_bltn (v := .ty "bool") (u := .type "bool") (by rfl) T.fre (by decide +kernel) rfl) pa_nil)))))))), ?_⟩
    simp only [RtL.oddT, List.mem_cons, List.not_mem_nil, or_false] at ht
    rcases ht with rfl | rfl | rfl | rfl | rfl | rfl
    · exact ⟨_, rfl, _, _, _, _, false, rfl, .ty "int", ty, kit_ty rfl, false, rfl, iteF q⟩
    · exact ⟨_, rfl, _, _, _, _, true, rfl, .ty "int", ty, kit_ty rfl, true, rfl, iteT ⟨_, rfl, _, _, _, _, true, rfl, .ty "bool", ty, kit_ty rfl, true, rfl, q⟩⟩
    · exact ⟨_, rfl, _, _, _, _, false, rfl, .ty "int", ty, kit_ty rfl, false, rfl, iteF q⟩
    · exact ⟨_, rfl, _, _, _, _, false, rfl, .ty "int", ty, kit_ty rfl, false, rfl, iteF q⟩
    · exact ⟨_, rfl, _, _, _, _, false, rfl, .ty "int", ty, kit_ty rfl, false, rfl, iteF q⟩
    · exact ⟨_, rfl, _, _, _, _, false, rfl, .ty "int", ty, kit_ty rfl, false, rfl, iteF q⟩
abbrev spIsintB : Sp := fun vs H Q E => spIsint vs H Q E ∨ spIsintO vs H Q E
abbrev IsintBG (P : Program) (w : World) (K : Fr) (mg : Str → Option Value) (base : Heap) : Prop := ∃ f d, Gd P w K mg base 1 "is_an_integer" f d ["value"] spIsintB
abbrev spCkB (K : Fr) : Sp := fun vs H Q E => spCk vs H Q E ∨ spCkX K vs H Q E
/-- check_name, refusing too -/
abbrev CkBG (P : Program) (w : World) (K : Fr) (mg : Str → Option Value) (base : Heap) : Prop := ∃ f d, FnOk P w K mg base (L2.CX P w) 2 f d ["name"] (spCkB K) ∧ mg "check_name" = some (.ref f) ∧ PySem.W.keepIn K (.ref f) = true ∧ Binds K d ["name"] []
def spCeX (K : Fr) : Sp := fun vs H Q E => ∃ v1 v2 v3, vs = [v1, v2, v3] ∧ ((BadNm H v1 ∧ RefE K "InvalidName" H v1 E) ∨ ∃ nm, v1 = .str nm ∧ NmOk nm ∧ ((BadNm H v2 ∧ RefE K "InvalidName" H v2 E) ∨ ∃ z, v2 = .str z ∧ NmOk z ∧ BadCt H v3 ∧ RefE K "InvalidCount" H v3 E))
theorem ok_ceX (F : FunD K "check_even_slots" "check_even_slots" (defArgs (top 28)) (defBody (top 28)) (defScope (top 28)) [] [] f fd) (T : TT K mg) (A1 : CkBG P w K mg base) (A2 : IsintBG P w K mg base) : FnOk P w K mg base (L2.CX P w) 3 f fd ["name", "sort", "many"] (spCeX K) := by
  obtain ⟨f1, d1, G1, g1, k1, b1⟩ := A1
  obtain ⟨f2, d2, G2⟩ := A2
  obtain ⟨tk, gM⟩ := T.most
  have er := T.er "InvalidCount" (by decide)
  refine F.ok scCe (fun vs H Q E h => ?_) (fun cdv A outer s H vs Q E hr h => ?_)
  · obtain ⟨v1, v2, v3, rfl, _⟩ := h
    rfl
  · obtain ⟨v1, v2, v3, rfl, hh⟩ := h
    have px : Passes (L2.CX P w) (cxOf (L2.CX P w) P w K mg base ["name", "sort", "many"] "check_even_slots" (defScope (top 28)) f cdv A outer s H E) E := passes_call (takes_of rfl rfl rfl rfl) fun _ _ _ _ z => z
    refine ⟨_, (pss_cons (ps_expr (pe_call G1 (hr.mono (by decide)) (by rfl) g1 k1 b1 .nil px (pa_cons (pv 0) pa_nil))) (pss_cons (ps_expr (pe_call G1 (hr.mono (by decide)) (by rfl) g1 k1 b1 .nil px (pa_cons (pv 1) pa_nil)))
      (pss_one (ps_if (PW.pt (pw_or (pt_not (pt_val (pe_gd G2 (hr.mono (by decide)) (by rfl) (pa_cons (pv 2) pa_nil)))) (pw_or1 (pt_not (pt_chain op_le op_le pe_int (pv 2) (pe_glob (v := .int 4) (by rfl) gM ⟨tk, rfl⟩))))))
        (pss_one (ps_raise rfl (takes_of rfl rfl rfl rfl) (pmk_er1 er.cl (T.in1 (by decide)) bd1_value hr (by rfl) (T.gl "InvalidCount" (by decide)) (raises_own er.be er.tc) (pa_cons (pv 2) pa_nil)))) pss_nil)))), ?_⟩
    rcases hh with ⟨hb, r⟩ | ⟨nm, rfl, hn, hh⟩
    · exact ⟨_, rfl, .inr ⟨v1, rfl, hb, r⟩⟩
    · refine ⟨_, rfl, .inl ⟨nm, rfl, hn, ?_⟩⟩
      rcases hh with ⟨hb, r⟩ | ⟨z, rfl, hz, hb, r⟩
      · exact ⟨_, rfl, .inr ⟨v2, rfl, hb, r⟩⟩
      · refine ⟨_, rfl, .inl ⟨z, rfl, hz, ?_⟩⟩
        have fin : ∀ d, H d = none → E (.ref (He.ga K "InvalidCount")) (some d) (upd H d (.xd [("value", v3)])) := fun d nd => r d _ (same_new nd) upd_same
        rcases hb with ⟨i, rfl, hi⟩ | ho
        · refine ⟨_, rfl, .inl ⟨i, rfl, true, rfl, iteF ?_⟩⟩
          by_cases h1 : 1 ≤ i
          · exact ⟨_, rfl, _, _, rfl, rfl, true, congrArg V.bl (decide_eq_true h1), iteT ⟨_, _, rfl, rfl, false, congrArg V.bl (decide_eq_false (by omega)), iteT ⟨_, rfl, _, rfl, fin⟩⟩⟩
          · refine ⟨_, rfl, _, _, rfl, rfl, false, congrArg V.bl (decide_eq_false h1), iteF ?_⟩
            exact ⟨false, rfl, iteT ⟨_, rfl, _, rfl, fin⟩⟩
        · exact ⟨_, rfl, .inr ⟨v3, rfl, ho, false, rfl, iteT (iteT ⟨_, rfl, _, rfl, fin⟩)⟩⟩
abbrev CeXG (P : Program) (w : World) (K : Fr) (mg : Str → Option Value) (base : Heap) : Prop := ∃ f d, FnOk P w K mg base (L2.CX P w) 3 f d ["name", "sort", "many"] (spCeX K) ∧ mg "check_even_slots" = some (.ref f) ∧ PySem.W.keepIn K (.ref f) = true ∧ Binds K d ["name", "sort", "many"] []
/-- the two makers, refused -/
def spMkX (K : Fr) : Sp := fun vs H _ E => ∃ v1 v2 v3, vs = [.ref (TC K), v1, v2, v3] ∧ ∀ Q, spCeX K [v1, v2, v3] H Q E
theorem ok_syX {q : Str} (F : FunD K "symmetric" q (defArgs (inT 1)) (defBody (inT 1)) (defScope (inT 1)) [] [] f fd) (A1 : CeXG P w K mg base) : FnOk P w K mg base (L2.CX P w) 6 f fd ["cls", "name", "sort", "many"] (spMkX K) := by
  obtain ⟨f1, d1, G1, g1, k1, b1⟩ := A1
  refine F.ok scSy (fun vs H Q E h => ?_) (fun cdv A outer s H vs Q E hr h => ?_)
  · obtain ⟨v1, v2, v3, rfl, _⟩ := h
    rfl
  · obtain ⟨v1, v2, v3, rfl, h⟩ := h
    have px : Passes (L2.CX P w) (cxOf (L2.CX P w) P w K mg base NSy q (defScope (inT 1)) f cdv A outer s H E) E := passes_call (takes_of rfl rfl rfl rfl) fun _ _ _ _ z => z
    refine ⟨_, (pss_cons (ps_expr (pe_call G1 (hr.mono (by decide)) (by rfl) g1 k1 b1 .nil px (pa_cons (pv 1) (pa_cons (pv 2) (pa_cons (pv 3) pa_nil))))) (pss_cons ps_never (pss_cons ps_never (pss_one ps_never)))), ?_⟩
    exact ⟨_, rfl, _, rfl, _, rfl, h (fun _ _ => True)⟩
theorem ok_alX {q : Str} (F : FunD K "alternating" q (defArgs (inT 2)) (defBody (inT 2)) (defScope (inT 2)) [] [] f fd) (A1 : CeXG P w K mg base) : FnOk P w K mg base (L2.CX P w) 6 f fd ["cls", "name", "sort", "many"] (spMkX K) := by
  obtain ⟨f1, d1, G1, g1, k1, b1⟩ := A1
  refine F.ok scAl (fun vs H Q E h => ?_) (fun cdv A outer s H vs Q E hr h => ?_)
  · obtain ⟨v1, v2, v3, rfl, _⟩ := h
    rfl
  · obtain ⟨v1, v2, v3, rfl, h⟩ := h
    have px : Passes (L2.CX P w) (cxOf (L2.CX P w) P w K mg base NSy q (defScope (inT 2)) f cdv A outer s H E) E := passes_call (takes_of rfl rfl rfl rfl) fun _ _ _ _ z => z
    refine ⟨_, (pss_cons (ps_expr (pe_call G1 (hr.mono (by decide)) (by rfl) g1 k1 b1 .nil px (pa_cons (pv 1) (pa_cons (pv 2) (pa_cons (pv 3) pa_nil))))) (pss_cons ps_never (pss_cons ps_never (pss_one ps_never)))), ?_⟩
    exact ⟨_, rfl, _, rfl, _, rfl, h (fun _ _ => True)⟩
end
end K11

set_option maxHeartbeats 600000
namespace K11
open PySem PySem.Spec PyProof.Rows L2 RtL ErL StX NSet PermX SX
open Grp (El mul)
theorem BadNm.same {H H' : Hp} {v : V} (h : BadNm H v) (s : Same H H') : BadNm H' v := by
  rcases h with h | h | ⟨t, o, n⟩
  · exact .inl h
  · exact .inr (.inl h)
  · exact .inr (.inr ⟨t, o.same s, n⟩)
section
variable {P : Program} {w : World} {K : Fr} {mg : Str → Option Value} {base : Heap} {f : Addr} {fd : FuncData}
/-! ### Table.__init__ and renamed with what is no name -/
def spTiN1 (K : Fr) : Sp := fun vs H _ E => ∃ v0 v v2 v3, vs = [v0, v, v2, v3] ∧ BadNm H v ∧ RefE K "InvalidName" H v E
def spTiN (K : Fr) : Sp := fun vs H _ E => ∃ v0 v v2 rest, vs = v0 :: v :: v2 :: rest ∧ rest.length ≤ 100 ∧ BadNm H v ∧ RefE K "InvalidName" H v E
theorem ok_tiN {q : Str} (F : FunD K "__init__" q (defArgs s_ti) (defBody s_ti) (defScope s_ti) [] [] f fd) (A1 : CkBG P w K mg base) : FnR P w K mg base (L2.CX P w) 4 f (spTiN K) := by
  obtain ⟨f1, d1, G1, g1, k1, b1⟩ := A1
  obtain ⟨oc, od, dV, kV, doc, pm', an, cdv, ct, osl, rfl, lk, hcd, hdv, _⟩ := F.ex
  obtain rfl : dV = Value.none := hdv.elim (fun z => z.2) fun z => absurd rfl z.1
  refine FnR.imp (StX.fn_star (P := P) (w := w) (mg := mg) (base := base) (CX := L2.CX P w) (k := 3) (sp := spTiN1 K) (pv := "turns") (ps := ["self", "name", "slots"]) lk hcd sc_ti StX.cxUp hbTi (fun A outer s H vs Q E hr h => ?_)) (fun vs H Q E h => ?_)
  rotate_left
  · obtain ⟨v0, v, v2, rest, rfl, hl, hb, r⟩ := h
    exact ⟨[v0, v, v2], rest, rfl, rfl, by rw [sizeLine_eq]; omega, fun p hp => ⟨v0, v, v2, .ref p, rfl, hb.same (same_new hp), r.same (same_new hp)⟩⟩
  · obtain ⟨v0, v, v2, v3, rfl, hb, r⟩ := h
    have px : Passes (L2.CX P w) (cxOf (L2.CX P w) P w K mg base NTi q (defScope s_ti) f cdv A outer s H E) E := passes_call (takes_of rfl rfl rfl rfl) fun _ _ _ _ z => z
    refine ⟨_, (pss_cons (ps_expr (pe_call G1 (hr.mono (by decide)) (by rfl) g1 k1 b1 .nil px (pa_cons (pv 1) pa_nil))) (pss_cons ps_never (pss_cons ps_never (pss_cons ps_never (pss_cons ps_never (pss_cons ps_never (pss_cons ps_never (pss_one ps_never)))))))), ?_⟩
    exact ⟨_, rfl, .inr ⟨v, rfl, hb, r⟩⟩
abbrev TIdN (P : Program) (w : World) (K : Fr) (mg : Str → Option Value) (base : Heap) : Prop := FnR P w K mg base (L2.CX P w) 4 (tm K "__init__") (spTiN K)
def spM9N (K : Fr) : Sp := fun vs H _ E => ∃ (a : Addr) (nm : Str) (v : V) (zs : List Str) (es : List (Addr × El)), vs = [.ref a, v] ∧ TabAt K H a nm zs es ∧ es.length ≤ 100 ∧ BadNm H v ∧ RefE K "InvalidName" H v E
theorem ok_m9N {q : Str} (F : FunD K "renamed" q (defArgs (inT 9)) (defBody (inT 9)) (defScope (inT 9)) [] [] f fd) (T : TT K mg) (I : TIdN P w K mg base) : FnOk P w K mg base (L2.CX P w) 6 f fd ["self", "name"] (spM9N K) := by
  refine F.ok scM9 (fun vs H Q E h => ?_) (fun cdv A outer s H vs Q E hr h => ?_)
  · obtain ⟨a, nm, v, zs, es, rfl, _⟩ := h
    rfl
  · obtain ⟨a, nm, v, zs, es, rfl, ta, l100, hb, r⟩ := h
    have px : Passes (L2.CX P w) (cxOf (L2.CX P w) P w K mg base ["self", "name"] q (defScope (inT 9)) f cdv A outer s H E) E := passes_call (takes_of rfl rfl rfl rfl) fun _ _ _ _ z => z
    refine ⟨_, (pss_one (ps_ret (pe_makeRS T.mkr I hr (by rfl) (T.gl "Table" (by decide)) px (pa_cons (pv 1) (pa_cons (pe_fld (pv 0) rfl) (pa_star (pe_fld (pv 0) rfl) pa_nil)))))), ?_⟩
    obtain ⟨dx, sl, g, ea, esl, eg, hes⟩ := _root_.id ta
    refine ⟨_, rfl, _, rfl, a, _, dx, _, _, rfl, ea, T.cl, T.no "_slots" (by decide), rfl, _, rfl, a, _, dx, _, _, rfl, ea, T.cl, T.no "_group" (by decide), rfl, g, _, rfl, .inl (SqT.of eg), ?_⟩
    intro x dx nx nd ne
    have sm : Same H (upd (upd H dx (.own x)) x (.ins (TC K) dx [])) := new_same nx nd ne
    exact ⟨_, v, _, _, rfl, by rw [List.append_nil, List.length_map]; exact l100, hb.same sm, r.same sm⟩
end
end K11

set_option maxHeartbeats 600000
namespace K11
open PySem PySem.Spec PyProof.Rows L2 RtL ErL StX NSet PermX SX
open Grp (El mul)
/-- v, and whether it is a count -/
def Itm (H : Hp) (v : V) (b : Bool) : Prop := (∃ i : Int, v = .int i ∧ b = decide (0 ≤ i)) ∨ (∃ t, OddV H v t) ∧ b = false
theorem Itm.same {H H' : Hp} {v : V} {b : Bool} (h : Itm H v b) (s : Same H H') : Itm H' v b := h.imp id fun ⟨⟨t, o⟩, e⟩ => ⟨⟨t, o.same s⟩, e⟩
/-- no places of n slots -/
def BadPl (H : Hp) (v : V) (n : Nat) : Prop := (∃ i, v = .int i) ∨ (∃ t, OddV H v t ∧ t ≠ "tuple") ∨ ∃ (a : Addr) (xs : List V) (bs : List Bool), v = .ref a ∧ H a = some (.tup xs) ∧ xs.length ≤ 1000 ∧ bs.length = xs.length ∧ (∀ (i : Nat) x b, xs[i]? = some x → bs[i]? = some b → Itm H x b) ∧ (xs.length = n → false ∈ bs)
section
variable {P : Program} {w : World} {K : Fr} {mg : Str → Option Value} {base : Heap} {f : Addr} {fd : FuncData}
def spCntB : Sp := fun vs H Q _ => ∃ v b, vs = [v] ∧ Itm H v b ∧ Q (.bl b) H
theorem ok_cntB (F : FunD K "is_count" "is_count" (defArgs (top 11)) (defBody (top 11)) (defScope (top 11)) [] [] f fd) (T : TT K mg) (G : IsintBG P w K mg base) : FnOk P w K mg base CX0 2 f fd ["value"] spCntB := by
  obtain ⟨fI, dI, GI⟩ := G
  refine F.ok sc10 (fun vs H Q E h => ?_) (fun cdv A outer s H vs Q E hr h => ?_)
  · obtain ⟨v, b, rfl, _⟩ := h
    rfl
  · obtain ⟨v, b, rfl, hi, q⟩ := h
    refine ⟨_, PSs.nox (pss_one (ps_ret (pe_and (pe_gd GI hr (by rfl) (pa_cons (pv 0) pa_nil)) (pe_one (pe_cmpR op_ge (pv 0) pe_int (nomark _)))))), ?_⟩
    rcases hi with ⟨i, rfl, rfl⟩ | ⟨ho, rfl⟩
    · exact ⟨_, rfl, .inl ⟨i, rfl, true, rfl, iteT ⟨_, rfl, i, 0, rfl, rfl, q⟩⟩⟩
    · exact ⟨_, rfl, .inr ⟨v, rfl, ho, false, rfl, iteF q⟩⟩
abbrev CntBG (P : Program) (w : World) (K : Fr) (mg : Str → Option Value) (base : Heap) : Prop := ∃ f d, Gd P w K mg base 2 "is_count" f d ["value"] spCntB
def spAcX : Sp := fun vs H Q _ => ∃ (v : V) (n : Nat), vs = [v, .int n] ∧ BadPl H v n ∧ ∀ H', Same H H' → Q (.bl false) H'
theorem ok_acX (F : FunD K "are_counts" "are_counts" (defArgs (top 16)) (defBody (top 16)) (defScope (top 16)) [] [] f fd) (T : TT K mg) (G : CntBG P w K mg base) : FnOk P w K mg base CX0 3 f fd ["value", "many"] spAcX := by
  obtain ⟨fC, dC, GC⟩ := G
  refine F.ok sc15 (fun vs H Q E h => ?_) (fun cdv A outer s H vs Q E hr h => ?_)
  · obtain ⟨v, n, rfl, _⟩ := h
    rfl
  · obtain ⟨v, n, rfl, hb, q⟩ := h
    refine ⟨_, PSs.nox (pss_one (ps_ret (pe_and (pe_callB call_isi (by rfl) T.fre (by decide +kernel) (pa_cons (pv 0) (pa_cons (pe_bltn (v := .ty "tuple") (u := .type "tuple") (by rfl) T.fre (by decide +kernel) rfl) pa_nil)))
      (pe_and (pe_cmpR op_eq (pe_callB call_len_seq (by rfl) T.fre (by decide +kernel) (pa_cons (pv 0) pa_nil)) (pv 1) (nomark _))
      (pe_one (pe_callB (cr_all (by rfl)) (by rfl) T.fre (by decide +kernel) (pa_cons (pe_lc (own := [("at", 2)]) (g := gName 2) (tt := tYes) (by rfl) sc15.nd (pi_tup (pv 0)) (blkOk_by (N := ["value", "many", "at"]) (sc := defScope (top 16)) (by decide +kernel)) (fun _ _ _ _ _ => pg_name (i := 2) sc15.nd rfl (Or.inl rfl)) (fun _ _ _ _ _ => pts_nil)
        (fun _ _ _ _ _ => pe_gd GC hr (by rfl) (pa_cons (pv 2) pa_nil))) pa_nil))))))), ?_⟩
    have lz : 10000 ≤ sizeLine := by rw [sizeLine_eq]; decide
    have q0 := q H (Same.refl _)
    rcases hb with ⟨i, rfl⟩ | ⟨t, od, nt⟩ | ⟨a, xs, bs, rfl, ea, hl, lb, hi, hf⟩
    · exact ⟨_, rfl, _, _, _, _, false, rfl, .ty "tuple", .base (.int i), kit_ty rfl, false, rfl, iteF q0⟩
    · have ty := od.ty (K := K)
      have ht := od.mem
      simp only [RtL.oddT, List.mem_cons, List.not_mem_nil, or_false] at ht
      rcases ht with rfl | rfl | rfl | rfl | rfl | rfl
      all_goals first
        | exact absurd rfl nt
        | exact ⟨_, rfl, _, _, _, _, false, rfl, .ty "tuple", ty, kit_ty rfl, false, rfl, iteF q0⟩
    · refine ⟨_, rfl, _, _, _, _, true, rfl, .ty "tuple", .base (.tup ea), kit_ty rfl, true, rfl, iteT ?_⟩
      refine ⟨_, rfl, a, _, rfl, .inr (SqT.of ea), _, rfl, rfl, decide (xs.length = n), ?_, ite2 (fun h => ?_) (fun h => ?_)⟩
      · rw [dec_int]
        refine congrArg V.bl ?_
        rw [Bool.eq_iff_iff]
        simp [Int.ofNat_inj]
      · have hn : xs.length = n := of_decide_eq_true h
        refine ⟨_, rfl, a, rfl, ⟨_, SqT.of ea⟩, fun D nD => ?_⟩
        refine lc_it (walk_tup (xs := xs)) (fun i H' => Same H H' ∧ H' D = some (.lst ((bs.take i).map V.bl))) ⟨same_new nD, upd_same⟩ (fun i H' _ pv => SqT.of (pv.1 _ _ ea)) ?_ ?_
        · rintro i v H7 H8 hi' ⟨s7, e7⟩ ⟨rfl, hx⟩
          obtain ⟨b, hb⟩ : ∃ b, bs[i]? = some b := ⟨_, List.getElem?_eq_getElem (by rw [lb]; exact hi')⟩
          have it := (hi i v b hx hb).same s7
          refine ⟨rfl, _, rfl, v, b, rfl, it, _, e7, by rw [List.length_map, List.length_take]; omega, ?_, ?_⟩
          · intro b' o' e'
            rw [upd_ne (ne_of_none e' nD)]
            exact s7 _ _ e'
          · rw [upd_same, List.take_add_one, hb, List.map_append]
            rfl
        · rintro H7 ⟨s7, e7⟩
          rw [List.take_of_length_le (by omega)] at e7
          refine ⟨D, bs, rfl, SqL.of e7, ?_⟩
          rw [show bs.all id = false from List.all_eq_false.mpr ⟨false, hf hn, by simp⟩]
          exact q H7 s7
      · exact q0
end
end K11

set_option maxHeartbeats 600000
namespace K11
open PySem PySem.Spec PyProof.Rows L2 RtL ErL StX NSet PermX SX
open Grp (El mul)
section
variable {P : Program} {w : World} {K : Fr} {mg : Str → Option Value} {base : Heap} {f : Addr} {fd : FuncData}
abbrev AcXG (P : Program) (w : World) (K : Fr) (mg : Str → Option Value) (base : Heap) : Prop := ∃ f d, Gd P w K mg base 3 "are_counts" f d ["value", "many"] spAcX
def spM6X (K : Fr) : Sp := fun vs H Q _ => ∃ (a : Addr) (v : V) (nm : Str) (zs : List Str) (es : List (Addr × El)), vs = [.ref a, v] ∧ TabAt K H a nm zs es ∧ BadPl H v zs.length ∧ ∀ H', Same H H' → Q (.bl false) H'
theorem ok_m6X {q : Str} (F : FunD K "is_slot_places" q (defArgs (inT 6)) (defBody (inT 6)) (defScope (inT 6)) [] [] f fd) (T : TT K mg) (A1 : AcXG P w K mg base) : FnOk P w K mg base CX0 4 f fd ["self", "value"] (spM6X K) := by
  obtain ⟨f1, d1, G1⟩ := A1
  refine F.ok scM6 (fun vs H Q E h => ?_) (fun cdv A outer s H vs Q E hr h => ?_)
  · obtain ⟨a, v, nm, zs, es, rfl, _⟩ := h
    rfl
  · obtain ⟨a, v, nm, zs, es, rfl, ⟨dx, sl, g, ea, es', eg, _⟩, hb, qq⟩ := h
    refine ⟨_, PSs.nox (pss_one (ps_ret (pe_gd G1 hr (by rfl) (pa_cons (pv 1) (pa_cons (pe_callB call_len_seq (by rfl) T.fre (by decide +kernel) (pa_cons (pe_fld (pv 0) rfl) pa_nil)) pa_nil))))), ?_⟩
    exact ⟨_, rfl, _, rfl, a, _, dx, _, _, rfl, ea, T.cl, T.no "_slots" (by decide), rfl, sl, _, rfl, .inr (SqT.of es'), v, zs.length, by rw [List.length_map]; rfl, hb, fun H' s' => qq H' s'⟩
abbrev M6Xd (P : Program) (w : World) (K : Fr) (mg : Str → Option Value) (base : Heap) : Prop := ∃ d, Md P w K mg base 4 (tm K "is_slot_places") d ["self", "value"] (spM6X K)
/-! ### least and class_of, refused -/
def spPlX (K : Fr) : Sp := fun vs H _ E => ∃ (a : Addr) (v : V) (nm : Str) (zs : List Str) (es : List (Addr × El)), vs = [.ref a, v] ∧ TabAt K H a nm zs es ∧ BadPl H v zs.length ∧ RefE K "InvalidPlaces" H v E
theorem ok_m7X {q : Str} (F : FunD K "least" q (defArgs (inT 7)) (defBody (inT 7)) (defScope (inT 7)) [] [] f fd) (T : TT K mg) (A1 : M6Xd P w K mg base) : FnOk P w K mg base (L2.CX P w) 5 f fd ["self", "places"] (spPlX K) := by
  obtain ⟨d1, G1⟩ := A1
  have er := T.er "InvalidPlaces" (by decide)
  refine F.ok scM7 (fun vs H Q E h => ?_) (fun cdv A outer s H vs Q E hr h => ?_)
  · obtain ⟨a, v, nm, zs, es, rfl, _⟩ := h
    rfl
  · obtain ⟨a, v, nm, zs, es, rfl, ta, hb, r⟩ := h
    refine ⟨_, (pss_cons (ps_if (pt_not (pt_val (pe_meth (pv 0) T.cl (T.meth "is_slot_places" (by decide)) G1.ok hr G1.bd .nil pass0 (pa_cons (pv 1) pa_nil)))) (pss_one (ps_raise rfl (takes_of rfl rfl rfl rfl) (pmk_er1 er.cl (T.in1 (by decide)) bd1_value hr (by rfl) (T.gl "InvalidPlaces" (by decide)) (raises_own er.be er.tc) (pa_cons (pv 1) pa_nil)))) pss_nil)
      (pss_one ps_never)), ?_⟩
    obtain ⟨dx, sl, g, ea, esl, eg, hes⟩ := _root_.id ta
    exact ⟨_, rfl, a, dx, _, rfl, ea, rfl, _, rfl, a, v, nm, zs, es, rfl, ta, hb, fun H1 s1 => ⟨false, rfl, iteT ⟨_, rfl, _, rfl, fun d nd => r d _ (s1.trans (same_new nd)) upd_same⟩⟩⟩
theorem ok_m8X {q : Str} (F : FunD K "class_of" q (defArgs (inT 8)) (defBody (inT 8)) (defScope (inT 8)) [] [] f fd) (T : TT K mg) (A1 : M6Xd P w K mg base) : FnOk P w K mg base (L2.CX P w) 5 f fd ["self", "places"] (spPlX K) := by
  obtain ⟨d1, G1⟩ := A1
  have er := T.er "InvalidPlaces" (by decide)
  refine F.ok scM8 (fun vs H Q E h => ?_) (fun cdv A outer s H vs Q E hr h => ?_)
  · obtain ⟨a, v, nm, zs, es, rfl, _⟩ := h
    rfl
  · obtain ⟨a, v, nm, zs, es, rfl, ta, hb, r⟩ := h
    refine ⟨_, (pss_cons (ps_if (pt_not (pt_val (pe_meth (pv 0) T.cl (T.meth "is_slot_places" (by decide)) G1.ok hr G1.bd .nil pass0 (pa_cons (pv 1) pa_nil)))) (pss_one (ps_raise rfl (takes_of rfl rfl rfl rfl) (pmk_er1 er.cl (T.in1 (by decide)) bd1_value hr (by rfl) (T.gl "InvalidPlaces" (by decide)) (raises_own er.be er.tc) (pa_cons (pv 1) pa_nil)))) pss_nil)
      (pss_one ps_never)), ?_⟩
    obtain ⟨dx, sl, g, ea, esl, eg, hes⟩ := _root_.id ta
    exact ⟨_, rfl, a, dx, _, rfl, ea, rfl, _, rfl, a, v, nm, zs, es, rfl, ta, hb, fun H1 s1 => ⟨false, rfl, iteT ⟨_, rfl, _, rfl, fun d nd => r d _ (s1.trans (same_new nd)) upd_same⟩⟩⟩
end
end K11

set_option maxHeartbeats 4000000
/-! the end of a law whose defs hold several lambdas: as many tables of code objects, empty and written while it runs -/
namespace RtL
open PySem PySem.Spec PyProof.Rows L2 ErL LamX
abbrev scOb (us : List Value) : Obj := { cls := .type "list", data := .seq us.toArray }
abbrev tbOb : Obj := { cls := .none, data := .fields #[] }
theorem lawGTs {P : Program} {w : World} {K : Fr} {mg mb : Str → Option Value} {k : Nat} {fl sc : Addr} {ts : List (Addr × Addr)} {fd : FuncData} {x : Str} {sp : SpG} {st : Shared} {us : List Value} {zs : List Int}
    (kin : K.In st.heap) (n1 : st.heap.Ns mainGlobals mg) (n2 : st.heap.Ns builtinsNs mb) (n3 : ∀ y : Str, y ≠ "__name__" → mb y = bootBuiltins y) (nl : st.heap.NoLimit) (ng : st.gens = #[])
    (tb : ∀ p ∈ ts, st.heap.get? p.2 = some tbOb) (tk : ∀ p ∈ ts, K.lookup p.2 = none) (ch : ∀ p ∈ ts, PySem.W.CodeHd st.heap p.1 p.2)
    (bm : ∃ (m : Addr) (o : Obj), mg "__builtins__" = some (.ref m) ∧ m ≠ builtinsNs ∧ st.heap.get? m = some o ∧ o.cls = .type "module" ∧ o.dict = some builtinsNs ∧ o.data = .plain)
    (here : st.heap.get? sc = some (scOb us)) (iz : IntsAre us zs) (lz : zs.length ≤ sizeLine) (rm : Room k callerA) (F : ∀ b : Heap, K.In b → b.Ns mainGlobals mg → (∀ p ∈ ts, TabB b mg p.1 p.2) → FnG P w K mg b k fl fd [x] sp) (bd : Binds K fd [x] [])
    (pr : ∀ H : Hp, (∀ p ∈ ts, H p.2 = some (.tbl #[])) → SqL K H sc (zs.map V.int) → sp [.ref sc] H (fun v _ => v = .bl true)) :
    codeAny (model P w) callerA (.call (.ref fl) ⟨[.ref sc], []⟩) (fun r s' => r = .ok (.ret (.bool true)) ∧ OldK st.heap s'.heap ∧ s'.os = st.os ∧ AllBare s'.gens) st := by
  have vz := vals_ints iz
  have lu : (zs.map V.int).length ≤ sizeLine := by
    rw [List.length_map]
    exact lz
  have ap : ∀ p ∈ ts, sc ≠ p.2 := fun p hp z => by
    have t := tb p hp
    rw [← z, here] at t
    have e : Data.seq us.toArray _ = Data.fields #[] := congrArg Obj.data (Option.some.inj t)
    cases e
  have isT : ∀ b, b ∈ ts.map (·.2) → ∃ p ∈ ts, p.2 = b := fun b hb => List.mem_map.mp hb
  -- tracked: the tables, and the script if it is no object of the written part
  obtain ⟨H, on, hP, sq⟩ : ∃ H : Hp, (∀ b y, H b = some y → (b ∈ ts.map (·.2) ∧ y = .tbl #[]) ∨ (b = sc ∧ K.lookup sc = none ∧ y = .frz (scOb us) (.lst (zs.map V.int)))) ∧ (∀ p ∈ ts, H p.2 = some (.tbl #[])) ∧ SqL K H sc (zs.map V.int) := by
    have nsc : sc ∉ ts.map (·.2) := fun hm => by
      obtain ⟨p, hp, e⟩ := isT sc hm
      exact ap p hp e.symm
    cases own : K.lookup sc with
    | some y =>
      have e := kin sc y own
      rw [here] at e
      cases e
      refine ⟨fun b => if b ∈ ts.map (·.2) then some (.tbl #[]) else none, fun b y z => ?_, fun p hp => if_pos (List.mem_map.mpr ⟨p, hp, rfl⟩), .inr ⟨_, us.toArray, _, own, rfl, rfl, rfl, ?_, by simpa using vz⟩⟩
      · by_cases hb : b ∈ ts.map (·.2)
        · have z : (if b ∈ ts.map (·.2) then some (HO.tbl #[]) else none) = some y := z
          rw [if_pos hb] at z
          exact .inl ⟨hb, (Option.some.inj z).symm⟩
        · have z : (if b ∈ ts.map (·.2) then some (HO.tbl #[]) else none) = some y := z
          rw [if_neg hb] at z
          cases z
      · rw [List.size_toArray, iz.length]
        exact lz
    | none =>
      refine ⟨fun b => if b ∈ ts.map (·.2) then some (.tbl #[]) else if b = sc then some (.frz (scOb us) (.lst (zs.map V.int))) else none, fun b y z => ?_, fun p hp => if_pos (List.mem_map.mpr ⟨p, hp, rfl⟩), .inl (.inr ⟨scOb us, ?_⟩)⟩
      · have z : (if b ∈ ts.map (·.2) then some (HO.tbl #[]) else if b = sc then some (.frz (scOb us) (.lst (zs.map V.int))) else none) = some y := z
        by_cases hb : b ∈ ts.map (·.2)
        · rw [if_pos hb] at z
          exact .inl ⟨hb, (Option.some.inj z).symm⟩
        · rw [if_neg hb] at z
          by_cases hs : b = sc
          · rw [if_pos hs] at z
            exact .inr ⟨hs, rfl, (Option.some.inj z).symm⟩
          · rw [if_neg hs] at z
            cases z
      · show (if sc ∈ ts.map (·.2) then _ else _) = _
        rw [if_neg nsc, if_pos rfl]
  have ok : HOk P w H st.heap := fun b y z => by
    rcases on b y z with ⟨hb, rfl⟩ | ⟨rfl, _, rfl⟩
    · obtain ⟨p, hp, rfl⟩ := isT b hb
      exact tb p hp
    · exact ⟨here, lu, us, _, vz, here⟩
  -- what is neither a list nor an empty row of fields is not tracked
  have out : ∀ {b : Addr} {o : Obj}, st.heap.get? b = some o → (∀ xs n, o.data ≠ .seq xs n) → o.data ≠ .fields #[] → H b = none := fun {b o} e d1 d2 => by
    cases q : H b with
    | none => rfl
    | some y =>
      rcases on b y q with ⟨hb, _⟩ | ⟨rfl, _, _⟩
      · obtain ⟨p, hp, rfl⟩ := isT b hb
        rw [tb p hp] at e
        cases e
        exact absurd rfl d2
      · rw [here] at e
        cases e
        exact absurd rfl (d1 _ _)
  have keep : ∀ {b : Addr} {o : Obj}, st.heap.get? b = some o → (∀ xs n, o.data ≠ .seq xs n) → o.data ≠ .fields #[] → (hidT st.heap H).get? b = some o := fun e d1 d2 => hidT_get e (out e d1 d2)
  have ns : ∀ {b : Addr} {m : Str → Option Value}, st.heap.Ns b m → (hidT st.heap H).Ns b m := by
    rintro b m ⟨o, es, ep, e, d, r⟩
    exact ⟨o, es, ep, keep e (fun xs n z => by rw [d] at z; cases z) (fun z => by rw [d] at z; cases z), d, r⟩
  have kb : K.In (hidT st.heap H) := fun b o e => hidT_get (kin b o e) (by
    cases q : H b with
    | none => rfl
    | some y =>
      rcases on b y q with ⟨hb, _⟩ | ⟨rfl, z, _⟩
      · obtain ⟨p, hp, rfl⟩ := isT b hb
        rw [tk p hp] at e
        cases e
      · rw [z] at e
        cases e)
  have TB : ∀ p ∈ ts, TabB (hidT st.heap H) mg p.1 p.2 := by
    intro p hp
    have notG : mainGlobals ≠ p.2 := fun z => by
      obtain ⟨o, es, ep, e, d, _⟩ := n1
      rw [z, tb p hp] at e
      cases e
      cases d
    refine ⟨?_, ?_, notG⟩
    · obtain ⟨o, u, g1, g2, g3, g4, g5, g6, g7, e, h1, h2, h3, rest⟩ := ch p hp
      exact ⟨o, u, g1, g2, g3, g4, g5, g6, g7, keep e (fun xs n z => by rw [h2] at z; cases z) (fun z => by rw [h2] at z; cases z; simp at h3), h1, h2, h3, rest⟩
    · obtain ⟨m, o, h1, h2, h3, h4, h5, h6⟩ := bm
      have a1 : m ≠ mainGlobals := fun z => by
        obtain ⟨o', es, ep, e, d, _⟩ := n1
        rw [← z, h3] at e
        cases e
        rw [h6] at d
        cases d
      have a2 : m ≠ p.2 := fun z => by
        rw [z, tb p hp] at h3
        cases h3
        cases h6
      exact ⟨m, o, h1, h2, a1, a2, keep h3 (fun xs n z => by rw [h6] at z; cases z) (fun z => by rw [h6] at z; cases z), h4, h5, h6⟩
  obtain ⟨ml, l1, l2⟩ := nl
  have env : Env0 P w K mg (hidT st.heap H) callerA [] st H :=
    { frames := rfl, mod := { kin := kb, glob := ns n1, blt := ⟨mb, ns n2, n3⟩, nolimit := ⟨ml, ns l1, l2⟩ }, bs := fun b o e => of_hidT e, bsz := Nat.le_of_eq (hidT_size _ _), funs := trivial, frf := fun b hb => (nomatch (show b ∈ ([] : List Addr) from hb)), hok := ok, bare := .of_eq ng }
  refine codeAny_mono ((F _ kb (ns n1) TB).run callerA [] st H ⟨[.ref sc], []⟩ [.ref sc] [.ref sc] _ rm rfl env (bd st [.ref sc] kin rfl) (.cons rfl .nil) (pr H hP sq)) ?_
  intro r s' h
  match r, h with
  | .ok (.ret u), h =>
    obtain ⟨v, H', os, ba, un, ok', rv, q⟩ := h
    cases (show v = .bl true from q)
    cases (show u = Value.bool true from rv)
    have tb' : ∀ p ∈ ts, ∃ more, s'.heap.get? p.2 = some { cls := .none, data := .fields (#[] ++ more) } := fun p hp => by
      obtain ⟨more, hm⟩ := un.tbls p.2 #[] (hP p hp)
      exact ⟨more, ok' p.2 _ hm⟩
    have old : ∀ b o, b ∉ ts.map (·.2) → st.heap.get? b = some o → s'.heap.get? b = some o := fun b o hb e => by
      cases q : H b with
      | none => exact un.keep b o e q (fun z => (nomatch (show b ∈ ([] : List Addr) from z))) (by simp)
      | some y =>
        rcases on b y q with ⟨z, _⟩ | ⟨rfl, _, rfl⟩
        · exact absurd z hb
        · rw [here] at e
          cases e
          exact (ok' _ _ (un.frzs _ _ _ q)).1
    refine ⟨rfl, ⟨fun b o e => ?_, fun b o e => ?_⟩, os, ba⟩
    · by_cases hb : b ∈ ts.map (·.2)
      · obtain ⟨p, hp, rfl⟩ := isT b hb
        have t := tb p hp
        rw [t] at e
        cases e
        obtain ⟨more, hm⟩ := tb' p hp
        exact .inr (.inl ⟨((ch p hp).tab t).isCodeTable, rfl, #[], more, rfl, hm⟩)
      · exact .inl (old b o hb e)
    · by_cases hb : b ∈ ts.map (·.2)
      · obtain ⟨p, hp, rfl⟩ := isT b hb
        obtain ⟨more, hm⟩ := tb' p hp
        exact ⟨_, hm⟩
      · exact ⟨o, old b o hb e⟩
  | .ok .next, h => exact False.elim h
  | .ok .brk, h => exact False.elim h
  | .ok .cont, h => exact False.elim h
  | .error e, h => exact False.elim h
end RtL

set_option maxHeartbeats 4000000
namespace RtL
open PySem PySem.Spec PyProof.Rows L2 ErL
section
variable {K : PySem.W.Frag} {x qual : Str} {params : Arguments} {body : List Stmt} {scope : Scope} {kws : List (Str × V)} {f : Addr} {fd : FuncData} {ps : List Str}
theorem kbindsN (F : FunD K x qual params body scope [] kws f fd) (n : Nat) (ks : List Str) (g : {α : Type} → List α → List α → List α)
    (hrel : ∀ {vs zs : List V} {us ws : List Value}, Vals vs us → Vals zs ws → Vals (g vs zs) (g us ws))
    (h : ∀ (kV doc pm : Value) (an : Option Addr) (cdv ct : Value) (us ws : List Value), us.length = n → ws.length = ks.length →
      bindArgs (PySem.W.fnOf x qual params body scope .none kV doc pm an cdv ct) ⟨us, ks.zip ws⟩ = pure (ps.zip (g us ws))) :
    KBn K fd ps n ks (fun us ws => g us ws) (fun vs zs => g vs zs) := by
  obtain ⟨oc, od, dV, kV, doc, pm, an, cdv, ct, osl, rfl, lk, hcd, hD, hK⟩ := F.ex
  rcases hD with ⟨_, rfl⟩ | ⟨e, _⟩
  · exact ⟨fun s us ws X l1 l2 => .of_eq (h kV doc pm an cdv ct us ws l1 l2), fun r1 r2 => hrel r1 r2⟩
  · exact absurd rfl e
end
/-- o.m(k = v, ..) -/
def tMethK0 (C : Addr) (m : Str) (n : Nat) (sp : Sp) (gV : List V → List V → List V) (E : XK) (ta : TE) (tk : TA) : TE := fun σ H Q => ta σ H fun x H1 => ∃ a dx fs, x = .ref a ∧ H1 a = some (.ins C dx fs) ∧ fs.lookup m = none ∧ tk σ H1 fun zs H2 => zs.length = n ∧ sp (gV [.ref a] zs) H2 Q E
section
variable {X : Cx} {CX : CXT} {k : Nat} {f C : Addr} {fd : FuncData} {ps ks : List Str} {sp : Sp} {E : XK} {m : Str} {pos apos : Pos} {o : Expr} {kws : List Keyword} {ta : TE} {tk : TA} {g : List Value → List Value → List Value} {gV : List V → List V → List V}
theorem pe_methK0 {pl : Sem Bool} (he : PE X o ta) (c : Cls X.K C) (hm : Meth X.K C m f) (F : FnOk X.prog X.w X.K X.mg X.base CX k f fd ps sp) (hr : Room k X.A) (hb : KBn X.K fd ps 1 ks g gV) (hx : Passes CX X E) (hkw : PK X kws tk)
    (hall : (backToKw pos (keywordEach kws X.env)).all (·.1.isSome) = true := by rfl) (hks : (backToKw pos (keywordEach kws X.env)).filterMap (·.1) = ks := by rfl)
    (hpl : ((backTo pos (starEach [] X.env)).any (·.1) || (backToKw pos (keywordEach kws X.env)).any (·.1.isNone)) = false := by rfl)
    (ht : eval (.Call (.Attribute o m apos) [] kws pos) X.env = (do
      let ov ← eval o X.env
      standAt apos.atName
      let (f, first) ← holding [ov] (getMethod ov m pl)
      callWith pos f first (backTo pos (starEach [] X.env)) (backToKw pos (keywordEach kws X.env))) := by rfl) :
    PE X (.Call (.Attribute o m apos) [] kws pos) (tMethK0 C m ks.length sp gV E ta tk) := by
  refine ⟨fun pins s σ H Q I h => ?_⟩
  refine PySem.W.methodCall_KW (pl := pl) (thn (he.run pins s σ H _ I h) fun u s1 ⟨x, H1, I1, rx, a, dx, fs, ex, ea, l, q⟩ => ?_) ht
  subst ex
  obtain rfl : u = Value.ref a := rx
  refine getmeth_ok I1 ea c hm l ?_
  refine PySem.W.callWith_KW0 (h₀ := X.base) I.ok.mod.kin hm.kp hall (thn (hkw.run pos pins s1 σ H1 _ I1 q) fun ws s2 ⟨zs, H2, I2, rz, lz, q2⟩ => ⟨I2.kIn, ?_⟩) hpl
  rw [hks]
  exact run_fnN (us := [.ref a]) (vs := [.ref a]) F hr hb hx I2 (.cons rfl .nil) rz rfl lz q2
end
end RtL

set_option maxHeartbeats 1000000
/-! a try with several clauses, each of which keeps the exception by a name -/
namespace RtL
open PySem PySem.Spec PyProof.Rows L2 ErL
abbrev TSa := Addr → Value → Option Addr → TS
def wAsAll (K : PySem.W.Frag) (Wo : WX) (D : Ends) : List (Value × Nat × TSa) → WX
  | [] => Wo
  | (c, i, ts) :: r => wAs K c i ts (wAsAll K Wo D r) D
inductive HdsAs (X : Cx) : List ExceptHandler → List (Value × Nat × TSa) → Prop
  | nil : HdsAs X [] []
  | cons {x n : Str} {c : Value} {i : Nat} {ts : TSa} {b : Stmt} {bs : List Stmt} {p p' : Pos} {hds : List ExceptHandler} {l : List (Value × Nat × TSa)} (names : Names X x c) (at_ : X.N[i]? = some n) (loc : X.env.kindOf n = some .local)
      (run : ∀ (a : Addr) (oe : Obj) (cls : Value) (d : Option Addr) (pn : List (Addr × Obj)), Zc cls d oe → (∃ vs, oe.data = .fields vs) → PSs (X.suite a ((a, oe) :: pn)) (b :: bs) (ts a cls d)) (rest : HdsAs X hds l) :
      HdsAs X (.ExceptHandler (some (.Name x p)) (some n) (b :: bs) p' :: hds) ((c, i, ts) :: l)
section
variable {X : Cx} {body : List Stmt} {hd : ExceptHandler} {hds : List ExceptHandler} {l : List (Value × Nat × TSa)} {pos : Pos} {tb : WX → TS} {Wo : WX}
theorem ps_try_ass (hs : X.stack = X.env :: X.outer) (hf : X.env.frame = some X.env.locals) (nd : X.N.Nodup) (tk : Takes X Wo)
    (bd : ∀ (W : WX) (pn : List (Addr × Obj)) (xe : Value → Shared → Prop), Takes (X.tr pn xe) W → PassesOwn (model X.prog X.w) X.A X.env xe → PSs (X.tr pn xe) body (tb W))
    (hh : HdsAs X (hd :: hds) l) : PS X (.Try body (hd :: hds) [] [] pos) (fun D σ H => tb (wAsAll X.K Wo D l) D σ H) := by
  refine ⟨fun pins s σ H D I h0 => wpAny_Try_except ?_⟩
  have ok := I.ok
  have fr1 : X.A.frames = some (X.env :: X.outer) := ok.frames.trans (congrArg some hs)
  have run := (bd (wAsAll X.K Wo D l) (X.pn ++ pins) (fun e s₁ => wpAny (model X.prog X.w) X.A (noteFrame e X.env) (fun _ s₂ => wpAny (model X.prog X.w) X.A (setFlight e none)
    (fun _ s₃ => wpAny (model X.prog X.w) X.A (handleBy e X.env (hd :: hds)) (SP X pins D) X.xe s₃) X.xe s₂) X.xe s₁) (fun u sK caught => ?_) PassesOwn.looking).run [] s σ H D (I.toTry _) h0
  · refine wpAny_mono run (fun fl s1 r => ?_) fun _ _ z => z
    cases fl with
    | next => exact let ⟨σ', H', J, q⟩ := r; wpAny_execs_nil ⟨σ', H', J.ofTry ok, q⟩
    | brk => exact let ⟨σ', H', J, q⟩ := r; ⟨σ', H', J.ofTry ok, q⟩
    | cont => exact let ⟨σ', H', J, q⟩ := r; ⟨σ', H', J.ofTry ok, q⟩
    | ret u => exact let ⟨v, σ', H', J, rv, q⟩ := r; ⟨v, σ', H', J.ofTry ok, rv, q⟩
  obtain ⟨e, B, sI, pins', σK, HK, cls, d, rfl, J0, new, up, sky, out, os, ag, w⟩ := caught
  have J : Inv X pins σK HK sI := J0.ofTry ok
  rw [hs] at sky
  show wpAny (model X.prog X.w) X.A (noteFrame (.ref e) X.env) _ _ sK
  refine Sky.land Zc.steady fr1 hf sky fun hL flL upL => ?_
  have upK := up.trans upL
  have JL : Inv X pins σK HK { sK with heap := hL } := J.landed new flL.1 upK os ag
  obtain ⟨oL, vsL, eL, zL, dL⟩ := flL.there
  have notF : e ∉ frs (X.env :: X.outer) := fun hm => by
    obtain ⟨_, o', e', no⟩ := flL.2.2.1.mem hm
    cases eL.symm.trans e'
    exact no _ dL
  have notL : e ≠ X.env.locals := fun z => notF (List.mem_filterMap.mpr ⟨X.env, List.mem_cons_self, z ▸ hf⟩)
  have notO : e ∉ X.fs := fun hm => let ⟨x, hx, q⟩ := List.mem_filterMap.mp hm; notF (List.mem_filterMap.mpr ⟨x, List.mem_cons_of_mem _ hx, q⟩)
  have SL := JL.suite eL dL out notL notO
  suffices go : ∀ (es : List ExceptHandler) (ls : List (Value × Nat × TSa)), HdsAs X es ls → wAsAll X.K Wo D ls cls d σK HK → wpAny (model X.prog X.w) X.A (handleBy (.ref e) X.env es) (SP X pins D) X.xe { sK with heap := hL } from go _ _ hh w
  intro es ls hk
  induction hk with
  | nil =>
    intro wish
    have up1 : wpAny (model X.prog X.w) X.A (setFlight (.ref e) X.env.frame) (fun _ s4 => wpAny (model X.prog X.w) X.A (throw (.ref e) : Sem Flow) (SP X pins D) X.xe s4) X.xe { sK with heap := hL } := by
      rw [hf]
      refine HandSPX.setFlight_upZ flL fun h4 sky4 up4 => wpAny_throw (tk _ _ ⟨e, B, sI, pins, σK, HK, cls, d, rfl, J, new, upK.trans up4, .inr (.inr ?_), out, os, ag, wish⟩)
      rw [hs]
      exact sky4
    obtain ⟨_, _, _, oe, vs, T, oT, ts', he, hz, hdt, h1, hr⟩ := id flL
    refine wpAny_handleBy_nil ?_
    unfold PySem.passOn
    refine wpAny_bind (wpAny_field he hdt h1 ?_)
    rw [if_neg (by simp : ¬ ((Value.ref T == Value.none) = true))]
    first
      | exact wpAny_bind (wpAny_pure (wpAny_bind up1))
      | exact wpAny_bind up1
  | @cons x n c i ts b bs p p' hds2 l2 names at_ loc run2 rest ih =>
    intro ⟨m, hm, yes, no⟩
    have looks : PySem.W.Looks (model X.prog X.w) hL (typeOf (.ref e)) cls := fun A Q E s k q => wpAny_typeOf_ref (k _ _ eL) (zL.1 ▸ q)
    refine wpAny_handleBy_cons (codeAny_handlers_test ?_) fun q => nomatch q
    have told : ∀ {Q E : Value → Shared → Prop}, Q c { sK with heap := hL } → wpAny (model X.prog X.w) (X.A.mark (some (.ref e))) (eval (.Name x p) X.env) Q E { sK with heap := hL } := fun {Q E} q =>
      match names with
      | ⟨hg, hdb, .inl hm⟩ => ld_glob (X := X.suite e ((e, oL) :: (X.pn ++ pins))) SL hg hm q hdb
      | ⟨hg, hdb, .inr ⟨hm, hv, hn⟩⟩ => ld_blt (X := X.suite e ((e, oL) :: (X.pn ++ pins))) SL hg hm hv q hn hdb
    refine told ((PySem.W.exm_one (M := model X.prog X.w) JL.kIn looks hm).here ?_)
    cases m with
    | false => exact ih (no rfl)
    | true =>
      refine codeAny_handlers_suite_as (HandSPX.lands_againZ flL fun h4 fl4 up4 => ?_)
      obtain ⟨o4, vs4, e4, z4, d4⟩ := fl4.there
      have S4 := (J.landed new fl4.1 (upK.trans up4) os ag : Inv X pins σK HK { sK with heap := h4 }).suite e4 d4 out notL notO
      refine store_ok (X := X.suite e ((e, o4) :: (X.pn ++ pins))) (v := .ref e) S4 nd at_ (.inl loc) rfl (fun s5 S5 => ?_) (.inr loc)
      refine wpAny_mono ((run2 e o4 cls d (X.pn ++ pins) z4 ⟨_, d4⟩).run [] s5 _ HK _ S5 (yes rfl e out)) (fun fl s6 r => ?_) fun _ _ z => z.elim
      have drop : ∀ {σ6 : L2.St} {H6 : Hp} {Q : Shared → Prop}, Inv (X.suite e ((e, o4) :: (X.pn ++ pins))) [] σ6 H6 s6 → (∀ s7, Inv X pins (σ6.set i none) H6 s7 → Q s7) →
          wpAny (model X.prog X.w) X.A (do bindName X.env n .none; unbindBehindTheSuite X.env n p') (fun _ s7 => Q s7) X.xe s6 := fun {_ _ _} S6 hq => gone_ok (S6.unsuite ok) nd at_ loc hq
      cases fl with
      | next => exact let ⟨σ6, H6, S6, q6⟩ := r; drop S6 fun s7 J7 => ⟨_, _, J7, q6⟩
      | brk => exact let ⟨σ6, H6, S6, q6⟩ := r; drop S6 fun s7 J7 => ⟨_, _, J7, q6⟩
      | cont => exact let ⟨σ6, H6, S6, q6⟩ := r; drop S6 fun s7 J7 => ⟨_, _, J7, q6⟩
      | ret u => exact let ⟨v6, σ6, H6, S6, r6, q6⟩ := r; drop S6 fun s7 J7 => ⟨_, _, _, J7, r6, q6⟩
end
end RtL

set_option maxHeartbeats 1000000
/-! a lambda without parameters handed to a def of one parameter; what it raises is told by the def's slots -/
namespace RtL
open PySem PySem.Spec PyProof.Rows L2 ErL LamX
/-- the def that calls what it got, a its name -/
def Gives1 (X : Cx) (k : Nat) (Ng : List Str) (x : Str) (sg : Scope) (g : Addr) (cdg : Value) (bg : List Stmt) (a q : Str) (TT : (XK → Hp → VK → Prop) → Hp → VK → Prop) : Prop :=
  ∀ (f c' : Addr) (s : Shared) (H : Hp) (Q : VK) (tl : XK → Hp → VK → Prop),
    Room (k + 1) (X.A.deeper (envOfC x sg s.heap.objs.size g cdg)) → (X.A.deeper (envOfC x sg s.heap.objs.size g cdg)).guards = some [] →
    (∀ (W : WX) (pn : List (Addr × Obj)) (xe : Value → Shared → Prop) (p1 p2 : Pos), Takes ((cxOf CX0 X.prog X.w X.K X.mg X.base Ng x sg g cdg X.A X.stack s H E0).tr pn xe) W →
      PE ((cxOf CX0 X.prog X.w X.K X.mg X.base Ng x sg g cdg X.A X.stack s H E0).tr pn xe) (.Call (.Name a p1) [] [] p2) (fun σZ HZ Q => σZ[0]? = some (some (.ref f)) ∧ HZ c' = some (CodeO c' q) ∧ tl (WE W σZ) HZ Q)) →
    H c' = some (CodeO c' q) → TT tl H Q →
    ∃ t, PSs (cxOf CX0 X.prog X.w X.K X.mg X.base Ng x sg g cdg X.A X.stack s H E0).nox bg t ∧ t { nx := fun _ H' => Q .non H', rt := Q } (L2.start Ng [.ref f]) H
section
variable {X : Cx}
/-- x(lambda: body) -/
theorem pe_lamcall1 {T : List (Addr × Str)} {TT : (XK → Hp → VK → Prop) → Hp → VK → Prop} {x a : Str} {g c P : Addr} {k : Nat} {pg : Arguments} {bg : List Stmt} {sg : Scope} {dV kV doc pm cdv ct oc : Value} {an od : Option Addr} {osl : Array (Option Value)} {Ng : List Str}
    {params : Arguments} {body : Expr} {scope : Scope} {t : XK → TE} {p lpos pos : Pos} (hg : Gl X x) (hm : X.mg x = some (.ref g)) (hk : PySem.W.keepIn X.K (.ref g) = true)
    (lk : X.K.lookup g = some ⟨oc, od, .func (PySem.W.fnOf x x pg bg sg dV kV doc pm an cdv ct), osl⟩) (hcg : PySem.W.codeIn X.K cdv x = true) (hb : L2.Binds X.K (PySem.W.fnOf x x pg bg sg dV kV doc pm an cdv ct) [a] []) (Sg : FnScope Ng [a] sg) (hNg : Ng[0]? = some a) (hva : Vis sg a)
    (hG : Gives1 X k Ng x sg g cdv bg a (X.env.qual ++ "<lambda>") TT)
    (TB : TabB X.base X.mg c P) (hcode : X.env.code = .ref c) (hmT : (P, X.env.qual ++ "<lambda>") ∈ T) (hu : ∀ p ∈ T, p.1 = P → p.2 = X.env.qual ++ "<lambda>") (hr : Room (k + 2) X.A) (hgd : X.A.guards = some []) (L : LamS X.env.scope scope) (hdef : defaultsOf params X.env = ([], []))
    (hbind : ∀ (q : Str) (cl : List (Str × Addr)) (pm cv ctv : Value), bindArgs (PySem.W.kla_fn "<lambda>" q params body scope cl pm cv ctv) ⟨[], []⟩ = pure [])
    (hbody : ∀ (A : Around) (outer : List Env) (s : Shared) (H : Hp) (E : XK) (f c' : Addr), Room k (A.deeper (lamEnv X scope s.heap.objs.size f c')) → PE (lamCx X A outer s H E scope f c') body (t E))
    (hdb : (x == ("__debug__" : Str)) = false := by decide) (hd : (a == ("__debug__" : Str)) = false := by decide) (hcd : (a == ("__classdict__" : Str)) = false := by decide) :
    PE X (.Call (.Name x p) [.Lambda params body scope lpos] [] pos) (tLam T TT t) := by
  refine ⟨fun pins s σ H Q I h => ?_⟩
  obtain ⟨hT, h⟩ := h
  refine wpAny_Call_Name_kw (ld_glob I hg hm ?_ hdb)
  refine PySem.W.callWith_K (h₀ := X.base) I.ok.mod.kin hk ?_ (by rfl) (by rfl)
  show wpAny _ _ (spliced ((false, eval (.Lambda params body scope lpos) X.env) :: backTo pos (starEach [] X.env))) _ _ s
  refine Calls.spliced_cons (lam_make2 I TB hcode hmT hu hT hdef (L.has I.ok) fun f c' pm' ctv H1 s' I1 eN T1 hf hfn hfr hco => ?_)
  refine Calls.spliced_nil ⟨I1.kIn, ?_⟩
  have rc : codeAny (model X.prog X.w) X.A (.call (.ref g) ⟨[.ref f], []⟩) (CR CX0 X.stack X.prog X.w H1 s' Q E0) s' := by
    refine run_ofS (N := Ng) (ps := [a]) (us := [.ref f]) (vs := [.ref f]) lk hcg Sg hr I1.env0 (hb s' [.ref f] I1.kIn rfl) (.cons rfl .nil) rfl fun hr' => ?_
    obtain ⟨t', ht', hq'⟩ := hG f c' s' H1 Q (fun E H' Q' => t E σ H' Q') hr' (guards_deeper hgd)
      (fun W pn xe p1 p2 tk => pe_act2 (i := 0) I1 L hf hfn hfr (hbind _ _ _ _ _) tk hr' (fun A outer s H E hr2 => hbody A outer s H E f c' hr2) hNg hva hd hcd) hco (h H1 eN T1)
    exact ⟨t', ht'.nox, hq'⟩
  refine wpAny_call (codeAny_mono rc fun r s3 hq => ?_)
  cases r with
  | error e => exact (show False from hq).elim
  | ok fl =>
    cases fl with
    | ret u => exact I1.after hq
    | next => exact False.elim hq
    | brk => exact False.elim hq
    | cont => exact False.elim hq
end
end RtL

set_option maxHeartbeats 4000000
/-! a def whose code object is known (it holds a lambda) -/
namespace RtL
open PySem PySem.Spec PyProof.Rows L2 ErL
section
variable {P : Program} {w : World} {K : Fr} {mg : Str → Option Value} {base : Heap} {f : Addr} {fd : FuncData}
/-- the code object of a def -/
def codeIs (K : Fr) (f c : Addr) : Prop := ∃ oc od fd osl, K.lookup f = some ⟨oc, od, .func fd, osl⟩ ∧ fd.code = .ref c
theorem fnG_Dc {k : Nat} {ps N : List Str} {sp : SpG} {x qual : Str} {params : Arguments} {body : List Stmt} {scope : Scope} {c : Addr} (F : FunD K x qual params body scope [] [] f fd) (hc : codeIs K f c) (S : FnScope N ps scope) (len : ∀ vs H Q, sp vs H Q → vs.length = ps.length)
    (hbody : ∀ (A : Around) (outer : List Env) (s : Shared) (H : Hp) (vs : List V) (Q : VK), Room k (A.deeper (envOfC qual scope s.heap.objs.size f (.ref c))) →
      (A.deeper (envOfC qual scope s.heap.objs.size f (.ref c))).guards = some [] → sp vs H Q →
      ∃ t, PSs (cxOf CX0 P w K mg base N qual scope f (.ref c) A outer s H E0).nox body t ∧ t { nx := fun _ H' => Q .non H', rt := Q } (start N vs) H) :
    FnG P w K mg base (k + 1) f fd ps sp := by
  obtain ⟨oc, od, dV, kV, doc, pm, an, cdv, ct, osl, rfl, lk, hcd, _, _⟩ := F.ex
  obtain ⟨oc', od', fd', osl', lk', hcc⟩ := hc
  rw [lk] at lk'
  obtain rfl : cdv = .ref c := by
    injection lk' with e
    injection e with e1 e2 e3 e4
    injection e3 with e3
    rw [← hcc, ← e3]
  refine ⟨len, fun A outer s H args us vs Q hr hg e0 hb r hsp => ?_⟩
  exact LamX.run_ofS (N := N) lk hcd S hr e0 hb r (len _ _ _ hsp) fun hr' => by
    obtain ⟨t, ht, hq⟩ := hbody A outer s H vs Q hr' (guards_deeper hg) hsp
    exact ⟨t, ht.nox, hq⟩
end
end RtL

set_option maxHeartbeats 1000000
namespace K11
open PySem PySem.Spec PyProof.Rows L2 RtL ErL LamX
section
variable {K : Fr} {mg : Str → Option Value}
theorem tabN_gl {x : Str} (hx : x ∈ tabN) : x ∈ gn ++ ln := by revert x; decide
/-- the tables of the defs with a lambda -/
theorem tab_K {h : Heap} {x : Str} {c Pt : Addr} (hx : x ∈ tabN) (X : K.In h) (G : h.Ns mainGlobals mg) (T : TT K mg) (s : Says K) (e : PySem.W.tabIn K x = some (c, Pt)) : codeIs K (He.ga K x) c ∧ PySem.W.CodeHd h c Pt ∧ K.lookup Pt = none := by
  have c1 : (((fa.all fun f => f.ok K) && fn.all fun d => d.ok K) && (chk K && tabB K)) = true := congrArg (fun z : AlX => z.1.1) s
  have k := (He.ba (He.ba c1).2).2
  unfold tabB at k
  have k := List.all_eq_true.mp (He.ba k).1 x hx
  rw [e] at k
  obtain ⟨k1, k2⟩ := He.ba k
  refine ⟨?_, PySem.W.codeHd_of_K X k1, by simpa using k2⟩
  unfold PySem.W.tabIn at e
  split at e
  · rename_i f hf
    have e1 := PySem.W.mg_of X G hf
    rw [T.gl x (tabN_gl hx)] at e1
    cases e1
    split at e
    · rename_i oc od fd osl hfo
      split at e
      · rename_i c2 hcd
        split at e
        · split at e
          · cases e
            exact ⟨_, _, _, _, hfo, hcd⟩
          · cases e
        · cases e
      · cases e
    · cases e
  · cases e
/-- each its own -/
theorem tab_ne {c1 c2 c3 P1 P2 P3 : Addr} (s : Says K) (e1 : PySem.W.tabIn K "_law_places_refused" = some (c1, P1)) (e2 : PySem.W.tabIn K "_law_makers_refused" = some (c2, P2)) (e3 : PySem.W.tabIn K "law" = some (c3, P3)) : P1 ≠ P2 ∧ P1 ≠ P3 ∧ P2 ≠ P3 := by
  have h1 : (((fa.all fun f => f.ok K) && fn.all fun d => d.ok K) && (chk K && tabB K)) = true := congrArg (fun z : AlX => z.1.1) s
  have k := (He.ba (He.ba h1).2).2
  unfold tabB at k
  have k := (He.ba k).2
  rw [show tabN.filterMap (PySem.W.tabIn K) = [(c1, P1), (c2, P2), (c3, P3)] from by
    unfold tabN
    rw [List.filterMap_cons_some e1, List.filterMap_cons_some e2, List.filterMap_cons_some e3, List.filterMap_nil]] at k
  simp only [Bool.and_eq_true, bne_iff_ne] at k
  exact ⟨k.1, k.2.1, k.2.2⟩
end
end K11

set_option maxHeartbeats 600000
namespace K11
open PySem PySem.Spec PyProof.Rows L2 RtL ErL StX NSet
open Grp (El mul)
section
variable {P : Program} {w : World} {K : Fr} {mg : Str → Option Value} {base : Heap} {f : Addr} {fd : FuncData}
/-- a table is like nothing that is no table -/
def spEqX (K : Fr) : Sp := fun vs H Q _ => ∃ (a : Addr) (v : V) (t : String), vs = [.ref a, v] ∧ OddV H v t ∧ Q (.bl false) H
theorem ok_eqX {q : Str} (F : FunD K "__eq__" q (defArgs (inT 10)) (defBody (inT 10)) (defScope (inT 10)) [] [] f fd) (T : TT K mg) : FnOk P w K mg base CX0 1 f fd ["self", "other"] (spEqX K) := by
  refine F.ok scMe (fun vs H Q E h => ?_) (fun cdv A outer s H vs Q E hr h => ?_)
  · obtain ⟨a, v, t, rfl, _⟩ := h
    rfl
  · obtain ⟨a, v, t, rfl, od, qq⟩ := h
    refine ⟨_, PSs.nox (pss_cons (ps_if (pt_not (pt_val (pe_callB call_isi (by rfl) T.fre (by decide +kernel) (pa_cons (pv 1) (pa_cons (pe_glob (v := .ref (TC K)) (by rfl) (T.gl "Table" (by decide)) rfl) pa_nil))))) (pss_one (ps_ret pe_bl)) pss_nil)
      (pss_one ps_never)), ?_⟩
    have ht := od.mem
    exact ⟨_, rfl, _, _, _, _, false, rfl, .own _, od.ty (K := K), T.kitT t ((show ∀ t ∈ oddT, t ∈ tys by decide) t ht), false, rfl, iteT qq⟩
end
end K11

set_option maxHeartbeats 1000000
namespace K11
open PySem PySem.Spec PyProof.Rows L2 RtL ErL StX LamX
section
variable {P : Program} {w : World} {K : Fr} {mg : Str → Option Value} {base : Heap} {f : Addr} {fd : FuncData}
abbrev sIs : Stmt := top 40
abbrev NIs : List Str := ["_law_call", "_law_value", "_law_told", "e"]
theorem scIs : FnScope NIs ["_law_call", "_law_value"] (defScope sIs) := ⟨rfl, rfl, rfl, by decide +kernel, rfl, by decide +kernel, by decide +kernel⟩
/-- which error, and how it is told -/
def Kd (C k : Str) : Prop := (C = "InvalidPlaces" ∧ k = "places") ∨ (C = "InvalidName" ∧ k = "name") ∨ (C = "InvalidCount" ∧ k = "count")
def dIs (k : Str) (d : PyData) : PyData := .list [.str k, d, .bool true]
def TTi (K : Fr) : V → (XK → Hp → VK → Prop) → Hp → VK → Prop := fun u tl H Q => ∃ (a : Addr) (C k : Str) (x : V) (d : PyData), u = .ref a ∧ H a = some (.lst [.str k, x]) ∧ Kd C k ∧ Dq H x d ∧ OkW (dIs k d) ∧
  (∀ H0 E R, Same H H0 → RefE K C H0 x E → tl E H0 R) ∧ ∀ H', Same H H' → Q (.bl true) H'
abbrev tIs (K : Fr) (k C : Str) : TSa := fun a cls d => tAsg (tLst (tCons (tC (.str k)) (tCons (tBy1 (He.ga K C) "value" a cls d (tVar 3)) (tCons (tCB (rIsS K (He.ga K C) a cls d) (tCons (tVar 3) (tCons (tC (.ref (He.ga K "SlotsumsError"))) tNil))) tNil)))) (gName 2)
theorem gives_is {X : Cx} (hP : X.prog = P) (hw : X.w = w) (hK : X.K = K) (hmg : X.mg = mg) (hbase : X.base = base) {g : Addr} {cdg : Value} {qn : Str} {k : Nat} (T : TT K mg) : Gives2 X k NIs "_law_is" (defScope sIs) g cdg (defBody sIs) "_law_call" qn (TTi K) := by
  subst hP hw hK hmg hbase
  intro f c' s H Q u tl hr hG call hc' h
  obtain ⟨a, C, kd, x, d, rfl, ea, hk, dq, ok, hT, q⟩ := h
  have g1 := T.gl "InvalidPlaces" (by decide)
  have g2 := T.gl "InvalidName" (by decide)
  have g3 := T.gl "InvalidCount" (by decide)
  have e1 := T.er "InvalidPlaces" (by decide)
  have e2 := T.er "InvalidName" (by decide)
  have e3 := T.er "InvalidCount" (by decide)
  have hu : (X.A.deeper (envOfC "_law_is" (defScope sIs) s.heap.objs.size g cdg)).units + 70 < cLine := by have := hr.un; omega
  have three : 3 ≤ sizeLine := by rw [sizeLine_eq]; decide
  refine ⟨_, PSs.nox (pss_cons (ps_set (i := 2) scIs.nd rfl (Or.inl rfl) (pe_lst pa_nil))
      (pss_cons (ps_try_ass (tb := fun W => tDrop (fun σZ HZ Q => σZ[0]? = some (some (.ref f)) ∧ HZ c' = some (CodeO c' qn) ∧ tl (WE W σZ) HZ Q))
      (l := [(.ref (He.ga X.K "InvalidPlaces"), 3, tIs X.K "places" "InvalidPlaces"), (.ref (He.ga X.K "InvalidName"), 3, tIs X.K "name" "InvalidName"), (.ref (He.ga X.K "InvalidCount"), 3, tIs X.K "count" "InvalidCount")])
      (Wo := fun _ _ _ _ => False) rfl rfl scIs.nd L2.takes0
        (fun W pn xe tk _ => pss_one (ps_expr (call W pn xe _ _ tk)))
        (.cons ⟨rfl, by decide, .inl g1⟩ rfl rfl (fun a oe cls d pn hz hf => pss_one (ps_set (i := 2) scIs.nd rfl (Or.inl rfl) (pe_lst (pa_cons pe_str (pa_cons (pe_by1 e1.ask e1.va hz hf (pv 3)) (pa_cons (pe_callB (call_isS e1.ask hz hf) (by rfl) T.fre (by decide +kernel) (pa_cons (pv 3) (pa_cons (pe_glob (v := .ref (He.ga X.K "SlotsumsError")) (by rfl) (T.gl "SlotsumsError" (by decide)) rfl) pa_nil))) pa_nil))))))
        (.cons ⟨rfl, by decide, .inl g2⟩ rfl rfl (fun a oe cls d pn hz hf => pss_one (ps_set (i := 2) scIs.nd rfl (Or.inl rfl) (pe_lst (pa_cons pe_str (pa_cons (pe_by1 e2.ask e2.va hz hf (pv 3)) (pa_cons (pe_callB (call_isS e2.ask hz hf) (by rfl) T.fre (by decide +kernel) (pa_cons (pv 3) (pa_cons (pe_glob (v := .ref (He.ga X.K "SlotsumsError")) (by rfl) (T.gl "SlotsumsError" (by decide)) rfl) pa_nil))) pa_nil))))))
        (.cons ⟨rfl, by decide, .inl g3⟩ rfl rfl (fun a oe cls d pn hz hf => pss_one (ps_set (i := 2) scIs.nd rfl (Or.inl rfl) (pe_lst (pa_cons pe_str (pa_cons (pe_by1 e3.ask e3.va hz hf (pv 3)) (pa_cons (pe_callB (call_isS e3.ask hz hf) (by rfl) T.fre (by decide +kernel) (pa_cons (pv 3) (pa_cons (pe_glob (v := .ref (He.ga X.K "SlotsumsError")) (by rfl) (T.gl "SlotsumsError" (by decide)) rfl) pa_nil))) pa_nil)))))) .nil))))
      (pss_one (ps_ret (pe_cmpR op_eq (pe_callB (call_reprW hu hG T.sys) (by rfl) T.fre (by decide +kernel) (pa_cons (pv 2) pa_nil)) (pe_callB (call_reprW hu hG T.sys) (by rfl) T.fre (by decide +kernel) (pa_cons (pe_op op_cat (pv 1) (pe_lst (pa_cons pe_bl pa_nil))) pa_nil)) (nomark _)))))), ?_⟩
  refine ⟨Nat.zero_le _, fun l n => ?_⟩
  have s0 : Same H (upd H l (.lst [])) := same_new n
  refine ⟨rfl, s0 _ _ hc', hT _ _ _ s0 fun da H1 s1 ed => ?_⟩
  have h1 := s0.trans s1
  rcases hk with ⟨rfl, rfl⟩ | ⟨rfl, rfl⟩ | ⟨rfl, rfl⟩
  · refine ⟨true, e1.ex, fun _ c hc => ?_, fun z => nomatch z⟩
    refine ⟨_, rfl, rfl, rfl, da, x, rfl, ed, _, rfl, _, _, _, rfl, rfl, (fun dd h => by cases h; exact ⟨_, ed⟩), fun u h => h, T.sub _ (by decide), three, fun l2 n2 => ⟨_, rfl, ?_⟩⟩
    have h2 := h1.trans (same_new (o := .lst [.str "places", x, .bl true]) n2)
    refine ⟨l2, dIs "places" d, rfl, .lst upd_same (.cons (.str "places") (.cons (dq.same h2) (.cons (.bl true) .nil))), ok, _, rfl, by show 1 ≤ sizeLine; omega, fun b nb => ⟨a, b, _, _, rfl, rfl, same_new nb _ _ (h2 _ _ ea), upd_same, by show 3 ≤ sizeLine; exact three, fun c nc => ?_⟩⟩
    have h3 := (h2.trans (same_new (o := .lst [.bl true]) nb)).trans (same_new (o := .lst [.str "places", x, .bl true]) nc)
    refine ⟨c, dIs "places" d, rfl, .lst upd_same (.cons (.str "places") (.cons (dq.same h3) (.cons (.bl true) .nil))), ok, rfl, ?_⟩
    rw [decide_eq_true rfl]
    exact q _ h3
  · refine ⟨false, T.exn _ (by decide) _ (by decide) (by decide), (fun z => by cases z), fun _ => ?_⟩
    refine ⟨true, e2.ex, fun _ c hc => ?_, fun z => nomatch z⟩
    refine ⟨_, rfl, rfl, rfl, da, x, rfl, ed, _, rfl, _, _, _, rfl, rfl, (fun dd h => by cases h; exact ⟨_, ed⟩), fun u h => h, T.sub _ (by decide), three, fun l2 n2 => ⟨_, rfl, ?_⟩⟩
    have h2 := h1.trans (same_new (o := .lst [.str "name", x, .bl true]) n2)
    refine ⟨l2, dIs "name" d, rfl, .lst upd_same (.cons (.str "name") (.cons (dq.same h2) (.cons (.bl true) .nil))), ok, _, rfl, by show 1 ≤ sizeLine; omega, fun b nb => ⟨a, b, _, _, rfl, rfl, same_new nb _ _ (h2 _ _ ea), upd_same, by show 3 ≤ sizeLine; exact three, fun c nc => ?_⟩⟩
    have h3 := (h2.trans (same_new (o := .lst [.bl true]) nb)).trans (same_new (o := .lst [.str "name", x, .bl true]) nc)
    refine ⟨c, dIs "name" d, rfl, .lst upd_same (.cons (.str "name") (.cons (dq.same h3) (.cons (.bl true) .nil))), ok, rfl, ?_⟩
    rw [decide_eq_true rfl]
    exact q _ h3
  · refine ⟨false, T.exn _ (by decide) _ (by decide) (by decide), (fun z => by cases z), fun _ => ?_⟩
    refine ⟨false, T.exn _ (by decide) _ (by decide) (by decide), (fun z => by cases z), fun _ => ?_⟩
    refine ⟨true, e3.ex, fun _ c hc => ?_, fun z => nomatch z⟩
    refine ⟨_, rfl, rfl, rfl, da, x, rfl, ed, _, rfl, _, _, _, rfl, rfl, (fun dd h => by cases h; exact ⟨_, ed⟩), fun u h => h, T.sub _ (by decide), three, fun l2 n2 => ⟨_, rfl, ?_⟩⟩
    have h2 := h1.trans (same_new (o := .lst [.str "count", x, .bl true]) n2)
    refine ⟨l2, dIs "count" d, rfl, .lst upd_same (.cons (.str "count") (.cons (dq.same h2) (.cons (.bl true) .nil))), ok, _, rfl, by show 1 ≤ sizeLine; omega, fun b nb => ⟨a, b, _, _, rfl, rfl, same_new nb _ _ (h2 _ _ ea), upd_same, by show 3 ≤ sizeLine; exact three, fun c nc => ?_⟩⟩
    have h3 := (h2.trans (same_new (o := .lst [.bl true]) nb)).trans (same_new (o := .lst [.str "count", x, .bl true]) nc)
    refine ⟨c, dIs "count" d, rfl, .lst upd_same (.cons (.str "count") (.cons (dq.same h3) (.cons (.bl true) .nil))), ok, rfl, ?_⟩
    rw [decide_eq_true rfl]
    exact q _ h3
end
end K11

set_option maxHeartbeats 4000000
/-! min(l), l a list of rows of whole numbers -/
namespace NSet
open PySem PySem.Spec PyProof.Rows L2 RtL
open PySem.W (EachIs)
theorem lex_dec : ∀ a b : List Int, HT.lexLt a b = decide (a < b)
  | [], [] => by simp [HT.lexLt]
  | [], y :: b => by simp [HT.lexLt]
  | x :: a, [] => by simp [HT.lexLt]
  | x :: a, y :: b => by
    rw [HT.lexLt_cons, lex_dec a b]
    by_cases h : x = y
    · rw [if_pos h, h]; simp [List.cons_lt_cons_iff]
    · rw [if_neg h]; simp [List.cons_lt_cons_iff, h]
theorem dRow_lt (a b : List Int) : PySem.W.dataLt (dRow a) (dRow b) = HT.lexLt a b := by
  unfold dRow
  rw [PySem.W.dataLt_tuple]
  show PySem.W.rowLt (a.map .int) (b.map .int) = _
  rw [PySem.W.dataLt_ints, lex_dec]
def minR (x : List Int) (xs : List (List Int)) : List Int := xs.foldl (fun a y => if HT.lexLt y a then y else a) x
theorem minD_rows : ∀ (xs : List (List Int)) (x : List Int), PySem.W.minD (dRow x) (xs.map dRow) = dRow (minR x xs)
  | [], _ => rfl
  | y :: xs, x => by
    show PySem.W.minD (if PySem.W.dataLt (dRow y) (dRow x) then dRow y else dRow x) (xs.map dRow) = _
    rw [dRow_lt]
    have e : (if HT.lexLt y x = true then dRow y else dRow x) = dRow (if HT.lexLt y x = true then y else x) := by split <;> rfl
    rw [e, minD_rows xs]
    rfl
theorem lex_irr (a : List Int) : HT.lexLt a a = false := by rw [lex_dec]; exact decide_eq_false (List.lt_irrefl _)
theorem lex_ntr {a b c : List Int} (h1 : HT.lexLt b a = false) (h2 : HT.lexLt c b = false) : HT.lexLt c a = false := by
  rw [lex_dec, decide_eq_false_iff_not] at *
  exact List.not_lt.mpr (List.le_trans (List.not_lt.mp h1) (List.not_lt.mp h2))
theorem lex_tot {a b : List Int} (h1 : HT.lexLt b a = false) (h2 : HT.lexLt a b = false) : a = b := by
  rw [lex_dec, decide_eq_false_iff_not] at *
  exact List.le_antisymm (List.not_lt.mp h1) (List.not_lt.mp h2)
theorem lex_asy {a b : List Int} (h : HT.lexLt a b = true) : HT.lexLt b a = false := by
  rw [lex_dec, decide_eq_true_iff] at h
  rw [lex_dec, decide_eq_false_iff_not]
  exact List.lt_asymm h
theorem minR_spec : ∀ (xs : List (List Int)) (x : List Int), minR x xs ∈ x :: xs ∧ ∀ c ∈ x :: xs, HT.lexLt c (minR x xs) = false
  | [], x => ⟨List.mem_cons_self, fun c hc => by rw [List.mem_singleton.mp hc]; exact lex_irr x⟩
  | y :: xs, x => by
    show minR (if HT.lexLt y x = true then y else x) xs ∈ _ ∧ ∀ c ∈ _, HT.lexLt c (minR (if HT.lexLt y x = true then y else x) xs) = false
    obtain ⟨i1, i2⟩ := minR_spec xs (if HT.lexLt y x = true then y else x)
    refine ⟨?_, fun c hc => ?_⟩
    · rcases List.mem_cons.mp i1 with h | h
      · rw [h]; split
        · exact List.mem_cons_of_mem _ List.mem_cons_self
        · exact List.mem_cons_self
      · exact List.mem_cons_of_mem _ (List.mem_cons_of_mem _ h)
    · have i0 := i2 _ List.mem_cons_self
      have both : HT.lexLt x (if HT.lexLt y x = true then y else x) = false ∧ HT.lexLt y (if HT.lexLt y x = true then y else x) = false := by
        split
        · rename_i h
          exact ⟨lex_asy h, lex_irr y⟩
        · rename_i h
          exact ⟨lex_irr x, by simpa using h⟩
      rcases List.mem_cons.mp hc with rfl | hc
      · exact lex_ntr i0 both.1
      · rcases List.mem_cons.mp hc with rfl | hc
        · exact lex_ntr i0 both.2
        · exact i2 c (List.mem_cons_of_mem _ hc)
theorem reads_all {h : Heap} {enc : Addr × List Int → PyData} {vs : List Value} {bs : List (Addr × List Int)} (e : EachIs (fun (v : Value) b => ∃ as, Reads h v (enc b) as) vs bs) : ∃ as, ReadsAll h vs (bs.map enc) as := by
  induction e with
  | nil => exact ⟨[], .nil⟩
  | cons r _ ih =>
    obtain ⟨as, r⟩ := r
    obtain ⟨cs, rs⟩ := ih
    exact ⟨_, .cons r rs⟩
theorem row_lay : ∀ l : List Int, PyData.canLayAll0 (l.map PyData.int) = true
  | [] => rfl
  | x :: l => by
    show (true && PyData.canLayAll0 (l.map PyData.int)) = true
    rw [row_lay l]
    rfl
theorem dRow_lay (l : List Int) : (dRow l).canLay0 = true := row_lay l
theorem rows_depth : ∀ l : List (List Int), PyData.depthAll (l.map dRow) ≤ 20
  | [] => by decide
  | x :: l => by
    show max (dRow x).depth (PyData.depthAll (l.map _)) ≤ 20
    exact Nat.max_le.mpr ⟨dRow_depth x, rows_depth l⟩
section
variable {X : Cx}
def rMinRows (K : PySem.W.Frag) : List V → Hp → VK → Prop := fun vs H Q => ∃ (l : Addr) (bs : List (Addr × List Int)), vs = [.ref l] ∧ SqL K H l (bs.map fun b => V.ref b.1) ∧ (∀ b ∈ bs, H b.1 = some (.tup (b.2.map V.int))) ∧ bs ≠ [] ∧
  ∀ b ∈ bs, (∀ c ∈ bs, HT.lexLt c.2 b.2 = false) → Q (.ref b.1) H
theorem cr_minRows (hc : X.calm = true) (hu : X.A.units + 64 < cLine) : CallR X (.builtin "min") (rMinRows X.K) := by
  intro pins s σ H vs us Q I r h
  obtain ⟨l, bs, rfl, hs, hb, hne, q⟩ := h
  obtain ⟨its, rv, hl, hz⟩ := I.list hs
  rw [Vals.ref1 r]
  have go : ∀ {us : List Value} {cs : List (Addr × List Int)}, Vals (cs.map fun b => V.ref b.1) us → (∀ b ∈ cs, b ∈ bs) → EachIs (fun (v : Value) b => ∃ as, Reads s.heap v (dRow b.2) as) us cs := by
    intro us cs
    induction cs generalizing us with
    | nil => intro h _; cases h; exact .nil
    | cons b cs ih =>
      intro h hm
      cases h with
      | cons r rs => exact .cons (Dp.reads I _ _ _ (row_dp (K := X.K) (hb b (hm b List.mem_cons_self))) r) (ih rs fun c hc => hm c (List.mem_cons_of_mem _ hc))
  obtain ⟨as, ra⟩ := reads_all (enc := fun b => dRow b.2) (go rv fun b hb => hb)
  have em : bs.map (fun b => dRow b.2) = (bs.map (·.2)).map dRow := by rw [List.map_map]; rfl
  rw [em] at ra
  obtain ⟨b0, bs', rfl⟩ : ∃ b0 bs', bs = b0 :: bs' := by
    cases bs with
    | nil => exact absurd rfl hne
    | cons b0 bs' => exact ⟨b0, bs', rfl⟩
  have ra : ReadsAll s.heap its (dRow b0.2 :: (bs'.map (·.2)).map dRow) as := ra
  have hd := rows_depth ((b0 :: bs').map (·.2))
  refine PySem.W.min_list_data (vs := its.toArray) (x := dRow b0.2) (xs := (bs'.map (·.2)).map dRow) (as := as) (I.ok.hd hc) hl.isList ra ⟨fun x hx y hy => ?_, fun x hx => ?_⟩ (by have hd : PyData.depthAll (dRow b0.2 :: (bs'.map (·.2)).map dRow) ≤ 20 := hd; omega) fun i v h' tk cs hv rd kp => ?_
  · have hx : x ∈ ((b0 :: bs').map (·.2)).map dRow := hx
    have hy : y ∈ ((b0 :: bs').map (·.2)).map dRow := hy
    obtain ⟨x', _, rfl⟩ := List.mem_map.mp hx
    obtain ⟨y', _, rfl⟩ := List.mem_map.mp hy
    exact dRow_alike _ _
  · have hx : x ∈ ((b0 :: bs').map (·.2)).map dRow := hx
    obtain ⟨x', _, rfl⟩ := List.mem_map.mp hx
    intro z
    cases z
  · have hv : its[i]? = some v := by simpa using hv
    have hi : i < (b0 :: bs').length := by
      have := (List.getElem?_eq_some_iff.mp hv).1
      have e := rv.length
      rw [List.length_map] at e
      omega
    obtain ⟨u, hu', ru⟩ := rv.get (i := i) (x := V.ref (b0 :: bs')[i].1) (by rw [List.getElem?_map, List.getElem?_eq_getElem hi]; rfl)
    rw [hu'] at hv
    cases hv
    have ru : v = Value.ref (b0 :: bs')[i].1 := ru
    have mb : (b0 :: bs')[i] ∈ b0 :: bs' := List.getElem_mem hi
    generalize (b0 :: bs')[i] = b at ru mb
    subst ru
    obtain ⟨ds, r2⟩ := Dp.reads I _ _ _ (row_dp (K := X.K) (hb b mb)) (show RelV (.ref b.1) (Value.ref b.1) from rfl)
    rw [minD_rows] at rd
    have e := PySem.SeqAt.Reads.unique _ _ _ _ _ (dRow_lay _) (PyProof.Rows.Reads.keeps kp r2) rd
    have e2 : b.2 = minR b0.2 (bs'.map (·.2)) := by
      have := congrArg (fun d => PyData.eqv d (dRow b.2)) e
      refine (dRow_inj _ _ ?_).symm
      rw [← e]
      unfold dRow
      rw [PyData.eqv, eqv_row]
      exact decide_eq_true rfl
    obtain ⟨_, m2⟩ := minR_spec (bs'.map (·.2)) b0.2
    refine ⟨.ref b.1, H, I.kept (t' := tk) kp, rfl, q b mb fun c hc => ?_⟩
    rw [e2]
    exact m2 c.2 (show c.2 ∈ (b0 :: bs').map (·.2) from List.mem_map.mpr ⟨c, hc, rfl⟩)
end
end NSet

set_option maxHeartbeats 1000000
/-! the least row of a class, and its sign -/
namespace Grp
theorem pw12_all : ∀ n : Nat, n ≤ 4 → (all n).all (fun y => decide (mul y (pw n y 11) = one n)) = true := by
  intro n h
  match n, h with
  | 0, _ => decide +kernel
  | 1, _ => decide +kernel
  | 2, _ => decide +kernel
  | 3, _ => decide +kernel
  | 4, _ => decide +kernel
  | n + 5, h => omega
theorem Rch.pw {n : Nat} {ts : List El} (ht : ∀ t ∈ ts, Ok n t) {y : El} (h : Rch n ts y) : ∀ k, Rch n ts (Grp.pw n y k)
  | 0 => Rch.one
  | k + 1 => Rch.app ht (Rch.pw ht h k) h
/-- each turn of a group has an inverse in it -/
theorem Rch.inv {n : Nat} {ts : List El} (hn : n ≤ 4) (ht : ∀ t ∈ ts, Ok n t) {y : El} (h : Rch n ts y) : ∃ z, Rch n ts z ∧ Grp.mul y z = Grp.one n :=
  ⟨Grp.pw n y 11, h.pw ht 11, of_decide_eq_true (List.all_eq_true.mp (pw12_all n hn) y (h.ok ht).mem)⟩
end Grp
namespace K11
open PySem NSet
open Grp (El mul Rch)
theorem tn_mul {n : Nat} {ns : List Int} {x y : El} (hx : Grp.Ok n x) (hy : Grp.Ok n y) : tn ns (mul x y) = tn (tn ns x) y := by
  unfold tn mul
  rw [List.map_map]
  refine List.map_congr_left fun i hi => ?_
  have lt : i < x.1.length := by rw [hx.len]; exact hy.lt hi
  show ns.getD (x.1.getD i 0) 0 = (x.1.map fun j => ns.getD j 0).getD i 0
  rw [List.getD_eq_getElem?_getD (l := x.1.map _), List.getElem?_map, List.getElem?_eq_getElem lt, Grp.getD_lt lt]
  rfl
/-- what least_of's walk has found -/
structure LoOk (ns : List Int) (es : List El) (c : Int × List Int × Bool) : Prop where
  at_ : (c.1 = 1 ∧ c.2.1 = ns) ∨ ∃ e ∈ es, tn ns e = c.2.1 ∧ e.2 = c.1
  lo0 : HT.lexLt ns c.2.1 = false
  lo : ∀ e ∈ es, HT.lexLt (tn ns e) c.2.1 = false
  em : c.2.2 = true ↔ ∃ e ∈ es, tn ns e = ns ∧ e.2 = -1
theorem LoOk.nil (ns : List Int) : LoOk ns [] (1, ns, false) := ⟨.inl ⟨rfl, rfl⟩, lex_irr ns, (fun e h => nomatch h), ⟨(fun h => nomatch h), fun ⟨e, h, _⟩ => nomatch h⟩⟩
theorem LoOk.snoc {ns : List Int} {es : List El} {c : Int × List Int × Bool} {e : El} (h : LoOk ns es c) : LoOk ns (es ++ [e]) (loS ns c e) := by
  have em : ∀ b, b = (c.2.2 || (decide (tn ns e = ns) && decide (e.2 = -1))) → (b = true ↔ ∃ x ∈ es ++ [e], tn ns x = ns ∧ x.2 = -1) := by
    rintro b rfl
    rw [Bool.or_eq_true, Bool.and_eq_true, decide_eq_true_iff, decide_eq_true_iff, h.em]
    constructor
    · rintro (⟨x, hx, r⟩ | r)
      · exact ⟨x, List.mem_append_left _ hx, r⟩
      · exact ⟨e, List.mem_append_right _ List.mem_cons_self, r⟩
    · rintro ⟨x, hx, r⟩
      rcases List.mem_append.mp hx with hx | hx
      · exact .inl ⟨x, hx, r⟩
      · rw [List.mem_singleton.mp hx] at r
        exact .inr r
  by_cases lt : HT.lexLt (tn ns e) c.2.1 = true
  · have eq : loS ns c e = (e.2, tn ns e, c.2.2 || (decide (tn ns e = ns) && decide (e.2 = -1))) := if_pos lt
    rw [eq]
    refine ⟨.inr ⟨e, List.mem_append_right _ List.mem_cons_self, rfl, rfl⟩, lex_ntr (lex_asy lt) h.lo0, fun x hx => ?_, em _ rfl⟩
    rcases List.mem_append.mp hx with hx | hx
    · exact lex_ntr (lex_asy lt) (h.lo x hx)
    · rw [List.mem_singleton.mp hx]; exact lex_irr _
  · have eq : loS ns c e = (c.1, c.2.1, c.2.2 || (decide (tn ns e = ns) && decide (e.2 = -1))) := if_neg lt
    rw [eq]
    refine ⟨h.at_.imp id fun ⟨x, hx, r⟩ => ⟨x, List.mem_append_left _ hx, r⟩, h.lo0, fun x hx => ?_, em _ rfl⟩
    rcases List.mem_append.mp hx with hx | hx
    · exact h.lo x hx
    · rw [List.mem_singleton.mp hx]; simpa using lt
theorem lo_ok (ns : List Int) : ∀ (es done : List El) (c : Int × List Int × Bool), LoOk ns done c → LoOk ns (done ++ es) (es.foldl (loS ns) c)
  | [], done, c, h => by rw [List.append_nil]; exact h
  | e :: es, done, c, h => by
    have := lo_ok ns es (done ++ [e]) (loS ns c e) h.snoc
    rwa [List.append_assoc] at this
theorem lo_spec (ns : List Int) (es : List El) : LoOk ns es (lo ns es) := lo_ok ns es [] _ (LoOk.nil ns)
section
variable {n : Nat} {ts es : List El} {ns : List Int}
/-- of a group: the least row, and the signs with which it is met -/
theorem lo_group (hn : n ≤ 4) (ht : ∀ t ∈ ts, Grp.Ok n t) (hes : ∀ x, x ∈ es ↔ Rch n ts x) (hl : ns.length = n) {L : List Int} (mL : ∃ e ∈ es, tn ns e = L) (lL : ∀ e ∈ es, HT.lexLt (tn ns e) L = false) :
    (lo ns es).2.1 = L ∧ (((lo ns es).2.2 = true → (∃ e ∈ es, tn ns e = L ∧ e.2 = 1) ∧ ∃ e ∈ es, tn ns e = L ∧ e.2 = -1) ∧ ((lo ns es).2.2 = false → (∃ e ∈ es, tn ns e = L ∧ e.2 = (lo ns es).1) ∧ ∀ e ∈ es, tn ns e = L → e.2 = (lo ns es).1)) := by
  have S := lo_spec ns es
  have ok : ∀ x ∈ es, Grp.Ok n x := fun x hx => ((hes x).mp hx).ok ht
  have one : Grp.one n ∈ es := (hes _).mpr Rch.one
  have t1 : tn ns (Grp.one n) = ns := by rw [← hl]; exact tn_one ns
  have m1 : ∃ e ∈ es, tn ns e = (lo ns es).2.1 ∧ e.2 = (lo ns es).1 := by
    rcases S.at_ with ⟨h1, h2⟩ | h
    · exact ⟨Grp.one n, one, by rw [t1, h2], h1.symm⟩
    · exact h
  have eL : (lo ns es).2.1 = L := by
    obtain ⟨e, he, h1, _⟩ := m1
    obtain ⟨e', he', h1'⟩ := mL
    refine lex_tot ?_ ?_
    · rw [← h1']; exact S.lo e' he'
    · rw [← h1]; exact lL e he
  refine ⟨eL, fun h => ?_, fun h => ?_⟩
  · obtain ⟨s, hs, s1, s2⟩ := S.em.mp h
    obtain ⟨x, hx, x1⟩ := mL
    have hm : mul s x ∈ es := (hes _).mpr (Rch.app ht ((hes s).mp hs) ((hes x).mp hx))
    have tm : tn ns (mul s x) = L := by rw [tn_mul (ok s hs) (ok x hx), s1, x1]
    have gm : (mul s x).2 = -x.2 := by show s.2 * x.2 = _; rw [s2]; omega
    rcases (ok x hx).sg with z | z
    · exact ⟨⟨x, hx, x1, z⟩, mul s x, hm, tm, by rw [gm, z]⟩
    · exact ⟨⟨mul s x, hm, tm, by rw [gm, z]; rfl⟩, x, hx, x1, z⟩
  · rw [eL] at m1
    refine ⟨m1, fun e he h1 => ?_⟩
    obtain ⟨x, hx, x1, x2⟩ := m1
    obtain ⟨z, rz, ez⟩ := Rch.inv hn ht ((hes x).mp hx)
    have oz := rz.ok ht
    have hm : mul e z ∈ es := (hes _).mpr (Rch.app ht ((hes e).mp he) rz)
    have tm : tn ns (mul e z) = ns := by rw [tn_mul (ok e he) oz, h1, ← x1, ← tn_mul (ok x hx) oz, ez, t1]
    have ng : ¬(mul e z).2 = -1 := fun g => by
      have := S.em.mpr ⟨_, hm, tm, g⟩
      rw [h] at this
      cases this
    have sz : x.2 * z.2 = 1 := congrArg Prod.snd ez
    have ng : ¬e.2 * z.2 = -1 := ng
    rw [← x2]
    rcases (ok e he).sg with a | a <;> rcases (ok x hx).sg with b | b <;> rcases oz.sg with c | c <;> rw [a, c] at ng <;> rw [b, c] at sz <;> rw [a, b] <;> simp at ng sz
end
end K11

set_option maxHeartbeats 600000
/-! texts of rows and of turns; what stays when the pot changes -/
namespace K11
open PySem PySem.Spec PyProof.Rows L2 RtL ErL StX NSet
open Grp (El mul)
theorem ElAt.pbut {p a : Addr} {e : El} {H H' : Hp} (h : ElAt H a e) (hp : PotAt H p) (s : PBut p H H') : ElAt H' a e := by
  obtain ⟨o, h1, h2⟩ := h
  exact ⟨o, tup_but h1 hp s, tup_but h2 hp s⟩
theorem TabAt.pbut {K : Fr} {H H' : Hp} {p a : Addr} {nm : Str} {zs : List Str} {es : List (Addr × El)} (h : TabAt K H a nm zs es) (hp : PotAt H p) (s : PBut p H H') : TabAt K H' a nm zs es := by
  obtain ⟨dx, sl, g, e1, e2, e3, e4⟩ := h
  have ne : a ≠ p := by
    obtain ⟨x, y, e, _⟩ := hp
    intro z
    rw [z, e] at e1
    cases e1
  exact ⟨dx, sl, g, s _ _ e1 ne, tup_but e2 hp s, tup_but e3 hp s, fun q hq => (e4 q hq).pbut hp s⟩
/-! ### texts of rows -/
/-- |i| at most 10^20 -/
def Sm (i : Int) : Prop := 0 ≤ i ∧ i ≤ 10 ^ 20
theorem Sm.shown {i : Int} (h : Sm i) : (PyData.int i).showable = true ∧ (PyData.int i).shown.length ≤ 101 := by
  have hb : i.natAbs < 2 ^ 100 := by
    have := h.1
    have := h.2
    have e : (10 : Int) ^ 20 = 100000000000000000000 := by decide
    have e2 : (2 : Nat) ^ 100 = 1267650600228229401496703205376 := by decide
    omega
  refine ⟨decide_eq_true (Nat.lt_of_lt_of_le (PySem.Flt.log2_lt_of (by decide) hb) (by decide)), ?_⟩
  show (Str.ofString (toString i)).length ≤ 101
  rw [PySem.ofString_length]
  by_cases z : i.natAbs = 0
  · exact int_text_length_le (by decide) (by rw [z]; decide)
  · exact int_text_length_le (by decide) ((Nat.log2_lt z).mpr hb)
theorem sm_list : ∀ l : List Int, (∀ i ∈ l, Sm i) → PyData.showableAll (l.map PyData.int) = true ∧ piled (PyData.shownAll (l.map PyData.int)) ≤ 103 * l.length
  | [], _ => ⟨rfl, Nat.le_refl _⟩
  | i :: l, h => by
    obtain ⟨a, b⟩ := sm_list l fun j hj => h j (List.mem_cons_of_mem _ hj)
    obtain ⟨c, d⟩ := (h i List.mem_cons_self).shown
    refine ⟨?_, ?_⟩
    · show ((PyData.int i).showable && PyData.showableAll (l.map PyData.int)) = true
      rw [a, c]
      rfl
    · show piled ((PyData.int i).shown :: PyData.shownAll (l.map PyData.int)) ≤ _
      rw [piled_cons, List.length_cons]
      omega
theorem sm_row {l : List Int} (h : ∀ i ∈ l, Sm i) (l4 : l.length ≤ 4) : (dRow l).showable = true ∧ (dRow l).shown.length ≤ 500 := by
  obtain ⟨a, b⟩ := sm_list l h
  refine ⟨a, ?_⟩
  have c := fmt_text (PyData.shownAll (l.map PyData.int))
  have e : (dRow l).shown = tupleText (PyData.shownAll (l.map PyData.int)) := by unfold dRow; simp only [PyData.shown]
  rw [e]
  omega
theorem sm_rows : ∀ l : List (List Int), (∀ r ∈ l, (∀ i ∈ r, Sm i) ∧ r.length ≤ 4) → PyData.showableAll (l.map dRow) = true ∧ piled (PyData.shownAll (l.map dRow)) ≤ 502 * l.length
  | [], _ => ⟨rfl, Nat.le_refl _⟩
  | r :: l, h => by
    obtain ⟨a, b⟩ := sm_rows l fun j hj => h j (List.mem_cons_of_mem _ hj)
    obtain ⟨c, d⟩ := sm_row (h r List.mem_cons_self).1 (h r List.mem_cons_self).2
    refine ⟨?_, ?_⟩
    · show ((dRow r).showable && PyData.showableAll (l.map dRow)) = true
      rw [a, c]
      rfl
    · show piled ((dRow r).shown :: PyData.shownAll (l.map dRow)) ≤ _
      rw [piled_cons, List.length_cons]
      omega
theorem list_text (ts : List Str) : (listText ts).length ≤ piled ts + 2 := by
  have e1 : ((("[" : String) : Str)).length = 1 := rfl
  have e3 : ((("]" : String) : Str)).length = 1 := rfl
  rw [listText_eq_join, strLen_append, strLen_append, e1, e3]
  by_cases h : ts = []
  · subst h
    decide +kernel
  · have := join_length_add ts h
    omega
theorem okW_rows {l : List (List Int)} (h : ∀ r ∈ l, (∀ i ∈ r, Sm i) ∧ r.length ≤ 4) (l48 : l.length ≤ 100) : OkW (.list (l.map dRow)) := by
  obtain ⟨a, b⟩ := sm_rows l h
  refine ⟨a, ?_, ?_⟩
  · show PyData.depthAll (l.map dRow) + 1 ≤ 20
    have : PyData.depthAll (l.map dRow) ≤ 1 := by
      clear a b h l48
      induction l with
      | nil => decide
      | cons r l ih =>
        show max (dRow r).depth (PyData.depthAll (l.map dRow)) ≤ 1
        refine Nat.max_le.mpr ⟨?_, ih⟩
        show PyData.depthAll (r.map PyData.int) + 1 ≤ 1
        rw [dep_row]
        decide
    omega
  · have c := list_text (PyData.shownAll (l.map dRow))
    have e : (PyData.list (l.map dRow)).shown = listText (PyData.shownAll (l.map dRow)) := by simp only [PyData.shown]
    rw [e, sizeLine_eq]
    omega
theorem okW_due {sg : Int} {L : List Int} (h0 : sg = 0 ∨ sg = 1 ∨ sg = -1) (h : ∀ i ∈ L, Sm i) (l4 : L.length ≤ 4) : OkW (.tuple [.int sg, dRow L]) := by
  obtain ⟨a, b⟩ := sm_row h l4
  have c : (PyData.int sg).showable = true ∧ (PyData.int sg).shown.length ≤ 2 := by rcases h0 with rfl | rfl | rfl <;> exact ⟨by decide, by decide⟩
  refine ⟨?_, ?_, ?_⟩
  · show ((PyData.int sg).showable && ((dRow L).showable && true)) = true
    rw [a, c.1]
    rfl
  · show max 0 (max (dRow L).depth 0) + 1 ≤ 20
    have : (dRow L).depth = 1 := by show PyData.depthAll (L.map PyData.int) + 1 = 1; rw [dep_row]
    omega
  · have d := fmt_text (PyData.shownAll [PyData.int sg, dRow L])
    have e : (PyData.tuple [.int sg, dRow L]).shown = tupleText (PyData.shownAll [PyData.int sg, dRow L]) := by simp only [PyData.shown]
    have p : piled (PyData.shownAll [PyData.int sg, dRow L]) ≤ 600 := by
      show piled [(PyData.int sg).shown, (dRow L).shown] ≤ 600
      rw [piled_cons, piled_cons]
      have : piled [] = 0 := rfl
      omega
    rw [e, sizeLine_eq]
    omega
theorem dq_ints {H : Hp} : ∀ l : List Int, DqAll H (l.map V.int) (l.map PyData.int)
  | [] => .nil
  | i :: l => .cons (.int i) (dq_ints l)
theorem dq_row {H : Hp} {a : Addr} {l : List Int} (h : H a = some (.tup (l.map V.int))) : Dq H (.ref a) (dRow l) := .tup h (dq_ints l)
theorem dq_rows {H : Hp} : ∀ ms : List (Addr × List Int), (∀ m ∈ ms, H m.1 = some (.tup (m.2.map V.int))) → DqAll H (ms.map fun m => V.ref m.1) ((ms.map (·.2)).map dRow)
  | [], _ => .nil
  | m :: ms, h => .cons (dq_row (h m List.mem_cons_self)) (dq_rows ms fun q hq => h q (List.mem_cons_of_mem _ hq))
theorem ddp_len {α : Type} [DecidableEq α] : ∀ l : List α, (ddp l).length ≤ l.length
  | [] => Nat.le_refl _
  | x :: l => by
    show (if x ∈ ddp l then ddp l else x :: ddp l).length ≤ _
    split
    · exact Nat.le_succ_of_le (ddp_len l)
    · exact Nat.succ_le_succ (ddp_len l)
theorem rowSet_mem {l : List (List Int)} {r : List Int} : r ∈ rowSet l ↔ r ∈ l := by
  unfold rowSet
  rw [(List.mergeSort_perm _ _).mem_iff, mem_ddp]
theorem rowSet_len (l : List (List Int)) : (rowSet l).length ≤ l.length := by
  unfold rowSet
  rw [(List.mergeSort_perm _ _).length_eq]
  exact ddp_len l
/-- the rows of a set of rows of os -/
theorem rows_set {H : Hp} {os : List (Addr × List Int)} {L : List (Addr × NestedKey)} {rows : List (List Int)} (hos : ∀ o ∈ os, H o.1 = some (.tup (o.2.map V.int))) (hr : os.map (·.2) = rows) (g : Ga (os.map fun o => (o.1, rowKey o.2)) L) :
    ∃ R : List (Addr × List Int), L = R.map (fun q => (q.1, rowKey q.2)) ∧ (∀ q ∈ R, H q.1 = some (.tup (q.2.map V.int))) ∧ ∀ r, r ∈ R.map (·.2) ↔ r ∈ rows := by
  obtain ⟨R, rfl, h2⟩ := rows_of (H := H) (L := L) fun q hq => by
    obtain ⟨o, ho, rfl⟩ := List.mem_map.mp (g.sub q hq)
    exact ⟨o.2, rfl, hos o ho⟩
  refine ⟨R, rfl, h2, fun r => ⟨fun h => ?_, fun h => ?_⟩⟩
  · obtain ⟨q, hq, rfl⟩ := List.mem_map.mp h
    obtain ⟨o, ho, e⟩ := List.mem_map.mp (g.sub _ (List.mem_map.mpr ⟨q, hq, rfl⟩))
    rw [← hr, ← rowKey_inj (congrArg Prod.snd e)]
    exact List.mem_map.mpr ⟨o, ho, rfl⟩
  · rw [← hr] at h
    obtain ⟨o, ho, rfl⟩ := List.mem_map.mp h
    have := g.all _ (List.mem_map.mpr ⟨o, ho, rfl⟩)
    obtain ⟨z, hz, e⟩ := List.mem_map.mp this
    obtain ⟨q, hq, rfl⟩ := List.mem_map.mp hz
    exact List.mem_map.mpr ⟨q, hq, rowKey_inj e⟩
theorem el_text {n : Nat} {e : El} (h : Grp.Ok n e) (n4 : n ≤ 4) : (dEl e).showable = true ∧ (dEl e).shown.length ≤ 600 := by
  have sm : ∀ i ∈ e.1.map (fun i : Nat => (i : Int)), Sm i := fun i hi => by
    obtain ⟨k, hk, rfl⟩ := List.mem_map.mp hi
    have := h.lt hk
    have e : (10 : Int) ^ 20 = 100000000000000000000 := by decide
    refine ⟨by omega, ?_⟩
    rw [e]
    omega
  have eq : (e.1.map fun i : Nat => PyData.int (i : Int)) = (e.1.map fun i : Nat => (i : Int)).map PyData.int := by rw [List.map_map]; rfl
  have dE : dEl e = .tuple [dRow (e.1.map fun i : Nat => (i : Int)), .int e.2] := by unfold dEl dRow; rw [eq]
  obtain ⟨a, b⟩ := sm_row sm (by rw [List.length_map, h.len]; exact n4)
  have c : (PyData.int e.2).showable = true ∧ (PyData.int e.2).shown.length ≤ 2 := by rcases h.sg with z | z <;> rw [z] <;> exact ⟨by decide, by decide⟩
  rw [dE]
  refine ⟨?_, ?_⟩
  · show ((dRow (e.1.map fun i : Nat => (i : Int))).showable && ((PyData.int e.2).showable && true)) = true
    rw [a, c.1]
    rfl
  · have d := fmt_text (PyData.shownAll [dRow (e.1.map fun i : Nat => (i : Int)), .int e.2])
    have t : (PyData.tuple [dRow (e.1.map fun i : Nat => (i : Int)), .int e.2]).shown = tupleText (PyData.shownAll [dRow (e.1.map fun i : Nat => (i : Int)), .int e.2]) := by simp only [PyData.shown]
    have p : piled (PyData.shownAll [dRow (e.1.map fun i : Nat => (i : Int)), .int e.2]) ≤ 510 := by
      show piled [(dRow (e.1.map fun i : Nat => (i : Int))).shown, (PyData.int e.2).shown] ≤ 510
      rw [piled_cons, piled_cons]
      have : piled [] = 0 := rfl
      omega
    rw [t]
    omega
theorem els_text {n : Nat} (n4 : n ≤ 4) : ∀ l : List El, (∀ e ∈ l, Grp.Ok n e) → PyData.showableAll (l.map dEl) = true ∧ piled (PyData.shownAll (l.map dEl)) ≤ 602 * l.length
  | [], _ => ⟨rfl, Nat.le_refl _⟩
  | e :: l, h => by
    obtain ⟨a, b⟩ := els_text n4 l fun j hj => h j (List.mem_cons_of_mem _ hj)
    obtain ⟨c, d⟩ := el_text (h e List.mem_cons_self) n4
    refine ⟨?_, ?_⟩
    · show ((dEl e).showable && PyData.showableAll (l.map dEl)) = true
      rw [a, c]
      rfl
    · show piled ((dEl e).shown :: PyData.shownAll (l.map dEl)) ≤ _
      rw [piled_cons, List.length_cons]
      omega
theorem okW_els {n : Nat} (n4 : n ≤ 4) {l : List El} (h : ∀ e ∈ l, Grp.Ok n e) (l100 : l.length ≤ 100) : OkW (.list (l.map dEl)) := by
  obtain ⟨a, b⟩ := els_text n4 l h
  refine ⟨a, ?_, ?_⟩
  · show PyData.depthAll (l.map dEl) + 1 ≤ 20
    have : PyData.depthAll (l.map dEl) ≤ 2 := by
      clear a b h l100
      induction l with
      | nil => decide
      | cons r l ih =>
        show max (dEl r).depth (PyData.depthAll (l.map dEl)) ≤ 2
        refine Nat.max_le.mpr ⟨?_, ih⟩
        show max (PyData.depthAll _ + 1) (max 0 0) + 1 ≤ 2
        rw [depth_nums]
        decide
    omega
  · have c := list_text (PyData.shownAll (l.map dEl))
    have e : (PyData.list (l.map dEl)).shown = listText (PyData.shownAll (l.map dEl)) := by simp only [PyData.shown]
    rw [e, sizeLine_eq]
    omega
theorem dq_nums {H : Hp} : ∀ l : List Nat, DqAll H (nv l) (l.map fun i : Nat => PyData.int (i : Int))
  | [] => .nil
  | i :: l => .cons (.int i) (dq_nums l)
theorem ElAt.dq {H : Hp} {a : Addr} {e : El} (h : ElAt H a e) : Dq H (.ref a) (dEl e) := by
  obtain ⟨o, h1, h2⟩ := h
  exact .tup h1 (.cons (.tup h2 (dq_nums e.1)) (.cons (.int e.2) .nil))
theorem dq_els {H : Hp} : ∀ es : List (Addr × El), (∀ q ∈ es, ElAt H q.1 q.2) → DqAll H (refs es) ((els es).map dEl)
  | [], _ => .nil
  | q :: es, h => .cons (h q List.mem_cons_self).dq (dq_els es fun r hr => h r (List.mem_cons_of_mem _ hr))
end K11

set_option maxHeartbeats 600000
/-! the groups mkT b n: the least row and its sign are those that the law makes -/
namespace K11
open PySem PySem.Spec PyProof.Rows L2 RtL ErL StX NSet PermX SX
open Grp (El mul)
theorem any_ok : ((List.range 5).all fun n => decide (n = 0) || [true, false].all fun b => ((mkT b n).any fun e => decide (e.2 = -1)) == (b && decide (1 < n))) = true := by decide +kernel
theorem any_at {b : Bool} {n : Nat} (n1 : 1 ≤ n) (n4 : n ≤ 4) : ((mkT b n).any fun e => decide (e.2 = -1)) = (b && decide (1 < n)) := by
  have h := List.all_eq_true.mp any_ok n (List.mem_range.mpr (by omega))
  rw [Bool.or_eq_true, decide_eq_true_iff] at h
  rcases h with h | h
  · omega
  · exact eq_of_beq (List.all_eq_true.mp h b (by cases b <;> simp))
theorem mkT_eq (b : Bool) (n : Nat) : mkT b n = (nums n).map fun x => (x.1, if b = true then par x.1 else 1) := by
  cases b <;> rfl
theorem mkT_rows (b : Bool) (n : Nat) (ns : List Int) : (mkT b n).map (tn ns) = ((nums n).map (·.1)).map (trn ns) := by
  rw [mkT_eq, List.map_map, List.map_map]
  rfl
theorem mkT_ok {b : Bool} {n : Nat} (n4 : n ≤ 4) : ∀ e ∈ mkT b n, Grp.Ok n e := fun e he => by
  rw [mkT_eq] at he
  obtain ⟨x, hx, rfl⟩ := List.mem_map.mp he
  have := (turns_ok (z := "") n4 hx (sg := if b = true then par x.1 else 1) (by split; exact par_or _; exact .inl rfl)).1
  rwa [List.length_replicate] at this
theorem mkT_len {b : Bool} {n : Nat} (n4 : n ≤ 4) : (mkT b n).length ≤ 24 := by
  rw [mkT_eq, List.length_map]
  exact row_le n4
theorem mkT_grp {b : Bool} {n : Nat} (n1 : 1 ≤ n) (n4 : n ≤ 4) (x : El) : x ∈ mkT b n ↔ Grp.Rch n (mkT b n) x := by
  have h : x ∈ srt (Grp.found n (mkT b n)) ↔ Grp.Rch n (mkT b n) x := by rw [(srt_perm _).mem_iff, Grp.found_mem n4 (mkT_ok n4)]
  rwa [grp_at n1 n4] at h
theorem lex_sorted : ∀ (ls m : List Int), m.Perm ls → ls.Pairwise (· ≤ ·) → HT.lexLt m ls = false
  | [], m, p, _ => by rw [p.eq_nil]; rfl
  | b :: ls, [], p, _ => by cases p.length_eq
  | b :: ls, a :: m, p, h => by
    obtain ⟨h1, h2⟩ := List.pairwise_cons.mp h
    have ha : a ∈ b :: ls := p.mem_iff.mp List.mem_cons_self
    have ba : b ≤ a := by
      rcases List.mem_cons.mp ha with e | e
      · omega
      · exact h1 a e
    rw [HT.lexLt_cons]
    by_cases e : a = b
    · subst e
      rw [if_pos rfl]
      exact lex_sorted ls m ((List.perm_cons a).mp p) h2
    · rw [if_neg e]
      exact decide_eq_false (by omega)
theorem swap_ok : ((List.range 5).all fun n => (List.range n).all fun j => (List.range j).all fun i => (nums n).any fun x => decide (par x.1 = -1) && decide (x.1 = (List.range n).map fun k => if k = i then j else if k = j then i else k)) = true := by decide +kernel
theorem swap_at {ns : List Int} (l4 : ns.length ≤ 4) (h : ¬ ns.Nodup) : ∃ x ∈ nums ns.length, par x.1 = -1 ∧ trn ns x.1 = ns := by
  obtain ⟨i, j, hj, hi, e⟩ : ∃ (i j : Nat) (hj : j < ns.length) (hi : i < j), ns[i] = ns[j] := by
    apply Classical.byContradiction
    intro no
    refine h (List.pairwise_iff_getElem.mpr fun i j hi hj lt e => no ⟨i, j, hj, lt, e⟩)
  have z := List.all_eq_true.mp (List.all_eq_true.mp (List.all_eq_true.mp swap_ok ns.length (List.mem_range.mpr (by omega))) j (List.mem_range.mpr hj)) i (List.mem_range.mpr hi)
  obtain ⟨x, hx, hp⟩ := List.any_eq_true.mp z
  rw [Bool.and_eq_true, decide_eq_true_iff, decide_eq_true_iff] at hp
  refine ⟨x, hx, hp.1, ?_⟩
  rw [hp.2]
  refine Eq.trans ?_ (row_self ns)
  unfold trn
  rw [List.map_map]
  refine List.map_congr_left fun k hk => ?_
  have ei : ns.getD i 0 = ns.getD j 0 := by
    rw [List.getD_eq_getElem?_getD, List.getD_eq_getElem?_getD, List.getElem?_eq_getElem (by omega), List.getElem?_eq_getElem hj]
    exact e
  show ns.getD (if k = i then j else if k = j then i else k) 0 = ns.getD k 0
  by_cases h1 : k = i
  · rw [if_pos h1, h1, ei]
  · rw [if_neg h1]
    by_cases h2 : k = j
    · rw [if_pos h2, h2, ei]
    · rw [if_neg h2]
theorem trn_inj {ns : List Int} {l l' : List Nat} (nd : ns.Nodup) (h : ∀ i ∈ l, i < ns.length) (h' : ∀ i ∈ l', i < ns.length) (e : trn ns l = trn ns l') : l = l' := by
  induction l generalizing l' with
  | nil =>
    cases l' with
    | nil => rfl
    | cons b l' => cases e
  | cons a l ih =>
    cases l' with
    | nil => cases e
    | cons b l' =>
      obtain ⟨e1, e2⟩ := List.cons.inj e
      have la := h a List.mem_cons_self
      have lb := h' b List.mem_cons_self
      have e1 : ns.getD a 0 = ns.getD b 0 := e1
      rw [List.getD_eq_getElem?_getD, List.getD_eq_getElem?_getD, List.getElem?_eq_getElem la, List.getElem?_eq_getElem lb] at e1
      have ab : a = b := (List.getElem_inj nd).mp e1
      rw [ab, ih (fun i hi => h i (List.mem_cons_of_mem _ hi)) (fun i hi => h' i (List.mem_cons_of_mem _ hi)) e2]
theorem due_at {b : Bool} {ns ls : List Int} (l1 : 1 ≤ ns.length) (l4 : ns.length ≤ 4) (pm : ls.Perm ns) (pw : ls.Pairwise (· ≤ ·)) :
    (lo ns (mkT b ns.length)).2.1 = ls ∧ (if (lo ns (mkT b ns.length)).2.2 = true then 0 else (lo ns (mkT b ns.length)).1) = dueS b ns ls := by
  have oks := mkT_ok (b := b) l4
  have mem : ∀ {x : List Nat × List Nat}, x ∈ nums ns.length → (x.1, if b = true then par x.1 else 1) ∈ mkT b ns.length := fun {x} hx => by
    rw [mkT_eq]
    exact List.mem_map.mpr ⟨x, hx, rfl⟩
  obtain ⟨x, hx, ex⟩ := ex_ord l1 l4 pm
  have mL : ∃ e ∈ mkT b ns.length, tn ns e = ls := ⟨_, mem hx, ex⟩
  have lL : ∀ e ∈ mkT b ns.length, HT.lexLt (tn ns e) ls = false := fun e he => by
    refine lex_sorted ls _ ?_ pw
    refine List.Perm.trans ?_ pm.symm
    have p : (e.1.map fun i => ns.getD i 0).Perm ((List.range ns.length).map fun i => ns.getD i 0) := (oks e he).pm.map _
    rwa [show ((List.range ns.length).map fun i => ns.getD i 0) = ns from row_self ns] at p
  obtain ⟨g1, g2, g3⟩ := lo_group l4 oks (mkT_grp l1 l4) rfl mL lL
  refine ⟨g1, ?_⟩
  have back : ∀ e ∈ mkT b ns.length, ∃ y ∈ nums ns.length, e = (y.1, if b = true then par y.1 else 1) := fun e he => by
    rw [mkT_eq] at he
    obtain ⟨y, hy, rfl⟩ := List.mem_map.mp he
    exact ⟨y, hy, rfl⟩
  unfold dueS
  cases b with
  | false =>
    rw [if_neg Bool.false_ne_true]
    cases z : (lo ns (mkT false ns.length)).2.2 with
    | true =>
      obtain ⟨_, e, he, _, e2⟩ := g2 z
      obtain ⟨y, _, rfl⟩ := back e he
      exact absurd (show (1 : Int) = -1 from e2) (by decide)
    | false =>
      rw [if_neg Bool.false_ne_true]
      obtain ⟨⟨e, he, _, e2⟩, _⟩ := g3 z
      obtain ⟨y, _, rfl⟩ := back e he
      exact e2.symm
  | true =>
    rw [if_pos rfl]
    by_cases nd : ns.Nodup
    · rw [if_pos nd]
      have inj : ∀ y ∈ nums ns.length, trn ns y.1 = ls → y.1 = x.1 := fun y hy e => by
        refine trn_inj nd (fun i hi => ?_) (fun i hi => ?_) (e.trans ex.symm)
        · exact (oks _ (mem hy)).lt hi
        · exact (oks _ (mem hx)).lt hi
      cases z : (lo ns (mkT true ns.length)).2.2 with
      | true =>
        obtain ⟨⟨e, he, t1, s1⟩, e', he', t2, s2⟩ := g2 z
        obtain ⟨y, hy, rfl⟩ := back e he
        obtain ⟨y', hy', rfl⟩ := back e' he'
        have a1 := inj y hy t1
        have a2 := inj y' hy' t2
        have s1 : par y.1 = 1 := s1
        have s2 : par y'.1 = -1 := s2
        rw [a1] at s1
        rw [a2, s1] at s2
        exact absurd s2 (by decide)
      | false =>
        rw [if_neg Bool.false_ne_true]
        obtain ⟨_, h2⟩ := g3 z
        obtain ⟨s, r, hs⟩ := sgs_pos l1 l4 pm
        rw [hs]
        have m : s ∈ sgs ns ls ((nums ns.length).map (·.1)) := by rw [hs]; exact List.mem_cons_self
        obtain ⟨l, hl, rfl⟩ := List.mem_map.mp m
        obtain ⟨h3, h4⟩ := List.mem_filter.mp hl
        obtain ⟨y, hy, rfl⟩ := List.mem_map.mp h3
        have := h2 _ (mem hy) (of_decide_eq_true h4)
        show _ = lpar y.1
        rw [lpar_par l4 hy]
        exact this.symm
    · rw [if_neg nd]
      obtain ⟨y, hy, p1, t1⟩ := swap_at l4 nd
      have em : (lo ns (mkT true ns.length)).2.2 = true := (lo_spec ns _).em.mpr ⟨_, mem hy, t1, p1⟩
      rw [em, if_pos rfl]
end K11

set_option maxHeartbeats 1000000
namespace K11
open PySem PySem.Spec PyProof.Rows L2 RtL ErL StX NSet PermX SX
open Grp (El mul)
section
variable {P : Program} {w : World} {K : Fr} {mg : Str → Option Value} {base : Heap} {f : Addr} {fd : FuncData}
abbrev M3d (P : Program) (w : World) (K : Fr) (mg : Str → Option Value) (base : Heap) : Prop := ∃ d, Md P w K mg base 1 (recA K (TC K) "changes_sign" "property") d ["self"] (spM3 K)
abbrev M4d (P : Program) (w : World) (K : Fr) (mg : Str → Option Value) (base : Heap) : Prop := ∃ d, Md P w K mg base 1 (tm K "slots") d ["self"] (spM4 K)
abbrev M5d (P : Program) (w : World) (K : Fr) (mg : Str → Option Value) (base : Heap) : Prop := ∃ d, Md P w K mg base 1 (tm K "turns") d ["self"] (spM5 K)
abbrev M7d (P : Program) (w : World) (K : Fr) (mg : Str → Option Value) (base : Heap) : Prop := ∃ d, Md P w K mg base 5 (tm K "least") d ["self", "places"] (spM7 K)
abbrev NGq : List Str := ["_law_pot_here", "_law_table", "_law_many", "_law_turning", "_law_due", "_law_told", "_law_turn", "_law_places_here", "_law_kept", "_law_found", "_law_order"]
theorem scGq : FnScope NGq ["_law_pot_here", "_law_table", "_law_many", "_law_turning"] (defScope (top 42)) := ⟨rfl, rfl, rfl, by decide +kernel, rfl, by decide +kernel, by decide +kernel⟩
def spGq (K : Fr) : SpG := fun vs H Q => ∃ (p a : Addr) (nm z : Str) (n : Nat) (b : Bool) (es : List (Addr × El)), vs = [.ref p, .ref a, .int n, .bl b] ∧ PotAt H p ∧ TabAt K H a nm (List.replicate n z) es ∧ els es = mkT b n ∧ 1 ≤ n ∧ n ≤ 4 ∧ ∀ H', PotAt H' p → PBut p H H' → Q (.bl true) H'
theorem ok_gq (F : FunD K "_law_group_right" "_law_group_right" (defArgs (top 42)) (defBody (top 42)) (defScope (top 42)) [] [] f fd) (T : TT K mg) (Os : OsG P w K mg base) (Lp : LpG P w K mg base) (Pl : PlG P w K mg base) (Mv : MvG P w K mg base) (Ll : LlG P w K mg base) (A3 : M3d P w K mg base) (A5 : M5d P w K mg base) (A6 : M6d P w K mg base) (A7 : M7d P w K mg base) (A8 : M8d P w K mg base) : FnG P w K mg base 6 f fd ["_law_pot_here", "_law_table", "_law_many", "_law_turning"] (spGq K) := by
  obtain ⟨f1, d1, G1⟩ := Os
  obtain ⟨f2, d2, G2⟩ := Lp
  obtain ⟨f3, d3, G3⟩ := Pl
  obtain ⟨f4, d4, G4⟩ := Mv
  obtain ⟨f5, d5, G5⟩ := Ll
  obtain ⟨e3, E3⟩ := A3
  obtain ⟨e5, E5⟩ := A5
  obtain ⟨e6, E6⟩ := A6
  obtain ⟨e7, E7⟩ := A7
  obtain ⟨e8, E8⟩ := A8
  refine fnG_D F scGq (fun vs H Q h => ?_) (fun cdv A outer s H vs Q hr hG h => ?_)
  · obtain ⟨p, a, nm, z, n, b, es, rfl, _⟩ := h
    rfl
  · obtain ⟨p, a, nm, z, n, b, es, rfl, hp, tab, hes, n1, n4, qq⟩ := h
    have hu : (A.deeper (envOfC "_law_group_right" (defScope (top 42)) s.heap.objs.size f cdv)).units + 70 < cLine := by have := hr.un; omega
    have hu4 : (A.deeper (envOfC "_law_group_right" (defScope (top 42)) s.heap.objs.size f cdv)).units + 64 < cLine := by omega
    refine ⟨_, PSs.nox (pss_cons (ps_setLc (i := 4) (own := [("_law_order", 10)]) (g := gName 10) (tt := tYes) (by rfl) scGq.nd rfl rfl (sw_true rfl rfl rfl (by decide +kernel)) (pi_list (pe_gd G1 (hr.mono (by decide)) (by rfl) (pa_cons (pv 2) pa_nil))) (blkOk_by (N := NGq) (sc := defScope (top 42)) (by decide +kernel)) (fun _ _ _ _ _ => pg_name (i := 10) scGq.nd rfl (Or.inl rfl)) (fun _ _ _ _ _ => pts_nil)
        (fun _ _ _ _ _ => pe_tup (pa_cons (pv 10) (pa_cons (pe_ifExp (pt_val (pv 3)) (pe_gd G2 (hr.mono (by decide)) (by rfl) (pa_cons (pv 10) pa_nil)) pe_int) pa_nil))))
      (pss_cons (ps_set (i := 5) scGq.nd rfl (Or.inl rfl) (pe_meth0 (pv 1) T.cl (T.meth "turns" (by decide)) E5.ok (hr.mono (by decide)) E5.bd .nil pass0))
      (Evl.pss_cut (ps_if (PW.pt (pw_or (pt_not (pt_val (pe_callB call_isi (by rfl) T.fre (by decide +kernel) (pa_cons (pv 5) (pa_cons (pe_bltn (v := .ty "list") (u := .type "list") (by rfl) T.fre (by decide +kernel) rfl) pa_nil)))))
          (pw_or (pt_cmpR op_ne (pe_callB (call_reprW hu hG T.sys) (by rfl) T.fre (by decide +kernel) (pa_cons (pv 5) pa_nil)) (pe_callB (call_reprW hu hG T.sys) (by rfl) T.fre (by decide +kernel) (pa_cons (pv 4) pa_nil)) (nomark _))
          (pw_or1 (pt_cmpR op_ne (pe_callB call_reprB (by rfl) T.fre (by decide +kernel) (pa_cons (pe_prop (pv 1) T.cl T.chg E3.ok (hr.mono (by decide)) E3.bd .nil pass0 rfl) pa_nil)) (pe_callB call_reprB (by rfl) T.fre (by decide +kernel) (pa_cons (pe_and (pv 3) (pe_one (pe_cmpR op_gt (pv 2) pe_int (nomark _)))) pa_nil)) (nomark _)))))) (pss_one (ps_ret pe_bl)) pss_nil)
      (pss_cons (ps_expr (pe_bm PySem.F.plainAttrs_list PySem.F.slot_list_append PySem.F.type_list_append mt_append (pv 5) (pa_cons pe_non pa_nil)))
      (pss_cons (ps_for PassesOwn.never rfl (pi_range1 (by rfl) T.fre (pa_cons pe_int pa_nil)) (pg_name (i := 6) scGq.nd rfl (.inl rfl))
        (pss_cons (ps_set (i := 7) scGq.nd rfl (Or.inr rfl) (pe_gd G3 (hr.mono (by decide)) (by rfl) (pa_cons (pv 0) (pa_cons (pv 2) pa_nil))))
        (pss_cons (ps_set (i := 8) scGq.nd rfl (Or.inl rfl) (pe_callB (cr_sortRows (by rfl) hu4) (by rfl) T.fre (by decide +kernel) (pa_cons (pe_callTy (call_setN (by rfl) hu4) (by rfl) T.fre (by decide +kernel) (pa_cons (pe_lc (own := [("_law_order", 10)]) (g := gName 10) (tt := tYes) (by rfl) scGq.nd (pi_list (pe_gd G1 (hr.mono (by decide)) (by rfl) (pa_cons (pv 2) pa_nil))) (blkOk_by (N := NGq) (sc := defScope (top 42)) (by decide +kernel)) (fun _ _ _ _ _ => pg_name (i := 10) scGq.nd rfl (Or.inl rfl)) (fun _ _ _ _ _ => pts_nil)
          (fun _ _ _ _ _ => pe_gd G4 (hr.mono (by decide)) (by rfl) (pa_cons (pv 7) (pa_cons (pv 10) pa_nil)))) pa_nil)) pa_nil)))
        (pss_cons (ps_set (i := 9) scGq.nd rfl (Or.inl rfl) (pe_meth (pv 1) T.cl (T.meth "class_of" (by decide)) E8.ok hr E8.bd .nil pass0 (pa_cons (pv 7) pa_nil)))
        (pss_cons (ps_if (PW.pt (pw_or (pt_cmpR op_ne (pe_callB (call_reprW hu hG T.sys) (by rfl) T.fre (by decide +kernel) (pa_cons (pv 9) pa_nil)) (pe_callB (call_reprW hu hG T.sys) (by rfl) T.fre (by decide +kernel) (pa_cons (pv 8) pa_nil)) (nomark _))
            (pw_or1 (pt_cmpR op_ne (pe_callB (call_reprW hu hG T.sys) (by rfl) T.fre (by decide +kernel) (pa_cons (pe_meth (pv 1) T.cl (T.meth "least" (by decide)) E7.ok hr E7.bd .nil pass0 (pa_cons (pv 7) pa_nil)) pa_nil)) (pe_callB (call_reprW hu hG T.sys) (by rfl) T.fre (by decide +kernel) (pa_cons (pe_gd G5 (hr.mono (by decide)) (by rfl) (pa_cons (pv 7) (pa_cons (pv 3) pa_nil))) pa_nil)) (nomark _))))) (pss_one (ps_ret pe_bl)) pss_nil)
        (pss_cons (ps_expr (pe_bm PySem.F.plainAttrs_list PySem.F.slot_list_append PySem.F.type_list_append mt_append (pv 9) (pa_cons (pe_tup pa_nil) pa_nil)))
        (pss_one (ps_if (PW.pt (pw_or (pt_cmpR op_ne (pe_callB (call_reprW hu hG T.sys) (by rfl) T.fre (by decide +kernel) (pa_cons (pe_meth (pv 1) T.cl (T.meth "class_of" (by decide)) E8.ok hr E8.bd .nil pass0 (pa_cons (pv 7) pa_nil)) pa_nil)) (pe_callB (call_reprW hu hG T.sys) (by rfl) T.fre (by decide +kernel) (pa_cons (pv 8) pa_nil)) (nomark _))
            (pw_or1 (pt_cmpR op_isnot_bl (pe_meth (pv 1) T.cl (T.meth "is_slot_places" (by decide)) E6.ok (hr.mono (by decide)) E6.bd .nil pass0 (pa_cons (pv 7) pa_nil)) pe_bl (nomark _))))) (pss_one (ps_ret pe_bl)) pss_nil))))))))
      (pss_one (ps_ret (pe_cmpR op_eq (pe_callB (call_reprW hu hG T.sys) (by rfl) T.fre (by decide +kernel) (pa_cons (pe_meth0 (pv 1) T.cl (T.meth "turns" (by decide)) E5.ok (hr.mono (by decide)) E5.bd .nil pass0) pa_nil)) (pe_callB (call_reprW hu hG T.sys) (by rfl) T.fre (by decide +kernel) (pa_cons (pv 4) pa_nil)) (nomark _))))))))), ?_⟩
    have lz : 10000 ≤ sizeLine := by rw [sizeLine_eq]; decide
    have z4 : (List.replicate n z).length = n := List.length_replicate ..
    have oksT := mkT_ok (b := b) n4
    have e24 : es.length ≤ 24 := by have := mkT_len (b := b) n4; rwa [← hes, List.length_map] at this
    have okE : OkW (.list ((mkT b n).map dEl)) := okW_els n4 oksT (Nat.le_trans (mkT_len n4) (by decide))
    have okes : ∀ q ∈ es, Grp.Ok (List.replicate n z).length q.2 := fun q hq => by
      rw [z4]
      exact oksT _ (by rw [← hes]; exact List.mem_map.mpr ⟨q, hq, rfl⟩)
    have esing : es.length = 1 → els es = [Grp.one (List.replicate n z).length] := fun h => by
      rw [z4]
      have m : Grp.one n ∈ mkT b n := (mkT_grp n1 n4 _).mpr Grp.Rch.one
      rw [← hes] at m
      match es, h, m with
      | [x], _, m => rw [List.mem_singleton.mp m]; rfl
    refine ⟨_, rfl, n, rfl, n1, n4, fun oa os H4 s4 noa eoa ho hso => ?_⟩
    have lo24 : os.length ≤ 24 := by
      have e : (os.map (·.2)).length = _ := congrArg List.length hso
      rw [List.length_map, List.length_map] at e
      have := row_le n4
      omega
    refine ⟨oa, rfl, ⟨_, SqL.of eoa⟩, fun D nD => ?_⟩
    refine lc_it (walk_list (xs := rfo os)) (fun i H' => Same H4 H' ∧ ∃ ts : List (Addr × El), H' D = some (.lst (refs ts)) ∧ (∀ q ∈ ts, ElAt H' q.1 q.2) ∧ els ts = ((nums n).take i).map fun x => (x.1, if b = true then par x.1 else 1)) ⟨same_new nD, [], upd_same, (fun q hq => nomatch hq), rfl⟩ (fun i H' _ pv => SqL.of (pv.1 _ _ eoa)) ?_ ?_
    · rintro i v H7 H8 hi ⟨s7, ts, e7, ht, hs⟩ ⟨rfl, hx⟩
      obtain ⟨pr, hpr, rfl⟩ : ∃ pr, os[i]? = some pr ∧ v = .ref pr.1 := by
        have hx : (rfo os)[i]? = some v := hx
        rw [List.getElem?_map] at hx
        cases e : os[i]? with
        | none => rw [e] at hx; cases hx
        | some y => rw [e] at hx; cases hx; exact ⟨y, rfl, rfl⟩
      obtain ⟨x, hx', ex⟩ : ∃ x, (nums n)[i]? = some x ∧ x.1 = pr.2 := by
        have e : (os.map (·.2))[i]? = ((nums n).map (·.1))[i]? := by rw [hso]
        rw [List.getElem?_map, List.getElem?_map, hpr] at e
        cases e2 : (nums n)[i]? with
        | none => rw [e2] at e; cases e
        | some y => rw [e2] at e; exact ⟨y, rfl, (Option.some.inj e).symm⟩
      have op : H8 pr.1 = some (.tup (nv pr.2)) := s7 _ _ (ho pr (List.mem_of_getElem? hpr))
      obtain ⟨lx, mx⟩ := row_in n4 hx'
      rw [ex] at lx mx
      have l24 : ts.length ≤ 24 := by
        have l : (els ts).length = _ := congrArg List.length hs
        rw [List.length_map, List.length_map, List.length_take] at l
        have := row_le n4
        omega
      cases b with
      | true =>
        refine ⟨rfl, _, rfl, _, rfl, true, rfl, iteT ⟨_, rfl, pr.1, pr.2, rfl, op, by omega, fun H9 s9 => ⟨by show 2 ≤ sizeLine; omega, fun t nt => ?_⟩⟩⟩
        obtain ⟨g1, g2, g3, g4⟩ := grow (sg := lpar pr.2) s7 nD e7 ht s9 (s9 _ _ op) nt
        refine ⟨_, g1, by rw [List.length_map]; omega, g2, ts ++ [(t, (pr.2, lpar pr.2))], g3, g4, ?_⟩
        rw [take_one hx', ← hs, ← ex, lpar_par n4 (List.mem_of_getElem? hx')]
        exact List.map_append
      | false =>
        refine ⟨rfl, _, rfl, _, rfl, false, rfl, iteF ⟨by show 2 ≤ sizeLine; omega, fun t nt => ?_⟩⟩
        obtain ⟨g1, g2, g3, g4⟩ := grow (sg := 1) s7 nD e7 ht (Same.refl _) op nt
        refine ⟨_, g1, by rw [List.length_map]; omega, g2, ts ++ [(t, (pr.2, 1))], g3, g4, ?_⟩
        rw [take_one hx', ← hs, ← ex]
        exact List.map_append
    rintro H7 ⟨s7, ts, e7, ht, hs⟩
    rw [show (rfo os).length = (nums n).length by rw [List.length_map, ← List.length_map (f := (·.2)) (as := os), hso, List.length_map], List.take_length, ← mkT_eq] at hs
    have s07 := s4.trans s7
    have tab7 := tab.same s07
    have hp7 := hp.same s07
    have Dp : D ≠ p := (hp.same s4).ne nD
    obtain ⟨dx, sl, g, ea7, _, _, _⟩ := _root_.id tab7
    refine ⟨_, rfl, a, dx, _, rfl, ea7, rfl, a, nm, _, es, rfl, tab7, fun l nl => ?_⟩
    have s8 : Same H7 (upd H7 l (.lst (refs es))) := same_new nl
    have el8 : (upd H7 l (.lst (refs es))) l = some (.lst (refs es)) := upd_same
    have lp := hp7.ne nl
    have dqE : ∀ {HX : Hp} {y : Addr} {us : List (Addr × El)}, HX y = some (.lst (refs us)) → (∀ q ∈ us, ElAt HX q.1 q.2) → els us = mkT b n → Dq HX (.ref y) (.list ((mkT b n).map dEl)) := fun {HX y us} e h1 h2 => by
      rw [← h2]
      exact .lst e (dq_els us h1)
    have tabs : ∀ {HX : Hp}, TabAt K HX a nm (List.replicate n z) es → ∀ q ∈ es, ElAt HX q.1 q.2 := fun {HX} h => by
      obtain ⟨_, _, _, _, _, _, h⟩ := h
      exact h
    have tab8 := tab7.same s8
    have ea8 := s8 _ _ ea7
    refine ⟨fun σ' H' => σ' = [some (.ref p), some (.ref a), some (.int (n : Int)), some (.bl b), some (.ref D), some (.ref l), none, none, none, none, none] ∧ Same (upd H7 l (.lst (refs es))) H', ?_, ?_⟩
    · refine ⟨_, rfl, _, _, _, _, true, rfl, .ty "list", .base (.lst el8), kit_ty rfl, true, rfl, iteF ?_⟩
      refine ⟨_, rfl, l, _, rfl, dqE el8 (tabs tab8) hes, okE, _, rfl, D, _, rfl, dqE (s8 _ _ e7) (fun q hq => (ht q hq).same s8) hs, okE, rfl, false, congrArg V.bl (by simp), iteF ?_⟩
      refine ⟨_, rfl, a, dx, _, rfl, ea8, a, nm, _, es, rfl, tab8, by omega, fun H9 s9 => ⟨_, rfl, ?_⟩⟩
      rw [hes, any_at n1 n4]
      cases b with
      | true =>
        refine ⟨_, rfl, true, rfl, iteT ⟨_, rfl, _, _, rfl, rfl, _, rfl, rfl, false, congrArg V.bl ?_, iteF ⟨rfl, s9⟩⟩⟩
        have : decide ((1 : Int) < (n : Int)) = decide (1 < n) := by
          rw [Bool.eq_iff_iff, decide_eq_true_iff, decide_eq_true_iff]
          omega
        rw [this]
        simp
      | false => exact ⟨_, rfl, false, rfl, iteF ⟨_, rfl, rfl, false, congrArg V.bl (by simp), iteF ⟨rfl, s9⟩⟩⟩
    rintro σ' H9 ⟨rfl, s9⟩
    have hp9 := (hp7.same s8).same s9
    have tab9 := tab8.same s9
    have e9 := s9 _ _ el8
    have eD9 := s9 _ _ (s8 _ _ e7)
    have ht9 : ∀ q ∈ ts, ElAt H9 q.1 q.2 := fun q hq => ((ht q hq).same s8).same s9
    have Dl : D ≠ l := fun z => by rw [← z, e7] at nl; cases nl
    have lH : H l = none := gone s07 nl
    have pt : ∀ {o}, PotAt H9 p → PotAt (upd H9 l o) p := fun {o} h => by
      obtain ⟨x, y, e, r⟩ := h
      exact ⟨x, y, by rw [upd_ne (Ne.symm lp)]; exact e, r⟩
    refine ⟨_, rfl, .inl ⟨rfl, _, SqL.of e9⟩, l, _, _, rfl, rfl, e9, by show (refs es).length + 1 ≤ sizeLine; rw [List.length_map]; omega, ?_⟩
    have hpL : PotAt (upd H9 l (.lst (refs es ++ [.non]))) p := pt hp9
    have bt : ∀ b' o, b' ≠ l → H9 b' = some o → (upd H9 l (.lst (refs es ++ [.non]))) b' = some o := fun b' o h e => by
      rw [upd_ne h]
      exact e
    have nt : ∀ {y : Addr} {vs : List V}, H9 y = some (.tup vs) → y ≠ l := fun {y vs} e z => by rw [z, e9] at e; cases e
    have tabL : TabAt K (upd H9 l (.lst (refs es ++ [.non]))) a nm (List.replicate n z) es := by
      obtain ⟨dx', sl', g', t1, t2, t3, t4⟩ := tab9
      refine ⟨dx', sl', g', bt _ _ (fun z => by rw [z, e9] at t1; cases t1) t1, bt _ _ (nt t2) t2, bt _ _ (nt t3) t3, fun q hq => ?_⟩
      obtain ⟨o, h1, h2⟩ := t4 q hq
      exact ⟨o, bt _ _ (nt h1) h1, bt _ _ (nt h2) h2⟩
    have htL : ∀ q ∈ ts, ElAt (upd H9 l (.lst (refs es ++ [.non]))) q.1 q.2 := fun q hq => by
      obtain ⟨o, h1, h2⟩ := ht9 q hq
      exact ⟨o, bt _ _ (nt h1) h1, bt _ _ (nt h2) h2⟩
    have eDL := bt _ _ Dl eD9
    have bL : PBut p H (upd H9 l (.lst (refs es ++ [.non]))) := fun b' o e _ => bt _ _ (ne_of_none e lH) (s9 _ _ (s8 _ _ (s07 _ _ e)))
    generalize hHs : upd H9 l (.lst (refs es ++ [.non])) = Hs at hpL tabL htL eDL bL ⊢
    clear hHs bt nt pt e9 eD9 ht9 tab9 hp9 s9 H9 el8 ea8 tab8 s8 nl ea7 tab7 hp7
    refine ⟨4, rfl, by decide, by decide, for_it walk_range (fun k σ H' => ∃ u6 u7 u8 u9, σ = [some (.ref p), some (.ref a), some (.int (n : Int)), some (.bl b), some (.ref D), some (.ref l), u6, u7, u8, u9, none] ∧ PotAt H' p ∧ PBut p Hs H') ⟨none, none, none, none, rfl, hpL, fun b' o e _ => e⟩ (fun k σ H' _ _ => trivial) ?_ ?_⟩
    · rintro k v σ H1 H2 hk ⟨u6, u7, u8, u9, rfl, hp1, b1⟩ ⟨rfl, hv⟩
      refine ⟨_, rfl, _, rfl, p, n, rfl, hp1, n1, n4, fun t ns H3 lns hns nt et hp3 b3 => ?_⟩
      have b13 := b1.trans b3
      have tab3 := tabL.pbut hpL b13
      have hsm : ∀ i ∈ ns, Sm i := fun i hi => by
        have := hns i hi
        have e : (10 : Int) ^ 20 = 100000000000000000000 := by decide
        exact ⟨this.1, by rw [e]; omega⟩
      have nn : ∀ i ∈ ns, 0 ≤ i := fun i hi => (hsm i hi).1
      refine ⟨_, rfl, n, rfl, n1, n4, fun oa os H4 s4 noa eoa ho hso => ?_⟩
      have lo24 : os.length ≤ 24 := by
        have e : (os.map (·.2)).length = _ := congrArg List.length hso
        rw [List.length_map, List.length_map] at e
        have := row_le n4
        omega
      have et4 := s4 _ _ et
      refine ⟨oa, rfl, ⟨_, SqL.of eoa⟩, fun D2 nD2 => ?_⟩
      refine lc_it (walk_list (xs := rfo os)) (fun i H' => Same H4 H' ∧ ∃ ms : List (Addr × List Int), H' D2 = some (.lst (ms.map fun m => V.ref m.1)) ∧ (∀ m ∈ ms, H' m.1 = some (.tup (m.2.map V.int))) ∧ ms.map (·.2) = ((os.map (·.2)).take i).map (trn ns)) ⟨same_new nD2, [], upd_same, (fun q hq => nomatch hq), rfl⟩ (fun i H' _ pv => SqL.of (pv.1 _ _ eoa)) ?_ ?_
      · rintro i v H5 H6 hi ⟨s5, ms, e5, hm, hs5⟩ ⟨rfl, hx⟩
        obtain ⟨pr, hpr, rfl⟩ : ∃ pr, os[i]? = some pr ∧ v = .ref pr.1 := by
          have hx : (rfo os)[i]? = some v := hx
          rw [List.getElem?_map] at hx
          cases e : os[i]? with
          | none => rw [e] at hx; cases hx
          | some y => rw [e] at hx; cases hx; exact ⟨y, rfl, rfl⟩
        obtain ⟨x, hx', ex⟩ : ∃ x, (nums n)[i]? = some x ∧ x.1 = pr.2 := by
          have e : (os.map (·.2))[i]? = ((nums n).map (·.1))[i]? := by rw [hso]
          rw [List.getElem?_map, List.getElem?_map, hpr] at e
          cases e2 : (nums n)[i]? with
          | none => rw [e2] at e; cases e
          | some y => rw [e2] at e; exact ⟨y, rfl, (Option.some.inj e).symm⟩
        have op : H6 pr.1 = some (.tup (nv pr.2)) := s5 _ _ (ho pr (List.mem_of_getElem? hpr))
        obtain ⟨lx, mx⟩ := row_in n4 hx'
        rw [ex] at lx mx
        have et0 : (pr.2.map fun i => (ns.map V.int).getD i .non) = (trn ns pr.2).map V.int := by
          rw [List.map_map]
          refine List.map_congr_left fun j hj => ?_
          have lt : j < ns.length := by rw [lns]; exact mx j hj
          show (ns.map V.int).getD j .non = V.int (ns.getD j 0)
          rw [List.getD_eq_getElem?_getD, List.getElem?_map, List.getD_eq_getElem?_getD, List.getElem?_eq_getElem lt]
          rfl
        have tk : (os.map (·.2)).take (i + 1) = (os.map (·.2)).take i ++ [pr.2] := by rw [List.take_add_one, List.getElem?_map, hpr]; rfl
        have l24 : ms.length ≤ 24 := by
          have e : (ms.map (·.2)).length = _ := congrArg List.length hs5
          rw [List.length_map, List.length_map, List.length_take, List.length_map] at e
          omega
        refine ⟨rfl, _, rfl, _, rfl, t, pr.1, ns.map V.int, pr.2, rfl, s5 _ _ et4, op, fun j hj => by rw [List.length_map, lns]; exact mx j hj, by omega, fun t2 H7 s7 nt2 et2 => ?_⟩
        rw [et0] at et2
        have e57 := s7 _ _ e5
        refine ⟨_, e57, by rw [List.length_map]; omega, fun b' o e => ?_, ms ++ [(t2, trn ns pr.2)], by rw [upd_same, List.map_append]; rfl, fun m hm' => ?_, by rw [tk, List.map_append, List.map_append, hs5]; rfl⟩
        · rw [upd_ne (ne_of_none e nD2)]
          exact s7 _ _ (s5 _ _ e)
        · have e : H7 m.1 = some (.tup (m.2.map V.int)) := by
            rcases List.mem_append.mp hm' with h | h
            · exact s7 _ _ (hm m h)
            · rw [List.mem_singleton.mp h]; exact et2
          rw [upd_ne (fun z => by rw [z, e57] at e; cases e)]
          exact e
      rintro H5 ⟨s5, ms, e5, hm, hs5⟩
      rw [List.take_of_length_le (by rw [List.length_map, List.length_map]; exact Nat.le_refl _), hso] at hs5
      have rows_eq : (els es).map (tn ns) = ((nums n).map (·.1)).map (trn ns) := by rw [hes, mkT_rows]
      generalize hrows : ((nums n).map (·.1)).map (trn ns) = rows at hs5 rows_eq
      have l24 : rows.length ≤ 24 := by
        rw [← hrows, List.length_map, List.length_map]
        exact row_le n4
      have lms : ms.length ≤ 24 := by rw [← hs5, List.length_map] at l24; exact l24
      have rows_sm : ∀ r ∈ rows, (∀ i ∈ r, Sm i) ∧ r.length ≤ 4 ∧ r ≠ [] := by
        intro r hr
        rw [← rows_eq] at hr
        obtain ⟨e, he, rfl⟩ := List.mem_map.mp hr
        rw [hes] at he
        have oe := oksT e he
        refine ⟨fun i hi => ?_, by show (e.1.map _).length ≤ 4; rw [List.length_map, oe.len]; exact n4, fun zz => ?_⟩
        · obtain ⟨k, hk, rfl⟩ := List.mem_map.mp hi
          have lt : k < ns.length := by rw [lns]; exact oe.lt hk
          refine hsm _ ?_
          rw [List.getD_eq_getElem?_getD, List.getElem?_eq_getElem lt]
          exact List.getElem_mem lt
        · have := congrArg List.length zz
          unfold tn at this
          rw [List.length_map, oe.len, List.length_nil] at this
          omega
      have okR : OkW (.list ((rowSet rows).map dRow)) := okW_rows (fun r hr => ⟨(rows_sm r (rowSet_mem.mp hr)).1, (rows_sm r (rowSet_mem.mp hr)).2.1⟩) (Nat.le_trans (rowSet_len _) (by omega))
      have ke : (ms.map fun o => (o.1, rowKey o.2)).map (fun p => V.ref p.1) = ms.map fun o => V.ref o.1 := by rw [List.map_map]; rfl
      refine ⟨D2, ms.map (fun o => (o.1, rowKey o.2)), rfl, by rw [ke]; exact SqL.of e5, fun q hq => ?_, by rw [List.length_map]; omega, fun sa L nsa ga nd => ?_⟩
      · obtain ⟨o, ho', rfl⟩ := List.mem_map.mp hq
        exact ⟨row_key (hm o ho'), rowKey_depth _⟩
      obtain ⟨R, rfl, hR, mR⟩ := rows_set hm hs5 ga
      have s6 : Same H5 (upd H5 sa (SN w sa (R.map fun q => (q.1, rowKey q.2)))) := same_new nsa
      refine ⟨sa, R, _, rfl, upd_same, fun q hq => s6 _ _ (hR q hq), mR, fun r hr => (rows_sm r hr).2.2, fun kp ks nkp hks hkr => ?_⟩
      have sk := same_new (o := .lst (ks.map fun q => V.ref q.1)) nkp
      have s36 := s4.trans (s5.trans (s6.trans sk))
      have ekp : (upd (upd H5 sa (SN w sa (R.map fun q => (q.1, rowKey q.2)))) kp (.lst (ks.map fun q => V.ref q.1))) kp = some (.lst (ks.map fun q => V.ref q.1)) := upd_same
      have hk6 : ∀ m ∈ ks, (upd (upd H5 sa (SN w sa (R.map fun q => (q.1, rowKey q.2)))) kp (.lst (ks.map fun q => V.ref q.1))) m.1 = some (.tup (m.2.map V.int)) := fun m hm' => sk _ _ (s6 _ _ (hR m (hks m hm')))
      have tab6 := tab3.same s36
      have et6 := s36 _ _ et
      have hp6 := hp3.same s36
      have b16 := b13.trans (PBut.of s36)
      have kpp := (hp3.same (s4.trans (s5.trans s6))).ne nkp
      clear sk s36 s6 mR hR ga nd nsa ke hs5 hm e5 s5 nD2 et4 ho eoa noa s4 lo24
      obtain ⟨dx6, sl6, g6, ea6, _, _, _⟩ := _root_.id tab6
      refine ⟨_, rfl, a, dx6, _, rfl, ea6, rfl, _, rfl, a, t, nm, _, es, ns, rfl, tab6, by rw [z4]; exact n1, by rw [z4]; exact n4, et6, by rw [z4]; exact lns, nn, okes, by omega, fun l8 ms8 H8 s8 nl8 el8 hm8 hr8 => ?_⟩
      rw [rows_eq] at hr8
      refine ⟨_, rfl, l8, .list ((rowSet rows).map dRow), rfl, by rw [← hr8]; exact .lst el8 (dq_rows ms8 hm8), okR, _, rfl, kp, .list ((rowSet rows).map dRow), rfl, by rw [← hkr]; exact .lst (s8 _ _ ekp) (dq_rows ks fun m hm' => s8 _ _ (hk6 m hm')), okR, rfl, false, congrArg V.bl (by simp), iteF ?_⟩
      have tab8 := tab6.same s8
      have ea8 := s8 _ _ ea6
      have et8 := s8 _ _ et6
      obtain ⟨L, pmL, pwL⟩ : ∃ L : List Int, L.Perm ns ∧ L.Pairwise (· ≤ ·) := ⟨ns.mergeSort (fun x y => decide (x ≤ y)), List.mergeSort_perm _ _, by
        have := List.pairwise_mergeSort (le := fun x y : Int => decide (x ≤ y)) (fun a b c h1 h2 => by rw [decide_eq_true_iff] at *; omega) (fun a b => by rw [Bool.or_eq_true, decide_eq_true_iff, decide_eq_true_iff]; omega) ns
        exact this.imp fun h => of_decide_eq_true h⟩
      have due : ∀ {M : List Int}, M.Perm ns → M.Pairwise (· ≤ ·) → (lo ns (els es)).2.1 = M ∧ (if (lo ns (els es)).2.2 = true then 0 else (lo ns (els es)).1) = dueS b ns M := fun {M} h1 h2 => by
        have := due_at (b := b) (by omega) (by omega) h1 h2
        rwa [lns, ← hes] at this
      have sm1 : (lo ns (els es)).1 = 1 ∨ (lo ns (els es)).1 = -1 := by
        rcases (lo_spec ns (els es)).at_ with ⟨h, _⟩ | ⟨e, he, _, h⟩
        · exact .inl h
        · rw [hes] at he
          rw [← h]
          exact (oksT e he).sg
      refine ⟨_, rfl, a, dx6, _, rfl, ea8, rfl, _, rfl, a, t, nm, _, es, ns, rfl, tab8, by rw [z4]; exact n4, et8, by rw [z4]; exact lns, nn, okes, by omega, esing, fun tl ll sg ls H9 s9 ntl e1 e2 el3 el4 => ?_⟩
      obtain ⟨g1, g2⟩ := due pmL pwL
      obtain rfl : ls = L := el3.trans g1
      have okDue : OkW (.tuple [.int sg, dRow ls]) := okW_due (by
        rw [el4]
        split
        · exact .inl rfl
        · exact .inr sm1) (fun i hi => hsm i (pmL.mem_iff.mp hi)) (by rw [pmL.length_eq]; omega)
      refine ⟨tl, .tuple [.int sg, dRow ls], rfl, .tup e1 (.cons (.int _) (.cons (dq_row e2) .nil)), okDue, ?_⟩
      have et9 := s9 _ _ et8
      refine ⟨_, rfl, _, rfl, t, b, ns, rfl, et9, by omega, by omega, fun t5 l5 ls5 H10 s10 nt5 e5 e6 pm5 pw5 => ?_⟩
      obtain ⟨g3, g4⟩ := due pm5 pw5
      obtain rfl : ls5 = ls := g3.symm.trans g1
      rw [← g2, ← el4] at e5
      refine ⟨t5, .tuple [.int sg, dRow ls5], rfl, .tup e5 (.cons (.int _) (.cons (dq_row e6) .nil)), okDue, rfl, false, congrArg V.bl (by simp), iteF ?_⟩
      have s8A := s9.trans s10
      have elA := s8A _ _ el8
      refine ⟨_, rfl, .inl ⟨rfl, _, SqL.of elA⟩, by show 0 ≤ sizeLine; omega, fun tt ntt => ⟨l8, _, _, rfl, rfl, same_new ntt _ _ elA, ?_, ?_⟩⟩
      · have e : (ms8.map (·.2)).length = _ := congrArg List.length hr8
        have := rowSet_len rows
        rw [List.length_map] at e
        show (ms8.map _).length + 1 ≤ sizeLine
        rw [List.length_map]
        omega
      have k6 : Same _ (upd (upd H10 tt (.tup [])) l8 (.lst ((ms8.map fun m => V.ref m.1) ++ [.ref tt]))) := fun b' o e => by
        rw [upd_ne (ne_of_none e nl8)]
        exact same_new ntt _ _ (s8A _ _ (s8 _ _ e))
      have tabB := tab6.same k6
      have eaB := k6 _ _ ea6
      have etB := k6 _ _ et6
      refine ⟨_, rfl, a, dx6, _, rfl, eaB, rfl, _, rfl, a, t, nm, _, es, ns, rfl, tabB, by rw [z4]; exact n1, by rw [z4]; exact n4, etB, by rw [z4]; exact lns, nn, okes, by omega, fun l9 ms9 HC sC nl9 el9 hm9 hr9 => ?_⟩
      rw [rows_eq] at hr9
      have kC := k6.trans sC
      refine ⟨l9, .list ((rowSet rows).map dRow), rfl, by rw [← hr9]; exact .lst el9 (dq_rows ms9 hm9), okR, _, rfl, kp, .list ((rowSet rows).map dRow), rfl, by rw [← hkr]; exact .lst (kC _ _ ekp) (dq_rows ks fun m hm' => kC _ _ (hk6 m hm')), okR, rfl, false, congrArg V.bl (by simp), iteF ?_⟩
      refine ⟨_, rfl, a, dx6, _, rfl, kC _ _ ea6, rfl, _, rfl, a, t, nm, _, es, ns, rfl, tab6.same kC, by rw [z4]; exact n4, kC _ _ et6, by rw [z4]; exact lns, nn, fun HE sE => ⟨_, _, rfl, rfl, false, congrArg V.bl (by simp), iteF ?_⟩⟩
      exact ⟨_, _, _, _, rfl, hp6.same (kC.trans sE), b16.trans (PBut.of (kC.trans sE))⟩
    · rintro σ H1 ⟨u6, u7, u8, u9, rfl, hp1, b1⟩
      have tab1 := tabL.pbut hpL b1
      obtain ⟨dx1, sl1, g1, ea1, _, _, _⟩ := _root_.id tab1
      refine ⟨_, rfl, a, dx1, _, rfl, ea1, rfl, a, nm, _, es, rfl, tab1, fun l1 nl1 => ?_⟩
      have s1 : Same H1 (upd H1 l1 (.lst (refs es))) := same_new nl1
      refine ⟨l1, _, rfl, dqE upd_same (tabs (tab1.same s1)) hes, okE, _, rfl, D, _, rfl, dqE (s1 _ _ (b1 _ _ eDL Dp)) (fun q hq => ((htL q hq).pbut hpL b1).same s1) hs, okE, rfl, ?_⟩
      rw [decide_eq_true rfl]
      exact qq _ (hp1.same s1) ((bL.trans b1).trans (PBut.of s1))
abbrev GqG (P : Program) (w : World) (K : Fr) (mg : Str → Option Value) (base : Heap) : Prop := ∃ f d, GdG P w K mg base 6 "_law_group_right" f d ["_law_pot_here", "_law_table", "_law_many", "_law_turning"] (spGq K)
end
end K11

set_option maxHeartbeats 1000000
/-! as RF's pe_lamcall2, where the second argument may make new objects -/
namespace RtL
open PySem PySem.Spec PyProof.Rows L2 ErL LamX
def tLam2S (T : List (Addr × Str)) (TT : V → (XK → Hp → VK → Prop) → Hp → VK → Prop) (t : XK → TE) (te : TE) : TE := fun σ H Q => Tabs T H ∧ ∀ H1, ExtN H H1 → Tabs T H1 → te σ H1 fun v H2 => Same H1 H2 ∧ TT v (fun E H' Q' => t E σ H' Q') H2 Q
section
variable {X : Cx}
/-- x(lambda: body, e) -/
theorem pe_lamcall2S {T : List (Addr × Str)} {TT : V → (XK → Hp → VK → Prop) → Hp → VK → Prop} {x a a2 : Str} {g c P : Addr} {k : Nat} {pg : Arguments} {bg : List Stmt} {sg : Scope} {dV kV doc pm cdv ct oc : Value} {an od : Option Addr} {osl : Array (Option Value)} {Ng : List Str}
    {params : Arguments} {body e : Expr} {scope : Scope} {t : XK → TE} {te : TE} {p lpos pos : Pos} (hg : Gl X x) (hm : X.mg x = some (.ref g)) (hk : PySem.W.keepIn X.K (.ref g) = true)
    (lk : X.K.lookup g = some ⟨oc, od, .func (PySem.W.fnOf x x pg bg sg dV kV doc pm an cdv ct), osl⟩) (hcg : PySem.W.codeIn X.K cdv x = true) (hb : L2.Binds X.K (PySem.W.fnOf x x pg bg sg dV kV doc pm an cdv ct) [a, a2] []) (Sg : FnScope Ng [a, a2] sg) (hNg : Ng[0]? = some a) (hva : Vis sg a)
    (hG : Gives2 X k Ng x sg g cdv bg a (X.env.qual ++ "<lambda>") TT)
    (TB : TabB X.base X.mg c P) (hcode : X.env.code = .ref c) (hmT : (P, X.env.qual ++ "<lambda>") ∈ T) (hu : ∀ p ∈ T, p.1 = P → p.2 = X.env.qual ++ "<lambda>") (hr : Room (k + 2) X.A) (hgd : X.A.guards = some []) (hst : frs X.stack = X.env.locals :: X.fs) (L : LamS X.env.scope scope) (hdef : defaultsOf params X.env = ([], []))
    (hbind : ∀ (q : Str) (cl : List (Str × Addr)) (pm cv ctv : Value), bindArgs (PySem.W.kla_fn "<lambda>" q params body scope cl pm cv ctv) ⟨[], []⟩ = pure [])
    (hbody : ∀ (A : Around) (outer : List Env) (s : Shared) (H : Hp) (E : XK) (f c' : Addr), Room k (A.deeper (lamEnv X scope s.heap.objs.size f c')) → PE (lamCx X A outer s H E scope f c') body (t E)) (he : PE X e te)
    (hse : starEach [e] X.env = (false, eval e X.env) :: starEach [] X.env := by rfl)
    (hdb : (x == ("__debug__" : Str)) = false := by decide) (hd : (a == ("__debug__" : Str)) = false := by decide) (hcd : (a == ("__classdict__" : Str)) = false := by decide) :
    PE X (.Call (.Name x p) [.Lambda params body scope lpos, e] [] pos) (tLam2S T TT t te) := by
  refine ⟨fun pins s σ H Q I h => ?_⟩
  obtain ⟨hT, h⟩ := h
  refine wpAny_Call_Name_kw (ld_glob I hg hm ?_ hdb)
  refine PySem.W.callWith_K (h₀ := X.base) I.ok.mod.kin hk ?_ (by rfl) (by rw [hse]; rfl)
  show wpAny _ _ (spliced ((false, eval (.Lambda params body scope lpos) X.env) :: backTo pos (starEach [e] X.env))) _ _ s
  refine Calls.spliced_cons (lam_make2 I TB hcode hmT hu hT hdef (L.has I.ok) fun f c' pm' ctv H1 s' I1 eN T1 hf hfn hfr hco => ?_)
  have I2 : Inv X ((f, lamO X params body scope pm' c' ctv) :: pins) σ H1 s' := I1.pins_of fun q hq => by
    rcases List.mem_cons.mp hq with z | z
    · rw [z]
      rw [hst] at hfr
      exact ⟨hf, hfn, fun w => hfr (by rw [show f = _ from w]; exact List.mem_cons_self), fun w => hfr (List.mem_cons_of_mem _ w), fun v w => nomatch w⟩
    · exact I1.pin q (List.mem_append_right _ z)
  rw [hse]
  show wpAny _ _ (spliced ((false, eval e X.env) :: backTo pos (starEach [] X.env))) _ _ s'
  refine Calls.spliced_cons (thn (he.run _ s' σ H1 _ I2 (h H1 eN T1)) fun u s2 hh => ?_)
  obtain ⟨v, H2, I3, rv, s12, hq⟩ := hh
  refine Calls.spliced_nil ⟨I3.kIn, ?_⟩
  have hf3 := ClX.pin_at I3
  have hfn3 : H2 f = none := (I3.pin (f, lamO X params body scope pm' c' ctv) (List.mem_append_right _ List.mem_cons_self)).2.1
  have hco := s12 _ _ hco
  have rc : codeAny (model X.prog X.w) X.A (.call (.ref g) ⟨[.ref f, u], []⟩) (CR CX0 X.stack X.prog X.w H2 s2 Q E0) s2 := by
    refine run_ofS (N := Ng) (ps := [a, a2]) (us := [.ref f, u]) (vs := [.ref f, v]) lk hcg Sg hr I3.env0 (hb s2 [.ref f, u] I3.kIn rfl) (.cons rfl (.cons rv .nil)) rfl fun hr' => ?_
    obtain ⟨t', ht', hq'⟩ := hG f c' s2 H2 Q v (fun E H' Q' => t E σ H' Q') hr' (guards_deeper hgd)
      (fun W pn xe p1 p2 tk => pe_act2 (i := 0) (ClX.unpin I3) L hf3 hfn3 hfr (hbind _ _ _ _ _) tk hr' (fun A outer s H E hr2 => hbody A outer s H E f c' hr2) hNg hva hd hcd) hco hq
    exact ⟨t', ht'.nox, hq'⟩
  refine wpAny_call (codeAny_mono rc fun r s3 hq => ?_)
  cases r with
  | error e => exact (show False from hq).elim
  | ok fl =>
    cases fl with
    | ret u => exact ClX.unpinE (I3.after hq)
    | next => exact False.elim hq
    | brk => exact False.elim hq
    | cont => exact False.elim hq
end
/-! what stays where some lists and the tables may change -/
def ExtS (S : List Addr) (H H' : Hp) : Prop := ∀ b o, b ∉ S → (∀ ps, o ≠ .tbl ps) → H b = some o → H' b = some o
theorem ExtS.refl {S : List Addr} {H : Hp} : ExtS S H H := fun _ _ _ _ e => e
theorem ExtS.trans {S : List Addr} {H H1 H2 : Hp} (a : ExtS S H H1) (b : ExtS S H1 H2) : ExtS S H H2 := fun x o h n e => b x o h n (a x o h n e)
theorem ExtS.same {S : List Addr} {H H1 : Hp} (a : Same H H1) : ExtS S H H1 := fun x o _ _ e => a x o e
theorem ExtS.ext {S : List Addr} {H H1 : Hp} (a : ExtN H H1) : ExtS S H H1 := fun x o _ n e => a x o e n
theorem ExtS.put {S : List Addr} {H H1 : Hp} {a : Addr} {o : HO} (h : ExtS S H H1) (m : a ∈ S ∨ H a = none) : ExtS S H (upd H1 a o) := fun x o' hx n e => by
  rw [upd_ne (fun z => by
    rcases m with m | m
    · exact hx (z ▸ m)
    · rw [z, m] at e; cases e)]
  exact h x o' hx n e
theorem ExtS.mono {S S' : List Addr} {H H1 : Hp} (h : ExtS S H H1) (m : ∀ x ∈ S, x ∈ S') : ExtS S' H H1 := fun b o hb n e => h b o (fun z => hb (m b z)) n e
/-- a list made while it was so needs not be told -/
theorem ExtS.drop {S : List Addr} {a : Addr} {H H1 : Hp} (h : ExtS (a :: S) H H1) (n : H a = none) : ExtS S H H1 := fun b o hb nt e => h b o (fun z => by
  rcases List.mem_cons.mp z with z | z
  · rw [z, n] at e; cases e
  · exact hb z) nt e
/-- the heap without these lists and the tables -/
def hd (S : List Addr) (H : Hp) : Hp := fun b => if b ∈ S then none else match H b with
  | some (.tbl _) => none
  | o => o
theorem hd_at {S : List Addr} {H : Hp} {a : Addr} {o : HO} (h : H a = some o) (m : a ∉ S) (n : ∀ ps, o ≠ .tbl ps) : hd S H a = some o := by
  unfold hd
  rw [if_neg m, h]
  cases o <;> first | rfl | exact absurd rfl (n _)
theorem hd_of {S : List Addr} {H : Hp} {a : Addr} {o : HO} (h : hd S H a = some o) : a ∉ S ∧ (∀ ps, o ≠ .tbl ps) ∧ H a = some o := by
  unfold hd at h
  by_cases m : a ∈ S
  · rw [if_pos m] at h
    cases h
  · rw [if_neg m] at h
    cases e : H a with
    | none => rw [e] at h; cases h
    | some x =>
      rw [e] at h
      cases x <;> first | (cases h; done) | (cases h; exact ⟨m, fun ps z => (nomatch z), rfl⟩)
theorem hd_le {S : List Addr} {H : Hp} : Same (hd S H) H := fun _ _ e => (hd_of e).2.2
theorem hd_ext {S : List Addr} {H H' : Hp} (h : ExtS S H H') : Same (hd S H) (hd S H') := fun b o e => by
  obtain ⟨m, n, e⟩ := hd_of e
  exact hd_at (h b o m n e) m n
theorem ExtS.le {S : List Addr} {H H' : Hp} (h : ExtS S H H') : Same (hd S H) H' := fun b o e => hd_le b o (hd_ext h b o e)
theorem hd_mono {S S' : List Addr} {H : Hp} (m : ∀ x ∈ S, x ∈ S') : Same (hd S' H) (hd S H) := fun b o e => by
  obtain ⟨a, n, e⟩ := hd_of e
  exact hd_at e (fun z => a (m b z)) n
theorem hd_none {S : List Addr} {H : Hp} {a : Addr} (n : H a = none) : Same (hd S H) (hd (a :: S) H) := fun b o e => by
  obtain ⟨m, nt, e⟩ := hd_of e
  exact hd_at e (fun z => by
    rcases List.mem_cons.mp z with z | z
    · rw [z, n] at e; cases e
    · exact m z) nt
/-- a new object -/
theorem hd_new {S : List Addr} {H : Hp} {a : Addr} {o : HO} (n : H a = none) (m : a ∉ S) (nt : ∀ ps, o ≠ .tbl ps) : (hd S (upd H a o)) a = some o := hd_at upd_same m nt
end RtL

set_option maxHeartbeats 600000
namespace K11
open PySem PySem.Spec PyProof.Rows L2 RtL ErL StX NSet LamX
open Grp (El mul)
theorem cps_of (s : String) : Cps (Str.ofString s) := fun c hc => by
  rw [TL.tl_ofString] at hc
  obtain ⟨x, _, rfl⟩ := List.mem_map.mp hc
  have := x.valid
  rcases this with h | ⟨_, h⟩
  · exact Nat.lt_of_lt_of_le h (by decide)
  · exact h
/-! ### what is no row of places, and its text -/
theorem BadPl.same {H H' : Hp} {v : V} {n : Nat} (h : BadPl H v n) (s : Same H H') : BadPl H' v n := by
  rcases h with h | ⟨t, o, ne⟩ | ⟨a, xs, bs, rfl, e, l1, l2, hi, hf⟩
  · exact .inl h
  · exact .inr (.inl ⟨t, o.same s, ne⟩)
  · exact .inr (.inr ⟨a, xs, bs, rfl, s _ _ e, l1, l2, fun i x b h1 h2 => (hi i x b h1 h2).same s, hf⟩)
structure Sml (d : PyData) : Prop where
  sh : d.showable = true
  dp : d.depth ≤ 10
  sz : d.shown.length ≤ 3000
theorem okW_is {C k : Str} (hk : Kd C k) {d : PyData} (h : Sml d) : OkW (dIs k d) := by
  have lk : (reprText k).length ≤ 102 := by
    rcases hk with ⟨_, rfl⟩ | ⟨_, rfl⟩ | ⟨_, rfl⟩
    · exact Nat.le_trans (shown_str (cps_of "places")).2 (Nat.le_of_ble_eq_true rfl)
    · exact Nat.le_trans (shown_str (cps_of "name")).2 (Nat.le_of_ble_eq_true rfl)
    · exact Nat.le_trans (shown_str (cps_of "count")).2 (Nat.le_of_ble_eq_true rfl)
  refine ⟨?_, ?_, ?_⟩
  · show (true && (d.showable && (true && true))) = true
    rw [h.sh]
    rfl
  · have := h.dp
    show max 0 (max d.depth (max 0 0)) + 1 ≤ 20
    omega
  · have a := listText_len_le [reprText k, d.shown, Str.ofString "True"]
    have c : (Str.ofString "True").length = 4 := rfl
    have b := h.sz
    simp only [List.map_cons, List.map_nil, List.sum_cons, List.sum_nil, List.length_cons, List.length_nil] at a
    rw [sizeLine_eq]
    show (listText [reprText k, d.shown, Str.ofString "True"]).length ≤ _
    omega
def PlO (H : Hp) (n : Nat) (v : V) : Prop := BadPl H v n ∧ ∃ d, Dq H v d ∧ Sml d
theorem PlO.same {H H' : Hp} {v : V} {n : Nat} (h : PlO H n v) (s : Same H H') : PlO H' n v := by
  obtain ⟨b, d, q, m⟩ := h
  exact ⟨b.same s, d, q.same s, m⟩
structure It (H : Hp) (v : V) (d : PyData) (b : Bool) : Prop where
  itm : Itm H v b
  dq : Dq H v d
  sh : d.showable = true
  dp : d.depth ≤ 3
  sz : d.shown.length ≤ 101
theorem It.same {H H' : Hp} {v : V} {d : PyData} {b : Bool} (h : It H v d b) (s : Same H H') : It H' v d b := ⟨h.itm.same s, h.dq.same s, h.sh, h.dp, h.sz⟩
inductive Its (H : Hp) : List V → List PyData → List Bool → Prop
  | nil : Its H [] [] []
  | cons {v : V} {d : PyData} {b : Bool} {vs : List V} {ds : List PyData} {bs : List Bool} (h : It H v d b) (t : Its H vs ds bs) : Its H (v :: vs) (d :: ds) (b :: bs)
theorem Its.app {H : Hp} {vs : List V} {ds : List PyData} {bs : List Bool} {vs' : List V} {ds' : List PyData} {bs' : List Bool} (h : Its H vs ds bs) (h' : Its H vs' ds' bs') : Its H (vs ++ vs') (ds ++ ds') (bs ++ bs') := by
  induction h with
  | nil => exact h'
  | cons a _ ih => exact .cons a ih
theorem Its.ints {H : Hp} : ∀ ns : List Int, (∀ i ∈ ns, Sm i) → Its H (ns.map V.int) (ns.map PyData.int) (ns.map fun _ => true)
  | [], _ => .nil
  | i :: ns, h => .cons ⟨.inl ⟨i, rfl, (decide_eq_true (h i List.mem_cons_self).1).symm⟩, .int i, (h i List.mem_cons_self).shown.1, Nat.zero_le _, (h i List.mem_cons_self).shown.2⟩ (Its.ints ns fun j hj => h j (List.mem_cons_of_mem _ hj))
theorem Its.len {H : Hp} {vs : List V} {ds : List PyData} {bs : List Bool} (h : Its H vs ds bs) : ds.length = vs.length ∧ bs.length = vs.length := by
  induction h with
  | nil => exact ⟨rfl, rfl⟩
  | cons _ _ ih => exact ⟨congrArg (· + 1) ih.1, congrArg (· + 1) ih.2⟩
theorem Its.at_ {H : Hp} {vs : List V} {ds : List PyData} {bs : List Bool} (h : Its H vs ds bs) : ∀ (i : Nat) x b, vs[i]? = some x → bs[i]? = some b → Itm H x b := by
  induction h with
  | nil => intro i x b h; cases h
  | cons a _ ih =>
    intro i x b h1 h2
    cases i with
    | zero => cases h1; cases h2; exact a.itm
    | succ i => exact ih i x b h1 h2
theorem Its.dqs {H : Hp} {vs : List V} {ds : List PyData} {bs : List Bool} (h : Its H vs ds bs) : DqAll H vs ds := by
  induction h with
  | nil => exact .nil
  | cons a _ ih => exact .cons a.dq ih
theorem Its.txt {H : Hp} {vs : List V} {ds : List PyData} {bs : List Bool} (h : Its H vs ds bs) : PyData.showableAll ds = true ∧ PyData.depthAll ds ≤ 3 ∧ piled (PyData.shownAll ds) ≤ 103 * ds.length := by
  induction h with
  | nil => exact ⟨rfl, Nat.zero_le _, Nat.le_refl _⟩
  | @cons v d b vs ds bs a _ ih =>
    obtain ⟨i1, i2, i3⟩ := ih
    refine ⟨?_, ?_, ?_⟩
    · show (d.showable && PyData.showableAll ds) = true
      rw [a.sh, i1]
      rfl
    · exact Nat.max_le.mpr ⟨a.dp, i2⟩
    · have := a.sz
      show piled (d.shown :: PyData.shownAll ds) ≤ _
      rw [piled_cons, List.length_cons]
      omega
theorem Its.plo {H : Hp} {vs : List V} {ds : List PyData} {bs : List Bool} {a : Addr} {n : Nat} (h : Its H vs ds bs) (e : H a = some (.tup vs)) (l : vs.length ≤ 10) (hf : vs.length = n → false ∈ bs) : PlO H n (.ref a) := by
  obtain ⟨l1, l2⟩ := h.len
  obtain ⟨t1, t2, t3⟩ := h.txt
  refine ⟨.inr (.inr ⟨a, vs, bs, rfl, e, by omega, l2, h.at_, hf⟩), .tuple ds, .tup e h.dqs, t1, ?_, ?_⟩
  · show PyData.depthAll ds + 1 ≤ 10
    omega
  · have c := fmt_text (PyData.shownAll ds)
    have e : (PyData.tuple ds).shown = tupleText (PyData.shownAll ds) := by simp only [PyData.shown]
    rw [e]
    omega
/-- what is put where a count is due -/
theorem it_neg {H : Hp} : It H (.int (-1)) (.int (-1)) false := ⟨.inl ⟨-1, rfl, rfl⟩, .int _, by decide, Nat.zero_le _, by decide⟩
theorem it_bl {H : Hp} : It H (.bl true) (.bool true) false := ⟨.inr ⟨⟨_, .bl true⟩, rfl⟩, .bl _, rfl, Nat.zero_le _, by decide⟩
theorem it_non {H : Hp} : It H .non .none false := ⟨.inr ⟨⟨_, .non⟩, rfl⟩, .non, rfl, Nat.zero_le _, by decide⟩
theorem it_str {H : Hp} : It H (.str "0") (.str "0") false := ⟨.inr ⟨⟨_, .str _⟩, rfl⟩, .str _, rfl, Nat.zero_le _, Nat.le_trans (shown_str (cps_of "0")).2 (Nat.le_of_ble_eq_true rfl)⟩
theorem it_tup {H : Hp} {a : Addr} (e : H a = some (.tup [.int 0])) : It H (.ref a) (.tuple [.int 0]) false := ⟨.inr ⟨⟨_, .tup e⟩, rfl⟩, .tup e (.cons (.int 0) .nil), rfl, Nat.le_of_ble_eq_true rfl, Nat.le_of_ble_eq_true rfl⟩
theorem it_lst {H : Hp} {a : Addr} (e : H a = some (.lst [])) : It H (.ref a) (.list []) false := ⟨.inr ⟨⟨_, .lst e⟩, rfl⟩, .lst e .nil, rfl, Nat.le_of_ble_eq_true rfl, Nat.le_of_ble_eq_true rfl⟩
theorem it_dct {H : Hp} {a : Addr} (e : H a = some (.dK [])) : It H (.ref a) (.dict []) false := ⟨.inr ⟨⟨_, .dct e⟩, rfl⟩, .dct e .nil, rfl, Nat.le_of_ble_eq_true rfl, Nat.le_of_ble_eq_true rfl⟩
theorem plo_non {H : Hp} {n : Nat} : PlO H n .non := ⟨.inr (.inl ⟨_, .non, by decide⟩), _, .non, rfl, Nat.zero_le _, by decide⟩
theorem plo_five {H : Hp} {n : Nat} : PlO H n (.int 5) := ⟨.inl ⟨5, rfl⟩, _, .int 5, by decide, Nat.zero_le _, by decide⟩
theorem plo_str {H : Hp} {n : Nat} : PlO H n (.str "") := ⟨.inr (.inl ⟨_, .str _, by decide⟩), _, .str _, rfl, Nat.zero_le _, Nat.le_trans (shown_str (cps_of "")).2 (Nat.le_of_ble_eq_true rfl)⟩
theorem plo_dct {H : Hp} {n : Nat} {a : Addr} (e : H a = some (.dK [])) : PlO H n (.ref a) := ⟨.inr (.inl ⟨_, .dct e, by decide⟩), _, .dct e .nil, rfl, Nat.le_of_ble_eq_true rfl, Nat.le_of_ble_eq_true rfl⟩
theorem plo_lst {H : Hp} {n : Nat} {a : Addr} {ns : List Int} (e : H a = some (.lst (ns.map V.int))) (h : ∀ i ∈ ns, Sm i) (l : ns.length ≤ 4) : PlO H n (.ref a) := by
  obtain ⟨t1, t2, t3⟩ := (Its.ints (H := H) ns h).txt
  refine ⟨.inr (.inl ⟨_, .lst e, by decide⟩), .list (ns.map PyData.int), .lst e (Its.ints ns h).dqs, t1, ?_, ?_⟩
  · show PyData.depthAll _ + 1 ≤ 10
    omega
  · have c := list_text (PyData.shownAll (ns.map PyData.int))
    have e : (PyData.list (ns.map PyData.int)).shown = listText (PyData.shownAll (ns.map PyData.int)) := by simp only [PyData.shown]
    rw [e]
    rw [List.length_map] at t3
    omega
/-- t + u -/
theorem catA_at {K : Fr} {H : Hp} {a b : Addr} {xs ys : List V} {Q : VK} (ha : H a = some (.tup xs)) (hb : H b = some (.tup ys)) (l : xs.length + ys.length ≤ sizeLine) (h : ∀ c H', Same H H' → H' c = some (.tup (xs ++ ys)) → Q (.ref c) H') : rCatA K (.ref a) (.ref b) H Q :=
  ⟨a, b, xs, ys, rfl, rfl, SqT.of ha, SqT.of hb, l, fun e => h b H (Same.refl _) (by rw [e]; exact hb), fun _ e => h a H (Same.refl _) (by rw [e, List.append_nil]; exact ha), fun _ _ p np => h p _ (same_new np) upd_same⟩
theorem cut_to (xs : List V) (k : Nat) (h : k ≤ xs.length) : cutV xs none (some (k : Int)) = xs.take k := by
  unfold cutV
  rw [HT.sIx_none, HT.sIx_nat, List.drop_zero, Nat.sub_zero, Nat.min_eq_left h]
theorem cut_from (xs : List V) (k : Nat) (h : k ≤ xs.length) : cutV xs (some (k : Int)) none = xs.drop k := by
  unfold cutV
  rw [HT.sIx_none, HT.sIx_nat, Nat.min_eq_left h]
  exact List.take_of_length_le (by rw [List.length_drop]; omega)
end K11

set_option maxHeartbeats 1000000
namespace K11
open PySem PySem.Spec PyProof.Rows L2 RtL ErL StX NSet LamX
open Grp (El mul)
theorem tabs_but {T : List (Addr × Str)} {H H' : Hp} {p : Addr} (t : Tabs T H) (hp : PotAt H p) (b : PBut p H H') : Tabs T H' := by
  intro pr hpr
  obtain ⟨ps, e, tr, c⟩ := t pr hpr
  obtain ⟨_, _, ep, _⟩ := hp
  refine ⟨ps, b _ _ e (fun z => by rw [z, ep] at e; cases e), tr, fun pos cv hc => ?_⟩
  obtain ⟨c1, e1, e2⟩ := c pos cv hc
  exact ⟨c1, e1, b _ _ e2 (fun z => by rw [z, ep] at e2; cases e2)⟩
theorem tabs_lst {T : List (Addr × Str)} {H : Hp} {l : Addr} {xs ys : List V} (t : Tabs T H) (h : H l = some (.lst xs)) : Tabs T (upd H l (.lst ys)) := by
  intro pr hp
  obtain ⟨ps, e, tr, c⟩ := t pr hp
  refine ⟨ps, ?_, tr, fun pos cv hc => ?_⟩
  · rw [upd_ne (fun z => by rw [z, h] at e; cases e)]
    exact e
  · obtain ⟨c1, e1, e2⟩ := c pos cv hc
    refine ⟨c1, e1, ?_⟩
    rw [upd_ne (fun z => by rw [z, h] at e2; cases e2)]
    exact e2
theorem ExtS.pbut {p : Addr} {H H' : Hp} (h : PBut p H H') : ExtS [p] H H' := fun b o hb _ e => h b o e fun z => hb (by rw [z]; exact List.mem_singleton.mpr rfl)
theorem PotAt.ext {p : Addr} {H H' : Hp} (h : PotAt H p) (e : ExtN H H') : PotAt H' p := by
  obtain ⟨x, y, ep, r⟩ := h
  exact ⟨x, y, e _ _ ep (fun _ z => nomatch z), r⟩
theorem TabAt.hd {K : Fr} {S : List Addr} {H : Hp} {a : Addr} {nm : Str} {zs : List Str} {es : List (Addr × El)} (h : TabAt K H a nm zs es) (hS : ∀ s ∈ S, ∃ xs, H s = some (.lst xs)) : TabAt K (RtL.hd S H) a nm zs es := by
  have nt : ∀ {y : Addr} {vs : List V}, H y = some (.tup vs) → (RtL.hd S H) y = some (.tup vs) := fun {y vs} e => hd_at e (fun m => by
    obtain ⟨xs, e2⟩ := hS _ m
    rw [e2] at e; cases e) fun _ z => nomatch z
  obtain ⟨dx, sl, g, t1, t2, t3, t4⟩ := h
  refine ⟨dx, sl, g, hd_at t1 (fun m => by
    obtain ⟨xs, e2⟩ := hS _ m
    rw [e2] at t1; cases t1) fun _ z => (nomatch z), nt t2, nt t3, fun q hq => ?_⟩
  obtain ⟨o, h1, h2⟩ := t4 q hq
  exact ⟨o, nt h1, nt h2⟩
section
variable {P : Program} {w : World} {K : Fr} {mg : Str → Option Value} {base : Heap} {f : Addr} {fd : FuncData}
/-! ### _law_is(lambda: body, e) -/
structure IsD (K : Fr) (mg : Str → Option Value) : Prop where
  ex : ∃ g fd, FunD K "_law_is" "_law_is" (defArgs sIs) (defBody sIs) (defScope sIs) [] [] g fd ∧ mg "_law_is" = some (.ref g) ∧ Binds K fd ["_law_call", "_law_value"] []
abbrev lcx (P : Program) (w : World) (K : Fr) (mg : Str → Option Value) (base : Heap) (N : List Str) (qn : Str) (sc : Scope) (f c : Addr) (A : Around) (outer : List Env) (s : Shared) (H : Hp) : Cx := (cxOf CX0 P w K mg base N qn sc f (.ref c) A outer s H E0).nox
abbrev lamN (qn : Str) : Str := qn ++ ".<locals>." ++ "<lambda>"
theorem pe_is {N : List Str} {qn : Str} {sc : Scope} {c Pt : Addr} {Ts : List (Addr × Str)} {k : Nat} {A : Around} {outer : List Env} {s : Shared} {H : Hp} {params : Arguments} {body e : Expr} {scope : Scope} {lpos p pos : Pos} {t : XK → TE} {te : TE} (T : TT K mg) (R : IsD K mg) (TB : TabB base mg c Pt)
    (hm : (Pt, lamN qn) ∈ Ts) (hu : ∀ q ∈ Ts, q.1 = Pt → q.2 = lamN qn)
    (hr : Room (k + 2) (A.deeper (envOfC qn sc s.heap.objs.size f (.ref c)))) (hG : (A.deeper (envOfC qn sc s.heap.objs.size f (.ref c))).guards = some [])
    (hgl : Gl (lcx P w K mg base N qn sc f c A outer s H) "_law_is") (L : LamS sc scope) (hdef : defaultsOf params (lcx P w K mg base N qn sc f c A outer s H).env = ([], []))
    (hbind : ∀ (q : Str) (cl : List (Str × Addr)) (pm cv ctv : Value), bindArgs (PySem.W.kla_fn "<lambda>" q params body scope cl pm cv ctv) ⟨[], []⟩ = pure [])
    (hbody : ∀ (A1 : Around) (outer1 : List Env) (s1 : Shared) (H1 : Hp) (E : XK) (f1 c1 : Addr), Room k (A1.deeper (lamEnv (lcx P w K mg base N qn sc f c A outer s H) scope s1.heap.objs.size f1 c1)) → PE (lamCx (lcx P w K mg base N qn sc f c A outer s H) A1 outer1 s1 H1 E scope f1 c1) body (t E))
    (he : PE (lcx P w K mg base N qn sc f c A outer s H) e te) (hse : starEach [e] (lcx P w K mg base N qn sc f c A outer s H).env = (false, eval e (lcx P w K mg base N qn sc f c A outer s H).env) :: starEach [] (lcx P w K mg base N qn sc f c A outer s H).env := by rfl) :
    PE (lcx P w K mg base N qn sc f c A outer s H) (.Call (.Name "_law_is" p) [.Lambda params body scope lpos, e] [] pos) (tLam2S Ts (TTi K) t te) := by
  obtain ⟨g, fdR, FR, gR, bR⟩ := R.ex
  obtain ⟨oc, od, dV, kV, doc, pm, an, cdv, ct, osl, rfl, lk, hcd, _, _⟩ := FR.ex
  exact pe_lamcall2S (X := lcx P w K mg base N qn sc f c A outer s H) hgl gR FR.kp lk hcd bR scIs rfl (.inl rfl) (gives_is (X := lcx P w K mg base N qn sc f c A outer s H) rfl rfl rfl rfl rfl T) TB rfl hm hu hr hG rfl L hdef hbind hbody he hse
/-! ### _law_places_refused -/
abbrev sPr : Stmt := top 43
abbrev NPr : List Str := ["_law_pot_here", "_law_table", "_law_many", "_law_places_here", "_law_k", "_law_odd", "_law_thing"]
theorem scPr : FnScope NPr ["_law_pot_here", "_law_table", "_law_many"] (defScope sPr) := ⟨rfl, rfl, rfl, by decide +kernel, rfl, by decide +kernel, by decide +kernel⟩
abbrev lamP : Str := lamN "_law_places_refused"
abbrev M7Xd (P : Program) (w : World) (K : Fr) (mg : Str → Option Value) (base : Heap) : Prop := ∃ d, FnOk P w K mg base (L2.CX P w) 5 (tm K "least") d ["self", "places"] (spPlX K) ∧ Binds K d ["self", "places"] []
abbrev M8Xd (P : Program) (w : World) (K : Fr) (mg : Str → Option Value) (base : Heap) : Prop := ∃ d, FnOk P w K mg base (L2.CX P w) 5 (tm K "class_of") d ["self", "places"] (spPlX K) ∧ Binds K d ["self", "places"] []
def spPq (K : Fr) (Ts : List (Addr × Str)) : SpG := fun vs H Q => ∃ (p a : Addr) (nm z : Str) (n : Nat) (es : List (Addr × El)), vs = [.ref p, .ref a, .int n] ∧ Tabs Ts H ∧ PotAt H p ∧ TabAt K H a nm (List.replicate n z) es ∧ 1 ≤ n ∧ n ≤ 4 ∧ ∀ H', PotAt H' p → ExtS [p] H H' → Tabs Ts H' → Q (.bl true) H'
theorem ok_pq {c Pt : Addr} {Ts : List (Addr × Str)} (F : FunD K "_law_places_refused" "_law_places_refused" (defArgs sPr) (defBody sPr) (defScope sPr) [] [] f fd) (hc : codeIs K f c) (TB : TabB base mg c Pt) (hmT : (Pt, lamP) ∈ Ts) (huT : ∀ q ∈ Ts, q.1 = Pt → q.2 = lamP) (T : TT K mg) (R : IsD K mg) (Pl : PlG P w K mg base) (D : DrawG P w K mg base) (C : PickG P w K mg base) (A6 : M6d P w K mg base) (A6X : M6Xd P w K mg base) (A7 : M7Xd P w K mg base) (A8 : M8Xd P w K mg base) : FnG P w K mg base 8 f fd ["_law_pot_here", "_law_table", "_law_many"] (spPq K Ts) := by
  obtain ⟨f1, d1, G1⟩ := Pl
  obtain ⟨f2, d2, G2⟩ := D
  obtain ⟨f3, d3, G3⟩ := C
  obtain ⟨e6, E6⟩ := A6
  obtain ⟨x6, X6⟩ := A6X
  obtain ⟨e7, E7, b7⟩ := A7
  obtain ⟨e8, E8, b8⟩ := A8
  refine fnG_Dc F hc scPr (fun vs H Q h => ?_) (fun A outer s H vs Q hr hG h => ?_)
  · obtain ⟨p, a, nm, z, n, es, rfl, _⟩ := h
    rfl
  · obtain ⟨p, a, nm, z, n, es, rfl, hT, hp, tab, n1, n4, qq⟩ := h
    have PX : ∀ {A1 : Around} {outer1 : List Env} {s1 : Shared} {H1 : Hp} {E : XK} {scope : Scope} {f1 c1 : Addr}, Passes (L2.CX P w) (lamCx (lcx P w K mg base NPr "_law_places_refused" (defScope sPr) f c A outer s H) A1 outer1 s1 H1 E scope f1 c1) E := fun {_ _ _ _ _ _ _ _} => passes_call (takes_of rfl rfl rfl rfl) fun _ _ _ _ z => z
    refine ⟨_, PSs.nox (pss_cons (ps_set (i := 3) scPr.nd rfl (Or.inr rfl) (pe_gd G1 (hr.mono (by decide)) (by rfl) (pa_cons (pv 0) (pa_cons (pv 2) pa_nil))))
      (pss_cons (ps_set (i := 4) scPr.nd rfl (Or.inr rfl) (pe_gd G2 (hr.mono (by decide)) (by rfl) (pa_cons (pv 0) (pa_cons (pv 2) pa_nil))))
      (pss_cons (ps_set (i := 5) scPr.nd rfl (Or.inl rfl) (pe_lst (pa_cons pe_non (pa_cons pe_int (pa_cons pe_str (pa_cons (pe_callTy call_list_of (by rfl) T.fre (by decide +kernel) (pa_cons (pv 3) pa_nil)) (pa_cons (pe_op op_catA (pv 3) (pe_tup (pa_cons pe_int pa_nil))) (pa_cons (pe_slice sl_tup (pv 3) (po_some pe_int) po_none) (pa_cons pe_dnewK pa_nil)))))))))
      (pss_cons (ps_set (i := 5) scPr.nd rfl (Or.inl rfl) (pe_op op_cat (pv 5) (pe_lc (own := [("_law_thing", 6)]) (g := gName 6) (tt := tYes) (by rfl) scPr.nd (pi_tup (pe_tup (pa_cons (pe_un un_neg pe_int) (pa_cons pe_bl (pa_cons pe_non (pa_cons pe_str (pa_cons (pe_tup (pa_cons pe_int pa_nil)) (pa_cons (pe_lst pa_nil) (pa_cons pe_dnewK pa_nil))))))))) (blkOk_by (N := NPr) (sc := defScope sPr) (by decide +kernel)) (fun _ _ _ _ _ => pg_name (i := 6) scPr.nd rfl (Or.inl rfl)) (fun _ _ _ _ _ => pts_nil)
          (fun _ _ _ _ _ => pe_op (show OpR _ _ (rCatA K) from op_catA) (pe_op (show OpR _ _ (rCatA K) from op_catA) (pe_slice (show SlR _ (rSlT K) from sl_tup) (pv 3) po_none (po_some (pv 4))) (pe_tup (pa_cons (pv 6) pa_nil))) (pe_slice (show SlR _ (rSlT K) from sl_tup) (pv 3) (po_some (pe_op op_add (pv 4) pe_int)) po_none)))))
      (pss_cons (ps_if (PW.pt (pw_or (pt_val (pe_callB (cr_any (by rfl)) (by rfl) T.fre (by decide +kernel) (pa_cons (pe_lc (own := [("_law_thing", 6)]) (g := gName 6) (tt := tYes) (by rfl) scPr.nd (pi_list (pv 5)) (blkOk_by (N := NPr) (sc := defScope sPr) (by decide +kernel)) (fun _ _ _ _ _ => pg_name (i := 6) scPr.nd rfl (Or.inl rfl)) (fun _ _ _ _ _ => pts_nil)
          (fun _ _ _ _ _ => pe_meth (pv 1) T.cl (T.meth "is_slot_places" (by decide)) X6.ok (hr.mono (by decide)) X6.bd .nil pass0 (pa_cons (pv 6) pa_nil))) pa_nil)))
          (pw_or1 (pt_cmpR op_isnot_bl (pe_meth (pv 1) T.cl (T.meth "is_slot_places" (by decide)) E6.ok (hr.mono (by decide)) E6.bd .nil pass0 (pa_cons (pv 3) pa_nil)) pe_bl (nomark _))))) (pss_one (ps_ret pe_bl)) pss_nil)
      (pss_cons (ps_set (i := 6) scPr.nd rfl (Or.inr rfl) (pe_gd G3 (hr.mono (by decide)) (by rfl) (pa_cons (pv 0) (pa_cons (pv 5) pa_nil))))
      (pss_cons (ps_if (pt_not (pt_val (pe_is (k := 5) T R TB hmT huT hr hG (by rfl) (lamS_by (by decide +kernel)) rfl (fun _ _ _ _ _ => rfl)
          (t := fun E => tMeth (TC K) "least" (spPlX K) [] E (tVar 1) (tCons (tVar 6) tNil)) (fun _ _ _ _ _ _ _ hr1 => pe_meth (pv 1) T.cl (T.meth "least" (by decide)) E7 (hr1.mono (by decide)) b7 .nil PX (pa_cons (pv 6) pa_nil)) (pe_lst (pa_cons pe_str (pa_cons (pv 6) pa_nil)))))) (pss_one (ps_ret pe_bl)) pss_nil)
      (pss_one (ps_ret (pe_is (k := 5) T R TB hmT huT hr hG (by rfl) (lamS_by (by decide +kernel)) rfl (fun _ _ _ _ _ => rfl)
          (t := fun E => tMeth (TC K) "class_of" (spPlX K) [] E (tVar 1) (tCons (tVar 6) tNil)) (fun _ _ _ _ _ _ _ hr1 => pe_meth (pv 1) T.cl (T.meth "class_of" (by decide)) E8 (hr1.mono (by decide)) b8 .nil PX (pa_cons (pv 6) pa_nil)) (pe_lst (pa_cons pe_str (pa_cons (pv 6) pa_nil))))))))))))), ?_⟩
    have lz : 10000 ≤ sizeLine := by rw [sizeLine_eq]; decide
    have z4 : (List.replicate n z).length = n := List.length_replicate ..
    have nhd : ∀ {HX : Hp} {b : Addr} {o : HO}, PotAt HX p → HX b = none → (∀ ps, o ≠ .tbl ps) → (RtL.hd [p] (upd HX b o)) b = some o := fun {HX b o} h n nt => hd_new n (fun m => h.ne n (List.mem_singleton.mp m)) nt
    have hds : ∀ {HX HY : Hp}, Same HX HY → Same (RtL.hd [p] HX) (RtL.hd [p] HY) := fun h => hd_ext (ExtS.same h)
    refine ⟨_, rfl, _, rfl, p, n, rfl, hp, n1, n4, fun t ns H1 lns hns nt et hp1 b1 => ?_⟩
    refine ⟨_, rfl, _, rfl, p, n, rfl, hp1, by omega, by omega, fun k0 H2 k0' k1' hp2 b2 => ?_⟩
    obtain ⟨k, rfl⟩ : ∃ k : Nat, k0 = (k : Int) := ⟨k0.toNat, by omega⟩
    have hk : k < n := by omega
    have hsm : ∀ i ∈ ns, Sm i := fun i hi => by
      have := hns i hi
      have e : (10 : Int) ^ 20 = 100000000000000000000 := by decide
      exact ⟨this.1, by rw [e]; omega⟩
    have nn : ∀ i ∈ ns, 0 ≤ i := fun i hi => (hsm i hi).1
    have et2 := tup_but et hp1 b2
    have tab2 := tab.pbut hp (b1.trans b2)
    have b02 := b1.trans b2
    have lm : (ns.map V.int).length = n := by rw [List.length_map]; exact lns
    refine ⟨_, rfl, t, _, rfl, .inr (SqT.of et2), fun l1 nl1 => ?_⟩
    have s3 : Same H2 (upd H2 l1 (.lst (ns.map V.int))) := same_new nl1
    have f1 := nhd hp2 nl1 (o := .lst (ns.map V.int)) fun _ z => nomatch z
    refine ⟨_, rfl, by show 1 ≤ sizeLine; omega, fun q1 nq1 => catA_at (same_new nq1 _ _ (s3 _ _ et2)) upd_same (by rw [lm]; show n + 1 ≤ _; omega) fun t2 H4 s4 e2 => ?_⟩
    have s34 := s3.trans ((same_new nq1).trans s4)
    have hp4 := hp2.same s34
    have t2p : t2 ≠ p := fun z => by
      obtain ⟨_, _, ep, _⟩ := hp4
      rw [z, ep] at e2; cases e2
    have f2 : (RtL.hd [p] H4) t2 = some (.tup (ns.map V.int ++ [.int 0])) := hd_at e2 (fun m => t2p (List.mem_singleton.mp m)) fun _ z => nomatch z
    refine ⟨_, rfl, _, rfl, t, _, rfl, SqT.of (s34 _ _ et2), fun w => ?_, fun t3 nt3 => fun d1 nd1 => ⟨by show 7 ≤ sizeLine; omega, fun L nL => ?_⟩⟩
    · have := w.1
      rw [show (some (1 : Int)) = some ((1 : Nat) : Int) from rfl, HT.sIx_nat, lm] at this
      omega
    rw [show (some (1 : Int)) = some ((1 : Nat) : Int) from rfl, cut_from _ 1 (by rw [lm]; exact n1)] at nd1 nL ⊢
    have s5 : Same H4 (upd H4 t3 (.tup ((ns.map V.int).drop 1))) := same_new nt3
    have f3 := nhd hp4 nt3 (o := .tup ((ns.map V.int).drop 1)) fun _ z => nomatch z
    have s6 := same_new (o := .dK []) nd1
    have hp5 := hp4.same s5
    have f4 := nhd hp5 nd1 (o := .dK []) fun _ z => nomatch z
    have s7 := same_new (o := .lst [.non, .int 5, .str "", .ref l1, .ref t2, .ref t3, .ref d1]) nL
    have hp6 := (hp5.same s6).same s7
    have Lp := (hp5.same s6).ne nL
    have eL := upd_same (H := upd (upd H4 t3 (.tup ((ns.map V.int).drop 1))) d1 (.dK [])) (a := L) (o := .lst [.non, .int 5, .str "", .ref l1, .ref t2, .ref t3, .ref d1])
    have s47 := s5.trans (s6.trans s7)
    have s27 := s34.trans s47
    have its := Its.ints (H := RtL.hd [p] (upd (upd (upd H4 t3 (.tup ((ns.map V.int).drop 1))) d1 (.dK [])) L (.lst [.non, .int 5, .str "", .ref l1, .ref t2, .ref t3, .ref d1]))) ns hsm
    have odd7 : ∀ (j : Nat) v, [V.non, .int 5, .str "", .ref l1, .ref t2, .ref t3, .ref d1][j]? = some v → PlO (RtL.hd [p] (upd (upd (upd H4 t3 (.tup ((ns.map V.int).drop 1))) d1 (.dK [])) L (.lst [.non, .int 5, .str "", .ref l1, .ref t2, .ref t3, .ref d1]))) n v := by
      intro j v hj
      match j, hj with
      | 0, hj => cases hj; exact plo_non
      | 1, hj => cases hj; exact plo_five
      | 2, hj => cases hj; exact plo_str
      | 3, hj => cases hj; exact plo_lst (hds ((same_new nq1).trans (s4.trans s47)) _ _ f1) hsm (by omega)
      | 4, hj =>
        cases hj
        refine (its.app (Its.ints [0] (fun i hi => ?_))).plo (hds s47 _ _ f2) ?_ fun h => ?_
        · rw [List.mem_singleton.mp hi]; exact ⟨by decide, by decide⟩
        · rw [List.length_append, lm]; show n + 1 ≤ 10; omega
        · rw [List.length_append, lm] at h
          have h : n + 1 = n := h
          omega
      | 5, hj =>
        cases hj
        refine (Its.ints (ns.drop 1) fun i hi => hsm i (List.mem_of_mem_drop hi)).plo ((hds (s6.trans s7) _ _ f3).trans (by rw [List.map_drop])) ?_ fun h => ?_
        · rw [List.length_map, List.length_drop]; omega
        · rw [List.length_map, List.length_drop] at h; omega
      | 6, hj => cases hj; exact plo_dct (hds s7 _ _ f4)
      | j + 7, hj => cases hj
    have et7 := s27 _ _ et2
    have tab7 := tab2.same s27
    have b07 := b02.trans (PBut.of s27)
    clear its s27 s47 s7 s6 s5 s34 s3 f1 f2 f3 f4
    generalize upd (upd (upd H4 t3 (.tup ((ns.map V.int).drop 1))) d1 (.dK [])) L (.lst [.non, .int 5, .str "", .ref l1, .ref t2, .ref t3, .ref d1]) = H7 at hp6 eL odd7 et7 tab7 b07 ⊢
    refine ⟨_, rfl, 1, rfl, by show 1 ≤ sizeLine; omega, fun q2 nq2 => ⟨by show 0 ≤ sizeLine; omega, fun q3 nq3 => fun q4 nq4 => ⟨by show 7 ≤ sizeLine; omega, fun T7 nT7 => ⟨T7, rfl, ⟨_, SqT.of upd_same⟩, fun D nD => ?_⟩⟩⟩⟩
    have u2 : Same H7 (upd H7 q2 (.tup [.int 0])) := same_new nq2
    have g2 := nhd hp6 nq2 (o := .tup [.int 0]) fun _ z => nomatch z
    have u3 : Same (upd H7 q2 (.tup [.int 0])) (upd (upd H7 q2 (.tup [.int 0])) q3 (.lst [])) := same_new nq3
    have g3 := nhd (hp6.same u2) nq3 (o := .lst []) fun _ z => nomatch z
    have u4 := same_new (o := .dK []) nq4
    have g4 := nhd ((hp6.same u2).same u3) nq4 (o := .dK []) fun _ z => nomatch z
    have u5 := same_new (o := .tup [.int (-1), .bl true, .non, .str "0", .ref q2, .ref q3, .ref q4]) nT7
    have eT7 := upd_same (H := upd (upd (upd H7 q2 (.tup [.int 0])) q3 (.lst [])) q4 (.dK [])) (a := T7) (o := .tup [.int (-1), .bl true, .non, .str "0", .ref q2, .ref q3, .ref q4])
    have u := u2.trans (u3.trans (u4.trans u5))
    have things : ∀ (j : Nat) v, [V.int (-1), .bl true, .non, .str "0", .ref q2, .ref q3, .ref q4][j]? = some v → ∃ d, It (RtL.hd [p] (upd (upd (upd (upd H7 q2 (.tup [.int 0])) q3 (.lst [])) q4 (.dK [])) T7 (.tup [.int (-1), .bl true, .non, .str "0", .ref q2, .ref q3, .ref q4]))) v d false := by
      intro j v hj
      match j, hj with
      | 0, hj => cases hj; exact ⟨_, it_neg⟩
      | 1, hj => cases hj; exact ⟨_, it_bl⟩
      | 2, hj => cases hj; exact ⟨_, it_non⟩
      | 3, hj => cases hj; exact ⟨_, it_str⟩
      | 4, hj => cases hj; exact ⟨_, it_tup (hds (u3.trans (u4.trans u5)) _ _ g2)⟩
      | 5, hj => cases hj; exact ⟨_, it_lst (hds (u4.trans u5) _ _ g3)⟩
      | 6, hj => cases hj; exact ⟨_, it_dct (hds u5 _ _ g4)⟩
      | j + 7, hj => cases hj
    have et8 := u _ _ et7
    have eL8 := u _ _ eL
    have tab8 := tab7.same u
    have b08 := b07.trans (PBut.of u)
    have hp8 := hp6.same u
    have odd8 : ∀ (j : Nat) v, [V.non, .int 5, .str "", .ref l1, .ref t2, .ref t3, .ref d1][j]? = some v → PlO (RtL.hd [p] (upd (upd (upd (upd H7 q2 (.tup [.int 0])) q3 (.lst [])) q4 (.dK [])) T7 (.tup [.int (-1), .bl true, .non, .str "0", .ref q2, .ref q3, .ref q4]))) n v := fun j v hj => (odd7 j v hj).same (hds u)
    clear odd7 b07 tab7 eL et7 u u5 g4 u4 g3 u3 g2 u2 hp6
    have kc : V.int ((k : Int) + 1) = V.int ((k + 1 : Nat) : Int) := rfl
    generalize upd (upd (upd (upd H7 q2 (.tup [.int 0])) q3 (.lst [])) q4 (.dK [])) T7 (.tup [.int (-1), .bl true, .non, .str "0", .ref q2, .ref q3, .ref q4]) = H8 at nD eT7 things et8 eL8 tab8 b08 hp8 odd8 ⊢
    refine lc_it (walk_tup (xs := [V.int (-1), .bl true, .non, .str "0", .ref q2, .ref q3, .ref q4])) (fun i H' => Same H8 H' ∧ ∃ as : List Addr, H' D = some (.lst (as.map V.ref)) ∧ as.length = i ∧ ∀ b ∈ as, PlO (RtL.hd [D, p] H') n (.ref b)) ⟨same_new nD, [], upd_same, rfl, (fun b hb => nomatch hb)⟩ (fun i H' _ pv => SqT.of (pv.1 _ _ eT7)) ?_ ?_
    · rintro i v HA HB hi ⟨sA, as, eA, lA, hA⟩ ⟨rfl, hx⟩
      obtain ⟨d, hd⟩ := things i v hx
      have hd := (hd.same (hd_none nD)).same (hd_ext (ExtS.same sA))
      have hpA := hp8.same sA
      have etA := sA _ _ et8
      have hi : i < 7 := hi
      have its := Its.ints (H := RtL.hd [D, p] HB) (ns.take k) fun j hj => hsm j (List.mem_of_mem_take hj)
      have its2 := Its.ints (H := RtL.hd [D, p] HB) (ns.drop (k + 1)) fun j hj => hsm j (List.mem_of_mem_drop hj)
      rw [List.map_take] at its
      rw [List.map_drop] at its2
      refine ⟨rfl, _, rfl, _, rfl, _, rfl, t, _, rfl, SqT.of etA, fun w => ?_, fun a1 na1 => ?_⟩
      · have := w.2
        rw [HT.sIx_nat, lm] at this
        omega
      rw [cut_to _ k (by rw [lm]; omega)]
      have v1 := same_new (o := .tup ((ns.map V.int).take k)) na1
      have lk : ((ns.map V.int).take k).length = k := by rw [List.length_take, lm]; omega
      refine ⟨_, rfl, by show 1 ≤ sizeLine; omega, fun a2 na2 => catA_at (same_new na2 _ _ upd_same) upd_same (by rw [lk]; show k + 1 ≤ _; omega) fun a3 HC sC e3 => ?_⟩
      have v3 := v1.trans ((same_new na2).trans sC)
      refine ⟨_, rfl, _, rfl, _, _, rfl, rfl, _, rfl, t, _, rfl, SqT.of (v3 _ _ etA), fun w => ?_, fun a4 na4 => ?_⟩
      · have := w.1
        rw [show (some ((k : Int) + 1)) = some ((k + 1 : Nat) : Int) from rfl, HT.sIx_nat, lm] at this
        omega
      rw [show (some ((k : Int) + 1)) = some ((k + 1 : Nat) : Int) from rfl, cut_from _ (k + 1) (by rw [lm]; omega)]
      refine catA_at (same_new na4 _ _ e3) upd_same ?_ fun a5 HE sE e5 => ?_
      · rw [List.length_append, lk, List.length_drop, lm]
        show k + 1 + _ ≤ _
        omega
      have vE := v3.trans ((same_new na4).trans sE)
      have eDE := vE _ _ eA
      have hpE := hpA.same vE
      have a5p : a5 ≠ p := fun z => by
        obtain ⟨_, _, ep, _⟩ := hpE
        rw [z, ep] at e5; cases e5
      have a5D : a5 ≠ D := fun z => by rw [z, eDE] at e5; cases e5
      have Dp : D ≠ p := hp8.ne nD
      have put : ExtS [D, p] HB (upd HE D (.lst (as.map V.ref ++ [.ref a5]))) := (ExtS.same vE).put (.inl List.mem_cons_self)
      have f5 : (RtL.hd [D, p] (upd HE D (.lst (as.map V.ref ++ [.ref a5])))) a5 = some (.tup (((ns.map V.int).take k ++ [v]) ++ (ns.map V.int).drop (k + 1))) := hd_at (by rw [upd_ne a5D]; exact e5) (fun m => by
        rcases List.mem_cons.mp m with m | m
        · exact a5D m
        · exact a5p (List.mem_singleton.mp m)) fun _ z => nomatch z
      refine ⟨_, eDE, by rw [List.length_map, lA]; omega, fun b o e => ?_, as ++ [a5], by rw [upd_same, List.map_append]; rfl, by rw [List.length_append, lA]; rfl, fun b hb => ?_⟩
      · rw [upd_ne (ne_of_none e nD)]
        exact vE _ _ (sA _ _ e)
      · rcases List.mem_append.mp hb with h | h
        · exact (hA b h).same (hd_ext put)
        · rw [List.mem_singleton.mp h]
          have hh := hd.same (hd_ext put)
          have i1 := Its.ints (H := RtL.hd [D, p] (upd HE D (.lst (as.map V.ref ++ [.ref a5])))) (ns.take k) fun j hj => hsm j (List.mem_of_mem_take hj)
          have i2 := Its.ints (H := RtL.hd [D, p] (upd HE D (.lst (as.map V.ref ++ [.ref a5])))) (ns.drop (k + 1)) fun j hj => hsm j (List.mem_of_mem_drop hj)
          rw [List.map_take] at i1
          rw [List.map_drop] at i2
          refine ((i1.app (.cons hh .nil)).app i2).plo f5 ?_ fun _ => ?_
          · rw [List.length_append, List.length_append, lk, List.length_drop, lm]
            show k + 1 + _ ≤ _
            omega
          · exact List.mem_append_left _ (List.mem_append_right _ List.mem_cons_self)
    rintro H9 ⟨s9, as, e9, l9, h9⟩
    have l9 : as.length = 7 := l9
    have eL9 := s9 _ _ eL8
    refine ⟨L, D, _, _, rfl, rfl, eL9, e9, by rw [List.length_map, l9]; show 7 + 7 ≤ _; omega, fun cc ncc => ?_⟩
    have sc : Same H9 (upd H9 cc (.lst ([V.non, .int 5, .str "", .ref l1, .ref t2, .ref t3, .ref d1] ++ as.map V.ref))) := same_new ncc
    have hp9 := hp8.same s9
    have ccp := hp9.ne ncc
    have ecc := upd_same (H := H9) (a := cc) (o := .lst ([V.non, .int 5, .str "", .ref l1, .ref t2, .ref t3, .ref d1] ++ as.map V.ref))
    have lcc : ([V.non, .int 5, .str "", .ref l1, .ref t2, .ref t3, .ref d1] ++ as.map V.ref).length = 14 := by rw [List.length_append, List.length_map, l9]; rfl
    have odd : ∀ (j : Nat) v, ([V.non, .int 5, .str "", .ref l1, .ref t2, .ref t3, .ref d1] ++ as.map V.ref)[j]? = some v → PlO (RtL.hd [p] (upd H9 cc (.lst ([V.non, .int 5, .str "", .ref l1, .ref t2, .ref t3, .ref d1] ++ as.map V.ref)))) n v := fun j v hj => by
      by_cases h7 : j < 7
      · rw [List.getElem?_append_left (by exact h7)] at hj
        exact (odd8 j v hj).same (hds (s9.trans sc))
      · rw [List.getElem?_append_right (by show 7 ≤ j; omega)] at hj
        rw [List.getElem?_map] at hj
        cases e : as[j - 7]? with
        | none => rw [show ([V.non, .int 5, .str "", .ref l1, .ref t2, .ref t3, .ref d1] : List V).length = 7 from rfl, e] at hj; cases hj
        | some b =>
          rw [show ([V.non, .int 5, .str "", .ref l1, .ref t2, .ref t3, .ref d1] : List V).length = 7 from rfl, e] at hj
          cases hj
          exact (((h9 b (List.mem_of_getElem? e)).same (hd_mono fun x hx => List.mem_cons_of_mem _ hx)).same (hds sc))
    have sX := s9.trans sc
    have etX := sX _ _ et8
    have tabX := tab8.same sX
    have hpX := hp8.same sX
    have bX := b08.trans (PBut.of sX)
    clear sX hp9 sc eL9 h9 e9 s9 odd8 tab8 eL8 et8 things eT7 b08 hp8
    generalize hxs : ([V.non, .int 5, .str "", .ref l1, .ref t2, .ref t3, .ref d1] ++ as.map V.ref) = xs at ecc lcc odd etX tabX hpX bX ⊢
    generalize upd H9 cc (.lst xs) = HX at ecc odd etX tabX hpX bX ⊢
    obtain ⟨dx, sl, g, eaX, _, _, _⟩ := _root_.id tabX
    refine ⟨_, rfl, cc, rfl, ⟨_, SqL.of ecc⟩, fun D2 nD2 => ?_⟩
    refine lc_it (walk_list (xs := xs)) (fun i H' => Same HX H' ∧ H' D2 = some (.lst ((List.replicate i false).map V.bl))) ⟨same_new nD2, upd_same⟩ (fun i H' _ pv => SqL.of (pv.1 _ _ ecc)) ?_ ?_
    · rintro i v HA HB hi ⟨sA, eA⟩ ⟨rfl, hx⟩
      have o := odd i v hx
      refine ⟨rfl, _, rfl, a, dx, _, rfl, sA _ _ eaX, rfl, _, rfl, a, v, nm, _, es, rfl, tabX.same sA, by rw [z4]; exact (o.1.same hd_le).same sA, fun H' s' => ⟨_, s' _ _ eA, by rw [List.length_map, List.length_replicate]; omega, fun b' o' e' => ?_, ?_⟩⟩
      · rw [upd_ne (ne_of_none e' nD2)]
        exact s' _ _ (sA _ _ e')
      · rw [upd_same, List.replicate_succ', List.map_append]
        rfl
    rintro HA ⟨sA, eA⟩
    refine ⟨D2, List.replicate xs.length false, rfl, SqL.of eA, false, congrArg V.bl ?_, iteF ?_⟩
    · rw [List.any_eq_false]
      intro b hb
      rw [List.eq_of_mem_replicate hb]
      decide
    refine ⟨_, rfl, a, dx, _, rfl, sA _ _ eaX, rfl, _, rfl, a, t, nm, _, es, ns, rfl, tabX.same sA, by rw [z4]; exact n4, sA _ _ etX, by rw [z4]; exact lns, nn, fun HB sB => ⟨_, _, rfl, rfl, false, congrArg V.bl (by simp), iteF ?_⟩⟩
    have sAB := sA.trans sB
    have hpB := hpX.same sAB
    refine ⟨_, rfl, _, rfl, p, cc, xs, rfl, hpB, sAB _ _ ecc, ccp, by omega, by omega, fun j v HC hj hpC bC => ?_⟩
    have oC : PlO (RtL.hd [p] HC) n v := (odd j v hj).same ((hds sAB).trans (hd_ext (ExtS.pbut bC)))
    have tabC := (tabX.same sAB).pbut hpB bC
    have bHC := bX.trans ((PBut.of sAB).trans bC)
    have TC := tabs_but hT hp bHC
    have tabh : TabAt K (RtL.hd [p] HC) a nm (List.replicate n z) es := tabC.hd fun s hs => by
      obtain ⟨x, y, e, _⟩ := hpC
      rw [List.mem_singleton.mp hs]
      exact ⟨_, e⟩
    obtain ⟨bad, d, dq, sml⟩ := oC
    have okd := okW_is (C := "InvalidPlaces") (k := "places") (.inl ⟨rfl, rfl⟩) sml
    have two : 2 ≤ sizeLine := by omega
    clear tabC bX tabX odd eaX bC hpB sB eA sA nD2 etX ecc hpX
    refine ⟨TC, fun H1 e1 T1 => ⟨_, rfl, two, fun q nq => ?_⟩⟩
    have le1 : Same (RtL.hd [p] HC) H1 := (ExtS.ext e1).le
    have sq : Same H1 (upd H1 q (.lst [.str "places", v])) := same_new nq
    refine ⟨sq, q, "InvalidPlaces", "places", v, d, rfl, upd_same, .inl ⟨rfl, rfl⟩, (dq.same le1).same sq, okd, fun H0 E R s0 r => ?_, fun H2 s2 => ?_⟩
    · have le0 := le1.trans (sq.trans s0)
      have tab0 := tabh.same le0
      obtain ⟨dx, sl, g, ea0, _, _, _⟩ := _root_.id tab0
      exact ⟨_, rfl, a, dx, _, rfl, ea0, rfl, _, rfl, a, v, nm, _, es, rfl, tab0, by rw [z4]; exact bad.same le0, r⟩
    refine ⟨true, rfl, iteF ?_⟩
    have T2 := T1.ext (fun b o e => s2 _ _ (sq b o e))
    have e12 : ExtN HC H2 := e1.trans (ExtN.of (sq.trans s2))
    refine ⟨T2, fun H3 e3 T3 => ⟨_, rfl, two, fun q' nq' => ?_⟩⟩
    have le3 : Same (RtL.hd [p] HC) H3 := (ExtS.ext (e12.trans e3)).le
    have sq' : Same H3 (upd H3 q' (.lst [.str "places", v])) := same_new nq'
    refine ⟨sq', q', "InvalidPlaces", "places", v, d, rfl, upd_same, .inl ⟨rfl, rfl⟩, (dq.same le3).same sq', okd, fun H0 E R s0 r => ?_, fun H4 s4 => ?_⟩
    · have le0 := le3.trans (sq'.trans s0)
      have tab0 := tabh.same le0
      obtain ⟨dx, sl, g, ea0, _, _, _⟩ := _root_.id tab0
      exact ⟨_, rfl, a, dx, _, rfl, ea0, rfl, _, rfl, a, v, nm, _, es, rfl, tab0, by rw [z4]; exact bad.same le0, r⟩
    have e14 : ExtN HC H4 := (e12.trans e3).trans (ExtN.of (sq'.trans s4))
    exact qq _ (hpC.ext e14) ((ExtS.pbut bHC).trans (ExtS.ext e14)) (T3.ext fun b o e => s4 _ _ (sq' b o e))
abbrev PqG (P : Program) (w : World) (K : Fr) (mg : Str → Option Value) (base : Heap) (Ts : List (Addr × Str)) : Prop := ∃ f d, GdG P w K mg base 8 "_law_places_refused" f d ["_law_pot_here", "_law_table", "_law_many"] (spPq K Ts)
end
end K11

set_option maxHeartbeats 1000000
namespace K11
open PySem PySem.Spec PyProof.Rows L2 RtL ErL StX NSet LamX
open Grp (El mul)
theorem BadCt.same {H H' : Hp} {v : V} (h : BadCt H v) (s : Same H H') : BadCt H' v := h.imp id fun ⟨t, o⟩ => ⟨t, o.same s⟩
theorem big_sml {i : Int} (hb : i.natAbs < 2 ^ 100) : Sml (.int i) := by
  refine ⟨decide_eq_true (Nat.lt_of_lt_of_le (PySem.Flt.log2_lt_of (by decide) hb) (by decide)), Nat.zero_le _, ?_⟩
  show (Str.ofString (toString i)).length ≤ 3000
  rw [PySem.ofString_length]
  by_cases z : i.natAbs = 0
  · exact Nat.le_trans (int_text_length_le (by decide : 0 < 1) (by rw [z]; decide)) (by decide)
  · exact Nat.le_trans (int_text_length_le (by decide : 0 < 100) ((Nat.log2_lt z).mpr hb)) (by decide)
theorem str_sml (s : String) (h : 10 * (Str.ofString s).length + 2 ≤ 3000 := by decide) : Sml (.str (Str.ofString s)) := ⟨rfl, Nat.zero_le _, Nat.le_trans (shown_str (cps_of s)).2 h⟩
/-- no name, and its text -/
def NmO (H : Hp) (v : V) : Prop := BadNm H v ∧ ∃ d, Dq H v d ∧ Sml d
theorem NmO.same {H H' : Hp} {v : V} (h : NmO H v) (s : Same H H') : NmO H' v := by
  obtain ⟨b, d, q, m⟩ := h
  exact ⟨b.same s, d, q.same s, m⟩
def CtO (H : Hp) (v : V) : Prop := BadCt H v ∧ ∃ d, Dq H v d ∧ Sml d
theorem CtO.same {H H' : Hp} {v : V} (h : CtO H v) (s : Same H H') : CtO H' v := by
  obtain ⟨b, d, q, m⟩ := h
  exact ⟨b.same s, d, q.same s, m⟩
theorem nmo_non {H : Hp} : NmO H .non := ⟨.inr (.inr ⟨_, .non, by decide⟩), _, .non, rfl, Nat.zero_le _, by decide⟩
theorem nmo_int {H : Hp} : NmO H (.int 5) := ⟨.inr (.inl ⟨5, rfl⟩), _, .int 5, big_sml (by decide)⟩
theorem nmo_bl {H : Hp} : NmO H (.bl true) := ⟨.inr (.inr ⟨_, .bl true, by decide⟩), _, .bl _, rfl, Nat.zero_le _, by decide⟩
theorem nmo_lst {H : Hp} {a : Addr} (e : H a = some (.lst [])) : NmO H (.ref a) := ⟨.inr (.inr ⟨_, .lst e, by decide⟩), _, .lst e .nil, rfl, Nat.le_of_ble_eq_true rfl, Nat.le_of_ble_eq_true rfl⟩
theorem nmo_tup {H : Hp} {a : Addr} (e : H a = some (.tup [.str "a"])) : NmO H (.ref a) := ⟨.inr (.inr ⟨_, .tup e, by decide⟩), _, .tup e (.cons (.str _) .nil), rfl, Nat.le_of_ble_eq_true rfl, by
  have c := fmt_text (PyData.shownAll [PyData.str "a"])
  have e : (PyData.tuple [PyData.str "a"]).shown = tupleText (PyData.shownAll [PyData.str "a"]) := by simp only [PyData.shown]
  have b := (shown_str (cps_of "a")).2
  have p : piled (PyData.shownAll [PyData.str "a"]) ≤ 20 := by
    show piled [(PyData.str "a").shown] ≤ 20
    rw [piled_cons]
    have : piled [] = 0 := rfl
    have l : (Str.ofString "a").length = 1 := rfl
    omega
  rw [e]
  omega⟩
theorem nmo_str {H : Hp} (s : String) (l : (Str.ofString s).length ≤ 20) (n : ¬ NmOk (Str.ofString s)) : NmO H (.str (Str.ofString s)) := ⟨.inl ⟨_, rfl, by omega, n⟩, _, .str _, rfl, Nat.zero_le _, Nat.le_trans (shown_str (cps_of s)).2 (by omega)⟩
theorem cto_int {H : Hp} {i : Int} (h : ¬ (1 ≤ i ∧ i ≤ 4)) (hb : i.natAbs < 2 ^ 100) : CtO H (.int i) := ⟨.inl ⟨i, rfl, h⟩, _, .int i, big_sml hb⟩
theorem cto_non {H : Hp} : CtO H .non := ⟨.inr ⟨_, .non⟩, _, .non, rfl, Nat.zero_le _, by decide⟩
theorem cto_bl {H : Hp} : CtO H (.bl true) := ⟨.inr ⟨_, .bl true⟩, _, .bl _, rfl, Nat.zero_le _, by decide⟩
theorem cto_str {H : Hp} : CtO H (.str "2") := ⟨.inr ⟨_, .str _⟩, _, .str _, str_sml "2"⟩
theorem cto_lst {H : Hp} {a : Addr} (e : H a = some (.lst [])) : CtO H (.ref a) := ⟨.inr ⟨_, .lst e⟩, _, .lst e .nil, rfl, Nat.le_of_ble_eq_true rfl, Nat.le_of_ble_eq_true rfl⟩
section
variable {P : Program} {w : World} {K : Fr} {mg : Str → Option Value} {base : Heap} {f : Addr} {fd : FuncData}
/-- _law_is(lambda: .., [kd, v]) where what is called refuses v so -/
theorem is_step {Ts : List (Addr × Str)} {S : List Addr} {HC HY : Hp} {v : V} {d : PyData} {C kd : Str} {t : XK → TE} {te : TE} {σ : L2.St} {Q : VK} (hk : Kd C kd) (X : ExtS S HC HY) (TY : Tabs Ts HY) (dq : Dq (RtL.hd S HC) v d) (sml : Sml d)
    (hte : ∀ (H1 : Hp) (R : VK), (∀ q, H1 q = none → R (.ref q) (upd H1 q (.lst [.str kd, v]))) → te σ H1 R) (ht : ∀ H0 E R, ExtS S HC H0 → RefE K C H0 v E → t E σ H0 R) (k : ∀ H2, ExtN HY H2 → Tabs Ts H2 → Q (.bl true) H2) : tLam2S Ts (TTi K) t te σ HY Q := by
  refine ⟨TY, fun H1 e1 T1 => hte _ _ fun q nq => ?_⟩
  have sq : Same H1 (upd H1 q (.lst [.str kd, v])) := same_new nq
  have x1 := X.trans (ExtS.ext e1)
  refine ⟨sq, q, C, kd, v, d, rfl, upd_same, hk, (dq.same x1.le).same sq, okW_is hk sml, fun H0 E R s0 r => ht H0 E R (x1.trans (ExtS.same (sq.trans s0))) r, fun H2 s2 => k H2 (e1.trans (ExtN.of (sq.trans s2))) (T1.ext fun b o e => s2 _ _ (sq b o e))⟩
abbrev sMr : Stmt := top 44
abbrev NMr : List Str := ["_law_pot_here", "_law_name_here", "_law_sort", "_law_rows", "_law_bad", "_law_odd"]
theorem scMr2 : FnScope NMr ["_law_pot_here", "_law_name_here", "_law_sort"] (defScope sMr) := ⟨rfl, rfl, rfl, by decide +kernel, rfl, by decide +kernel, by decide +kernel⟩
abbrev lamM : Str := lamN "_law_makers_refused"
abbrev SyXG (P : Program) (w : World) (K : Fr) (mg : Str → Option Value) (base : Heap) : Prop := FnR P w K mg base (L2.CX P w) 6 (recA K (TC K) "symmetric" "classmethod") (spMkX K)
abbrev AlXG (P : Program) (w : World) (K : Fr) (mg : Str → Option Value) (base : Heap) : Prop := FnR P w K mg base (L2.CX P w) 6 (recA K (TC K) "alternating" "classmethod") (spMkX K)
def spMr (K : Fr) (Ts : List (Addr × Str)) : SpG := fun vs H Q => ∃ (p : Addr) (nm z : Str), vs = [.ref p, .str nm, .str z] ∧ Tabs Ts H ∧ PotAt H p ∧ NmOk nm ∧ NmOk z ∧ ∀ H', PotAt H' p → ExtS [p] H H' → Tabs Ts H' → Q (.bl true) H'
theorem ok_mr {c Pt : Addr} {Ts : List (Addr × Str)} (F : FunD K "_law_makers_refused" "_law_makers_refused" (defArgs sMr) (defBody sMr) (defScope sMr) [] [] f fd) (hc : codeIs K f c) (TB : TabB base mg c Pt) (hmT : (Pt, lamM) ∈ Ts) (huT : ∀ q ∈ Ts, q.1 = Pt → q.2 = lamM) (T : TT K mg) (R : IsD K mg) (C : PickG P w K mg base) (GS : SyXG P w K mg base) (GA : AlXG P w K mg base) : FnG P w K mg base 9 f fd ["_law_pot_here", "_law_name_here", "_law_sort"] (spMr K Ts) := by
  obtain ⟨f3, d3, G3⟩ := C
  have cS := T.cm "symmetric" (by decide)
  have cA := T.cm "alternating" (by decide)
  refine fnG_Dc F hc scMr2 (fun vs H Q h => ?_) (fun A outer s H vs Q hr hG h => ?_)
  · obtain ⟨p, nm, z, rfl, _⟩ := h
    rfl
  · obtain ⟨p, nm, z, rfl, hT, hp, hnm, hz, qq⟩ := h
    have PX : ∀ {A1 : Around} {outer1 : List Env} {s1 : Shared} {H1 : Hp} {E : XK} {scope : Scope} {f1 c1 : Addr}, Passes (L2.CX P w) (lamCx (lcx P w K mg base NMr "_law_makers_refused" (defScope sMr) f c A outer s H) A1 outer1 s1 H1 E scope f1 c1) E := fun {_ _ _ _ _ _ _ _} => passes_call (takes_of rfl rfl rfl rfl) fun _ _ _ _ z => z
    refine ⟨_, PSs.nox (pss_cons (ps_set (i := 4) scMr2.nd rfl (Or.inr rfl) (pe_gd G3 (hr.mono (by decide)) (by rfl) (pa_cons (pv 0) (pa_cons (pe_lst (pa_cons pe_non (pa_cons pe_int (pa_cons pe_str (pa_cons pe_str (pa_cons pe_str (pa_cons pe_str (pa_cons pe_str (pa_cons pe_bl (pa_cons (pe_lst pa_nil) (pa_cons (pe_tup (pa_cons pe_str pa_nil)) pa_nil))))))))))) pa_nil))))
      (pss_cons (ps_set (i := 5) scMr2.nd rfl (Or.inr rfl) (pe_gd G3 (hr.mono (by decide)) (by rfl) (pa_cons (pv 0) (pa_cons (pe_lst (pa_cons pe_int (pa_cons pe_int (pa_cons (pe_un un_neg pe_int) (pa_cons pe_non (pa_cons pe_bl (pa_cons pe_str (pa_cons (pe_lst pa_nil) (pa_cons (pe_op op_pow pe_int pe_int) pa_nil))))))))) pa_nil))))
      (pss_cons (ps_set (i := 3) scMr2.nd rfl (Or.inl rfl) (pe_lst (pa_cons (pe_is (k := 6) T R TB hmT huT hr hG (by rfl) (lamS_by (by decide +kernel)) rfl (fun _ _ _ _ _ => rfl)
          (t := fun E => ClX.tCMeth (TC K) (spMkX K) E (tC (.ref (TC K))) (tCons (tVar 4) (tCons (tC .non) (tCons (tVar 5) tNil)))) (fun _ _ _ _ _ _ _ hr1 => ClX.pe_cmeth (pe_glob (v := .ref (TC K)) (by rfl) (T.gl "Table" (by decide)) rfl) cS.1 cS.2 GS hr1 PX (pa_cons (pv 4) (pa_cons pe_non (pa_cons (pv 5) pa_nil)))) (pe_lst (pa_cons pe_str (pa_cons (pv 4) pa_nil)))) pa_nil)))
      (pss_cons (ps_expr (pe_bm PySem.F.plainAttrs_list PySem.F.slot_list_append PySem.F.type_list_append mt_append (pv 3) (pa_cons (pe_is (k := 6) T R TB hmT huT hr hG (by rfl) (lamS_by (by decide +kernel)) rfl (fun _ _ _ _ _ => rfl)
          (t := fun E => ClX.tCMeth (TC K) (spMkX K) E (tC (.ref (TC K))) (tCons (tVar 1) (tCons (tVar 4) (tCons (tVar 5) tNil)))) (fun _ _ _ _ _ _ _ hr1 => ClX.pe_cmeth (pe_glob (v := .ref (TC K)) (by rfl) (T.gl "Table" (by decide)) rfl) cS.1 cS.2 GS hr1 PX (pa_cons (pv 1) (pa_cons (pv 4) (pa_cons (pv 5) pa_nil)))) (pe_lst (pa_cons pe_str (pa_cons (pv 4) pa_nil)))) pa_nil)))
      (pss_cons (ps_expr (pe_bm PySem.F.plainAttrs_list PySem.F.slot_list_append PySem.F.type_list_append mt_append (pv 3) (pa_cons (pe_is (k := 6) T R TB hmT huT hr hG (by rfl) (lamS_by (by decide +kernel)) rfl (fun _ _ _ _ _ => rfl)
          (t := fun E => ClX.tCMeth (TC K) (spMkX K) E (tC (.ref (TC K))) (tCons (tVar 1) (tCons (tVar 2) (tCons (tVar 5) tNil)))) (fun _ _ _ _ _ _ _ hr1 => ClX.pe_cmeth (pe_glob (v := .ref (TC K)) (by rfl) (T.gl "Table" (by decide)) rfl) cS.1 cS.2 GS hr1 PX (pa_cons (pv 1) (pa_cons (pv 2) (pa_cons (pv 5) pa_nil)))) (pe_lst (pa_cons pe_str (pa_cons (pv 5) pa_nil)))) pa_nil)))
      (pss_cons (ps_expr (pe_bm PySem.F.plainAttrs_list PySem.F.slot_list_append PySem.F.type_list_append mt_append (pv 3) (pa_cons (pe_is (k := 6) T R TB hmT huT hr hG (by rfl) (lamS_by (by decide +kernel)) rfl (fun _ _ _ _ _ => rfl)
          (t := fun E => ClX.tCMeth (TC K) (spMkX K) E (tC (.ref (TC K))) (tCons (tVar 4) (tCons (tVar 4) (tCons (tC (.int 2)) tNil)))) (fun _ _ _ _ _ _ _ hr1 => ClX.pe_cmeth (pe_glob (v := .ref (TC K)) (by rfl) (T.gl "Table" (by decide)) rfl) cA.1 cA.2 GA hr1 PX (pa_cons (pv 4) (pa_cons (pv 4) (pa_cons pe_int pa_nil)))) (pe_lst (pa_cons pe_str (pa_cons (pv 4) pa_nil)))) pa_nil)))
      (pss_cons (ps_expr (pe_bm PySem.F.plainAttrs_list PySem.F.slot_list_append PySem.F.type_list_append mt_append (pv 3) (pa_cons (pe_is (k := 6) T R TB hmT huT hr hG (by rfl) (lamS_by (by decide +kernel)) rfl (fun _ _ _ _ _ => rfl)
          (t := fun E => ClX.tCMeth (TC K) (spMkX K) E (tC (.ref (TC K))) (tCons (tVar 1) (tCons (tVar 4) (tCons (tC (.int 2)) tNil)))) (fun _ _ _ _ _ _ _ hr1 => ClX.pe_cmeth (pe_glob (v := .ref (TC K)) (by rfl) (T.gl "Table" (by decide)) rfl) cA.1 cA.2 GA hr1 PX (pa_cons (pv 1) (pa_cons (pv 4) (pa_cons pe_int pa_nil)))) (pe_lst (pa_cons pe_str (pa_cons (pv 4) pa_nil)))) pa_nil)))
      (pss_cons (ps_expr (pe_bm PySem.F.plainAttrs_list PySem.F.slot_list_append PySem.F.type_list_append mt_append (pv 3) (pa_cons (pe_is (k := 6) T R TB hmT huT hr hG (by rfl) (lamS_by (by decide +kernel)) rfl (fun _ _ _ _ _ => rfl)
          (t := fun E => ClX.tCMeth (TC K) (spMkX K) E (tC (.ref (TC K))) (tCons (tVar 1) (tCons (tVar 2) (tCons (tVar 5) tNil)))) (fun _ _ _ _ _ _ _ hr1 => ClX.pe_cmeth (pe_glob (v := .ref (TC K)) (by rfl) (T.gl "Table" (by decide)) rfl) cA.1 cA.2 GA hr1 PX (pa_cons (pv 1) (pa_cons (pv 2) (pa_cons (pv 5) pa_nil)))) (pe_lst (pa_cons pe_str (pa_cons (pv 5) pa_nil)))) pa_nil)))
      (pss_one (ps_ret (pe_callB (cr_all (by rfl)) (by rfl) T.fre (by decide +kernel) (pa_cons (pv 3) pa_nil)))))))))))), ?_⟩
    have lz : 10000 ≤ sizeLine := by rw [sizeLine_eq]; decide
    have two : 2 ≤ sizeLine := by omega
    have nhd : ∀ {HX : Hp} {b : Addr} {o : HO}, PotAt HX p → HX b = none → (∀ ps, o ≠ .tbl ps) → (RtL.hd [p] (upd HX b o)) b = some o := fun {HX b o} h n nt => hd_new n (fun m => h.ne n (List.mem_singleton.mp m)) nt
    have hds : ∀ {HX HY : Hp}, Same HX HY → Same (RtL.hd [p] HX) (RtL.hd [p] HY) := fun h => hd_ext (ExtS.same h)
    refine ⟨_, rfl, by show 0 ≤ sizeLine; omega, fun q1 nq1 => ⟨by show 1 ≤ sizeLine; omega, fun q2 nq2 => ⟨by show 10 ≤ sizeLine; omega, fun L1 nL1 => ?_⟩⟩⟩
    have s1 : Same H (upd H q1 (.lst [])) := same_new nq1
    have g1 := nhd hp nq1 (o := .lst []) fun _ z => nomatch z
    have s2 : Same (upd H q1 (.lst [])) (upd (upd H q1 (.lst [])) q2 (.tup [.str "a"])) := same_new nq2
    have g2 := nhd (hp.same s1) nq2 (o := .tup [.str "a"]) fun _ z => nomatch z
    have s3 := same_new (o := .lst [.non, .int 5, .str "", .str "abcdefghi", .str "a b", .str "a1", .str "_", .bl true, .ref q1, .ref q2]) nL1
    have hp2 := (hp.same s1).same s2
    have bads : ∀ (j : Nat) v, [V.non, .int 5, .str "", .str "abcdefghi", .str "a b", .str "a1", .str "_", .bl true, .ref q1, .ref q2][j]? = some v → NmO (RtL.hd [p] (upd (upd (upd H q1 (.lst [])) q2 (.tup [.str "a"])) L1 (.lst [.non, .int 5, .str "", .str "abcdefghi", .str "a b", .str "a1", .str "_", .bl true, .ref q1, .ref q2]))) v := by
      intro j v hj
      match j, hj with
      | 0, hj => cases hj; exact nmo_non
      | 1, hj => cases hj; exact nmo_int
      | 2, hj => cases hj; exact nmo_str "" (by decide) fun h => absurd h.l1 (by decide)
      | 3, hj => cases hj; exact nmo_str "abcdefghi" (by decide) fun h => absurd h.l8 (by decide)
      | 4, hj => cases hj; exact nmo_str "a b" (by decide) fun h => absurd h.alp (by decide +kernel)
      | 5, hj => cases hj; exact nmo_str "a1" (by decide) fun h => absurd h.alp (by decide +kernel)
      | 6, hj => cases hj; exact nmo_str "_" (by decide) fun h => absurd h.alp (by decide +kernel)
      | 7, hj => cases hj; exact nmo_bl
      | 8, hj => cases hj; exact nmo_lst (hds (s2.trans s3) _ _ g1)
      | 9, hj => cases hj; exact nmo_tup (hds s3 _ _ g2)
      | j + 10, hj => cases hj
    have hp3 := hp2.same s3
    have s03 := s1.trans (s2.trans s3)
    refine ⟨p, L1, _, rfl, hp3, upd_same, hp2.ne nL1, by show 0 < 10; decide, by show 10 < 1000; decide, fun j1 bad H4 hj1 hp4 b4 => ?_⟩
    have hbad : NmO (RtL.hd [p] H4) bad := (bads j1 bad hj1).same (hd_ext (ExtS.pbut b4))
    have b04 := (PBut.of s03).trans b4
    clear bads b4 hj1 s03 hp3 hp2 s3 g2 s2 g1 s1
    refine ⟨_, rfl, 1, rfl, by show 0 ≤ sizeLine; omega, fun q3 nq3 => ⟨_, _, rfl, rfl, ⟨by decide, by decide, by decide⟩, by show 8 ≤ sizeLine; omega, fun L2 nL2 => ?_⟩⟩
    have s1 : Same H4 (upd H4 q3 (.lst [])) := same_new nq3
    have g1 := nhd hp4 nq3 (o := .lst []) fun _ z => nomatch z
    have e30 : (30 : Int).toNat = 30 := rfl
    have s2 := same_new (o := .lst [.int 0, .int 5, .int (-1), .non, .bl true, .str "2", .ref q3, .int (10 ^ (30 : Int).toNat)]) nL2
    have odds : ∀ (j : Nat) v, [V.int 0, .int 5, .int (-1), .non, .bl true, .str "2", .ref q3, .int (10 ^ (30 : Int).toNat)][j]? = some v → CtO (RtL.hd [p] (upd (upd H4 q3 (.lst [])) L2 (.lst [.int 0, .int 5, .int (-1), .non, .bl true, .str "2", .ref q3, .int (10 ^ (30 : Int).toNat)]))) v := by
      intro j v hj
      match j, hj with
      | 0, hj => cases hj; exact cto_int (by decide) (by decide)
      | 1, hj => cases hj; exact cto_int (by decide) (by decide)
      | 2, hj => cases hj; exact cto_int (by decide) (by decide)
      | 3, hj => cases hj; exact cto_non
      | 4, hj => cases hj; exact cto_bl
      | 5, hj => cases hj; exact cto_str
      | 6, hj => cases hj; exact cto_lst (hds s2 _ _ g1)
      | 7, hj =>
        cases hj
        rw [e30]
        exact cto_int (by decide) (by decide)
      | j + 8, hj => cases hj
    have s02 := s1.trans s2
    have hp5 := hp4.same s02
    refine ⟨p, L2, _, rfl, hp5, upd_same, (hp4.same s1).ne nL2, by show 0 < 8; decide, by show 8 < 1000; decide, fun j2 odd HC hj2 hpC bC => ?_⟩
    have hodd : CtO (RtL.hd [p] HC) odd := (odds j2 odd hj2).same (hd_ext (ExtS.pbut bC))
    have hbad : NmO (RtL.hd [p] HC) bad := hbad.same (hd_ext ((ExtS.same s02).trans (ExtS.pbut bC)))
    have b0C := b04.trans ((PBut.of s02).trans bC)
    have TC := tabs_but hT hp b0C
    clear odds bC hj2 hp5 s02 s2 g1 s1 b04 hp4
    obtain ⟨badB, dB, dqB, smB⟩ := hbad
    obtain ⟨badO, dO, dqO, smO⟩ := hodd
    refine is_step (.inr (.inl ⟨rfl, rfl⟩)) ExtS.refl TC dqB smB (fun H1 R h => ⟨_, rfl, two, h⟩) (fun H0 E R x r => ⟨rfl, _, rfl, _, rfl, _, _, _, rfl, fun Q => ⟨_, _, _, rfl, .inl ⟨badB.same x.le, r⟩⟩⟩) fun H1 e1 T1 => ?_
    refine ⟨by show 1 ≤ sizeLine; omega, fun r nr => ?_⟩
    have x1 : ExtS [] HC H1 := ExtS.ext e1
    have hr : ∀ b o, b ∉ ([] : List Addr) → (∀ ps, o ≠ HO.tbl ps) → HC b = some o → b ≠ r := fun b o hb nt e => ne_of_none (x1 b o hb nt e) nr
    have X1 : ExtS [] HC (upd H1 r (.lst [.bl true])) := fun b o hb nt e => by
      rw [upd_ne (hr b o hb nt e)]
      exact x1 b o hb nt e
    have U1 : Tabs Ts (upd H1 r (.lst [.bl true])) := T1.ext (same_new nr)
    have L1 : (upd H1 r (.lst [.bl true])) r = some (.lst [.bl true]) := upd_same
    refine ⟨_, rfl, .inl ⟨rfl, _, SqL.of L1⟩, is_step (.inr (.inl ⟨rfl, rfl⟩)) (X1.mono fun x h => nomatch h) U1 dqB smB (fun H1 R h => ⟨_, rfl, two, h⟩) (fun H0 E R x rr => ⟨rfl, _, rfl, _, rfl, _, rfl, _, _, _, rfl, fun Q => ⟨_, _, _, rfl, .inr ⟨_, rfl, hnm, .inl ⟨badB.same x.le, rr⟩⟩⟩⟩) fun H2 e2 T2 => ⟨r, _, _, rfl, rfl, e2 _ _ L1 (fun _ z => nomatch z), by show 2 ≤ sizeLine; omega, ?_⟩⟩
    have k2 := e2 _ _ L1 (fun _ z => nomatch z)
    have X2 : ExtS [] HC (upd H2 r (.lst [.bl true, .bl true])) := fun b o hb nt e => by
      rw [upd_ne (hr b o hb nt e)]
      exact e2 _ _ (X1 b o hb nt e) nt
    have U2 : Tabs Ts (upd H2 r (.lst [.bl true, .bl true])) := tabs_lst T2 k2
    have L2 : (upd H2 r (.lst [.bl true, .bl true])) r = some (.lst [.bl true, .bl true]) := upd_same
    refine ⟨_, rfl, .inl ⟨rfl, _, SqL.of L2⟩, is_step (.inr (.inr ⟨rfl, rfl⟩)) (X2.mono fun x h => nomatch h) U2 dqO smO (fun H1 R h => ⟨_, rfl, two, h⟩) (fun H0 E R x rr => ⟨rfl, _, rfl, _, rfl, _, rfl, _, _, _, rfl, fun Q => ⟨_, _, _, rfl, .inr ⟨_, rfl, hnm, .inr ⟨_, rfl, hz, badO.same x.le, rr⟩⟩⟩⟩) fun H3 e3 T3 => ⟨r, _, _, rfl, rfl, e3 _ _ L2 (fun _ z => nomatch z), by show 3 ≤ sizeLine; omega, ?_⟩⟩
    have k3 := e3 _ _ L2 (fun _ z => nomatch z)
    have X3 : ExtS [] HC (upd H3 r (.lst [.bl true, .bl true, .bl true])) := fun b o hb nt e => by
      rw [upd_ne (hr b o hb nt e)]
      exact e3 _ _ (X2 b o hb nt e) nt
    have U3 : Tabs Ts (upd H3 r (.lst [.bl true, .bl true, .bl true])) := tabs_lst T3 k3
    have L3 : (upd H3 r (.lst [.bl true, .bl true, .bl true])) r = some (.lst [.bl true, .bl true, .bl true]) := upd_same
    refine ⟨_, rfl, .inl ⟨rfl, _, SqL.of L3⟩, is_step (.inr (.inl ⟨rfl, rfl⟩)) (X3.mono fun x h => nomatch h) U3 dqB smB (fun H1 R h => ⟨_, rfl, two, h⟩) (fun H0 E R x rr => ⟨rfl, _, rfl, _, rfl, _, _, _, rfl, fun Q => ⟨_, _, _, rfl, .inl ⟨badB.same x.le, rr⟩⟩⟩) fun H4 e4 T4 => ⟨r, _, _, rfl, rfl, e4 _ _ L3 (fun _ z => nomatch z), by show 4 ≤ sizeLine; omega, ?_⟩⟩
    have k4 := e4 _ _ L3 (fun _ z => nomatch z)
    have X4 : ExtS [] HC (upd H4 r (.lst [.bl true, .bl true, .bl true, .bl true])) := fun b o hb nt e => by
      rw [upd_ne (hr b o hb nt e)]
      exact e4 _ _ (X3 b o hb nt e) nt
    have U4 : Tabs Ts (upd H4 r (.lst [.bl true, .bl true, .bl true, .bl true])) := tabs_lst T4 k4
    have L4 : (upd H4 r (.lst [.bl true, .bl true, .bl true, .bl true])) r = some (.lst [.bl true, .bl true, .bl true, .bl true]) := upd_same
    refine ⟨_, rfl, .inl ⟨rfl, _, SqL.of L4⟩, is_step (.inr (.inl ⟨rfl, rfl⟩)) (X4.mono fun x h => nomatch h) U4 dqB smB (fun H1 R h => ⟨_, rfl, two, h⟩) (fun H0 E R x rr => ⟨rfl, _, rfl, _, rfl, _, _, _, rfl, fun Q => ⟨_, _, _, rfl, .inr ⟨_, rfl, hnm, .inl ⟨badB.same x.le, rr⟩⟩⟩⟩) fun H5 e5 T5 => ⟨r, _, _, rfl, rfl, e5 _ _ L4 (fun _ z => nomatch z), by show 5 ≤ sizeLine; omega, ?_⟩⟩
    have k5 := e5 _ _ L4 (fun _ z => nomatch z)
    have X5 : ExtS [] HC (upd H5 r (.lst [.bl true, .bl true, .bl true, .bl true, .bl true])) := fun b o hb nt e => by
      rw [upd_ne (hr b o hb nt e)]
      exact e5 _ _ (X4 b o hb nt e) nt
    have U5 : Tabs Ts (upd H5 r (.lst [.bl true, .bl true, .bl true, .bl true, .bl true])) := tabs_lst T5 k5
    have L5 : (upd H5 r (.lst [.bl true, .bl true, .bl true, .bl true, .bl true])) r = some (.lst [.bl true, .bl true, .bl true, .bl true, .bl true]) := upd_same
    refine ⟨_, rfl, .inl ⟨rfl, _, SqL.of L5⟩, is_step (.inr (.inr ⟨rfl, rfl⟩)) (X5.mono fun x h => nomatch h) U5 dqO smO (fun H1 R h => ⟨_, rfl, two, h⟩) (fun H0 E R x rr => ⟨rfl, _, rfl, _, rfl, _, rfl, _, _, _, rfl, fun Q => ⟨_, _, _, rfl, .inr ⟨_, rfl, hnm, .inr ⟨_, rfl, hz, badO.same x.le, rr⟩⟩⟩⟩) fun H6 e6 T6 => ⟨r, _, _, rfl, rfl, e6 _ _ L5 (fun _ z => nomatch z), by show 6 ≤ sizeLine; omega, ?_⟩⟩
    have k6 := e6 _ _ L5 (fun _ z => nomatch z)
    have X6 : ExtS [] HC (upd H6 r (.lst [.bl true, .bl true, .bl true, .bl true, .bl true, .bl true])) := fun b o hb nt e => by
      rw [upd_ne (hr b o hb nt e)]
      exact e6 _ _ (X5 b o hb nt e) nt
    have U6 : Tabs Ts (upd H6 r (.lst [.bl true, .bl true, .bl true, .bl true, .bl true, .bl true])) := tabs_lst T6 k6
    have L6 : (upd H6 r (.lst [.bl true, .bl true, .bl true, .bl true, .bl true, .bl true])) r = some (.lst [.bl true, .bl true, .bl true, .bl true, .bl true, .bl true]) := upd_same
    have pf : PotAt (upd H6 r (.lst [.bl true, .bl true, .bl true, .bl true, .bl true, .bl true])) p := by
      obtain ⟨x, y, ep, rr⟩ := hpC
      exact ⟨x, y, X6 _ _ (fun h => nomatch h) (fun _ z => nomatch z) ep, rr⟩
    exact ⟨_, rfl, r, [true, true, true, true, true, true], rfl, SqL.of L6, qq _ pf ((ExtS.pbut b0C).trans (X6.mono fun x h => nomatch h)) U6⟩
abbrev MrG2 (P : Program) (w : World) (K : Fr) (mg : Str → Option Value) (base : Heap) (Ts : List (Addr × Str)) : Prop := ∃ f d, GdG P w K mg base 9 "_law_makers_refused" f d ["_law_pot_here", "_law_name_here", "_law_sort"] (spMr K Ts)
end
end K11

set_option maxHeartbeats 1000000
namespace K11
open PySem PySem.Spec PyProof.Rows L2 RtL ErL StX NSet LamX
open Grp (El mul)
/-! ### the text of a name -/
theorem alpha_ok : ((List.range 128).all fun c => !Unicode.isAlpha c || (decide (Builtin.Str.reprChar 39 c = [c]) && c != 39)) = true := by decide +kernel
theorem fold_alpha : ∀ (l : List Nat) (acc : Array Nat), (∀ c ∈ l, Builtin.Str.reprChar 39 c = [c]) → l.foldl (fun out c => out ++ (Builtin.Str.reprChar 39 c).toArray) acc = acc ++ l.toArray
  | [], acc, _ => by simp
  | c :: l, acc, h => by
    rw [List.foldl_cons, fold_alpha l _ fun d hd => h d (List.mem_cons_of_mem _ hd), h c List.mem_cons_self]
    simp
theorem rep_alpha {z : Str} (h : NmOk z) : reprText z = ("'" : Str) ++ z ++ ("'" : Str) := by
  have good : ∀ c ∈ z.cps.toList, Builtin.Str.reprChar 39 c = [c] ∧ c ≠ 39 := fun c hc => by
    have a := h.asc
    have b := h.alp
    unfold Txt.isascii at a
    unfold Txt.isalpha at b
    rw [← Array.all_toList] at a
    rw [Bool.and_eq_true, ← Array.all_toList] at b
    have a1 := List.all_eq_true.mp a c hc
    have b1 := List.all_eq_true.mp b.2 c hc
    have z := List.all_eq_true.mp alpha_ok c (List.mem_range.mpr (of_decide_eq_true a1))
    rw [b1] at z
    simp only [Bool.not_true, Bool.false_or, Bool.and_eq_true, decide_eq_true_eq, bne_iff_ne] at z
    exact z
  have q : reprQuote z = 39 := by
    have n : z.cps.contains 39 = false := by
      rw [← Array.contains_toList]
      refine Bool.eq_false_iff.mpr fun e => ?_
      exact (good 39 (List.contains_iff_mem.mp e)).2 rfl
    unfold reprQuote
    rw [n]
    rfl
  unfold reprText
  rw [q, ← Array.foldl_toList, fold_alpha _ _ fun c hc => (good c hc).1]
  show (⟨_⟩ : Str) = ⟨_⟩
  refine congrArg Str.mk ?_
  rw [Array.push_eq_append, Array.toArray_toList]
  rfl
theorem tabTxt_eq {nm : Str} {zs : List Str} (h : NmOk nm) : tabTxt nm zs = ("Table('" : Str) ++ nm ++ ("', " : Str) ++ (dSt zs).shown ++ (")" : Str) := by
  unfold tabTxt
  rw [rep_alpha h]
  have e1 : ("Table('" : Str) = ("Table(" : Str) ++ ("'" : Str) := rfl
  have e2 : ("', " : Str) = ("'" : Str) ++ (", " : Str) := rfl
  rw [e1, e2]
  simp only [Str.append_assoc]
section
variable {P : Program} {w : World} {K : Fr} {mg : Str → Option Value} {base : Heap} {f : Addr} {fd : FuncData}
abbrev spEqV (K : Fr) : Sp := fun vs H Q E => spEqT K vs H Q E ∨ spEqX K vs H Q E
abbrev EqVG (P : Program) (w : World) (K : Fr) (mg : Str → Option Value) (base : Heap) : Prop := ∃ d, FnOk P w K mg base CX0 1 (tm K "__eq__") d ["self", "other"] (spEqV K) ∧ Binds K d ["self", "other"] []
abbrev M9d' (P : Program) (w : World) (K : Fr) (mg : Str → Option Value) (base : Heap) : Prop := M9d P w K mg base
abbrev RpG (P : Program) (w : World) (K : Fr) (mg : Str → Option Value) (base : Heap) : Prop := ∃ d, FnG P w K mg base 1 (tm K "__repr__") d ["self"] (spRp K) ∧ Binds K d ["self"] []
theorem odd_sub (T : TT K mg) : ∀ t ∈ oddT, PySem.W.subIn K (.type t) (.ref (TC K)) = some false := fun t ht => T.nto t (by revert t; decide)
abbrev sNr : Stmt := top 45
abbrev NNr : List Str := ["_law_table", "_law_twin", "_law_name_here", "_law_other", "_law_many", "_law_sort", "_law_made", "_law_thing"]
theorem scNr : FnScope NNr ["_law_table", "_law_twin", "_law_name_here", "_law_other", "_law_many", "_law_sort"] (defScope sNr) := ⟨rfl, rfl, rfl, by decide +kernel, rfl, by decide +kernel, by decide +kernel⟩
def spNr (K : Fr) : SpG := fun vs H Q => ∃ (a b : Addr) (nm n2 z : Str) (n : Nat) (tu : Bool) (es e2 : List (Addr × El)), vs = [.ref a, .ref b, .str nm, .str n2, .int n, .str z] ∧ TabAt K H a nm (List.replicate n z) es ∧ TabAt K H b nm (List.replicate n z) e2 ∧ els es = mkT tu n ∧ els e2 = mkT tu n ∧ NmOk nm ∧ NmOk n2 ∧ NmOk z ∧ 1 ≤ n ∧ n ≤ 4 ∧ ∀ H', Same H H' → Q (.bl true) H'
theorem ok_nr (F : FunD K "_law_named_right" "_law_named_right" (defArgs sNr) (defBody sNr) (defScope sNr) [] [] f fd) (T : TT K mg) (A4 : M4d P w K mg base) (A5 : M5d P w K mg base) (A9 : M9d P w K mg base) (EQ : EqVG P w K mg base) (RP : RpG P w K mg base) : FnG P w K mg base 7 f fd ["_law_table", "_law_twin", "_law_name_here", "_law_other", "_law_many", "_law_sort"] (spNr K) := by
  obtain ⟨d4, G4⟩ := A4
  obtain ⟨d5, G5⟩ := A5
  obtain ⟨d9, G9⟩ := A9
  obtain ⟨dE, GE, bE⟩ := EQ
  obtain ⟨eR, ER, bR⟩ := RP
  have S1 := (T.spc "__repr__" (by decide)).1
  have S2 := (T.spc "__repr__" (by decide)).2
  have NE : NeOf K (TC K) (tm K "__eq__") := ⟨T.ne.1, T.ne.2⟩
  refine fnG_D F scNr (fun vs H Q h => ?_) (fun cdv A outer s H vs Q hr hG h => ?_)
  · obtain ⟨a, b, nm, n2, z, n, tu, es, e2, rfl, _⟩ := h
    rfl
  · obtain ⟨a, b, nm, n2, z, n, tu, es, e2, rfl, tab, tab2, hes, he2, hnm, hn2, hz, n1, n4, qq⟩ := h
    have hu : (A.deeper (envOfC "_law_named_right" (defScope sNr) s.heap.objs.size f cdv)).units + 70 < cLine := by have := hr.un; omega
    have hu4 : (A.deeper (envOfC "_law_named_right" (defScope sNr) s.heap.objs.size f cdv)).units + 64 < cLine := by omega
    refine ⟨_, PSs.nox (pss_cons (ps_set (i := 6) scNr.nd rfl (Or.inl rfl) (pe_meth (pv 0) T.cl (T.meth "renamed" (by decide)) G9.ok hr G9.bd .nil pass0 (pa_cons (pv 3) pa_nil)))
      (pss_cons (ps_if (PW.pt (pw_or (pt_cmpR op_ne (pe_fld (pv 6) rfl) (pv 3) (nomark _)) (pw_or (pt_cmpR (op_neD hu4) (pe_meth0 (pv 6) T.cl (T.meth "turns" (by decide)) G5.ok (hr.mono (by decide)) G5.bd .nil pass0) (pe_meth0 (pv 0) T.cl (T.meth "turns" (by decide)) G5.ok (hr.mono (by decide)) G5.bd .nil pass0) (nomark _))
          (pw_or (pt_cmpR (op_neD hu4) (pe_meth0 (pv 6) T.cl (T.meth "slots" (by decide)) G4.ok (hr.mono (by decide)) G4.bd .nil pass0) (pe_meth0 (pv 0) T.cl (T.meth "slots" (by decide)) G4.ok (hr.mono (by decide)) G4.bd .nil pass0) (nomark _)) (pw_or1 (pt_cmpR op_ne (pe_fld (pv 0) rfl) (pv 2) (nomark _))))))) (pss_one (ps_ret pe_bl)) pss_nil)
      (pss_cons (ps_if (pt_cmpR op_ne (pe_callB (call_reprW hu hG T.sys) (by rfl) T.fre (by decide +kernel) (pa_cons (pe_lst (pa_cons (pe_cmpR (op_eqAll T.eq (odd_sub T) GE (hr.mono (by decide)) bE pass0) (pv 6) (pv 0) (nomark _)) (pa_cons (pe_cmpR (op_eqAll T.eq (odd_sub T) GE (hr.mono (by decide)) bE pass0) (pe_meth (pv 6) T.cl (T.meth "renamed" (by decide)) G9.ok hr G9.bd .nil pass0 (pa_cons (pv 2) pa_nil)) (pv 0) (nomark _)) pa_nil))) pa_nil))
          (pe_callB (call_reprW hu hG T.sys) (by rfl) T.fre (by decide +kernel) (pa_cons (pe_lst (pa_cons (pe_cmpR op_eq (pv 3) (pv 2) (nomark _)) (pa_cons pe_bl pa_nil))) pa_nil)) (nomark _)) (pss_one (ps_ret pe_bl)) pss_nil)
      (pss_cons (ps_if (pt_cmpR op_ne (pe_callB (call_reprOwnG S1 S2 ER (hr.mono (by decide)) hG bR) (by rfl) T.fre (by decide +kernel) (pa_cons (pv 0) pa_nil)) (pe_op op_add_str (pe_op op_add_str (pe_op op_add_str (pe_op op_add_str pe_str (pv 2)) pe_str) (pe_callB (call_reprW hu hG T.sys) (by rfl) T.fre (by decide +kernel) (pa_cons (pe_callTy call_tuple_of (by rfl) T.fre (by decide +kernel) (pa_cons (pe_op op_rep (pe_lst (pa_cons (pv 5) pa_nil)) (pv 4)) pa_nil)) pa_nil))) pe_str) (nomark _)) (pss_one (ps_ret pe_bl)) pss_nil)
      (pss_cons (ps_if (pt_val (pe_callB (cr_any (by rfl)) (by rfl) T.fre (by decide +kernel) (pa_cons (pe_lc (own := [("_law_thing", 7)]) (g := gName 7) (tt := tYes) (by rfl) scNr.nd (pi_tup (pe_tup (pa_cons pe_non (pa_cons (pv 2) (pa_cons (pe_callB (call_reprOwnG S1 S2 ER (hr.mono (by decide)) hG bR) (by rfl) T.fre (by decide +kernel) (pa_cons (pv 0) pa_nil)) (pa_cons (pe_lst (pa_cons (pv 0) pa_nil)) pa_nil)))))) (blkOk_by (N := NNr) (sc := defScope sNr) (by decide +kernel)) (fun _ _ _ _ _ => pg_name (i := 7) scNr.nd rfl (Or.inl rfl)) (fun _ _ _ _ _ => pts_nil)
          (fun _ _ _ _ _ => pe_cmpR (op_eqAll T.eq (odd_sub T) GE (hr.mono (by decide)) bE pass0) (pv 0) (pv 7) (nomark _))) pa_nil))) (pss_one (ps_ret pe_bl)) pss_nil)
      (pss_one (ps_ret (pe_and (pe_cmpR (op_eqAll T.eq (odd_sub T) GE (hr.mono (by decide)) bE pass0) (pv 0) (pv 1) (nomark _)) (pe_one (pe_not (pe_cmpR (op_neAll T.eq NE (odd_sub T) GE (hr.mono (by decide)) bE pass0) (pv 0) (pv 1) (nomark _)))))))))))), ?_⟩
    have lz : 10000 ≤ sizeLine := by rw [sizeLine_eq]; decide
    have z4 : (List.replicate n z).length = n := List.length_replicate ..
    have zok : ∀ y ∈ List.replicate n z, NmOk y := fun y hy => by rw [List.eq_of_mem_replicate hy]; exact hz
    have tok : ∀ m : Str, NmOk m → ∀ l : List El, l = mkT tu n → TabOk m (List.replicate n z) l := fun m hm l e => ⟨hm, zok, by rw [z4]; exact n1, by rw [z4]; exact n4, fun x hx => by
      rw [e] at hx
      have o := mkT_ok n4 x hx
      exact ⟨by rw [z4]; exact o, keeps_rep o⟩, by rw [e]; exact Nat.le_trans (mkT_len n4) (by decide)⟩
    have hv : ∀ l : List El, l = mkT tu n → (List.range (List.replicate n z).length, -1) ∉ Grp.found (List.replicate n z).length l := fun l e => by
      have h := List.all_eq_true.mp mk_ok n (List.mem_range.mpr (by omega))
      simp only [Bool.and_eq_true, decide_eq_true_eq] at h
      rw [z4, e]
      cases tu
      · exact h.1
      · exact h.2
    have grp : ∀ l : List El, l = mkT tu n → srt (Grp.found (List.replicate n z).length l) = mkT tu n := fun l e => by
      rw [e, z4]
      exact grp_at n1 n4
    have okZ : OkW (dSt (List.replicate n z)) := okW_strs zok (by rw [z4]; exact n4)
    obtain ⟨dx, sl, g, ea, esl, eg, hel⟩ := _root_.id tab
    refine ⟨_, rfl, a, dx, _, rfl, ea, rfl, _, rfl, a, nm, n2, _, es, rfl, tab, tok n2 hn2 _ hes, hv _ hes, fun m em H1 s1 nm1 tabm hem => ?_⟩
    have hem : els em = mkT tu n := hem.trans (grp _ hes)
    obtain ⟨dm, slm, gm, em1, eslm, egm, helm⟩ := _root_.id tabm
    refine ⟨_, rfl, m, _, dm, _, _, rfl, em1, T.cl, T.no "name" (by decide), rfl, _, rfl, rfl, false, congrArg V.bl (by simp), iteF ?_⟩
    refine ⟨_, rfl, m, dm, _, rfl, em1, rfl, m, n2, _, em, rfl, tabm, fun l1 nl1 => ?_⟩
    have s2 := same_new (o := .lst (refs em)) nl1
    refine ⟨_, rfl, a, dx, _, rfl, s2 _ _ (s1 _ _ ea), rfl, a, nm, _, es, rfl, (tab.same s1).same s2, fun l2 nl2 => ?_⟩
    have s3 := same_new (o := .lst (refs es)) nl2
    have s23 := s2.trans s3
    refine ⟨_, _, .lst (SqL.of (s3 _ _ upd_same)) (els_dp em fun q hq => (helm q hq).same s23), .lst (SqL.of upd_same) (els_dp es fun q hq => (hel q hq).same (s1.trans s23)), shp_els _, shp_els _, false, by rw [PyData.eqv, eqv_els, hem, hes]; simp, iteF ?_⟩
    refine ⟨_, rfl, m, dm, _, rfl, s23 _ _ em1, rfl, m, n2, _, em, rfl, tabm.same s23, fun sm esm => ⟨_, rfl, a, dx, _, rfl, s23 _ _ (s1 _ _ ea), rfl, a, nm, _, es, rfl, (tab.same s1).same s23, fun sa esa => ?_⟩⟩
    refine ⟨_, _, .tup (SqT.of esm) (strs_dp _), .tup (SqT.of esa) (strs_dp _), shp_strt _ zok, shp_strt _ zok, false, by rw [PyData.eqv, eqv_strs]; simp, iteF ?_⟩
    refine ⟨_, rfl, a, _, dx, _, _, rfl, s23 _ _ (s1 _ _ ea), T.cl, T.no "name" (by decide), rfl, _, rfl, rfl, false, congrArg V.bl (by simp), iteF ?_⟩
    clear esm esa
    have s13 := s1.trans s23
    have tab3 := tab.same s13
    have ea3 := s13 _ _ ea
    have tabm3 := tabm.same s23
    have em3 := s23 _ _ em1
    have tabB3 := tab2.same s13
    clear s3 s2 s23 nl2 nl1 egm eslm helm em1 tabm s1 nm1 tab
    generalize upd (upd H1 l1 (.lst (refs em))) l2 (.lst (refs es)) = H3 at s13 tab3 ea3 tabm3 em3 tabB3 ⊢
    have self_eq : ∀ {HX : Hp} {x y : Addr} {m1 m2 : Str} {ex ey : List (Addr × El)} {QQ : VK}, TabAt K HX x m1 (List.replicate n z) ex → TabAt K HX y m2 (List.replicate n z) ey → els ex = mkT tu n → els ey = mkT tu n → QQ (.bl (decide (m1 = m2))) HX → rEqAll (TC K) (spEqV K) E0 (.ref x) (.ref y) HX QQ := by
      intro HX x y m1 m2 ex ey QQ h1 h2 e1 e2 q
      obtain ⟨d1, _, _, o1, _⟩ := _root_.id h1
      obtain ⟨d2, _, _, o2, _⟩ := _root_.id h2
      refine .inl ⟨x, d1, _, rfl, o1, .inl ⟨y, d2, _, rfl, o2⟩, .inl ⟨x, y, m1, m2, _, _, ex, ey, rfl, h1, h2, zok, zok, ?_⟩⟩
      have : decide (m1 = m2 ∧ List.replicate n z = List.replicate n z ∧ els ex = els ey) = decide (m1 = m2) := by
        rw [Bool.eq_iff_iff, decide_eq_true_iff, decide_eq_true_iff, e1, e2]
        exact ⟨fun h => h.1, fun h => ⟨h, rfl, rfl⟩⟩
      rw [this]
      exact q
    refine ⟨_, rfl, _, rfl, self_eq tabm3 tab3 hem hes ?_⟩
    refine ⟨_, rfl, m, dm, _, rfl, em3, rfl, _, rfl, m, n2, nm, _, em, rfl, tabm3, tok nm hnm _ hem, hv _ hem, fun x ex H4 s4 nx tabx hex => ?_⟩
    have hex : els ex = mkT tu n := hex.trans (grp _ hem)
    refine ⟨_, rfl, self_eq tabx (tab3.same s4) hex hes ⟨by show 2 ≤ sizeLine; omega, fun q nq => ?_⟩⟩
    have s5 := same_new (o := .lst [.bl (decide (n2 = nm)), .bl (decide (nm = nm))]) nq
    have okB : ∀ x y : Bool, OkW (.list [.bool x, .bool y]) := fun x y => by
      refine ⟨rfl, Nat.le_of_ble_eq_true rfl, ?_⟩
      rw [sizeLine_eq]
      cases x <;> cases y <;> exact Nat.le_of_ble_eq_true rfl
    refine ⟨q, .list [.bool (decide (n2 = nm)), .bool true], rfl, .lst (by rw [upd_same, decide_eq_true (rfl : nm = nm)]) (.cons (.bl _) (.cons (.bl _) .nil)), okB _ _, ?_⟩
    refine ⟨_, rfl, _, rfl, rfl, by show 2 ≤ sizeLine; omega, fun q2 nq2 => ?_⟩
    have s6 := same_new (o := .lst [.bl (decide (V.str n2 = V.str nm)), .bl true]) nq2
    have eb : decide (V.str n2 = V.str nm) = decide (n2 = nm) := by
      rw [Bool.eq_iff_iff, decide_eq_true_iff, decide_eq_true_iff]
      exact ⟨fun h => V.str.inj h, fun h => by rw [h]⟩
    refine ⟨q2, .list [.bool (decide (n2 = nm)), .bool true], rfl, .lst (by rw [upd_same, eb]) (.cons (.bl _) (.cons (.bl _) .nil)), okB _ _, rfl, false, congrArg V.bl (by simp), iteF ?_⟩
    have s36 := s4.trans (s5.trans s6)
    have tab6 := tab3.same s36
    have ea6 := s36 _ _ ea3
    have tabB6 := tabB3.same s36
    have s06 := s13.trans s36
    clear s36 s6 s5 s4 nx nq nq2 tabx
    generalize upd (upd H4 q (.lst [.bl (decide (n2 = nm)), .bl (decide (nm = nm))])) q2 (.lst [.bl (decide (V.str n2 = V.str nm)), .bl true]) = H6 at tab6 ea6 tabB6 s06 ⊢
    have shZ := shown_strs zok (by rw [z4]; exact n4)
    have lA : ∀ a b : Str, (a ++ b).length = a.length + b.length := strLen_append
    have le1 : ("Table('" : Str).length = 7 := rfl
    have le2 : ("', " : Str).length = 3 := rfl
    have le3 : (")" : Str).length = 1 := rfl
    have l8 := hnm.l8
    refine ⟨_, rfl, a, dx, _, rfl, ea6, a, nm, _, es, rfl, tab6, hnm, zok, by rw [z4]; exact n4, ⟨_, rfl⟩, ?_⟩
    refine ⟨_, rfl, _, _, rfl, rfl, by omega, _, _, rfl, rfl, by rw [lA, le1, le2]; omega, _, rfl, by show 1 ≤ sizeLine; omega, fun p np => ⟨_, rfl, p, n, [.str z], rfl, rfl, upd_same, by omega, by omega, by show 1 * ((n : Int)).toNat ≤ sizeLine; omega, fun p2 np2 => ?_⟩⟩
    have s7 := (same_new (o := .lst [.str z]) np).trans (same_new (o := .lst (List.replicate ((n : Int)).toNat [V.str z]).flatten) np2)
    have e7 : (upd (upd H6 p (.lst [.str z])) p2 (.lst (List.replicate ((n : Int)).toNat [V.str z]).flatten)) p2 = some (.lst ((List.replicate n z).map V.str)) := by rw [upd_same, Int.toNat_natCast, flat_rep, strs_rep]
    refine ⟨p2, _, rfl, .inl ⟨SqL.of e7, fun tz ntz => ⟨tz, dSt (List.replicate n z), rfl, .tup upd_same (dq_strs _), okZ, _, _, rfl, rfl, by rw [lA, lA, le1, le2]; omega, _, _, rfl, rfl, by rw [lA, lA, lA, le1, le2, le3]; omega, rfl, false, congrArg V.bl (by rw [tabTxt_eq hnm]; simp), iteF ?_⟩⟩⟩
    have s8 := s7.trans (same_new (o := .tup ((List.replicate n z).map V.str)) ntz)
    have tab8 := tab6.same s8
    have ea8 := s8 _ _ ea6
    have tabB8 := tabB6.same s8
    have s08 := s06.trans s8
    clear s8 s7 e7 np np2 ntz tab6 ea6 tabB6 s06
    generalize upd (upd (upd H6 p (.lst [.str z])) p2 (.lst (List.replicate ((n : Int)).toNat [V.str z]).flatten)) tz (.tup ((List.replicate n z).map V.str)) = H8 at tab8 ea8 tabB8 s08 ⊢
    refine ⟨_, rfl, _, rfl, a, dx, _, rfl, ea8, a, nm, _, es, rfl, tab8, hnm, zok, by rw [z4]; exact n4, ⟨_, rfl⟩, _, rfl, by show 1 ≤ sizeLine; omega, fun q4 nq4 => ⟨by show 4 ≤ sizeLine; omega, fun T9 nT9 => ⟨T9, rfl, ⟨_, SqT.of upd_same⟩, fun D nD => ?_⟩⟩⟩
    have s9 := (same_new (o := .lst [.ref a]) nq4).trans (same_new (o := .tup [.non, .str nm, .str (tabTxt nm (List.replicate n z)), .ref q4]) nT9)
    have eq4 := same_new (o := .tup [.non, .str nm, .str (tabTxt nm (List.replicate n z)), .ref q4]) nT9 _ _ (upd_same (H := H8) (a := q4) (o := .lst [.ref a]))
    have eT9 := upd_same (H := upd H8 q4 (.lst [.ref a])) (a := T9) (o := .tup [.non, .str nm, .str (tabTxt nm (List.replicate n z)), .ref q4])
    have tab9 := tab8.same s9
    have ea9 := s9 _ _ ea8
    have tabB9 := tabB8.same s9
    have s09 := s08.trans s9
    clear s9 tab8 ea8 tabB8 s08 nq4 nT9
    generalize upd (upd H8 q4 (.lst [.ref a])) T9 (.tup [.non, .str nm, .str (tabTxt nm (List.replicate n z)), .ref q4]) = H9 at eq4 eT9 tab9 ea9 tabB9 s09 nD ⊢
    refine lc_it (walk_tup (xs := [V.non, .str nm, .str (tabTxt nm (List.replicate n z)), .ref q4])) (fun i H' => Same H9 H' ∧ H' D = some (.lst ((List.replicate i false).map V.bl))) ⟨same_new nD, upd_same⟩ (fun i H' _ pv => SqT.of (pv.1 _ _ eT9)) ?_ ?_
    · rintro i v HA HB hi ⟨sA, eA⟩ ⟨rfl, hx⟩
      have hi : i < 4 := hi
      have odd : ∃ t, OddV HB v t := by
        match i, hx with
        | 0, hx => cases hx; exact ⟨_, .non⟩
        | 1, hx => cases hx; exact ⟨_, .str _⟩
        | 2, hx => cases hx; exact ⟨_, .str _⟩
        | 3, hx => cases hx; exact ⟨_, .lst (sA _ _ eq4)⟩
        | i + 4, hx => cases hx
      obtain ⟨t, od⟩ := odd
      refine ⟨rfl, _, rfl, _, rfl, .inr ⟨a, dx, _, t, rfl, sA _ _ ea9, od, .inr ⟨a, v, t, rfl, od, _, eA, by rw [List.length_map, List.length_replicate]; omega, fun b' o' e' => ?_, ?_⟩⟩⟩
      · rw [upd_ne (ne_of_none e' nD)]
        exact sA _ _ e'
      · rw [upd_same, List.replicate_succ', List.map_append]
        rfl
    rintro HA ⟨sA, eA⟩
    refine ⟨D, List.replicate 4 false, rfl, SqL.of eA, false, rfl, iteF ?_⟩
    have tabA := tab9.same sA
    have tabBA := tabB9.same sA
    have inner : ∀ {QQ : VK}, QQ (.bl true) HA → rEqAll (TC K) (spEqV K) E0 (.ref a) (.ref b) HA QQ := fun {QQ} q => self_eq tabA tabBA hes he2 (by rw [decide_eq_true (rfl : nm = nm)]; exact q)
    refine ⟨_, rfl, _, rfl, inner ⟨true, rfl, iteT ⟨_, rfl, _, rfl, inner ⟨true, rfl, false, rfl, ?_⟩⟩⟩⟩
    exact qq _ (s09.trans sA)
abbrev NrG (P : Program) (w : World) (K : Fr) (mg : Str → Option Value) (base : Heap) : Prop := ∃ f d, GdG P w K mg base 7 "_law_named_right" f d ["_law_table", "_law_twin", "_law_name_here", "_law_other", "_law_many", "_law_sort"] (spNr K)
end
end K11

set_option maxHeartbeats 4000000
/-! the end of a law: a def of one parameter, called on the script -/
namespace RtL
open PySem PySem.Spec PyProof.Rows L2 ErL
/-- the script as an object of the heap -/
abbrev scO (us : List Value) : Obj := { cls := .type "list", data := .seq us.toArray }
/-- a def of one parameter, called on a script where nothing is being shown -/
theorem lawG {P : Program} {w : World} {K : Fr} {mg mb : Str → Option Value} {k : Nat} {fl sc : Addr} {fd : FuncData} {x : Str} {sp : SpG} {st : Shared} {us : List Value} {zs : List Int}
    (kin : K.In st.heap) (n1 : st.heap.Ns mainGlobals mg) (n2 : st.heap.Ns builtinsNs mb) (n3 : ∀ y : Str, y ≠ "__name__" → mb y = bootBuiltins y) (nl : st.heap.NoLimit) (ng : st.gens = #[])
    (here : st.heap.get? sc = some (scO us)) (iz : IntsAre us zs) (lz : zs.length ≤ sizeLine) (rm : Room k callerA) (F : ∀ b : Heap, K.In b → b.Ns mainGlobals mg → FnG P w K mg b k fl fd [x] sp) (bd : Binds K fd [x] [])
    (pr : ∀ H : Hp, SqL K H sc (zs.map V.int) → sp [.ref sc] H (fun v _ => v = .bl true)) :
    codeAny (model P w) callerA (.call (.ref fl) ⟨[.ref sc], []⟩) (fun r s' => r = .ok (.ret (.bool true)) ∧ OldK st.heap s'.heap ∧ s'.os = st.os ∧ AllBare s'.gens) st := by
  have vz := vals_ints iz
  have lu : (zs.map V.int).length ≤ sizeLine := by
    rw [List.length_map]
    exact lz
  -- nothing is tracked but the script, and that only if it is no object of the written part
  obtain ⟨H, on, sq⟩ : ∃ H : Hp, (∀ b y, H b = some y → b = sc ∧ K.lookup sc = none ∧ y = .frz (scO us) (.lst (zs.map V.int))) ∧ SqL K H sc (zs.map V.int) := by
    cases own : K.lookup sc with
    | some y =>
      have e := kin sc y own
      rw [here] at e
      cases e
      refine ⟨fun _ => none, fun b y z => (nomatch (show (none : Option HO) = some y from z)), .inr ⟨_, us.toArray, _, own, rfl, rfl, rfl, ?_, by simpa using vz⟩⟩
      rw [List.size_toArray, iz.length]
      exact lz
    | none =>
      refine ⟨fun b => if b = sc then some (.frz (scO us) (.lst (zs.map V.int))) else none, fun b y z => ?_, .inl (.inr ⟨_, if_pos rfl⟩)⟩
      by_cases hb : b = sc
      · exact ⟨hb, rfl, Option.some.inj (z.symm.trans (if_pos hb))⟩
      · exact (nomatch (show (none : Option HO) = some y from (if_neg hb).symm.trans z))
  have ok : HOk P w H st.heap := fun b y z => by
    obtain ⟨rfl, _, rfl⟩ := on b y z
    exact ⟨here, lu, us, _, vz, here⟩
  have out : ∀ {b : Addr} {o : Obj} {es : Array DictEntry} {ep : Nat}, st.heap.get? b = some o → o.data = .dict es ep → H b = none := fun {b o es ep} e d => by
    cases q : H b with
    | none => rfl
    | some y =>
      obtain ⟨rfl, _, _⟩ := on b y q
      rw [here] at e
      cases e
      exact (nomatch (show Data.seq us.toArray _ = Data.dict es ep from d))
  have ns : ∀ {b : Addr} {m : Str → Option Value}, st.heap.Ns b m → (hidT st.heap H).Ns b m := by
    rintro b m ⟨o, es, ep, e, d, r⟩
    exact ⟨o, es, ep, hidT_get e (out e d), d, r⟩
  have kb : K.In (hidT st.heap H) := fun b o e => hidT_get (kin b o e) (by
    cases q : H b with
    | none => rfl
    | some y =>
      obtain ⟨rfl, z, _⟩ := on b y q
      rw [z] at e
      cases e)
  obtain ⟨ml, l1, l2⟩ := nl
  have env : Env0 P w K mg (hidT st.heap H) callerA [] st H :=
    { frames := rfl, mod := { kin := kb, glob := ns n1, blt := ⟨mb, ns n2, n3⟩, nolimit := ⟨ml, ns l1, l2⟩ }, bs := fun b o e => of_hidT e, bsz := Nat.le_of_eq (hidT_size _ _), funs := trivial, frf := fun b hb => (nomatch (show b ∈ ([] : List Addr) from hb)), hok := ok, bare := .of_eq ng }
  refine codeAny_mono ((F _ kb (ns n1)).run callerA [] st H ⟨[.ref sc], []⟩ [.ref sc] [.ref sc] _ rm rfl env (bd st [.ref sc] kin rfl) (.cons rfl .nil) (pr H sq)) ?_
  intro r s' h
  match r, h with
  | .ok (.ret u), h =>
    obtain ⟨v, H', os, ba, un, ok', rv, q⟩ := h
    cases (show v = .bl true from q)
    cases (show u = Value.bool true from rv)
    refine ⟨rfl, OldK.of_keep fun b o e => ?_, os, ba⟩
    cases q : H b with
    | none => exact un.keep b o e q (fun z => (nomatch (show b ∈ ([] : List Addr) from z))) (by simp)
    | some y =>
      obtain ⟨rfl, _, rfl⟩ := on b y q
      rw [here] at e
      cases e
      exact (ok' _ _ (un.frzs _ _ _ q)).1
  | .ok .next, h => exact False.elim h
  | .ok .brk, h => exact False.elim h
  | .ok .cont, h => exact False.elim h
  | .error e, h => exact False.elim h
end RtL

set_option maxHeartbeats 2000000
namespace K11
open PySem PySem.Spec PyProof.Rows L2 RtL ErL StX NSet LamX
open Grp (El mul)
theorem sq_ext {K : Fr} {H H' : Hp} {a : Addr} {xs : List V} (h : SqL K H a xs) (k : ExtS [] H H') : SqL K H' a xs := by
  rcases h with h | h
  · rcases h with h | ⟨o, h⟩
    · exact .inl (.inl (k _ _ (fun z => nomatch z) (fun _ z => nomatch z) h))
    · exact .inl (.inr ⟨o, k _ _ (fun z => nomatch z) (fun _ z => nomatch z) h⟩)
  · exact .inr h
theorem sa_ok : ((List.range 5).all fun n => decide (n = 0) || (decide (mkT false n = mkT true n) == decide (n = 1))) = true := by decide +kernel
theorem sa_at {n : Nat} (n1 : 1 ≤ n) (n4 : n ≤ 4) : decide (mkT false n = mkT true n) = decide (n = 1) := by
  have h := List.all_eq_true.mp sa_ok n (List.mem_range.mpr (by omega))
  rw [Bool.or_eq_true, decide_eq_true_iff] at h
  rcases h with h | h
  · omega
  · exact eq_of_beq h
section
variable {P : Program} {w : World} {K : Fr} {mg : Str → Option Value} {base : Heap} {f : Addr} {fd : FuncData}
abbrev PotG (P : Program) (w : World) (K : Fr) (mg : Str → Option Value) (base : Heap) : Prop := ∃ f d, Gd P w K mg base 1 "_law_pot" f d ["_law_script", "_law_k"] (spPot K)
abbrev SyR (P : Program) (w : World) (K : Fr) (mg : Str → Option Value) (base : Heap) : Prop := FnR P w K mg base CX0 6 (recA K (TC K) "symmetric" "classmethod") (spMk K (mkT false))
abbrev AlR (P : Program) (w : World) (K : Fr) (mg : Str → Option Value) (base : Heap) : Prop := FnR P w K mg base CX0 6 (recA K (TC K) "alternating" "classmethod") (spMk K (mkT true))
abbrev M9Nd (P : Program) (w : World) (K : Fr) (mg : Str → Option Value) (base : Heap) : Prop := ∃ d, FnOk P w K mg base (L2.CX P w) 6 (tm K "renamed") d ["self", "name"] (spM9N K) ∧ Binds K d ["self", "name"] []
abbrev sLw : Stmt := top 46
abbrev NLw : List Str := ["_law_script", "_law_k", "_law_pot_here", "_law_name_here", "_law_sort", "_law_other", "_law_many", "_law_same", "_law_opposite", "_law_turning", "_law_twin", "_law_table"]
theorem scLw : FnScope NLw ["_law_script"] (defScope sLw) := ⟨rfl, rfl, rfl, by decide +kernel, rfl, by decide +kernel, by decide +kernel⟩
abbrev lamL : Str := lamN "law"
def spLw (K : Fr) (Ts : List (Addr × Str)) : SpG := fun vs H Q => ∃ (a : Addr) (ns : List Int), vs = [.ref a] ∧ SqL K H a (ns.map V.int) ∧ ns.length ≤ 63 ∧ Tabs Ts H ∧ ∀ H', Q (.bl true) H'
theorem ok_lw {c Pt : Addr} {Ts : List (Addr × Str)} (F : FunD K "law" "law" (defArgs sLw) (defBody sLw) (defScope sLw) [] [] f fd) (hc : codeIs K f c) (TB : TabB base mg c Pt) (hmT : (Pt, lamL) ∈ Ts) (huT : ∀ q ∈ Ts, q.1 = Pt → q.2 = lamL) (T : TT K mg) (R : IsD K mg) (I : TId P w K mg base)
    (PO : PotG P w K mg base) (NA : NaG P w K mg base) (DR : DrawG P w K mg base) (SY : SyR P w K mg base) (AL : AlR P w K mg base) (EQ : EqVG P w K mg base) (MR : MrG2 P w K mg base Ts) (OW : OwG P w K mg base) (GQ : GqG P w K mg base) (PQ : PqG P w K mg base Ts) (NR : NrG P w K mg base) (A4 : M4d P w K mg base) (A9 : M9Nd P w K mg base) : FnG P w K mg base 10 f fd ["_law_script"] (spLw K Ts) := by
  obtain ⟨f1, d1, G1⟩ := PO
  obtain ⟨f2, d2, G2⟩ := NA
  obtain ⟨f3, d3, G3⟩ := DR
  obtain ⟨dE, GE, bE⟩ := EQ
  obtain ⟨f4, d4, G4⟩ := MR
  obtain ⟨f5, d5, G5⟩ := OW
  obtain ⟨f6, d6, G6⟩ := GQ
  obtain ⟨f7, d7, G7⟩ := PQ
  obtain ⟨f8, d8, G8⟩ := NR
  obtain ⟨e4, E4⟩ := A4
  obtain ⟨e9, E9, b9⟩ := A9
  have cS := T.cm "symmetric" (by decide)
  have cA := T.cm "alternating" (by decide)
  refine fnG_Dc F hc scLw (fun vs H Q h => ?_) (fun A outer s H vs Q hr hG h => ?_)
  · obtain ⟨a, ns, rfl, _⟩ := h
    rfl
  · obtain ⟨sc, sn, rfl, hS, hl, hT, q⟩ := h
    have hu4 : (A.deeper (envOfC "law" (defScope sLw) s.heap.objs.size f (.ref c))).units + 64 < cLine := by have := hr.un; omega
    have PX : ∀ {A1 : Around} {outer1 : List Env} {s1 : Shared} {H1 : Hp} {E : XK} {scope : Scope} {f1 c1 : Addr}, Passes (L2.CX P w) (lamCx (lcx P w K mg base NLw "law" (defScope sLw) f c A outer s H) A1 outer1 s1 H1 E scope f1 c1) E := fun {_ _ _ _ _ _ _ _} => passes_call (takes_of rfl rfl rfl rfl) fun _ _ _ _ z => z
    refine ⟨_, PSs.nox (pss_cons (ps_for PassesOwn.never rfl (pi_range1 (by rfl) T.fre (pa_cons (pe_callB (call_max2 rfl) (by rfl) T.fre (by decide +kernel) (pa_cons pe_int (pa_cons (pe_callB (call_min2 rfl) (by rfl) T.fre (by decide +kernel) (pa_cons (pe_callB call_len_seq (by rfl) T.fre PySem.boot_len (pa_cons (pv 0) pa_nil)) (pa_cons pe_int pa_nil))) pa_nil))) pa_nil)) (pg_name (i := 1) scLw.nd rfl (Or.inl rfl))
        (pss_cons (ps_set (i := 2) scLw.nd rfl (Or.inl rfl) (pe_gd G1 (hr.mono (by decide)) (by rfl) (pa_cons (pv 0) (pa_cons (pv 1) pa_nil))))
        (pss_cons (ps_par (i := 3) (j := 4) rfl scLw.nd rfl rfl (by decide) rfl rfl (pa_cons (pe_gd G2 (hr.mono (by decide)) (by rfl) (pa_cons (pv 2) pa_nil)) (pa_cons (pe_gd G2 (hr.mono (by decide)) (by rfl) (pa_cons (pv 2) pa_nil)) pa_nil)) (by rfl))
        (pss_cons (ps_par (i := 5) (j := 6) rfl scLw.nd rfl rfl (by decide) rfl rfl (pa_cons (pe_gd G2 (hr.mono (by decide)) (by rfl) (pa_cons (pv 2) pa_nil)) (pa_cons (pe_op op_add pe_int (pe_gd G3 (hr.mono (by decide)) (by rfl) (pa_cons (pv 2) (pa_cons pe_int pa_nil)))) pa_nil)) (by rfl))
        (pss_cons (ps_par (i := 7) (j := 8) rfl scLw.nd rfl rfl (by decide) rfl rfl (pa_cons (ClX.pe_cmeth (pe_glob (v := .ref (TC K)) (by rfl) (T.gl "Table" (by decide)) rfl) cS.1 cS.2 SY (hr.mono (by decide)) pass0 (pa_cons (pv 3) (pa_cons (pv 4) (pa_cons (pv 6) pa_nil)))) (pa_cons (ClX.pe_cmeth (pe_glob (v := .ref (TC K)) (by rfl) (T.gl "Table" (by decide)) rfl) cA.1 cA.2 AL (hr.mono (by decide)) pass0 (pa_cons (pv 3) (pa_cons (pv 4) (pa_cons (pv 6) pa_nil)))) pa_nil)) (by rfl))
        (pss_cons (ps_if (PW.pt (pw_or (pt_cmpR op_ne (pe_callB call_reprB (by rfl) T.fre (by decide +kernel) (pa_cons (pe_cmpR (op_eqAll T.eq (odd_sub T) GE (hr.mono (by decide)) bE pass0) (pv 7) (pv 8) (nomark _)) pa_nil)) (pe_callB call_reprB (by rfl) T.fre (by decide +kernel) (pa_cons (pe_cmpR op_eq (pv 6) pe_int (nomark _)) pa_nil)) (nomark _))
            (pw_or1 (pt_not (pt_val (pe_gg G4 hr hG (by rfl) (pa_cons (pv 2) (pa_cons (pv 3) (pa_cons (pv 4) pa_nil))))))))) (pss_one (ps_ret pe_bl)) pss_nil)
        (pss_one (ps_for PassesOwn.never rfl (pi_list (pe_lst (pa_cons (pe_tup (pa_cons (pv 7) (pa_cons pe_bl pa_nil))) (pa_cons (pe_tup (pa_cons (pv 8) (pa_cons pe_bl pa_nil))) pa_nil)))) (pg_tup (by rfl) (pgs_cons (pg_name (i := 11) scLw.nd rfl (.inr rfl)) (pgs_cons (pg_name (i := 9) scLw.nd rfl (.inl rfl)) pgs_nil)))
          (Evl.pss_cut (ps_set (i := 10) scLw.nd rfl (Or.inl rfl) (pe_ifExp (pt_cmpR op_gt (pv 6) pe_int (nomark _)) (pe_gd G5 (hr.mono (by decide)) (by rfl) (pa_cons (pv 3) (pa_cons (pv 4) (pa_cons (pv 6) (pa_cons (pv 9) pa_nil))))) (pe_makeR T.mkr I (hr.mono (by decide)) (by rfl) (T.gl "Table" (by decide)) pass0 (pa_cons (pv 3) (pa_cons (pe_tup (pa_cons (pv 4) pa_nil)) (pa_cons (pe_tup (pa_cons (pe_tup (pa_cons pe_int pa_nil)) (pa_cons pe_int pa_nil))) pa_nil))))))
          (pss_cons (ps_if (PW.pt (pw_or (pt_not (pt_val (pe_gg G6 (hr.mono (by decide)) hG (by rfl) (pa_cons (pv 2) (pa_cons (pv 11) (pa_cons (pv 6) (pa_cons (pv 9) pa_nil))))))) (pw_or1 (pt_not (pt_val (pe_gg G7 (hr.mono (by decide)) hG (by rfl) (pa_cons (pv 2) (pa_cons (pv 11) (pa_cons (pv 6) pa_nil))))))))) (pss_one (ps_ret pe_bl)) pss_nil)
          (pss_cons (ps_if (PW.pt (pw_or (pt_not (pt_val (pe_gg G8 (hr.mono (by decide)) hG (by rfl) (pa_cons (pv 11) (pa_cons (pv 10) (pa_cons (pv 3) (pa_cons (pv 5) (pa_cons (pv 6) (pa_cons (pv 4) pa_nil))))))))) (pw_or1 (pt_cmpR (op_neD hu4) (pe_meth0 (pv 11) T.cl (T.meth "slots" (by decide)) E4.ok (hr.mono (by decide)) E4.bd .nil pass0) (pe_callTy call_tuple_of (by rfl) T.fre (by decide +kernel) (pa_cons (pe_op op_rep (pe_lst (pa_cons (pv 4) pa_nil)) (pv 6)) pa_nil)) (nomark _))))) (pss_one (ps_ret pe_bl)) pss_nil)
          (pss_one (ps_if (pt_not (pt_val (pe_is (k := 6) T R TB hmT huT (hr.mono (by decide)) hG (by rfl) (lamS_by (by decide +kernel)) rfl (fun _ _ _ _ _ => rfl)
              (t := fun E => tMeth (TC K) "renamed" (spM9N K) [] E (tVar 11) (tCons (tC .non) tNil)) (fun _ _ _ _ _ _ _ hr1 => pe_meth (pv 11) T.cl (T.meth "renamed" (by decide)) E9 hr1 b9 .nil PX (pa_cons pe_non pa_nil)) (pe_lst (pa_cons pe_str (pa_cons pe_non pa_nil)))))) (pss_one (ps_ret pe_bl)) pss_nil)))))))))))))
      (pss_one (ps_ret pe_bl))), ?_⟩
    have lz : 10000 ≤ sizeLine := by rw [sizeLine_eq]; decide
    have two : 2 ≤ sizeLine := by omega
    refine ⟨_, rfl, sc, _, rfl, .inl hS, ?_⟩
    refine ⟨_, _, rfl, _, _, rfl, ?_⟩
    obtain ⟨j, hj, j0, j3⟩ : ∃ j : Int, (if (if (3 : Int) < ((sn.map V.int).length : Int) then (3 : Int) else ((sn.map V.int).length : Int)) > 1 then (if (3 : Int) < ((sn.map V.int).length : Int) then (3 : Int) else ((sn.map V.int).length : Int)) else (1 : Int)) = j ∧ 0 ≤ j ∧ j ≤ 3 := ⟨_, rfl, by split <;> split <;> omega, by split <;> split <;> omega⟩
    rw [hj]
    refine ⟨j, rfl, by omega, by omega, for_it walk_range (fun i σ H' => ExtS [] H H' ∧ Tabs Ts H' ∧ ∃ u1 u2 u3 u4 u5 u6 u7 u8 u9 u10 u11, σ = [some (.ref sc), u1, u2, u3, u4, u5, u6, u7, u8, u9, u10, u11]) ⟨ExtS.refl, hT, none, none, none, none, none, none, none, none, none, none, none, rfl⟩ (fun i σ H' _ _ => trivial) ?_ ?_⟩
    · rintro i v σ H1 H2 hi ⟨x1, T1, u1, u2, u3, u4, u5, u6, u7, u8, u9, u10, u11, rfl⟩ ⟨rfl, hv⟩
      obtain rfl : v = .int (i : Int) := by rw [hv]; show V.int _ = _; rw [Int.zero_add]
      refine ⟨_, rfl, _, rfl, sc, sn, i, rfl, sq_ext hS x1, hl, by omega, by omega, fun p H3 np s3 hp => ?_⟩
      refine ⟨_, rfl, p, rfl, hp, fun nm H4 hnm hp4 b4 => ⟨_, rfl, p, rfl, hp4, fun z H5 hz hp5 b5 => ⟨_, _, rfl, ?_⟩⟩⟩
      refine ⟨_, rfl, p, rfl, hp5, fun n2 H6 hn2 hp6 b6 => ⟨_, rfl, p, 4, rfl, hp6, by decide, by decide, fun d H7 d0 d1 hp7 b7 => ?_⟩⟩
      obtain ⟨n, hn⟩ : ∃ n : Nat, (1 : Int) + d = (n : Int) := ⟨(1 + d).toNat, by omega⟩
      have n1 : 1 ≤ n := by omega
      have n4 : n ≤ 4 := by omega
      refine ⟨1, d, rfl, rfl, .str n2, .int (n : Int), by rw [← hn], ?_⟩
      have b37 := b4.trans (b5.trans (b6.trans b7))
      have z4 : (List.replicate n z).length = n := List.length_replicate ..
      have zok : ∀ y ∈ List.replicate n z, NmOk y := fun y hy => by rw [List.eq_of_mem_replicate hy]; exact hz
      refine ⟨rfl, _, rfl, _, rfl, _, rfl, nm, z, n, rfl, hnm, hz, n1, n4, fun a1 e1 H8 s8 nx1 ta1 he1 => ⟨rfl, _, rfl, _, rfl, _, rfl, nm, z, n, rfl, hnm, hz, n1, n4, fun a2 e2 H9 s9 nx2 ta2 he2 => ⟨_, _, rfl, ?_⟩⟩⟩
      have he1 : els e1 = mkT false n := he1.trans (grp_at n1 n4)
      have he2 : els e2 = mkT true n := he2.trans (grp_at n1 n4)
      have ta1 := ta1.same s9
      obtain ⟨g1, _, _, o1, _⟩ := _root_.id ta1
      obtain ⟨g2, _, _, o2, _⟩ := _root_.id ta2
      have hp9 := (hp7.same s8).same s9
      have b39 := (b37.trans (PBut.of s8)).trans (PBut.of s9)
      have T9 : Tabs Ts H9 := tabs_but (T1.ext s3) hp b39
      refine ⟨_, rfl, _, rfl, .inl ⟨a1, g1, _, rfl, o1, .inl ⟨a2, g2, _, rfl, o2⟩, .inl ⟨a1, a2, nm, nm, _, _, e1, e2, rfl, ta1, ta2, zok, zok, _, rfl, _, rfl, rfl, _, rfl, rfl, false, congrArg V.bl ?_, iteF ?_⟩⟩⟩
      · have e : decide (nm = nm ∧ List.replicate n z = List.replicate n z ∧ els e1 = els e2) = decide (V.int (n : Int) = V.int 1) := by
          rw [dec_int, he1, he2]
          have this : mkT false n = mkT true n ↔ n = 1 := by
            have := sa_at n1 n4
            rwa [Bool.eq_iff_iff, decide_eq_true_iff, decide_eq_true_iff] at this
          rw [Bool.eq_iff_iff, decide_eq_true_iff, beq_iff_eq]
          constructor
          · intro h
            have := this.mp h.2.2
            omega
          · intro h
            exact ⟨rfl, rfl, this.mpr (by omega)⟩
        rw [e]
        simp
      refine ⟨_, rfl, _, rfl, _, rfl, p, nm, z, rfl, T9, hp9, hnm, hz, fun HA hpA xA TA => ⟨true, rfl, iteF ?_⟩⟩
      -- the two tables
      have th1 : TabAt K (RtL.hd [p] HA) a1 nm (List.replicate n z) e1 := (ta1.hd fun s hs => by
        obtain ⟨x, y, e, _⟩ := hp9
        rw [List.mem_singleton.mp hs]
        exact ⟨_, e⟩).same (hd_ext xA)
      have th2 : TabAt K (RtL.hd [p] HA) a2 nm (List.replicate n z) e2 := (ta2.hd fun s hs => by
        obtain ⟨x, y, e, _⟩ := hp9
        rw [List.mem_singleton.mp hs]
        exact ⟨_, e⟩).same (hd_ext xA)
      have x1A : ExtS [p] H2 HA := (ExtS.same s3).trans ((ExtS.pbut b39).trans xA)
      clear xA T9 b39 hp9 o1 o2 ta1 ta2 nx1 nx2 s8 s9 b37 hp7 b7 hp6 b6 hp5 b5 hp4 b4 hp s3
      refine ⟨_, rfl, two, fun t1 nt1 => ⟨_, rfl, two, fun t2 nt2 => ⟨two, fun L nL => ?_⟩⟩⟩
      have v1 := same_new (o := .tup [.ref a1, .bl false]) nt1
      have v2 := same_new (o := .tup [.ref a2, .bl true]) nt2
      have v3 := same_new (o := .lst [.ref t1, .ref t2]) nL
      have vA := v1.trans (v2.trans v3)
      have hpB := hpA.same vA
      have TB' := TA.ext vA
      have et1 := (v2.trans v3) _ _ (upd_same (H := HA) (a := t1) (o := .tup [.ref a1, .bl false]))
      have et2 := v3 _ _ (upd_same (H := upd HA t1 (.tup [.ref a1, .bl false])) (a := t2) (o := .tup [.ref a2, .bl true]))
      have eL := upd_same (H := upd (upd HA t1 (.tup [.ref a1, .bl false])) t2 (.tup [.ref a2, .bl true])) (a := L) (o := .lst [.ref t1, .ref t2])
      have Lp := ((hpA.same v1).same v2).ne nL
      have th1 := th1.same (hd_ext (ExtS.same vA))
      have th2 := th2.same (hd_ext (ExtS.same vA))
      have x1B := x1A.trans (ExtS.same vA)
      clear vA v3 v2 v1 nL nt2 nt1 x1A TA hpA
      generalize upd (upd (upd HA t1 (.tup [.ref a1, .bl false])) t2 (.tup [.ref a2, .bl true])) L (.lst [.ref t1, .ref t2]) = HB at hpB TB' et1 et2 eL th1 th2 x1B ⊢
      have np' : p ∉ ([] : List Addr) := fun z => nomatch z
      have Lm : L ∉ [p] := fun z => Lp (List.mem_singleton.mp z)
      have tm : ∀ {HX : Hp} {y : Addr} {vs : List V}, PotAt HX p → HX y = some (.tup vs) → y ∉ [p] := fun {HX y vs} h e z => by
        obtain ⟨_, _, ep, _⟩ := h
        rw [List.mem_singleton.mp z, ep] at e; cases e
      refine ⟨L, rfl, ⟨_, SqL.of eL⟩, for_it (walk_list (xs := [.ref t1, .ref t2])) (fun k σ H' => PotAt H' p ∧ ExtS [p] HB H' ∧ Tabs Ts H' ∧ ∃ u9 u10 u11, σ = [some (.ref sc), some (.int (i : Int)), some (.ref p), some (.str nm), some (.str z), some (.str n2), some (.int (n : Int)), some (.ref a1), some (.ref a2), u9, u10, u11]) ⟨hpB, ExtS.refl, TB', _, _, _, rfl⟩ (fun k σ H' _ pv => SqL.of (pv.2.1 _ _ Lm (fun _ z => nomatch z) eL)) ?_ ?_⟩
      · rintro k v σ H5 H6 hk ⟨hp5, x5, T5, u9, u10, u11, rfl⟩ ⟨rfl, hx⟩
        obtain ⟨t, a, b, e, rfl, et, th, he⟩ : ∃ (t a : Addr) (b : Bool) (e : List (Addr × El)), v = .ref t ∧ HB t = some (.tup [.ref a, .bl b]) ∧ TabAt K (RtL.hd [p] HB) a nm (List.replicate n z) e ∧ els e = mkT b n := by
          match k, hx with
          | 0, hx => cases hx; exact ⟨t1, a1, false, e1, rfl, et1, th1, he1⟩
          | 1, hx => cases hx; exact ⟨t2, a2, true, e2, rfl, et2, th2, he2⟩
          | k + 2, hx => cases hx
        have et6 : H6 t = some (.tup [.ref a, .bl b]) := x5 _ _ (tm hpB et) (fun _ z => nomatch z) et
        refine ⟨t, _, rfl, SqT.of et6, rfl, _, _, rfl, _, _, rfl, rfl, ?_⟩
        refine ⟨fun σ' H' => ∃ tw ew, σ' = [some (.ref sc), some (.int (i : Int)), some (.ref p), some (.str nm), some (.str z), some (.str n2), some (.int (n : Int)), some (.ref a1), some (.ref a2), some (.bl b), some (.ref tw), some (.ref a)] ∧ Same H6 H' ∧ TabAt K H' tw nm (List.replicate n z) ew ∧ els ew = mkT b n, ?_, ?_⟩
        · by_cases h2 : 2 ≤ n
          · refine ⟨_, rfl, _, _, rfl, rfl, true, congrArg V.bl (decide_eq_true (by omega)), iteT ⟨_, rfl, _, rfl, _, rfl, _, rfl, nm, z, n, b, rfl, hnm, hz, h2, n4, fun x ex H7 s7 nx tx hex => ?_⟩⟩
            exact ⟨x, ex, rfl, s7, tx, hex.trans (grp_at n1 n4)⟩
          · obtain rfl : n = 1 := by omega
            refine ⟨_, rfl, _, _, rfl, rfl, false, congrArg V.bl (decide_eq_false (by omega)), iteF ⟨_, rfl, _, rfl, by show 1 ≤ sizeLine; omega, fun q1 nq1 => ⟨by show 1 ≤ sizeLine; omega, fun q2 nq2 => ⟨by show 2 ≤ sizeLine; omega, fun q3 nq3 => ?_⟩⟩⟩⟩
            have y1 := same_new (o := .tup [.str z]) nq1
            have y2 := same_new (o := .tup [.int 0]) nq2
            have y3 := same_new (o := .tup [.ref q2, .int 1]) nq3
            have ti : TabIn (upd (upd (upd H6 q1 (.tup [.str z])) q2 (.tup [.int 0])) q3 (.tup [.ref q2, .int 1])) nm q1 (List.replicate 1 z) [(q3, ([0], 1))] := ⟨hnm, .inr (y3 _ _ (y2 _ _ upd_same)), zok, by rw [List.length_replicate]; exact Nat.le_refl 1, by rw [List.length_replicate]; decide, fun q hq => by
              rw [List.mem_singleton.mp hq]
              have ok : Grp.Ok 1 ([0], 1) := ⟨List.Perm.refl _, .inl rfl⟩
              exact ⟨⟨q2, upd_same, y3 _ _ upd_same⟩, ok, keeps_rep ok⟩, by show 1 ≤ 100; decide⟩
            have m1 : mkT b 1 = [([0], 1)] := by cases b <;> decide +kernel
            have hv1 : (List.range (List.replicate 1 z).length, -1) ∉ Grp.found (List.replicate 1 z).length (els [(q3, (([0], 1) : El))]) := by
              have h := List.all_eq_true.mp mk_ok 1 (by decide)
              simp only [Bool.and_eq_true, decide_eq_true_eq] at h
              have h1 := h.1
              rw [show symT 1 = [([0], 1)] from by decide +kernel] at h1
              exact h1
            refine fun x dx nx nd ne => madeT_at nx nd ne ti hv1 fun H' es' s' ta' hs' => ⟨rfl, ⟨x, es', rfl, y1.trans (y2.trans (y3.trans s')), ta', ?_⟩⟩
            have g := grp_at (b := b) (n := 1) (by decide) (by decide)
            rw [m1] at g ⊢
            exact hs'.trans g
        · rintro σ' H7 ⟨tw, ew, rfl, s7, tabw, hew⟩
          have hp7 := hp5.same s7
          have x7 := x5.trans (ExtS.same s7)
          have T7 := T5.ext s7
          have tab7 := th.same x7.le
          have thw : TabAt K (RtL.hd [p] H7) tw nm (List.replicate n z) ew := tabw.hd fun s hs => by
            obtain ⟨x, y, e, _⟩ := hp7
            rw [List.mem_singleton.mp hs]
            exact ⟨_, e⟩
          refine ⟨_, rfl, _, rfl, _, rfl, _, rfl, p, a, nm, z, n, b, e, rfl, hp7, tab7, he, n1, n4, fun H8 hp8 b8 => ⟨true, rfl, iteF ?_⟩⟩
          have x78 : ExtS [p] H7 H8 := ExtS.pbut b8
          refine ⟨_, rfl, _, rfl, _, rfl, p, a, nm, z, n, e, rfl, tabs_but T7 hp7 b8, hp8, th.same (x7.trans x78).le, n1, n4, fun H9 hp9 x89 T9 => ⟨true, rfl, iteF ?_⟩⟩
          have x79 := x78.trans x89
          have x9 := x7.trans x79
          refine ⟨_, rfl, _, rfl, _, rfl, _, rfl, _, rfl, _, rfl, a, tw, nm, n2, z, n, b, e, ew, rfl, th.same x9.le, thw.same x79.le, he, hew, hnm, hn2, hz, n1, n4, fun H10 s10 => ⟨true, rfl, iteF ?_⟩⟩
          have x10 := x9.trans (ExtS.same s10)
          have tab10 := th.same x10.le
          obtain ⟨dx, sl, g, ea, esl, eg, hel⟩ := _root_.id tab10
          refine ⟨_, rfl, a, dx, _, rfl, ea, rfl, a, nm, _, e, rfl, tab10, fun sa esa => ?_⟩
          refine ⟨_, rfl, by show 1 ≤ sizeLine; omega, fun q1 nq1 => ⟨_, rfl, q1, n, [.str z], rfl, rfl, upd_same, by omega, by omega, by show 1 * ((n : Int)).toNat ≤ sizeLine; omega, fun q2 nq2 => ?_⟩⟩
          have y2 := (same_new (o := .lst [.str z]) nq1).trans (same_new (o := .lst (List.replicate ((n : Int)).toNat [V.str z]).flatten) nq2)
          have e2' : (upd (upd H10 q1 (.lst [.str z])) q2 (.lst (List.replicate ((n : Int)).toNat [V.str z]).flatten)) q2 = some (.lst ((List.replicate n z).map V.str)) := by rw [upd_same, Int.toNat_natCast, flat_rep, strs_rep]
          refine ⟨q2, _, rfl, .inl ⟨SqL.of e2', fun tz ntz => ?_⟩⟩
          have y3 := y2.trans (same_new (o := .tup ((List.replicate n z).map V.str)) ntz)
          refine ⟨_, _, .tup (SqT.of (y3 _ _ esa)) (strs_dp _), .tup (SqT.of upd_same) (strs_dp _), shp_strt _ zok, shp_strt _ zok, false, by rw [PyData.eqv, eqv_strs]; simp, iteF ?_⟩
          have x11 := x10.trans (ExtS.same y3)
          have T11 := T9.ext (fun b o e => y3 _ _ (s10 b o e))
          have hp11 := (hp9.same s10).same y3
          have e24 : e.length ≤ 24 := by have := mkT_len (b := b) n4; rwa [← he, List.length_map] at this
          refine is_step (S := [p]) (.inr (.inl ⟨rfl, rfl⟩)) x11 T11 .non ⟨rfl, Nat.zero_le _, by decide⟩ (fun H1 R h => ⟨two, h⟩) (fun H0 E R x r => ?_) fun H12 e12 T12 => ⟨true, rfl, iteF ?_⟩
          · have tab0 := th.same x.le
            obtain ⟨dx, sl, g, ea0, _, _, _⟩ := _root_.id tab0
            exact ⟨_, rfl, a, dx, _, rfl, ea0, rfl, a, nm, .non, _, e, rfl, tab0, by omega, .inr (.inr ⟨_, .non, by decide⟩), r⟩
          · exact ⟨hp11.ext e12, x11.trans (ExtS.ext e12), T12, _, _, _, rfl⟩
      · rintro σ H5 ⟨hp5, x5, T5, u9, u10, u11, rfl⟩
        exact ⟨x1.trans ((x1B.trans x5).drop np), T5, _, _, _, _, _, _, _, _, _, _, _, rfl⟩
    · rintro σ H1 ⟨x1, T1, u1, u2, u3, u4, u5, u6, u7, u8, u9, u10, u11, rfl⟩
      exact q H1
end
end K11

set_option maxHeartbeats 4000000
namespace K11
open PySem PySem.Spec PyProof.Rows L2 RtL ErL StX NSet LamX
section
variable {P : Program} {w : World} {K : Fr} {mg : Str → Option Value}
theorem fnR0 {base : Heap} {CX : CXT} {k : Nat} {f : Addr} {fd : FuncData} {ps : List Str} {sp : Sp} (F : FnOk P w K mg base CX k f fd ps sp) (hb : Binds K fd ps []) : FnR P w K mg base CX k f sp := (F.raw (ds := []) (dvs := []) hb .nil).imp fun vs H Q E h => by rw [List.append_nil]; exact h
abbrev tsL (P1 P2 P3 : Addr) : List (Addr × Str) := [(P1, lamP), (P2, lamM), (P3, lamL)]
/-- all defs together -/
theorem law_G {c1 c2 c3 P1 P2 P3 : Addr} (T : TT K mg) (h1 : codeIs K (He.ga K "_law_places_refused") c1) (h2 : codeIs K (He.ga K "_law_makers_refused") c2) (h3 : codeIs K (He.ga K "law") c3) (n : P1 ≠ P2 ∧ P1 ≠ P3 ∧ P2 ≠ P3) : ∃ fd, Binds K fd ["_law_script"] [] ∧ ∀ base : Heap, TabB base mg c1 P1 → TabB base mg c2 P2 → TabB base mg c3 P3 → FnG P w K mg base 10 (He.ga K "law") fd ["_law_script"] (spLw K (tsL P1 P2 P3)) := by
  obtain ⟨n12, n13, n23⟩ := n
  obtain ⟨d1, F1⟩ := T.df 1
  obtain ⟨d2, F2⟩ := T.df 2
  obtain ⟨d3, F3⟩ := T.df 3
  obtain ⟨d4, F4⟩ := T.df 4
  obtain ⟨d5, F5⟩ := T.df 5
  obtain ⟨d6, F6⟩ := T.df 6
  obtain ⟨d7, F7⟩ := T.df 7
  obtain ⟨d8, F8⟩ := T.df 8
  obtain ⟨d9, F9⟩ := T.df 9
  obtain ⟨d10, F10⟩ := T.df 10
  obtain ⟨d11, F11⟩ := T.df 11
  obtain ⟨d12, F12⟩ := T.df 12
  obtain ⟨d13, F13⟩ := T.df 13
  obtain ⟨d14, F14⟩ := T.df 14
  obtain ⟨d15, F15⟩ := T.df 15
  obtain ⟨d16, F16⟩ := T.df 16
  obtain ⟨d17, F17⟩ := T.df 17
  obtain ⟨d18, F18⟩ := T.df 18
  obtain ⟨d19, F19⟩ := T.df 19
  obtain ⟨d20, F20⟩ := T.df 20
  obtain ⟨d21, F21⟩ := T.df 21
  obtain ⟨d22, F22⟩ := T.df 22
  obtain ⟨d23, F23⟩ := T.df 23
  obtain ⟨d27, F27⟩ := T.df 27
  obtain ⟨d28, F28⟩ := T.df 28
  obtain ⟨d29, F29⟩ := T.df 29
  obtain ⟨d30, F30⟩ := T.df 30
  obtain ⟨d31, F31⟩ := T.df 31
  obtain ⟨d32, F32⟩ := T.df 32
  obtain ⟨d33, F33⟩ := T.df 33
  obtain ⟨d34, F34⟩ := T.df 34
  obtain ⟨d35, F35⟩ := T.df 35
  obtain ⟨d36, F36⟩ := T.df 36
  obtain ⟨d37, F37⟩ := T.df 37
  obtain ⟨d38, F38⟩ := T.df 38
  obtain ⟨d39, F39⟩ := T.df 39
  obtain ⟨d40, F40⟩ := T.df 40
  obtain ⟨d41, F41⟩ := T.df 41
  obtain ⟨d42, F42⟩ := T.df 42
  obtain ⟨d43, F43⟩ := T.df 43
  obtain ⟨d44, F44⟩ := T.df 44
  obtain ⟨r0, R0⟩ := T.rd 0
  obtain ⟨r1, R1⟩ := T.rd 1
  obtain ⟨r2, R2⟩ := T.rd 2
  have bN : ∀ {x q : Str} {ar : Arguments} {bd : List Stmt} {sc : Scope} {f : Addr} {fd : FuncData} {ps : List Str}, FunD K x q ar bd sc [] [] f fd →
      (∀ (kV doc pm : Value) (an : Option Addr) (cdv ct : Value) (us : List Value), us.length = ps.length → bindArgs (PySem.W.fnOf x q ar bd sc .none kV doc pm an cdv ct) ⟨us, []⟩ = pure (ps.zip us)) → Binds K fd ps [] := fun F h => F.bindsN h
  refine ⟨d44, bN F44 fun _ _ _ _ _ _ us hl => match us, hl with | [_], _ => rfl, fun base TB1 TB2 TB3 => ?_⟩
  have g1 : IsintG P w K mg base := ⟨_, d1, ok_isint F1 T, T.gl "is_an_integer" (by decide), F1.kp, bN F1 fun _ _ _ _ _ _ us hl => match us, hl with | [_], _ => rfl⟩
  have g1b : IsintBG P w K mg base := ⟨_, d1, ok_or0 (ok_isint F1 T) (ok_isintO F1 T), T.gl "is_an_integer" (by decide), F1.kp, bN F1 fun _ _ _ _ _ _ us hl => match us, hl with | [_], _ => rfl⟩
  have g2 : CntG P w K mg base := ⟨_, d2, ok_cnt F2 T g1, T.gl "is_count" (by decide), F2.kp, bN F2 fun _ _ _ _ _ _ us hl => match us, hl with | [_], _ => rfl⟩
  have g2b : CntBG P w K mg base := ⟨_, d2, ok_cntB F2 T g1b, T.gl "is_count" (by decide), F2.kp, bN F2 fun _ _ _ _ _ _ us hl => match us, hl with | [_], _ => rfl⟩
  have g3 : NmG P w K mg base := ⟨_, d3, ok_nm F3 T, T.gl "is_name" (by decide), F3.kp, bN F3 fun _ _ _ _ _ _ us hl => match us, hl with | [_], _ => rfl⟩
  have g3x : NmXG P w K mg base := ⟨_, d3, ok_nmX F3 T, T.gl "is_name" (by decide), F3.kp, bN F3 fun _ _ _ _ _ _ us hl => match us, hl with | [_], _ => rfl⟩
  have g4 : LsG P w K mg base := ⟨_, d4, ok_ls F4 T, T.gl "is_list" (by decide), F4.kp, bN F4 fun _ _ _ _ _ _ us hl => match us, hl with | [_], _ => rfl⟩
  have g5 : PrG P w K mg base := ⟨_, d5, ok_pr F5 T, T.gl "is_pair" (by decide), F5.kp, bN F5 fun _ _ _ _ _ _ us hl => match us, hl with | [_], _ => rfl⟩
  have g6 : OrG P w K mg base := ⟨_, d6, ok_or F6 T g1, T.gl "is_order" (by decide), F6.kp, bN F6 fun _ _ _ _ _ _ us hl => match us, hl with | [_, _], _ => rfl⟩
  have g7 : AcG P w K mg base := ⟨_, d7, ok_ac F7 T g2, T.gl "are_counts" (by decide), F7.kp, bN F7 fun _ _ _ _ _ _ us hl => match us, hl with | [_, _], _ => rfl⟩
  have g7x : AcXG P w K mg base := ⟨_, d7, ok_acX F7 T g2b, T.gl "are_counts" (by decide), F7.kp, bN F7 fun _ _ _ _ _ _ us hl => match us, hl with | [_, _], _ => rfl⟩
  have g8 : TuG P w K mg base := ⟨_, d8, ok_tu F8 T, T.gl "turned" (by decide), F8.kp, bN F8 fun _ _ _ _ _ _ us hl => match us, hl with | [_, _], _ => rfl⟩
  have g9 : SuG P w K mg base := ⟨_, d9, ok_su F9 T g8, T.gl "in_succession" (by decide), F9.kp, bN F9 fun _ _ _ _ _ _ us hl => match us, hl with | [_, _], _ => rfl⟩
  have g10 : GrG P w K mg base := ⟨_, d10, ok_gr F10 T g9, T.gl "group_of" (by decide), F10.kp, bN F10 fun _ _ _ _ _ _ us hl => match us, hl with | [_, _], _ => rfl⟩
  have g11 : LoG P w K mg base := ⟨_, d11, ok_lo F11 T g8, T.gl "least_of" (by decide), F11.kp, bN F11 fun _ _ _ _ _ _ us hl => match us, hl with | [_, _], _ => rfl⟩
  have g12 : CkG P w K mg base := ⟨_, d12, ok_ck F12 T g3, T.gl "check_name" (by decide), F12.kp, bN F12 fun _ _ _ _ _ _ us hl => match us, hl with | [_], _ => rfl⟩
  have g12b : CkBG P w K mg base := ⟨_, d12, ok_both (ok_ck F12 T g3) (ok_ckX F12 T g3x), T.gl "check_name" (by decide), F12.kp, bN F12 fun _ _ _ _ _ _ us hl => match us, hl with | [_], _ => rfl⟩
  have g13 : CsG P w K mg base := ⟨_, d13, ok_cs F13 T g4 g3, T.gl "check_slots" (by decide), F13.kp, bN F13 fun _ _ _ _ _ _ us hl => match us, hl with | [_], _ => rfl⟩
  have g14 : ItG P w K mg base := ⟨_, d14, ok_it F14 T g5 g6 g1, T.gl "is_turn" (by decide), F14.kp, bN F14 fun _ _ _ _ _ _ us hl => match us, hl with | [_, _], _ => rfl⟩
  have g15 : TId P w K mg base := ok_ti F15 T g12 g13 g14 g10
  have g15n : TIdN P w K mg base := ok_tiN F15 g12b
  have g16 : M4d P w K mg base := ⟨d16, ok_m4 F16 T, bN F16 fun _ _ _ _ _ _ us hl => match us, hl with | [_], _ => rfl⟩
  have g17 : M5d P w K mg base := ⟨d17, ok_m5 F17 T, bN F17 fun _ _ _ _ _ _ us hl => match us, hl with | [_], _ => rfl⟩
  have b18 : Binds K d18 ["self", "value"] [] := bN F18 fun _ _ _ _ _ _ us hl => match us, hl with | [_, _], _ => rfl
  have g18 : M6d P w K mg base := ⟨d18, ok_m6 F18 T g7, b18⟩
  have g18x : M6Xd P w K mg base := ⟨d18, ok_m6X F18 T g7x, b18⟩
  have b19 : Binds K d19 ["self", "places"] [] := bN F19 fun _ _ _ _ _ _ us hl => match us, hl with | [_, _], _ => rfl
  have g19 : M7d P w K mg base := ⟨d19, ok_m7 F19 T g18 g11, b19⟩
  have g19x : M7Xd P w K mg base := ⟨d19, ok_m7X F19 T g18x, b19⟩
  have b20 : Binds K d20 ["self", "places"] [] := bN F20 fun _ _ _ _ _ _ us hl => match us, hl with | [_, _], _ => rfl
  have g20 : M8d P w K mg base := ⟨d20, ok_m8 F20 T g18 g8, b20⟩
  have g20x : M8Xd P w K mg base := ⟨d20, ok_m8X F20 T g18x, b20⟩
  have b21 : Binds K d21 ["self", "name"] [] := bN F21 fun _ _ _ _ _ _ us hl => match us, hl with | [_, _], _ => rfl
  have g21 : M9d P w K mg base := ⟨d21, ok_m9 F21 T g15, b21⟩
  have g21n : M9Nd P w K mg base := ⟨d21, ok_m9N F21 T g15n, b21⟩
  have g22 : EqVG P w K mg base := ⟨d22, ok_or0 (ok_eqT F22 T) (ok_eqX F22 T), bN F22 fun _ _ _ _ _ _ us hl => match us, hl with | [_, _], _ => rfl⟩
  have g23 : RpG P w K mg base := ⟨d23, ok_rp F23 T, bN F23 fun _ _ _ _ _ _ us hl => match us, hl with | [_], _ => rfl⟩
  have gR : M3d P w K mg base := ⟨r0, ok_m3 R0 T, bN R0 fun _ _ _ _ _ _ us hl => match us, hl with | [_], _ => rfl⟩
  have g27 : PaG P w K mg base := ⟨_, d27, ok_pa F27 T, T.gl "parity" (by decide), F27.kp, bN F27 fun _ _ _ _ _ _ us hl => match us, hl with | [_], _ => rfl⟩
  have g28 : CeG P w K mg base := ⟨_, d28, ok_ce F28 T g12 g1, T.gl "check_even_slots" (by decide), F28.kp, bN F28 fun _ _ _ _ _ _ us hl => match us, hl with | [_, _, _], _ => rfl⟩
  have g28x : CeXG P w K mg base := ⟨_, d28, ok_ceX F28 T g12b g1b, T.gl "check_even_slots" (by decide), F28.kp, bN F28 fun _ _ _ _ _ _ us hl => match us, hl with | [_, _, _], _ => rfl⟩
  have bS : Binds K r1 ["cls", "name", "sort", "many"] [] := bN R1 fun _ _ _ _ _ _ us hl => match us, hl with | [_, _, _, _], _ => rfl
  have bA : Binds K r2 ["cls", "name", "sort", "many"] [] := bN R2 fun _ _ _ _ _ _ us hl => match us, hl with | [_, _, _, _], _ => rfl
  have gS : SyR P w K mg base := fnR0 (ok_sy R1 T g28 g15) bS
  have gA : AlR P w K mg base := fnR0 (ok_al R2 T g28 g27 g15) bA
  have gSX : SyXG P w K mg base := fnR0 (ok_syX R1 g28x) bS
  have gAX : AlXG P w K mg base := fnR0 (ok_alX R2 g28x) bA
  have g29 : PotG P w K mg base := ⟨_, d29, ok_pot F29 T, T.gl "_law_pot" (by decide), F29.kp, bN F29 fun _ _ _ _ _ _ us hl => match us, hl with | [_, _], _ => rfl⟩
  have g30 : DrawG P w K mg base := ⟨_, d30, ok_draw F30 T, T.gl "_law_draw" (by decide), F30.kp, bN F30 fun _ _ _ _ _ _ us hl => match us, hl with | [_, _], _ => rfl⟩
  have g31 : PickG P w K mg base := ⟨_, d31, ok_pick F31 T g30, T.gl "_law_pick" (by decide), F31.kp, bN F31 fun _ _ _ _ _ _ us hl => match us, hl with | [_, _], _ => rfl⟩
  have g32 : NaG P w K mg base := ⟨_, d32, ok_na F32 T g30 g31, T.gl "_law_name" (by decide), F32.kp, bN F32 fun _ _ _ _ _ _ us hl => match us, hl with | [_], _ => rfl⟩
  have g33 : OsG P w K mg base := ⟨_, d33, ok_os F33 T, T.gl "_law_orders" (by decide), F33.kp, bN F33 fun _ _ _ _ _ _ us hl => match us, hl with | [_], _ => rfl⟩
  have g34 : LpG P w K mg base := ⟨_, d34, ok_lp F34 T, T.gl "_law_parity" (by decide), F34.kp, bN F34 fun _ _ _ _ _ _ us hl => match us, hl with | [_], _ => rfl⟩
  have g35 : MvG P w K mg base := ⟨_, d35, ok_mv F35 T, T.gl "_law_moved" (by decide), F35.kp, bN F35 fun _ _ _ _ _ _ us hl => match us, hl with | [_, _], _ => rfl⟩
  have g36 : LlG P w K mg base := ⟨_, d36, ok_ll F36 T g33 g35 g34, T.gl "_law_least" (by decide), F36.kp, bN F36 fun _ _ _ _ _ _ us hl => match us, hl with | [_, _], _ => rfl⟩
  have g37 : PlG P w K mg base := ⟨_, d37, ok_pl F37 T g30 g31, T.gl "_law_places" (by decide), F37.kp, bN F37 fun _ _ _ _ _ _ us hl => match us, hl with | [_, _], _ => rfl⟩
  have g38 : IsD K mg := ⟨_, d38, F38, T.gl "_law_is" (by decide), bN F38 fun _ _ _ _ _ _ us hl => match us, hl with | [_, _], _ => rfl⟩
  have g39 : OwG P w K mg base := ⟨_, d39, ok_ow F39 T g34 g15, T.gl "_law_other_way" (by decide), F39.kp, bN F39 fun _ _ _ _ _ _ us hl => match us, hl with | [_, _, _, _], _ => rfl⟩
  have g40 : GqG P w K mg base := ⟨_, d40, ok_gq F40 T g33 g34 g37 g35 g36 gR g17 g18 g19 g20, T.gl "_law_group_right" (by decide), F40.kp, bN F40 fun _ _ _ _ _ _ us hl => match us, hl with | [_, _, _, _], _ => rfl⟩
  have m1 : (P1, lamP) ∈ tsL P1 P2 P3 := List.mem_cons_self
  have m2 : (P2, lamM) ∈ tsL P1 P2 P3 := List.mem_cons_of_mem _ List.mem_cons_self
  have m3 : (P3, lamL) ∈ tsL P1 P2 P3 := List.mem_cons_of_mem _ (List.mem_cons_of_mem _ List.mem_cons_self)
  have u : ∀ q ∈ tsL P1 P2 P3, q = (P1, lamP) ∨ q = (P2, lamM) ∨ q = (P3, lamL) := fun q hq => by simpa only [tsL, List.mem_cons, List.not_mem_nil, or_false] using hq
  have u1 : ∀ q ∈ tsL P1 P2 P3, q.1 = P1 → q.2 = lamP := fun q hq e => by
    rcases u q hq with rfl | rfl | rfl
    · rfl
    · exact absurd e.symm n12
    · exact absurd e.symm n13
  have u2 : ∀ q ∈ tsL P1 P2 P3, q.1 = P2 → q.2 = lamM := fun q hq e => by
    rcases u q hq with rfl | rfl | rfl
    · exact absurd e n12
    · rfl
    · exact absurd e.symm n23
  have u3 : ∀ q ∈ tsL P1 P2 P3, q.1 = P3 → q.2 = lamL := fun q hq e => by
    rcases u q hq with rfl | rfl | rfl
    · exact absurd e n13
    · exact absurd e n23
    · rfl
  have g41 : PqG P w K mg base (tsL P1 P2 P3) := ⟨_, d41, ok_pq F41 h1 TB1 m1 u1 T g38 g37 g30 g31 g18 g18x g19x g20x, T.gl "_law_places_refused" (by decide), F41.kp, bN F41 fun _ _ _ _ _ _ us hl => match us, hl with | [_, _, _], _ => rfl⟩
  have g42 : MrG2 P w K mg base (tsL P1 P2 P3) := ⟨_, d42, ok_mr F42 h2 TB2 m2 u2 T g38 g31 gSX gAX, T.gl "_law_makers_refused" (by decide), F42.kp, bN F42 fun _ _ _ _ _ _ us hl => match us, hl with | [_, _, _], _ => rfl⟩
  have g43 : NrG P w K mg base := ⟨_, d43, ok_nr F43 T g16 g17 g21 g22 g23, T.gl "_law_named_right" (by decide), F43.kp, bN F43 fun _ _ _ _ _ _ us hl => match us, hl with | [_, _, _, _, _, _], _ => rfl⟩
  exact ok_lw F44 h3 TB3 m3 u3 T g38 g15 g29 g32 g30 gS gA g22 g42 g39 g40 g41 g43 g16 g21n
end
end K11

set_option maxHeartbeats 0
namespace K11
open PySem PySem.Spec PyProof.Rows L2 HandSHeadRun PySem.W
theorem run_obs (w : World) : (wholeF (fun p => stepQ (denQ tabQ) p w) fenceQ 20000 R.prog).map (fun x => ob x.2) = some (valX, tabV) := by
  kernel_rfl
end K11

set_option maxHeartbeats 0
namespace K11
open PySem PySem.Spec PyProof.Rows L2 HandSHeadRun PySem.W
theorem run_look (w : World) : (wholeF (fun p => stepQ (denQ tabQ) p w) fenceQ 20000 R.prog).map (fun x => (looksF R.prog x.1.heap x.2.abs, seenQ (view R.prog [0, 46]) names (importedModules R.prog.main.body) (fun s => xlAt (view R.prog [0, 46]) [] s && recOk R.toRowW.records s) x.2.abs)) = some (true, openGood (view R.prog [0, 46]) names) := by
  kernel_rfl
end K11

set_option maxHeartbeats 0
namespace K11
open PySem PySem.Spec PyProof.Rows L2 RtL ErL HandSHeadRun PySem.W
theorem run (w : World) : RunEqI R (view R.prog [0, 46]) hk ob 20000 names w := by
  have a := run_look w
  have b := run_obs w
  unfold RunEqI
  cases e : wholeF (fun p => stepQ (denQ tabQ) p w) fenceQ 20000 R.prog with
  | none =>
    rw [e] at a
    cases a
  | some x =>
    rw [e] at a b
    have a' := Option.some.inj a
    have b' : ob x.2 = (valX, tabV) := Option.some.inj b
    show some (_, _, ob x.2) = some (true, openGood (view R.prog [0, 46]) names, (valX, tabV))
    rw [b']
    have a1 := congrArg Prod.fst a'
    have a2 := congrArg Prod.snd a'
    exact congrArg some (Prod.ext a1 (Prod.ext a2 rfl))
end K11
open PySem PySem.W PySem.Calls PyProof.Rows
theorem PySem.Challenge.cw_slotsums_k11_symmetric_and_alternating_holds : PySem.Challenge.rw_slotsums_k11_symmetric_and_alternating.Holds := by
  w_on; o_law
  refine HandSHeadRun.head_imp (r := K11.R) (q := view K11.R.prog [0, 46]) (H := K11.hk) (ob := K11.ob) (M := 20000) (loose := K11.names) (d := HandSHeadRun.topDef K11.R.prog 46) (kwd := []) K11.ob_eq
    K11.run (by kernel_rfl) (by kernel_rfl) (by kernel_rfl) (by rfl) (by first | assumption | decide +kernel) (by decide +kernel) ⟨rfl, rfl, rfl, rfl, rfl, by decide +kernel⟩ ?hw ?hc
  case hw => w_witness2
  case hc =>
    refine Att.attach_call (l := PySem.Challenge.rw_slotsums_k11_symmetric_and_alternating) (n := 63) rfl (by kernel_rfl) fun w s0 st mg mb fl o pm cd doc sc us zs G Y ho hd hcd hmg here iz lz ng => ?_
    obtain ⟨K, kin, cK, Y⟩ := Y
    obtain ⟨c1, P1, tI1, tO1⟩ := Y "_law_places_refused" (by decide)
    obtain ⟨c2, P2, tI2, tO2⟩ := Y "_law_makers_refused" (by decide)
    obtain ⟨c3, P3, tI3, tO3⟩ := Y "law" (by decide)
    have T := K11.tt_of kin G.T.g cK
    obtain ⟨hc1, ch1, tk1⟩ := K11.tab_K (x := "_law_places_refused") (by decide) kin G.T.g T cK tI1
    obtain ⟨hc2, ch2, tk2⟩ := K11.tab_K (x := "_law_makers_refused") (by decide) kin G.T.g T cK tI2
    obtain ⟨hc3, ch3, tk3⟩ := K11.tab_K (x := "law") (by decide) kin G.T.g T cK tI3
    obtain ⟨fd, bd, F⟩ := K11.law_G (P := (PySem.Challenge.rw_slotsums_k11_symmetric_and_alternating).prog) (w := w) T hc1 hc2 hc3 (K11.tab_ne cK tI1 tI2 tI3)
    have e1 : (HandSHeadRun.topDef K11.R.prog 46).name = ("law" : PySem.Str) := by kernel_rfl
    have e2 := (T.gl "law" (by decide)).symm.trans ((congrArg mg e1).symm.trans hmg)
    cases e2
    refine RtL.lawGTs (ts := [(c1, P1), (c2, P2), (c3, P3)]) (sp := K11.spLw K (K11.tsL P1 P2 P3)) kin G.T.g G.T.b G.T.builtins G.T.nolimit ng ?_ ?_ ?_ G.T.bmain here iz (Nat.le_trans lz (by decide)) ⟨rfl, by decide, by decide⟩ (fun b _ _ TB => F b (TB _ List.mem_cons_self) (TB _ (List.mem_cons_of_mem _ List.mem_cons_self)) (TB _ (List.mem_cons_of_mem _ (List.mem_cons_of_mem _ List.mem_cons_self)))) bd fun H hP q => ⟨sc, zs, rfl, q, lz, ?_, fun _ => rfl⟩
    · intro p hp
      simp only [List.mem_cons, List.not_mem_nil, or_false] at hp
      rcases hp with rfl | rfl | rfl
      · exact tO1
      · exact tO2
      · exact tO3
    · intro p hp
      simp only [List.mem_cons, List.not_mem_nil, or_false] at hp
      rcases hp with rfl | rfl | rfl
      · exact tk1
      · exact tk2
      · exact tk3
    · intro p hp
      simp only [List.mem_cons, List.not_mem_nil, or_false] at hp
      rcases hp with rfl | rfl | rfl
      · exact ch1
      · exact ch2
      · exact ch3
    · intro p hp
      simp only [K11.tsL, List.mem_cons, List.not_mem_nil, or_false] at hp
      rcases hp with rfl | rfl | rfl
      · exact LamX.TabS.nil (hP _ List.mem_cons_self)
      · exact LamX.TabS.nil (hP _ (List.mem_cons_of_mem _ List.mem_cons_self))
      · exact LamX.TabS.nil (hP _ (List.mem_cons_of_mem _ (List.mem_cons_of_mem _ List.mem_cons_self)))


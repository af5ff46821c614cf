import PyProof.Rows.All
import Wide.All
import OpenK.AllK
import Wide.FinOn
import PyProof.EqAt
import PyProof.EqKinds
import PyProof.TupleCall
import KE.KExcInit
import KE.KExcStr
import HandS.ForMost
import HandS.Exc
import HandS.Defaults
import HandS.Head0
import HandS.Head1
import HandS.Head2
import HandS.HeadEnd
import HandS.HeadHook1
import HandS.HeadHook2
import KE.KExcIs
import HandS.IsInst
import HandS.ExcOwn
import PyProof.ReprLen
import HandS.Walk
import HandS.Evl
import PySem.Challenge.RW_slotsums_k14_error_classes
set_option Elab.async false
set_option linter.all false
set_option maxRecDepth 100000
set_option maxHeartbeats 4000000
namespace PySem
namespace Er
open PySem.W PySem.Calls PyProof.Rows PySem.HandSPX
section
variable {M : Model} {A : Around} {E : Value → Shared → Prop} {h : Heap} {g : Array GenState} {d : Drawn} {t : Nat} {os : OsState}
variable {nm q : Str} {C N : Addr} {bs bm bmB : List Value} {hdct : Bool} {sn : List Str} {sub : List Value} {ab : Bool} {col : Option Bool}
variable {dd : Option Addr} {k0 k1 k2 k3 k5 : Option Value} {B newId initId : String}
variable {prog : Program} {w : World} {R : Result → Shared → Prop}

theorem check_newK (FB : ExcBaseFacts B newId initId bmB) (hT : ∀ T : String, bm.contains (.type T) = bmB.contains (.type T)) {rest : List Value}
    {kw : List (Str × Value)} {Q : Unit → Shared → Prop}
    (hC : h.get? C = some (excClassObj nm q C N bs bm hdct sn sub ab col dd k0 k1 k2 k3 k5 newId))
    (hq : Q () ⟨h, g, d, t, os⟩) : wpAny M A (checkBuiltinCall newId ⟨.ref C :: rest, kw⟩) Q E ⟨h, g, d, t, os⟩ := by
  have hcont : (Value.ref C :: bm).contains (.type B) = true := by
    rw [List.contains_cons, hT, FB.hasB, Bool.or_true]
  have hstar := FB.noStar
  simp only [checkBuiltinCall, FB.newKind, FB.newSplit, FB.newRow]
  repeat (first
    | refine wpAny_loadPart_at hC ?_
    | (refine wpAny_isSubtype_exc hC ?_; rw [hcont])
    | refine wpAny_staticBase_exc hC ?_
    | refine wpAny_madeBy_exc hC ?_
    | simp only [bne_self_eq_false, Bool.false_eq_true, if_false]
    | wp_step)
  exact hq

theorem newK (FB : ExcBaseFacts B newId initId bmB) (hT : ∀ T : String, bm.contains (.type T) = bmB.contains (.type T)) {rest : List Value} {kw : List (Str × Value)}
    (hC : h.get? C = some (excClassObj nm q C N bs bm hdct sn sub ab col dd k0 k1 k2 k3 k5 newId))
    (hq : R (.ok (.ret (.ref (h.objs.size + 1)))) ⟨(h.push (kdv_tup rest)).push (excO C h.objs.size), g, d, t, os⟩) (hrest : rest.length ≤ sizeLine) :
    codeAny (model prog w) A (.builtin newId ⟨.ref C :: rest, kw⟩) R ⟨h, g, d, t, os⟩ := by
  have hends := FB.ends
  have hcB : (Value.ref C :: bm).contains (.type B) = true := by
    rw [List.contains_cons, hT, FB.hasB, Bool.or_true]
  have hcA : (Value.ref C :: bm).contains (.type "AttributeError") = false := by
    rw [List.contains_cons, hT, FB.noAttr]
    rfl
  have hcN : (Value.ref C :: bm).contains (.type "NameError") = false := by
    rw [List.contains_cons, hT, FB.noName]
    rfl
  refine codeAny_builtinAt FB.entry ?_
  unfold Builtin.«BaseException.__new__»
  refine wpAt_bind ?_
  show wpAt _ _ _ (stack >>= _) _ _ _
  refine wpAt_bind (wpAt_stack fun p below => wpAt_of_wpAny ?_)
  wp_walk
  refine wpAt_of_wpAny ?_
  rw [FB.owner]
  repeat (first
    | with_reducible refine wpAny_madeHere_exc FB.canon hC ?_
    | with_reducible refine wpAny_loadPart_at hC ?_
    | (with_reducible refine wpAny_isSubtype_exc hC ?_; first | rw [hcB] | rw [hcA] | rw [hcN])
    | wp_step)
  show R _ _
  rw [Heap.size_push]
  exact hq

theorem type_callK (FB : ExcBaseFacts B newId initId bmB) (hT : ∀ T : String, bm.contains (.type T) = bmB.contains (.type T)) {rest : List Value} {kw : List (Str × Value)} {fI : Addr} {Q : Fin → Shared → Prop}
    (hC : h.get? C = some (excClassObj nm q C N bs bm hdct sn sub ab col dd k0 k1 k2 k3 k5 newId))
    (hi : W.Looks (model prog w) h (typeLookup (.ref C) "__init__") (some (.ref fI)))
    (hb : ∀ self, W.Looks (model prog w) h (bindSpecial (.ref fI) self) (.ref fI, [self])) (hrest : rest.length ≤ sizeLine)
    (hq : codeAny (model prog w) A (.call (.ref fI) ⟨.ref (h.objs.size + 1) :: rest, kw⟩)
      (fun r s' => match r with | .ok (.ret v) => v = .none ∧ Q (.done (.ret (.ref (h.objs.size + 1)))) s' | .ok _ => False | .error e => E e s')
      ⟨(h.push (kdv_tup rest)).push (excO C h.objs.size), g, d, t, os⟩) :
    wpAny (model prog w) A (Builtin.«type.__call__» ⟨.ref C :: rest, kw⟩) Q E ⟨h, g, d, t, os⟩ := by
  repeat (first
    | with_reducible refine wpAny_loadPart_at hC ?_
    | with_reducible refine wpAny_madeBy_exc hC ?_
    | wp_step)
  refine codeAny_call_builtin_code (Code.quiet_builtin _ FB.quiet) (check_newK FB hT hC ?_)
  refine newK FB hT hC ?_ hrest
  show wpAny _ _ _ _ _ _
  have k : ∀ b o, h.get? b = some o → ((h.push (kdv_tup rest)).push (excO C h.objs.size)).get? b = some o :=
    fun b o e => Heap.get?_push_of_some _ (Heap.get?_push_of_some _ e)
  have hC1 := k _ _ hC
  have hget : ((h.push (kdv_tup rest)).push (excO C h.objs.size)).get? (h.objs.size + 1) = some (excO C h.objs.size) := by heap_get
  have hcC : (Value.ref C :: bm).contains (.ref C) = true := by simp
  have i1 := hi.keeps k
  have b1 := (hb (.ref (h.objs.size + 1))).keeps k
  unfold isInstance
  repeat (first
    | with_reducible refine wpAny_loadPart_at hget ?_
    | (with_reducible refine wpAny_isSubtype_exc hC1 ?_; rw [hcC])
    | wp_step)
  show wpAny _ _ (typeLookup (.ref C) _) _ _ _
  refine i1.at ?_
  refine wpAny_holding (wpAny_bind (b1.at ?_))
  refine wpAny_bind (wpAny_call (codeAny_mono hq fun r s' z => ?_))
  rcases r with e | (v | _ | _ | _) <;> first | exact z | exact z.elim | skip
  obtain ⟨rfl, z⟩ := z
  first
    | exact wpAny_pure (wpAny_pure z)
    | (wp_walk; exact z)

theorem call_ownK (FB : ExcBaseFacts B newId initId bmB) (hT : ∀ T : String, bm.contains (.type T) = bmB.contains (.type T)) {rest : List Value} {kw : List (Str × Value)} {fI : Addr}
    (hC : h.get? C = some (excClassObj nm q C N bs bm hdct sn sub ab col dd k0 k1 k2 k3 k5 newId))
    (hi : W.Looks (model prog w) h (typeLookup (.ref C) "__init__") (some (.ref fI)))
    (hb : ∀ self, W.Looks (model prog w) h (bindSpecial (.ref fI) self) (.ref fI, [self])) (hrest : rest.length ≤ sizeLine)
    (hq : codeAny (model prog w) (A.under (.builtin "type.__call__" ⟨.ref C :: rest, kw⟩)) (.call (.ref fI) ⟨.ref (h.objs.size + 1) :: rest, kw⟩)
      (W.InitBack (h.objs.size + 1) R) ⟨(h.push (kdv_tup rest)).push (excO C h.objs.size), g, d, t, os⟩) :
    codeAny (model prog w) A (.call (.ref C) ⟨rest, kw⟩) R ⟨h, g, d, t, os⟩ := by
  have f1 := tc_lookup
  have f2 := tc_bind (.ref C)
  have hTy : (⟨h, g, d, t, os⟩ : Shared).TypeIs (.ref C) "type" := ⟨_, hC, rfl⟩
  refine codeAny_of_tree ?_
  show wpAny _ _ (callAny (.ref C) _) _ _ _
  repeat (any_goals (first
    | assumption
    | with_reducible refine wpAny_loadPart_at hC ?_
    | wp_step))
  refine ⟨rfl, ?_⟩
  refine codeAny_call_builtin_at (Code.quiet_builtin _ (by decide +kernel)) entry_typeCall (wpAny_check_type_call_sub hC (type_callK FB hT hC hi hb hrest ?_))
  refine codeAny_mono hq fun r s' z => ?_
  rcases r with e | (v | _ | _ | _) <;> exact z
end
end Er
end PySem

set_option maxHeartbeats 4000000
namespace PySem
namespace Er
open PySem.W PySem.Calls PyProof.Rows Builtin Builtin.ObjectAttr
open PySem.HandSPX (excO)
section
variable {prog : Program} {w : World} {A : Around} {E : Value → Shared → Prop} {R : Result → Shared → Prop} {hp : Heap} {g : Array GenState} {d : Drawn} {t : Nat} {os : OsState}
variable {K : Frag} {C : Addr} {B : String} {bmB : List Value}

/-- the first field of an error -/
theorem put_new {name : Str} {tk : Tok} {v : Value} {x t0 : Addr} (SF : StoreFacts B bmB "object.__setattr__" "object") (X : K.In hp)
    (hx : hp.get? x = some (excO C t0)) (ho : excOver K C bmB = true) (ht : takerIn K C name = some none) (hh : hasDictIn K C = true)
    (hq : ∀ h' tk' dx, (∀ b o, b ≠ x → hp.get? b = some o → h'.get? b = some o) → hp.objs.size ≤ dx → dx ≠ x →
      h'.get? x = some { cls := .ref C, dict := some dx, data := .fields #[.ref t0, .none, .none, .none, .bool false, .none] } →
      h'.Ns1 dx (fun y => if y = name then some v else none) → R (.ok (.ret .none)) ⟨h', g, d, tk', os⟩) :
    codeAny (model prog w) A (.call (.builtin "object.__setattr__") ⟨[.ref x, .str name tk, v], []⟩) R ⟨hp, g, d, t, os⟩ := by
  have hxs : x ≠ hp.objs.size := Nat.ne_of_lt (Heap.lt_size hx)
  refine osa_openX (od := none) SF X ⟨hx, rfl, rfl, trivial⟩ ho ht fun b => ?_
  obtain ⟨cd, hc, hd'⟩ := any_some hh
  have hcls : W.Looks (model prog w) hp (classData C) cd := looks_clsIn X hc
  obtain ⟨nm, bs, mro, ns, qn, hd, sn, sb, ab, col, del⟩ := cd
  dsimp only at hd'
  subst hd'
  unfold storeInOwnDict ownDictForStores
  repeat (first
    | with_reducible refine PX.store_in_new ?_ ?_
    | with_reducible refine wpAny_loadPart_at hx ?_
    | with_reducible refine hcls.at ?_
    | wp_step)
  · exact ⟨_, #[], _, (Heap.get?_update_ne _ _ _ _ hxs.symm).trans (Heap.get?_push_at rfl rfl), rfl, fun e he => absurd he (by simp), fun _ => rfl⟩
  · intro h' tk' hn' hs
    have hx1 : (hp.push { cls := .type "dict", data := .dict #[] }).get? x = some (excO C t0) := Heap.get?_push_of_some _ hx
    refine hq h' tk' hp.objs.size (fun b o hb ho => ?_) (Nat.le_refl _) hxs.symm ?_ hn'
    · exact (hs.2 b (Nat.ne_of_lt (Heap.lt_size ho))).trans ((Heap.get?_update_ne _ _ _ _ hb).trans (Heap.get?_push_of_some _ ho))
    · exact (hs.2 x hxs).trans (Heap.get?_update_self _ hx1 rfl)

/-- a further one -/
theorem put_old {name : Str} {tk : Tok} {v : Value} {x dx : Addr} {fv : Array Value} {m0 : Str → Option Value} {nl : List Str} (SF : StoreFacts B bmB "object.__setattr__" "object") (X : K.In hp)
    (hx : hp.get? x = some { cls := .ref C, dict := some dx, data := .fields fv }) (hns : hp.Ns1 dx m0) (hw : Within m0 nl) (hz : nl.length ≤ 1000)
    (ho : excOver K C bmB = true) (ht : takerIn K C name = some none) (hh : hasDictIn K C = true)
    (hq : ∀ h' tk', (∀ b o, b ≠ dx → hp.get? b = some o → h'.get? b = some o) → h'.Ns1 dx (fun y => if y = name then some v else m0 y) →
      R (.ok (.ret .none)) ⟨h', g, d, tk', os⟩) :
    codeAny (model prog w) A (.call (.builtin "object.__setattr__") ⟨[.ref x, .str name tk, v], []⟩) R ⟨hp, g, d, t, os⟩ := by
  obtain ⟨oD, esD, epD, hoD, hdD, _⟩ := hns.count hw
  refine osa_openX (od := some oD) SF X ⟨hx, rfl, rfl, hoD⟩ ho ht fun b => ?_
  obtain ⟨cd, hc, hd'⟩ := any_some hh
  have hcls : W.Looks (model prog w) hp (classData C) cd := looks_clsIn X hc
  obtain ⟨nm, bs, mro, ns, qn, hd, sn, sb, ab, col, del⟩ := cd
  dsimp only at hd'
  subst hd'
  unfold storeInOwnDict ownDictForStores
  repeat (first
    | with_reducible refine PX.store_in_old hns hw hz ?_
    | with_reducible refine wpAny_loadPart_at hx ?_
    | with_reducible refine hcls.at ?_
    | wp_step)
  intro h' tk' hn' hs
  exact hq h' tk' (fun b o hb ho => (hs.2 b hb).trans ho) hn'
end

/-! ### the texts of the two kinds of __init__ -/
def iA1 (f : Str) (p1 p2 : Pos) : Arguments :=
  { posonlyargs := [], args := [{ arg := "self", annotation := none, pos := p1 }, { arg := f, annotation := none, pos := p2 }], vararg := none, kwonlyargs := [], kw_defaults := [], kwarg := none, defaults := [] }
def iB1 (f : Str) (q1 q2 q3 q4 : Pos) : List Stmt := [.Assign [.Attribute (.Name "self" q1) f q2] (.Name f q3) q4]
def iS1 (f : Str) : Scope := { kind := .function, names := [(PySem.Str.ofString "self", .local), (f, .local)], isGenerator := false, isCoroutine := false, more := [] }
def iA2 (f f' : Str) (p1 p2 p3 : Pos) : Arguments :=
  { posonlyargs := [], args := [{ arg := "self", annotation := none, pos := p1 }, { arg := f, annotation := none, pos := p2 }, { arg := f', annotation := none, pos := p3 }], vararg := none, kwonlyargs := [], kw_defaults := [], kwarg := none, defaults := [] }
def iB2 (f f' : Str) (q1 q2 q3 q4 r1 r2 r3 r4 : Pos) : List Stmt :=
  [.Assign [.Attribute (.Name "self" q1) f q2] (.Name f q3) q4, .Assign [.Attribute (.Name "self" r1) f' r2] (.Name f' r3) r4]
def iS2 (f f' : Str) : Scope := { kind := .function, names := [(PySem.Str.ofString "self", .local), (f, .local), (f', .local)], isGenerator := false, isCoroutine := false, more := [] }

/-- a local name is read -/
theorem ld {M : Model} {s : Shared} {name : Str} {scope : Scope} {L a : Addr} {cd : Value} {m : Str → Option Value} {x : Str} {pos : Pos} {v : Value} {Q : Value → Shared → Prop} {A : Around} {E : Value → Shared → Prop}
    (hn : s.heap.Ns L m) (hv : m x = some v) (h : Q v s) (hk : scope.kind = .function) (hl : (envOfC name scope L a cd).kindOf x = some .local) (hd : (x == ("__debug__" : Str)) = false) :
    wpAny M A (eval (.Name x pos) (envOfC name scope L a cd)) Q E s := wpAny_Name (wpAny_loadName_local hk hl hn hv h) hd

/-- what the class at C says of making and storing -/
structure Cl (K : Frag) (C : Addr) (B newId initId : String) (bmB : List Value) : Prop where
  FB : ExcBaseFacts B newId initId bmB
  SF : StoreFacts B bmB "object.__setattr__" "object"
  ini : excInitIn K C bmB newId = true
  ov : excOver K C bmB = true
  hd : hasDictIn K C = true
  sa : findIn K (.ref C) "__setattr__" = some (some (.builtin "object.__setattr__"))
  kC : keepIn K (.ref C) = true
/-- of its __init__ with one field -/
structure In1 (K : Frag) (C : Addr) (f : Str) : Prop where
  tk : takerIn K C f = some none
  nd : (f == ("__debug__" : Str)) = false
  ns : (f == ("self" : Str)) = false
  fn : ∃ (fI : Addr) (qual : Str) (oc : Value) (od : Option Addr) (kV doc pm : Value) (an : Option Addr) (cdv ct : Value) (osl : Array (Option Value)) (p1 p2 q1 q2 q3 q4 : Pos),
    findIn K (.ref C) "__init__" = some (some (.ref fI)) ∧ typeIn K (.ref fI) = some (.type "function") ∧
    K.lookup fI = some ⟨oc, od, .func (fnOf "__init__" qual (iA1 f p1 p2) (iB1 f q1 q2 q3 q4) (iS1 f) .none kV doc pm an cdv ct), osl⟩ ∧ codeIn K cdv qual = true
/-- of its __init__ with two fields -/
structure In2 (K : Frag) (C : Addr) (f f' : Str) : Prop where
  tk : takerIn K C f = some none
  tk' : takerIn K C f' = some none
  nd : (f == ("__debug__" : Str)) = false
  nd' : (f' == ("__debug__" : Str)) = false
  ns : (f == ("self" : Str)) = false
  ns' : (f' == ("self" : Str)) = false
  nf : (f' == f) = false
  fn : ∃ (fI : Addr) (qual : Str) (oc : Value) (od : Option Addr) (kV doc pm : Value) (an : Option Addr) (cdv ct : Value) (osl : Array (Option Value)) (p1 p2 p3 q1 q2 q3 q4 r1 r2 r3 r4 : Pos),
    findIn K (.ref C) "__init__" = some (some (.ref fI)) ∧ typeIn K (.ref fI) = some (.type "function") ∧
    K.lookup fI = some ⟨oc, od, .func (fnOf "__init__" qual (iA2 f f' p1 p2 p3) (iB2 f f' q1 q2 q3 q4 r1 r2 r3 r4) (iS2 f f') .none kV doc pm an cdv ct), osl⟩ ∧ codeIn K cdv qual = true

/-- a made error: e of the class C, its dict d, its arguments' tuple t -/
structure Made (h h' : Heap) (e C d t : Addr) (args : List Value) (m : Str → Option Value) : Prop where
  keep : ∀ b o, h.get? b = some o → h'.get? b = some o
  be : h.objs.size ≤ e
  bt : h.objs.size ≤ t
  bd : h.objs.size ≤ d
  te : t ≠ e
  de : d ≠ e
  dt : d ≠ t
  obj : h'.get? e = some { cls := .ref C, dict := some d, data := .fields #[.ref t, .none, .none, .none, .bool false, .none] }
  tup : h'.get? t = some (kdv_tup args)
  ns : h'.Ns1 d m
end Er
end PySem

set_option maxHeartbeats 4000000
namespace PySem
namespace Er
open PySem.W PySem.Calls PyProof.Rows Builtin Builtin.ObjectAttr
open PySem.HandSPX (excO)
section
variable {prog : Program} {w : World} {A : Around} {E : Value → Shared → Prop} {R : Result → Shared → Prop} {s : Shared}
variable {K : Frag} {C : Addr} {B newId initId : String} {bmB : List Value} {f f' : Str}

theorem kind1 {f : Str} (ns : (f == ("self" : Str)) = false) : (iS1 f).names.lookup f = some .local := by
  show List.lookup f [(PySem.Str.ofString "self", NameKind.local), (f, NameKind.local)] = some NameKind.local
  have e : (f == PySem.Str.ofString "self") = false := ns
  simp [List.lookup, e]
theorem kind2 {f f' : Str} (ns : (f == ("self" : Str)) = false) : (iS2 f f').names.lookup f = some .local := by
  show List.lookup f [(PySem.Str.ofString "self", NameKind.local), (f, NameKind.local), (f', NameKind.local)] = some NameKind.local
  have e : (f == PySem.Str.ofString "self") = false := ns
  simp [List.lookup, e]
theorem kind2' {f f' : Str} (ns : (f' == ("self" : Str)) = false) (nf : (f' == f) = false) : (iS2 f f').names.lookup f' = some .local := by
  show List.lookup f' [(PySem.Str.ofString "self", NameKind.local), (f, NameKind.local), (f', NameKind.local)] = some NameKind.local
  have e : (f' == PySem.Str.ofString "self") = false := ns
  simp [List.lookup, e, nf]

theorem ne_of_beq {a b : Str} (h : (a == b) = false) : a ≠ b := fun e => by
  subst e
  simp at h

/-- the body of an __init__ with one field -/
theorem body1 (c : Cl K C B newId initId bmB) (i : In1 K C f) {x t0 L a : Addr} {cd v : Value} {qual : Str} {q1 q2 q3 q4 : Pos} {m : Str → Option Value} (X : K.In s.heap)
    (hx : s.heap.get? x = some (excO C t0)) (hn : s.heap.Ns L m) (m1 : m "self" = some (.ref x)) (m2 : m f = some v) {Q : Flow → Shared → Prop}
    (hq : ∀ h' tk' dx, (∀ b o, b ≠ x → s.heap.get? b = some o → h'.get? b = some o) → s.heap.objs.size ≤ dx → dx ≠ x →
      h'.get? x = some { cls := .ref C, dict := some dx, data := .fields #[.ref t0, .none, .none, .none, .bool false, .none] } →
      h'.Ns1 dx (fun y => if y = f then some v else none) → Q .next { s with heap := h', toks := tk' }) :
    wpAny (model prog w) A (execs (iB1 f q1 q2 q3 q4) (envOfC qual (iS1 f) L a cd)) Q E s := by
  show wpAny _ _ (execs _ _) _ _ _
  refine wpAny_execs_cons (plainObj_wpAny_Assign_Attribute ?_)
  refine ld (v := v) hn m2 (ld (v := .ref x) hn m1 ?_ rfl rfl (by decide)) rfl (kind1 i.ns) i.nd
  refine set_plain X (ox := excO C t0) (od := none) ⟨hx, rfl, rfl, trivial⟩ c.sa ?_
  refine put_new c.SF X hx c.ov i.tk c.hd (fun h' tk' dx k dn dne hx' hns => ?_)
  show wpAny _ _ (execs _ _) _ _ _
  exact wpAny_execs_nil (hq h' tk' dx k dn dne hx' hns)
/-- .. with two -/
theorem body2 (c : Cl K C B newId initId bmB) (i : In2 K C f f') {x t0 L a : Addr} {cd v v' : Value} {qual : Str} {q1 q2 q3 q4 r1 r2 r3 r4 : Pos} {m : Str → Option Value} (X : K.In s.heap)
    (hx : s.heap.get? x = some (excO C t0)) (hLx : L ≠ x) (hKx : K.lookup x = none) (hn : s.heap.Ns L m) (m1 : m "self" = some (.ref x)) (m2 : m f = some v) (m3 : m f' = some v') {Q : Flow → Shared → Prop}
    (hq : ∀ h' tk' dx, (∀ b o, b ≠ x → s.heap.get? b = some o → h'.get? b = some o) → s.heap.objs.size ≤ dx → dx ≠ x →
      h'.get? x = some { cls := .ref C, dict := some dx, data := .fields #[.ref t0, .none, .none, .none, .bool false, .none] } →
      h'.Ns1 dx (fun y => if y = f' then some v' else if y = f then some v else none) → Q .next { s with heap := h', toks := tk' }) :
    wpAny (model prog w) A (execs (iB2 f f' q1 q2 q3 q4 r1 r2 r3 r4) (envOfC qual (iS2 f f') L a cd)) Q E s := by
  show wpAny _ _ (execs _ _) _ _ _
  refine wpAny_execs_cons (plainObj_wpAny_Assign_Attribute ?_)
  refine ld (v := v) hn m2 (ld (v := .ref x) hn m1 ?_ rfl rfl (by decide)) rfl (kind2 i.ns) i.nd
  refine set_plain X (ox := excO C t0) (od := none) ⟨hx, rfl, rfl, trivial⟩ c.sa ?_
  refine put_new c.SF X hx c.ov i.tk c.hd (fun h' tk' dx k dn dne hx' hns => ?_)
  have X' : K.In h' := fun b o e => k b o (fun z => by rw [z, hKx] at e; cases e) (X b o e)
  have hn' : h'.Ns L m := by
    obtain ⟨o, es, ep, ho, r⟩ := hn
    exact ⟨o, es, ep, k _ _ hLx ho, r⟩
  show wpAny _ _ (execs _ _) _ _ _
  refine wpAny_execs_cons (plainObj_wpAny_Assign_Attribute ?_)
  refine ld (v := v') hn' m3 (ld (v := .ref x) hn' m1 ?_ rfl rfl (by decide)) rfl (kind2' i.ns' i.nf) i.nd'
  obtain ⟨oD, esD, epD, hoD, hdD, _⟩ := hns.count (Within.cons f v Within.nil)
  refine set_plain X' (ox := { cls := .ref C, dict := some dx, data := .fields #[.ref t0, .none, .none, .none, .bool false, .none] }) (od := some oD) ⟨hx', rfl, rfl, hoD⟩ c.sa ?_
  refine put_old c.SF X' hx' hns (Within.cons f v Within.nil) (by simp) c.ov i.tk' c.hd (fun h2 tk2 k2 hns2 => ?_)
  show wpAny _ _ (execs _ _) _ _ _
  exact wpAny_execs_nil (hq h2 tk2 dx (fun b o hb e => k2 b o (fun z => absurd (Heap.lt_size e) (by rw [z]; exact Nat.not_lt.mpr dn)) (k b o hb e)) dn dne (k2 x _ (Ne.symm dne) hx') hns2)

theorem map1 {kindOf : Str → Option NameKind} {x v : Value} {f : Str} (e0 : kindOf "self" = some .local) (e1 : kindOf f = some .local) (ns : (f == ("self" : Str)) = false) :
    bindL kindOf [("self", x), (f, v)] (fun _ => none) "self" = some x ∧ bindL kindOf [("self", x), (f, v)] (fun _ => none) f = some v := by
  have n1 : ¬ (("self" : Str) = f) := fun e => ne_of_beq ns e.symm
  constructor
  · show (if kindOf f = some .local then fun y => if y = f then some v else (if kindOf "self" = some .local then fun y => if y = ("self" : Str) then some x else none else fun _ => none) y else _) ("self" : Str) = some x
    rw [if_pos e1, if_pos e0]
    simp [n1]
  · show (if kindOf f = some .local then fun y => if y = f then some v else (if kindOf "self" = some .local then fun y => if y = ("self" : Str) then some x else none else fun _ => none) y else _) f = some v
    rw [if_pos e1]
    simp
theorem map2 {kindOf : Str → Option NameKind} {x v v' : Value} {f f' : Str} (e0 : kindOf "self" = some .local) (e1 : kindOf f = some .local) (e2 : kindOf f' = some .local) (ns : (f == ("self" : Str)) = false) (ns' : (f' == ("self" : Str)) = false) (nf : (f' == f) = false) :
    bindL kindOf [("self", x), (f, v), (f', v')] (fun _ => none) "self" = some x ∧ bindL kindOf [("self", x), (f, v), (f', v')] (fun _ => none) f = some v ∧ bindL kindOf [("self", x), (f, v), (f', v')] (fun _ => none) f' = some v' := by
  have n1 : ¬ (("self" : Str) = f) := fun e => ne_of_beq ns e.symm
  have n2 : ¬ (("self" : Str) = f') := fun e => ne_of_beq ns' e.symm
  have n3 : ¬ (f = f') := fun e => ne_of_beq nf e.symm
  refine ⟨?_, ?_, ?_⟩
  all_goals simp [bindL, e0, e1, e2, n1, n2, n3]

/-- a call of the class, one field -/
theorem made1 (c : Cl K C B newId initId bmB) (i : In1 K C f) {rest : List Value} {kw : List (Str × Value)} {v : Value} (X : K.In s.heap) (hlim : s.heap.NoLimit) (hroom : A.depth + 1 < recursionLimit) (hz : rest.length ≤ sizeLine)
    (hb : ∀ (s : Shared) (qual : Str) (p1 p2 q1 q2 q3 q4 : Pos) (kV doc pm : Value) (an : Option Addr) (cdv ct x : Value),
      BindsTo s (fnOf "__init__" qual (iA1 f p1 p2) (iB1 f q1 q2 q3 q4) (iS1 f) .none kV doc pm an cdv ct) ⟨x :: rest, kw⟩ [("self", x), (f, v)])
    (hq : ∀ h' tk e d t, Made s.heap h' e C d t rest (fun y => if y = f then some v else none) → R (.ok (.ret (.ref e))) { s with heap := h', toks := tk }) :
    codeAny (model prog w) A (.call (.ref C) ⟨rest, kw⟩) R s := by
  obtain ⟨fI, qual, oc, od, kV, doc, pm, an, cdv, ct, osl, p1, p2, q1, q2, q3, q4, hi, ht, ho, hcd⟩ := i.fn
  obtain ⟨nm, N, qn, bs, bm, hdct, sn, sub, ab, col, dd, k0, k1, k2, k3, k5, hC, hT⟩ := excInit_of X c.ini
  obtain ⟨hp, g, dr, tk, os⟩ := s
  have k : ∀ b o, hp.get? b = some o → ((hp.push (kdv_tup rest)).push (excO C hp.objs.size)).get? b = some o := fun b o e => Heap.get?_push_of_some _ (Heap.get?_push_of_some _ e)
  have hget : ((hp.push (kdv_tup rest)).push (excO C hp.objs.size)).get? (hp.objs.size + 1) = some (excO C hp.objs.size) := by heap_get
  have hget0 : ((hp.push (kdv_tup rest)).push (excO C hp.objs.size)).get? hp.objs.size = some (kdv_tup rest) := by heap_get
  have hsz : ((hp.push (kdv_tup rest)).push (excO C hp.objs.size)).objs.size = hp.objs.size + 1 + 1 := by rw [Heap.size_push, Heap.size_push]
  refine call_ownK c.FB hT hC (looks_findIn X hi) (fun self => bind_fn X self ht) hz ?_
  refine Att.call_fn (s := ⟨(hp.push (kdv_tup rest)).push (excO C hp.objs.size), g, dr, tk, os⟩) (binds := [("self", .ref (hp.objs.size + 1)), (f, v)]) (X.keeps k) (hlim.keeps k) ho hcd ?_ (hb _ _ _ _ _ _ _ _ _ _ _ _ _ _ _) ?_ (fun s1 IC => ?_) rfl rfl rfl
  · show A.depth + 1 < recursionLimit
    exact hroom
  · have e1 : (iS1 f).names.lookup f = some .local := kind1 i.ns
    have e0 : (iS1 f).names.lookup ("self" : Str) = some NameKind.local := rfl
    simp [List.all, e1, e0]
  obtain ⟨h1, tk1, rfl⟩ := IC.toInCall.same
  have ks : ∀ b o, ((hp.push (kdv_tup rest)).push (excO C hp.objs.size)).get? b = some o → h1.get? b = some o := IC.toInCall.keep
  have hn := IC.toInCall.ns
  obtain ⟨m1, m2⟩ := map1 (kindOf := (envOfC qual (iS1 f) ((hp.push (kdv_tup rest)).push (excO C hp.objs.size)).objs.size fI cdv).kindOf) (x := .ref (hp.objs.size + 1)) (v := v) rfl (kind1 i.ns) i.ns
  refine wpAny_mono (body1 c i ((X.keeps k).keeps ks) (ks _ _ hget) hn m1 m2 (Q := fun fl s' => fl = .next ∧ ∃ h' tk' dx, s' = ⟨h', g, dr, tk', os⟩ ∧ Made hp h' (hp.objs.size + 1) C dx hp.objs.size rest (fun y => if y = f then some v else none)) (fun h' tk' dx k' dn dne hx hns => ⟨rfl, h', tk', dx, rfl, ?_⟩)) (fun fl s' hh => ?_) (fun e s' hh => hh)
  · have lt1 : hp.objs.size + 1 < h1.objs.size := Heap.lt_size (ks _ _ hget)
    have z2 : h1.objs.size ≤ dx := dn
    have z3 : hp.objs.size < dx := by omega
    exact ⟨fun b o e => k' b o (Nat.ne_of_lt (Nat.lt_succ_of_lt (Heap.lt_size e))) (ks _ _ (k _ _ e)), Nat.le_succ _, Nat.le_refl _, Nat.le_of_lt z3, Nat.ne_of_lt (Nat.lt_succ_self _), dne, Nat.ne_of_gt z3, hx, k' _ _ (Nat.ne_of_lt (Nat.lt_succ_self _)) (ks _ _ hget0), hns⟩
  · obtain ⟨rfl, h', tk', dx, rfl, M⟩ := hh
    exact ⟨rfl, hq h' tk' (hp.objs.size + 1) dx hp.objs.size M⟩
/-- .. two -/
theorem made2 (c : Cl K C B newId initId bmB) (i : In2 K C f f') {rest : List Value} {kw : List (Str × Value)} {v v' : Value} (X : K.In s.heap) (hlim : s.heap.NoLimit) (hroom : A.depth + 1 < recursionLimit) (hz : rest.length ≤ sizeLine)
    (hb : ∀ (s : Shared) (qual : Str) (p1 p2 p3 q1 q2 q3 q4 r1 r2 r3 r4 : Pos) (kV doc pm : Value) (an : Option Addr) (cdv ct x : Value),
      BindsTo s (fnOf "__init__" qual (iA2 f f' p1 p2 p3) (iB2 f f' q1 q2 q3 q4 r1 r2 r3 r4) (iS2 f f') .none kV doc pm an cdv ct) ⟨x :: rest, kw⟩ [("self", x), (f, v), (f', v')])
    (hq : ∀ h' tk e d t, Made s.heap h' e C d t rest (fun y => if y = f' then some v' else if y = f then some v else none) → R (.ok (.ret (.ref e))) { s with heap := h', toks := tk }) :
    codeAny (model prog w) A (.call (.ref C) ⟨rest, kw⟩) R s := by
  obtain ⟨fI, qual, oc, od, kV, doc, pm, an, cdv, ct, osl, p1, p2, p3, q1, q2, q3, q4, r1, r2, r3, r4, hi, ht, ho, hcd⟩ := i.fn
  obtain ⟨nm, N, qn, bs, bm, hdct, sn, sub, ab, col, dd, k0, k1, k2, k3, k5, hC, hT⟩ := excInit_of X c.ini
  obtain ⟨hp, g, dr, tk, os⟩ := s
  have k : ∀ b o, hp.get? b = some o → ((hp.push (kdv_tup rest)).push (excO C hp.objs.size)).get? b = some o := fun b o e => Heap.get?_push_of_some _ (Heap.get?_push_of_some _ e)
  have hget : ((hp.push (kdv_tup rest)).push (excO C hp.objs.size)).get? (hp.objs.size + 1) = some (excO C hp.objs.size) := by heap_get
  have hget0 : ((hp.push (kdv_tup rest)).push (excO C hp.objs.size)).get? hp.objs.size = some (kdv_tup rest) := by heap_get
  have hsz : ((hp.push (kdv_tup rest)).push (excO C hp.objs.size)).objs.size = hp.objs.size + 1 + 1 := by rw [Heap.size_push, Heap.size_push]
  have hKx : K.lookup (hp.objs.size + 1) = none := by
    cases e : K.lookup (hp.objs.size + 1) with
    | none => rfl
    | some o =>
      have z : hp.get? (hp.objs.size + 1) = some o := X _ _ e
      exact absurd (Nat.lt_of_succ_lt (Heap.lt_size z)) (Nat.lt_irrefl _)
  refine call_ownK c.FB hT hC (looks_findIn X hi) (fun self => bind_fn X self ht) hz ?_
  refine Att.call_fn (s := ⟨(hp.push (kdv_tup rest)).push (excO C hp.objs.size), g, dr, tk, os⟩) (binds := [("self", .ref (hp.objs.size + 1)), (f, v), (f', v')]) (X.keeps k) (hlim.keeps k) ho hcd ?_ (hb _ _ _ _ _ _ _ _ _ _ _ _ _ _ _ _ _ _ _ _) ?_ (fun s1 IC => ?_) rfl rfl rfl
  · show A.depth + 1 < recursionLimit
    exact hroom
  · have e1 : (iS2 f f').names.lookup f = some .local := kind2 i.ns
    have e2 : (iS2 f f').names.lookup f' = some .local := kind2' i.ns' i.nf
    have e0 : (iS2 f f').names.lookup ("self" : Str) = some NameKind.local := rfl
    simp [List.all, e1, e2, e0]
  obtain ⟨h1, tk1, rfl⟩ := IC.toInCall.same
  have ks : ∀ b o, ((hp.push (kdv_tup rest)).push (excO C hp.objs.size)).get? b = some o → h1.get? b = some o := IC.toInCall.keep
  have hn := IC.toInCall.ns
  obtain ⟨m1, m2, m3⟩ := map2 (kindOf := (envOfC qual (iS2 f f') ((hp.push (kdv_tup rest)).push (excO C hp.objs.size)).objs.size fI cdv).kindOf) (x := .ref (hp.objs.size + 1)) (v := v) (v' := v') rfl (kind2 i.ns) (kind2' i.ns' i.nf) i.ns i.ns' i.nf
  have hLx : ((hp.push (kdv_tup rest)).push (excO C hp.objs.size)).objs.size ≠ hp.objs.size + 1 := by omega
  refine wpAny_mono (body2 c i ((X.keeps k).keeps ks) (ks _ _ hget) hLx hKx hn m1 m2 m3 (Q := fun fl s' => fl = .next ∧ ∃ h' tk' dx, s' = ⟨h', g, dr, tk', os⟩ ∧ Made hp h' (hp.objs.size + 1) C dx hp.objs.size rest (fun y => if y = f' then some v' else if y = f then some v else none)) (fun h' tk' dx k' dn dne hx hns => ⟨rfl, h', tk', dx, rfl, ?_⟩)) (fun fl s' hh => ?_) (fun e s' hh => hh)
  · have lt1 : hp.objs.size + 1 < h1.objs.size := Heap.lt_size (ks _ _ hget)
    have z2 : h1.objs.size ≤ dx := dn
    have z3 : hp.objs.size < dx := by omega
    exact ⟨fun b o e => k' b o (Nat.ne_of_lt (Nat.lt_succ_of_lt (Heap.lt_size e))) (ks _ _ (k _ _ e)), Nat.le_succ _, Nat.le_refl _, Nat.le_of_lt z3, Nat.ne_of_lt (Nat.lt_succ_self _), dne, Nat.ne_of_gt z3, hx, k' _ _ (Nat.ne_of_lt (Nat.lt_succ_self _)) (ks _ _ hget0), hns⟩
  · obtain ⟨rfl, h', tk', dx, rfl, M⟩ := hh
    exact ⟨rfl, hq h' tk' (hp.objs.size + 1) dx hp.objs.size M⟩
end
end Er
end PySem

set_option maxHeartbeats 4000000
namespace ErL
open PySem PySem.Spec PyProof.Rows L2
open PySem.Er (Made Cl In1 In2)
/-- an error object at e: its class, its dict (or none), its arguments' tuple -/
def erO (e C : Addr) (d : Option Addr) (t : Addr) : HO := .ext fun h =>
  h.get? e = some ({ cls := .ref C, dict := d, data := .fields #[.ref t, .none, .none, .none, .bool false, .none] } : Obj)
/-- an error of the class at C with these fields, made with these arguments -/
def ErAt (H : Hp) (e C : Addr) (fs : List (Str × V)) (args : List V) : Prop :=
  ∃ (d : Option Addr) (t : Addr), H e = some (erO e C d t) ∧ H t = some (.tup args) ∧ match d with
    | some dx => H dx = some (.xd fs)
    | none => fs = []
theorem ErAt.same {H H' : Hp} {e C : Addr} {fs : List (Str × V)} {args : List V} (x : ErAt H e C fs args) (s : Same H H') : ErAt H' e C fs args := by
  obtain ⟨d, t, h1, h2, h3⟩ := x
  refine ⟨d, t, s _ _ h1, s _ _ h2, ?_⟩
  cases d with
  | none => exact h3
  | some dx => exact s _ _ h3

theorem erO_ok {P : Program} {w : World} {H : Hp} {h : Heap} {e C t : Addr} {d : Option Addr} (he : h.get? e = some ({ cls := .ref C, dict := d, data := .fields #[.ref t, .none, .none, .none, .bool false, .none] } : Obj)) :
    ObjOk P w H h e (erO e C d t) := ⟨he, ⟨_, he⟩, fun _ _ z k => k _ z⟩

section
variable {X : Cx} {pins : List (Addr × Obj)} {σ : L2.St} {H : Hp} {s : Shared} {h' : Heap} {t' : Nat}
/-- several objects laid at once, all of them new -/
theorem laidMany {H' : Hp} (I : Inv X pins σ H s) (k : ∀ b o, s.heap.get? b = some o → h'.get? b = some o) (sm : Same H H') (fr : ∀ b, b < s.heap.objs.size → H b = none → H' b = none)
    (new : ∀ b o, H' b = some o → H b = none → ObjOk X.prog X.w H' h' b o) : Inv X pins σ H' { s with heap := h', toks := t' } := by
  refine I.un ⟨fun b o q _ _ _ => k b o q, fun b o q _ _ _ => ⟨o.slots, k b o q⟩, fun b o q n _ => fr b (Heap.lt_size q) n, fun b o q _ => ⟨o, k b o q⟩, fun b xs q => sm _ _ q, fun b o u q => sm _ _ q, fun b ps q => ⟨#[], by rw [sm _ _ q]; simp⟩⟩ ?_
  intro b o q
  cases e : H b with
  | none => exact new b o q e
  | some o' =>
    have q2 := sm _ _ e
    rw [q] at q2
    cases q2
    exact (I.hok b o e).stay (fun c v _ z => k c v z) (fun c z => sm _ _ z) fun c xs z => sm _ _ z

/-- a made error is tracked -/
theorem made_inv {e C d t : Addr} {args : List Value} {vs : List V} {m : Str → Option Value} {fs : List (Str × V)} {Q : VK} (I : Inv X pins σ H s) (M : Made s.heap h' e C d t args m) (r : Vals vs args) (hz : vs.length ≤ sizeLine)
    (hf : ∀ f, RelO (fs.lookup f) (m f)) (q : ∀ H', ErAt H' e C fs vs → Same H H' → H e = none → Q (.ref e) H') : EP X pins σ Q (.ref e) { s with heap := h', toks := t' } := by
  have ne : H e = none := I.hok.fresh M.be
  have nt : H t = none := I.hok.fresh M.bt
  have nd : H d = none := I.hok.fresh M.bd
  have sm : Same H (upd (upd (upd H t (.tup vs)) d (.xd fs)) e (erO e C (some d) t)) := fun b o z => by
    rw [upd_ne (ne_of_none z ne), upd_ne (ne_of_none z nd), upd_ne (ne_of_none z nt)]
    exact z
  have at_e : (upd (upd (upd H t (.tup vs)) d (.xd fs)) e (erO e C (some d) t)) e = some (erO e C (some d) t) := upd_same
  have at_d : (upd (upd (upd H t (.tup vs)) d (.xd fs)) e (erO e C (some d) t)) d = some (.xd fs) := by rw [upd_ne M.de, upd_same]
  have at_t : (upd (upd (upd H t (.tup vs)) d (.xd fs)) e (erO e C (some d) t)) t = some (.tup vs) := by rw [upd_ne M.te, upd_ne (Ne.symm M.dt), upd_same]
  refine ⟨.ref e, _, laidMany (H' := upd (upd (upd H t (.tup vs)) d (.xd fs)) e (erO e C (some d) t)) I M.keep sm (fun b lt n => ?_) (fun b o z n => ?_), rfl, q _ ⟨some d, t, at_e, at_t, at_d⟩ sm ne⟩
  · rw [upd_ne (Nat.ne_of_lt (Nat.lt_of_lt_of_le lt M.be)), upd_ne (Nat.ne_of_lt (Nat.lt_of_lt_of_le lt M.bd)), upd_ne (Nat.ne_of_lt (Nat.lt_of_lt_of_le lt M.bt))]
    exact n
  · by_cases be : b = e
    · subst be
      rw [at_e] at z
      cases z
      exact erO_ok M.obj
    · by_cases bd : b = d
      · subst bd
        rw [at_d] at z
        cases z
        exact ⟨m, M.ns, hf⟩
      · by_cases bt : b = t
        · subst bt
          rw [at_t] at z
          cases z
          exact ⟨hz, args, r, ⟨_, M.tup, rfl, _, rfl⟩⟩
        · rw [upd_ne be, upd_ne bd, upd_ne bt, n] at z
          cases z
end
theorem rel1 {f : Str} {v : V} {u : Value} (r : RelV v u) (y : Str) : RelO (List.lookup y [(f, v)]) (if y = f then some u else none) := by
  by_cases e : y = f
  · subst e
    simp [List.lookup]
    exact r
  · have e2 : (y == f) = false := by simpa using e
    simp [List.lookup, e, e2]
    trivial
theorem rel2 {f f' : Str} {v v' : V} {u u' : Value} (nf : (f' == f) = false) (r : RelV v u) (r' : RelV v' u') (y : Str) : RelO (List.lookup y [(f, v), (f', v')]) (if y = f' then some u' else if y = f then some u else none) := by
  have n1 : f' ≠ f := PySem.Er.ne_of_beq nf
  by_cases e : y = f
  · subst e
    have n2 : ¬ (y = f') := fun z => n1 z.symm
    simp [List.lookup, n2]
    exact r
  · have e2 : (y == f) = false := by simpa using e
    by_cases e' : y = f'
    · subst e'
      simp [List.lookup, e2]
      exact r'
    · have e3 : (y == f') = false := by simpa using e'
      simp [List.lookup, e, e2, e', e3]
      trivial

section
variable {X : Cx} {C : Addr} {B newId initId : String} {bmB : List Value} {f f' : Str} {x : Str} {p pos : Pos} {a b : Expr} {ta tb : TE}
/-- how the parameters of the two kinds of __init__ are bound -/
abbrev Bd1 (f : Str) (g : Value → List Value × List (Str × Value)) : Prop := ∀ (qual : Str) (p1 p2 q1 q2 q3 q4 : Pos) (kV doc pm : Value) (an : Option Addr) (cdv ct x u : Value),
  bindArgs (PySem.W.fnOf "__init__" qual (PySem.Er.iA1 f p1 p2) (PySem.Er.iB1 f q1 q2 q3 q4) (PySem.Er.iS1 f) .none kV doc pm an cdv ct) ⟨x :: (g u).1, (g u).2⟩ = pure [(("self" : Str), x), (f, u)]
abbrev Bd2 (f f' : Str) (g : Value → Value → List Value × List (Str × Value)) : Prop := ∀ (qual : Str) (p1 p2 p3 q1 q2 q3 q4 r1 r2 r3 r4 : Pos) (kV doc pm : Value) (an : Option Addr) (cdv ct x u u' : Value),
  bindArgs (PySem.W.fnOf "__init__" qual (PySem.Er.iA2 f f' p1 p2 p3) (PySem.Er.iB2 f f' q1 q2 q3 q4 r1 r2 r3 r4) (PySem.Er.iS2 f f') .none kV doc pm an cdv ct) ⟨x :: (g u u').1, (g u u').2⟩ = pure [(("self" : Str), x), (f, u), (f', u')]
abbrev gP1 : Value → List Value × List (Str × Value) := fun u => ([u], [])
abbrev gK1 (f : Str) : Value → List Value × List (Str × Value) := fun u => ([], [(f, u)])
abbrev gP2 : Value → Value → List Value × List (Str × Value) := fun u u' => ([u, u'], [])
abbrev gK2 (f f' : Str) : Value → Value → List Value × List (Str × Value) := fun u u' => ([], [(f', u'), (f, u)])
theorem bd1_value : Bd1 "value" gP1 := by first | (unfold Bd1; intros; first | rfl | with_unfolding_all rfl) | (unfold Bd2; intros; first | rfl | with_unfolding_all rfl)
theorem bd1_position : Bd1 "position" gP1 := by first | (unfold Bd1; intros; first | rfl | with_unfolding_all rfl) | (unfold Bd2; intros; first | rfl | with_unfolding_all rfl)
theorem bd1_name : Bd1 "name" gP1 := by first | (unfold Bd1; intros; first | rfl | with_unfolding_all rfl) | (unfold Bd2; intros; first | rfl | with_unfolding_all rfl)
theorem bd1_line : Bd1 "line" gP1 := by first | (unfold Bd1; intros; first | rfl | with_unfolding_all rfl) | (unfold Bd2; intros; first | rfl | with_unfolding_all rfl)
theorem bk1_value : Bd1 "value" (gK1 "value") := by first | (unfold Bd1; intros; first | rfl | with_unfolding_all rfl) | (unfold Bd2; intros; first | rfl | with_unfolding_all rfl)
theorem bk1_position : Bd1 "position" (gK1 "position") := by first | (unfold Bd1; intros; first | rfl | with_unfolding_all rfl) | (unfold Bd2; intros; first | rfl | with_unfolding_all rfl)
theorem bk1_name : Bd1 "name" (gK1 "name") := by first | (unfold Bd1; intros; first | rfl | with_unfolding_all rfl) | (unfold Bd2; intros; first | rfl | with_unfolding_all rfl)
theorem bk1_line : Bd1 "line" (gK1 "line") := by first | (unfold Bd1; intros; first | rfl | with_unfolding_all rfl) | (unfold Bd2; intros; first | rfl | with_unfolding_all rfl)
theorem bd2_places : Bd2 "position" "places" gP2 := by first | (unfold Bd1; intros; first | rfl | with_unfolding_all rfl) | (unfold Bd2; intros; first | rfl | with_unfolding_all rfl)
theorem bd2_kind : Bd2 "kind" "limit" gP2 := by first | (unfold Bd1; intros; first | rfl | with_unfolding_all rfl) | (unfold Bd2; intros; first | rfl | with_unfolding_all rfl)
theorem bk2_places : Bd2 "position" "places" (gK2 "position" "places") := by first | (unfold Bd1; intros; first | rfl | with_unfolding_all rfl) | (unfold Bd2; intros; first | rfl | with_unfolding_all rfl)
theorem bk2_kind : Bd2 "kind" "limit" (gK2 "kind" "limit") := by first | (unfold Bd1; intros; first | rfl | with_unfolding_all rfl) | (unfold Bd2; intros; first | rfl | with_unfolding_all rfl)
/-- C(a) -/
def tEr1 (C : Addr) (f : Str) (t : TA) : TE := fun σ H Q => t σ H fun vs H1 => ∃ v, vs = [v] ∧ ∀ e H', ErAt H' e C [(f, v)] [v] → Same H1 H' → H1 e = none → Q (.ref e) H'
/-- C(a, b) -/
def tEr2 (C : Addr) (f f' : Str) (t : TA) : TE := fun σ H Q => t σ H fun vs H1 => ∃ v v', vs = [v, v'] ∧ ∀ e H', ErAt H' e C [(f, v), (f', v')] [v, v'] → Same H1 H' → H1 e = none → Q (.ref e) H'
theorem pe_er1 {k : Nat} (c : Cl X.K C B newId initId bmB) (i : In1 X.K C f) (hb : Bd1 f gP1) (hr : Room k X.A) (hg : Gl X x) (hm : X.mg x = some (.ref C)) (ha : PA X [a] (tCons ta tNil))
    (hdb : (x == ("__debug__" : Str)) = false := by decide) (he : starEach [a] X.env = (false, eval a X.env) :: starEach [] X.env := by rfl) (hpl : (backTo pos (starEach [] X.env)).any (·.1) = false := by rfl) :
    PE X (.Call (.Name x p) [a] [] pos) (tEr1 C f (tCons ta tNil)) := by
  refine ⟨fun pins s σ H Q I h => ?_⟩
  refine wpAny_Call_Name_kw (ld_glob I hg hm ?_ hdb)
  refine PySem.W.callWith_K (h₀ := X.base) I.ok.mod.kin c.kC (thn (ha.run pos pins s σ H _ I h) fun us s1 ⟨vs, H1, I1, r, v, ev, q⟩ => ⟨I1.kIn, ?_⟩) he hpl
  subst ev
  obtain ⟨u, rfl, ru⟩ := vals1 r
  show wpAny _ _ (call (.ref C) [u]) _ _ _
  exact wpAny_call (PySem.Er.made1 c i (v := u) I1.kIn I1.nolimit (by have := hr.dp; omega) (by show 1 ≤ sizeLine; rw [sizeLine_eq]; omega) (fun _ ql p1 p2 q1 q2 q3 q4 kv dc pm an cv ct y => .of_eq (hb ql p1 p2 q1 q2 q3 q4 kv dc pm an cv ct y u))
    fun h' tk e d t M => made_inv I1 M r (by show 1 ≤ sizeLine; rw [sizeLine_eq]; omega) (rel1 ru) fun H' z1 z2 z3 => q e H' z1 z2 z3)
theorem pe_er2 {k : Nat} (c : Cl X.K C B newId initId bmB) (i : In2 X.K C f f') (hb : Bd2 f f' gP2) (hr : Room k X.A) (hg : Gl X x) (hm : X.mg x = some (.ref C)) (ha : PA X [a, b] (tCons ta (tCons tb tNil)))
    (hdb : (x == ("__debug__" : Str)) = false := by decide) (he : starEach [a, b] X.env = (false, eval a X.env) :: starEach [b] X.env := by rfl) (hpl : (backTo pos (starEach [b] X.env)).any (·.1) = false := by rfl) :
    PE X (.Call (.Name x p) [a, b] [] pos) (tEr2 C f f' (tCons ta (tCons tb tNil))) := by
  refine ⟨fun pins s σ H Q I h => ?_⟩
  refine wpAny_Call_Name_kw (ld_glob I hg hm ?_ hdb)
  refine PySem.W.callWith_K (h₀ := X.base) I.ok.mod.kin c.kC (thn (ha.run pos pins s σ H _ I h) fun us s1 ⟨vs, H1, I1, r, v, v', ev, q⟩ => ⟨I1.kIn, ?_⟩) he hpl
  subst ev
  obtain ⟨u, u', rfl, ru, ru'⟩ := vals2 r
  show wpAny _ _ (call (.ref C) [u, u']) _ _ _
  exact wpAny_call (PySem.Er.made2 c i (v := u) (v' := u') I1.kIn I1.nolimit (by have := hr.dp; omega) (by show 2 ≤ sizeLine; rw [sizeLine_eq]; omega) (fun _ ql p1 p2 p3 q1 q2 q3 q4 r1 r2 r3 r4 kv dc pm an cv ct y => .of_eq (hb ql p1 p2 p3 q1 q2 q3 q4 r1 r2 r3 r4 kv dc pm an cv ct y u u'))
    fun h' tk e d t M => made_inv I1 M r (by show 2 ≤ sizeLine; rw [sizeLine_eq]; omega) (rel2 i.nf ru ru') fun H' z1 z2 z3 => q e H' z1 z2 z3)
end
end ErL

set_option maxHeartbeats 4000000
namespace PySem
namespace Er
open Sem (wp)
open Builtin Builtin.Str Builtin.BaseException Builtin.Exceptions
open PySem.W (Looks Frag findIn subIn looks_findIn looks_subIn)
theorem text_eq (x : Value) : bexcText "__str__" x = pyStrObj x := by
  cases x <;> rfl
section
variable {prog : Program} {w : World} {M : Model} {A : Around} {E : Value → Shared → Prop} {s : Shared} {K : Frag} {C e t0 : Addr}
theorem bstr_two {u u' : Value} {rest : List Value} {Q : Fin → Shared → Prop} (x : ExcC K C e t0 s.heap) (ht : s.heap.TupAt t0 (u :: u' :: rest))
    (hq : wpAny (model prog w) A (pyStrObj (.ref t0)) (fun v s' => Q (.done (.ret v)) s') E s) :
    wpAny (model prog w) A (Builtin.«BaseException.__str__» ⟨[.ref e], []⟩) Q E s := by
  unfold Builtin.«BaseException.__str__»
  refine wpAny_bind (wpAny_of_eq (a := ((Value.ref e : Value), ([] : List Value))) (by first | rfl | (simp only [slotArgs]; rfl)) ?_)
  refine wpAny_bind (bexcArgs_C x ht ?_)
  show wpAny (model prog w) A (bexcText "__str__" (.ref t0) >>= fun r => ret r) _ _ _
  rw [text_eq]
  refine wpAny_bind (wpAny_mono hq (fun v s' z => ?_) fun _ _ z => z)
  exact wpAny_pure z
theorem bstr_one {u : Value} {Q : Fin → Shared → Prop} (x : ExcC K C e t0 s.heap) (ht : s.heap.TupAt t0 [u])
    (hq : wpAny (model prog w) A (pyStrObj u) (fun v s' => Q (.done (.ret v)) s') E s) :
    wpAny (model prog w) A (Builtin.«BaseException.__str__» ⟨[.ref e], []⟩) Q E s := by
  unfold Builtin.«BaseException.__str__»
  repeat (first
    | with_reducible refine bexcArgs_C x ht ?_
    | (rw [text_eq]; refine wpAny_bind (wpAny_mono hq (fun v s' z => ?_) fun _ _ z => z))
    | wp_step)
  exact z
end
end Er
end PySem
namespace PySem
namespace Er
open Sem (wp)
open Builtin Builtin.Str Builtin.BaseException Builtin.Exceptions
open PySem.W (Looks Frag findIn subIn looks_findIn looks_subIn)
section
variable {prog : Program} {w : World} {M : Model} {A : Around} {E : Value → Shared → Prop} {s : Shared} {K : Frag} {C e t0 : Addr}
/-- a value whose text is told -/
structure Shw (h : Heap) (u : Value) (d : PyData) : Prop where
  rd : ∃ as, Reads h u d as ∧ sysModules ∉ as
  sh : d.showable = true
  dp : d.depth ≤ 20
  sz : d.shown.length ≤ 5000
theorem Shw.keeps {h h' : Heap} {u : Value} {d : PyData} (x : Shw h u d) (k : ∀ b o, h.get? b = some o → h'.get? b = some o) : Shw h' u d := by
  obtain ⟨as, r, n⟩ := x.rd
  exact ⟨⟨as, PyProof.Rows.Reads.keeps k r, n⟩, x.sh, x.dp, x.sz⟩
/-- str of it is some text -/
theorem text_of {u : Value} {d : PyData} {Q : Value → Shared → Prop} (x : Shw s.heap u d) (hg : A.guards = some []) (hu : A.units + 60 < cLine)
    (hq : ∀ y t h' tk, (∀ b o, s.heap.get? b = some o → h'.get? b = some o) → Q (.str y t) { s with heap := h', toks := tk }) : wpAny (model prog w) A (pyStrObj u) Q E s := by
  obtain ⟨⟨as, r, n⟩, sh, dp, sz⟩ := x
  have lz : (5000 : Nat) ≤ sizeLine := by rw [sizeLine_eq]; omega
  cases d with
  | none =>
    cases r
    exact PySem.pyStrObj_none (hq _ _ _ _ fun _ _ z => z)
  | bool b =>
    cases r
    exact PySem.pyStrObj_bool (hq _ _ _ _ fun _ _ z => z)
  | int i =>
    cases r
    exact PySem.pyStrObj_int (of_decide_eq_true sh) (hq _ _ _ _ fun _ _ z => z)
  | str x =>
    cases r
    exact wpAny_pure (hq _ _ _ _ fun _ _ z => z)
  | list xs =>
    obtain ⟨a, rfl⟩ : ∃ a, u = .ref a := by cases r; exact ⟨_, rfl⟩
    exact pyStrObj_of_reads r sh (fun _ => n) hg (by omega) (fun _ _ z => z) (fun h' y tk k => hq _ _ _ _ k) (Nat.le_trans sz lz)
  | tuple xs =>
    obtain ⟨a, rfl⟩ : ∃ a, u = .ref a := by cases r; exact ⟨_, rfl⟩
    exact pyStrObj_of_reads r sh (fun _ => n) hg (by omega) (fun _ _ z => z) (fun h' y tk k => hq _ _ _ _ k) (Nat.le_trans sz lz)
  | dict xs =>
    obtain ⟨a, rfl⟩ : ∃ a, u = .ref a := by cases r; exact ⟨_, rfl⟩
    exact pyStrObj_of_reads r sh (fun _ => n) hg (by omega) (fun _ _ z => z) (fun h' y tk k => hq _ _ _ _ k) (Nat.le_trans sz lz)
end
end Er
end PySem

set_option maxHeartbeats 400000
namespace PySem
namespace Er
open Sem (wp)
open Builtin Builtin.Str Builtin.BaseException Builtin.Exceptions
open PySem.W (Looks Frag findIn subIn looks_findIn looks_subIn)
section
variable {prog : Program} {w : World} {M : Model} {A : Around} {E : Value → Shared → Prop} {s : Shared} {K : Frag} {C e t0 : Addr}
/-- what str(error) leans on -/
structure Str0 (K : Frag) (C e t0 : Addr) (args : List Value) (ds : List PyData) (h : Heap) : Prop where
  at_ : ExcC K C e t0 h
  tup : h.TupAt t0 args
  all : args = [] ∨ (∃ u d, args = [u] ∧ Shw h u d) ∨ ∃ d, 2 ≤ args.length ∧ Shw h (.ref t0) d
theorem strOf_er {args : List Value} {ds : List PyData} (hg : A.guards = some []) (hu : A.units + 62 < cLine) (x : Str0 K C e t0 args ds s.heap)
    (hs : findIn K (.ref C) "__str__" = some (some (.builtin "BaseException.__str__"))) (hB : subIn K (.ref C) (.type "BaseException") = some true) {Q : Value → Shared → Prop}
    (hq : ∀ y t h' tk, (∀ b o, s.heap.get? b = some o → h'.get? b = some o) → Q (.str y t) { s with heap := h', toks := tk }) : wpAny (model prog w) A (strOf (.ref e)) Q E s := by
  have hf : Looks (model prog w) s.heap (typeLookup (.ref C) "__str__") (some (.builtin "BaseException.__str__")) := looks_findIn x.at_.1 hs
  have hb : wpAny (model prog w) A.in1 (Builtin.«BaseException.__str__» ⟨[.ref e], []⟩) (fun fin s' => ∃ v, fin = .done (.ret v) ∧ ∃ y t h' tk, v = .str y t ∧ s' = { s with heap := h', toks := tk } ∧ ∀ b o, s.heap.get? b = some o → h'.get? b = some o) E s := by
    rcases x.all with rfl | ⟨u, d, rfl, z⟩ | ⟨d, l, z⟩
    · exact bexcStr_C_none x.at_ x.tup ⟨_, rfl, _, _, _, _, rfl, rfl, fun _ _ z => z⟩
    · exact bstr_one x.at_ x.tup (text_of (A := A.in1) z hg (by show A.units + 1 + 60 < cLine; omega) fun y t h' tk k => ⟨_, rfl, y, t, h', tk, rfl, rfl, k⟩)
    · obtain ⟨u, u', rest, rfl⟩ : ∃ u u' rest, args = u :: u' :: rest := by
        cases args with
        | nil => exact absurd l (Nat.not_succ_le_zero 1)
        | cons u r =>
          cases r with
          | nil => exact absurd (Nat.le_of_succ_le_succ l) (Nat.not_succ_le_zero 0)
          | cons u' rest => exact ⟨u, u', rest, rfl⟩
      exact bstr_two x.at_ x.tup (text_of (A := A.in1) z hg (by show A.units + 1 + 60 < cLine; omega) fun y t h' tk k => ⟨_, rfl, y, t, h', tk, rfl, rfl, k⟩)
  have hu0 : A.units < cLine := by omega
  have hc : wpAny (model prog w) A (call (.builtin "BaseException.__str__") [.ref e]) (fun v s' => ∃ y t h' tk, v = .str y t ∧ s' = { s with heap := h', toks := tk } ∧ ∀ b o, s.heap.get? b = some o → h'.get? b = some o) E s := by
    refine call_bexcStr_C x.at_ hB (wpAny_mono hb (fun fin s' z => ?_) fun _ _ z => z)
    exact z
  clear hb
  unfold strOf
  rw [show isExactStr (.ref e) = false from rfl]
  refine wpAny_bind (m := cRoomFor _ _) (wpAny_cRoomFor hu0 ?_)
  refine wpAny_bind (m := callSpecial? (.ref e) (Str.ofString "__str__")) (callSpecial_C x.at_.LT hf (F.excStr_Exception.str.bind _) (wpAny_mono hc (fun v s' z => ?_) fun _ _ z => z))
  obtain ⟨y, t, h', tk, rfl, rfl, k⟩ := z
  exact wpAny_pure (hq y t h' tk k)
theorem str_of_er {args : List Value} {ds : List PyData} (hg : A.guards = some []) (hu : A.units + 64 < cLine) (x : Str0 K C e t0 args ds s.heap)
    (hs : findIn K (.ref C) "__str__" = some (some (.builtin "BaseException.__str__"))) (hB : subIn K (.ref C) (.type "BaseException") = some true) {Q : Value → Shared → Prop}
    (hq : ∀ y t h' tk, (∀ b o, s.heap.get? b = some o → h'.get? b = some o) → Q (.str y t) { s with heap := h', toks := tk }) : wpAny (model prog w) A (call (.type "str") [.ref e]) Q E s :=
  callType_new F.called_str (by decide) (F.typeCall_str_1 _) (F.newCall_str_1 _) (fun obj => F.args_object_init_2 obj _) F.entry_str_new
    (meets_str_new (S := fun A' R s' => A'.guards = some [] ∧ A'.units + 63 < cLine ∧ Str0 K C e t0 args ds s'.heap ∧
        ∀ y t h' tk, (∀ b o, s'.heap.get? b = some o → h'.get? b = some o) → R (.ok (.ret (.str y t))) { s' with heap := h', toks := tk })
      fun _ _ A' _ _ h => strOf_er (A := A'.in1) h.1 (by show A'.units + 1 + 62 < cLine; have := h.2.1; omega) h.2.2.1 hs hB h.2.2.2)
    ⟨hg, (show A.units + 1 + 63 < cLine by omega), x, fun y t h' tk k => ⟨typeIs_str _ _ _, hq y t h' tk k⟩⟩
end
end Er
end PySem

set_option maxHeartbeats 1000000
namespace ErL
open PySem PySem.Spec PyProof.Rows L2
open PySem.Er (Made Cl In1 In2 Shw)
/-! ### data that stand in the abstract heap -/
mutual
inductive Dq (H : Hp) : V → PyData → Prop
  | non : Dq H .non .none
  | bl (b : Bool) : Dq H (.bl b) (.bool b)
  | int (i : Int) : Dq H (.int i) (.int i)
  | str (x : Str) : Dq H (.str x) (.str x)
  | lst {a : Addr} {xs : List V} {ds : List PyData} : H a = some (.lst xs) → DqAll H xs ds → Dq H (.ref a) (.list ds)
  | tup {a : Addr} {xs : List V} {ds : List PyData} : H a = some (.tup xs) → DqAll H xs ds → Dq H (.ref a) (.tuple ds)
  | dct {a : Addr} {kvs : List (Key × V)} {ps : List (PyData × PyData)} : H a = some (.dK kvs) → DqKv H kvs ps → Dq H (.ref a) (.dict ps)
inductive DqAll (H : Hp) : List V → List PyData → Prop
  | nil : DqAll H [] []
  | cons {v : V} {vs : List V} {d : PyData} {ds : List PyData} : Dq H v d → DqAll H vs ds → DqAll H (v :: vs) (d :: ds)
inductive DqKv (H : Hp) : List (Key × V) → List (PyData × PyData) → Prop
  | nil : DqKv H [] []
  | cons {x : Str} {v : V} {kvs : List (Key × V)} {d : PyData} {ps : List (PyData × PyData)} : Dq H v d → DqKv H kvs ps → DqKv H ((.inr x, v) :: kvs) ((.str x, d) :: ps)
end
mutual
theorem Dq.same {H H' : Hp} (s : Same H H') : ∀ {v : V} {d : PyData}, Dq H v d → Dq H' v d
  | _, _, .non => .non
  | _, _, .bl b => .bl b
  | _, _, .int i => .int i
  | _, _, .str x => .str x
  | _, _, .lst e a => .lst (s _ _ e) (DqAll.same s a)
  | _, _, .tup e a => .tup (s _ _ e) (DqAll.same s a)
  | _, _, .dct e a => .dct (s _ _ e) (DqKv.same s a)
theorem DqAll.same {H H' : Hp} (s : Same H H') : ∀ {vs : List V} {ds : List PyData}, DqAll H vs ds → DqAll H' vs ds
  | _, _, .nil => .nil
  | _, _, .cons a b => .cons (Dq.same s a) (DqAll.same s b)
theorem DqKv.same {H H' : Hp} (s : Same H H') : ∀ {kvs : List (Key × V)} {ps : List (PyData × PyData)}, DqKv H kvs ps → DqKv H' kvs ps
  | _, _, .nil => .nil
  | _, _, .cons a b => .cons (Dq.same s a) (DqKv.same s b)
end
section
variable {X : Cx} {pins : List (Addr × Obj)} {σ : L2.St} {H : Hp} {s : Shared}
/-- read at the heap; the addresses are tracked -/
def Rds (H : Hp) (h : Heap) (u : Value) (d : PyData) : Prop := ∃ as, Reads h u d as ∧ ∀ b ∈ as, ∃ o, H b = some o
def RdsAll (H : Hp) (h : Heap) (us : List Value) (ds : List PyData) : Prop := ∃ as, ReadsAll h us ds as ∧ ∀ b ∈ as, ∃ o, H b = some o
mutual
theorem Dq.reads (I : Inv X pins σ H s) : ∀ {v : V} {d : PyData} {u : Value}, Dq H v d → RelV v u → Rds H s.heap u d
  | _, _, _, .non, r => by
    cases r
    exact ⟨_, Reads.none, fun b z => nomatch z⟩
  | _, _, _, .bl b, r => by
    cases r
    exact ⟨_, Reads.bool b, fun b z => nomatch z⟩
  | _, _, _, .int i, r => by
    obtain ⟨t, rfl⟩ := r
    exact ⟨_, Reads.int i t, fun b z => nomatch z⟩
  | _, _, _, .str x, r => by
    obtain ⟨t, rfl⟩ := r
    exact ⟨_, Reads.str x t, fun b z => nomatch z⟩
  | _, _, _, .lst (a := a) (xs := xs) e q, r => by
    cases r
    obtain ⟨_, its, n, rv, ho⟩ := (show ObjOk X.prog X.w H s.heap a (.lst xs) from I.hok a _ e)
    obtain ⟨as, ra, ta⟩ := DqAll.reads I q rv
    refine ⟨_, Reads.list ho rfl rfl ra, fun b z => ?_⟩
    rcases List.mem_cons.mp z with rfl | z
    · exact ⟨_, e⟩
    · exact ta b z
  | _, _, _, .tup (a := a) (xs := xs) e q, r => by
    cases r
    obtain ⟨_, its, rv, o, ho, hc, n, hd⟩ := (show ObjOk X.prog X.w H s.heap a (.tup xs) from I.hok a _ e)
    obtain ⟨as, ra, ta⟩ := DqAll.reads I q rv
    exact ⟨_, Reads.tuple ho hc hd ra, ta⟩
  | _, _, _, .dct (a := a) (kvs := kvs) e q, r => by
    cases r
    obtain ⟨_, _, vs, rv, o, es, ep, ho, hx, hd, _, hp, _⟩ := (show ObjOk X.prog X.w H s.heap a (.dK kvs) from I.hok a _ e)
    obtain ⟨⟨as, ra, ta⟩, ⟨bs, rb, tb⟩⟩ := DqKv.reads I q rv hp
    refine ⟨_, Reads.dict ho hx.1 hd ra rb, fun b z => ?_⟩
    rcases List.mem_append.mp z with z | z
    · rcases List.mem_cons.mp z with rfl | z
      · exact ⟨_, e⟩
      · exact ta b z
    · exact tb b z
theorem DqAll.reads (I : Inv X pins σ H s) : ∀ {vs : List V} {ds : List PyData} {us : List Value}, DqAll H vs ds → Vals vs us → RdsAll H s.heap us ds
  | _, _, _, .nil, r => by
    cases r
    exact ⟨_, ReadsAll.nil, fun b z => nomatch z⟩
  | _, _, _, .cons a b, r => by
    cases r with
    | cons r1 r2 =>
      obtain ⟨as, x1, t1⟩ := Dq.reads I a r1
      obtain ⟨bs, x2, t2⟩ := DqAll.reads I b r2
      exact ⟨_, ReadsAll.cons x1 x2, fun c z => (List.mem_append.mp z).elim (t1 c) (t2 c)⟩
theorem DqKv.reads (I : Inv X pins σ H s) : ∀ {kvs : List (Key × V)} {ps : List (PyData × PyData)} {vs : List (Key × Value)} {es : List DictEntry}, DqKv H kvs ps → KV kvs vs → Pairs (mixKind X.prog X.w) es vs →
    RdsAll H s.heap (es.map (·.key)) (ps.map (·.1)) ∧ RdsAll H s.heap (es.map (·.val)) (ps.map (·.2))
  | _, _, _, _, .nil, r, p => by
    cases r
    cases p
    exact ⟨⟨_, ReadsAll.nil, fun b z => nomatch z⟩, ⟨_, ReadsAll.nil, fun b z => nomatch z⟩⟩
  | _, _, _, _, .cons (x := x) a b, r, p => by
    cases r with
    | cons r1 r2 =>
      cases p with
      | cons p1 p2 p3 =>
        rename_i kv0 vs0 en es0
        obtain ⟨k0, v0⟩ := kv0
        obtain ⟨ek, ev⟩ := r1
        dsimp only at ek ev p1 p2
        subst ek
        obtain ⟨⟨as, x1, t1⟩, ⟨bs, x2, t2⟩⟩ := DqKv.reads I b r2 p3
        obtain ⟨cs, x3, t3⟩ := Dq.reads I a ev
        rcases keyIs_shape (show keyIs (.inr x) en.key = true from p1) with ⟨i, t, z, _⟩ | ⟨y, t, z, ey⟩
        · cases z
        · cases z
          refine ⟨⟨[] ++ as, ?_, fun c z => t1 c (by simpa using z)⟩, ⟨cs ++ bs, ?_, fun c z => (List.mem_append.mp z).elim (t3 c) (t2 c)⟩⟩
          · show ReadsAll s.heap (en.key :: _) (PyData.str x :: _) _
            rw [ey]
            exact ReadsAll.cons (Reads.str x t) x1
          · show ReadsAll s.heap (en.val :: _) (_ :: _) _
            rw [p2]
            exact ReadsAll.cons x3 x2
end
/-- the module of modules stands in the written part -/
def SysIn (K : PySem.W.Frag) : Prop := ∃ o, K.lookup sysModules = some o
/-- small enough to be shown -/
structure Ok (d : PyData) : Prop where
  sh : d.showable = true
  dp : d.depth ≤ 20
  sz : d.shown.length ≤ 5000
theorem Dq.shw (I : Inv X pins σ H s) (y : SysIn X.K) {v : V} {d : PyData} {u : Value} (q : Dq H v d) (r : RelV v u) (k : Ok d) : Shw s.heap u d := by
  obtain ⟨as, ra, ta⟩ := q.reads I r
  obtain ⟨o, ho⟩ := y
  refine ⟨⟨as, ra, fun z => ?_⟩, k.sh, k.dp, k.sz⟩
  obtain ⟨o', e⟩ := ta _ z
  have n := (I.bs _ o (I.ok.mod.kin _ _ ho)).2
  rw [n] at e
  cases e
end
end ErL

set_option maxHeartbeats 1000000
namespace ErL
open PySem PySem.Spec PyProof.Rows L2
open PySem.Er (Made Cl In1 In2 Shw)
/-- what isinstance, a field's reading and str ask of an error's class -/
structure Asks (K : PySem.W.Frag) (C : Addr) : Prop where
  cl : (PySem.W.clsIn K C).isSome = true
  hd : PySem.W.hasDictIn K C = true
  ga : PySem.W.findIn K (.ref C) "__getattribute__" = some (some (.builtin "BaseException.__getattribute__"))
  gg : PySem.W.findIn K (.ref C) "__getattr__" = some none
  ex : PySem.W.subIn K (.ref C) (.type "BaseException") = some true
  cs : PySem.W.findIn K (.ref C) "__class__" = some (some (.builtin "object.__class__"))
  gs : PySem.W.specialIn K (.builtin "object.__class__") "__get__" = some (some (.builtin "getset_descriptor.__get__"))
  tk : PySem.W.takesIn K (.builtin "object.__class__") = some true
  mo : PySem.W.mroIn K C (.type "object") = some true
  st : PySem.W.findIn K (.ref C) "__str__" = some (some (.builtin "BaseException.__str__"))
section
variable {X : Cx} {pins : List (Addr × Obj)} {σ : L2.St} {H : Hp} {s : Shared} {e C : Addr} {fs : List (Str × V)} {args : List V}
theorem er_inst (I : Inv X pins σ H s) (x : ErAt H e C fs args) : ∃ (ox : Obj) (od : Option Obj), PySem.W.InstAt s.heap e ox C od ∧
    ∀ f v, fs.lookup f = some v → ∃ d u, od = some d ∧ PySem.W.lookIn f d = some (some u) ∧ RelV v u := by
  obtain ⟨d, t, h1, h2, h3⟩ := x
  have q : s.heap.get? e = some ({ cls := .ref C, dict := d, data := .fields #[.ref t, .none, .none, .none, .bool false, .none] } : Obj) := (show ObjOk X.prog X.w H s.heap e (erO e C d t) from I.hok e _ h1).1
  cases d with
  | none =>
    refine ⟨_, none, ⟨q, rfl, rfl, trivial⟩, fun f v z => ?_⟩
    have h3' : fs = [] := h3
    rw [h3'] at z
    cases z
  | some dx =>
    obtain ⟨mA, hns, rel⟩ := (show ObjOk X.prog X.w H s.heap dx (.xd fs) from I.hok dx _ h3)
    obtain ⟨od, ho, hl⟩ := lookIn_ns hns
    refine ⟨_, some od, ⟨q, rfl, rfl, ho⟩, fun f v z => ?_⟩
    obtain ⟨u, hu, ru⟩ := RelO.some_of (v := v) (o := mA f) (by rw [← z]; exact rel f)
    exact ⟨od, u, rfl, by rw [hl, hu], ru⟩
theorem er_exc (I : Inv X pins σ H s) (x : ErAt H e C fs args) : ∃ (t : Addr) (us : List Value), H t = some (.tup args) ∧ PySem.ExcC X.K C e t s.heap ∧ s.heap.TupAt t us ∧ Vals args us := by
  obtain ⟨d, t, h1, h2, h3⟩ := x
  have q : s.heap.get? e = some ({ cls := .ref C, dict := d, data := .fields #[.ref t, .none, .none, .none, .bool false, .none] } : Obj) := (show ObjOk X.prog X.w H s.heap e (erO e C d t) from I.hok e _ h1).1
  obtain ⟨_, us, rv, o, ho, hc, n, hd⟩ := (show ObjOk X.prog X.w H s.heap t (.tup args) from I.hok t _ h2)
  exact ⟨t, us, h2, ⟨I.kIn, _, _, q, rfl, rfl, rfl⟩, ⟨o, n, ho, hc, hd⟩, rv⟩
end
section
variable {X : Cx} {f : Str} {te : TE} {pos : Pos} {e : Expr}
/-- e.f of an error -/
def tErF (K : PySem.W.Frag) (f : Str) (te : TE) : TE := fun σ H Q => te σ H fun x H1 => ∃ a C fs args v, x = .ref a ∧ ErAt H1 a C fs args ∧ Asks K C ∧ PySem.W.findIn K (.ref C) f = some none ∧ fs.lookup f = some v ∧ Q v H1
theorem pe_erF (he : PE X e te) (hb : attributeBase e f X.env (eval e X.env) = eval e X.env := by rfl) : PE X (.Attribute e f pos) (tErF X.K f te) := by
  refine ⟨fun pins s σ H Q I h => ?_⟩
  refine attr_of hb (thn (he.run pins s σ H _ I h) fun u s1 hh => ?_)
  obtain ⟨x, H1, I1, rx, a, C, fs, args, v, rfl, hx, A, hn, hl, q⟩ := hh
  obtain rfl : u = Value.ref a := rx
  obtain ⟨ox, od, J, hf⟩ := er_inst I1 hx
  obtain ⟨d, w, rfl, l, rw⟩ := hf f v hl
  exact PySem.PX.exc_get I1.kIn J A.ga A.gg A.ex (PySem.W.findObj_own A.hd hn rfl l) (handed_of rw) ⟨v, H1, I1.tok _, rw, q⟩
/-- isinstance(e, c), e an error -/
def rIsEr (K : PySem.W.Frag) : List V → Hp → VK → Prop := fun xs H Q => ∃ a C fs args c cv b, xs = [.ref a, c] ∧ ErAt H a C fs args ∧ Asks K C ∧ (∀ u, RelV c u → u = cv) ∧ PySem.W.kitOne K (.ref C) cv = some b ∧ Q (.bl b) H
theorem call_isEr : CallR X (.builtin "isinstance") (rIsEr X.K) := by
  intro pins s σ H xs us Q I r h
  obtain ⟨a, C, fs, args, c, cv, b, rfl, hx, A, hc, e, q⟩ := h
  obtain ⟨u, u', rfl, ru, ru'⟩ := vals2 r
  obtain rfl : u = Value.ref a := ru
  obtain rfl := hc _ ru'
  obtain ⟨ox, od, J, _⟩ := er_inst I hx
  exact PySem.W.kia_one (PySem.W.kitx_exc A.cl A.ga A.gg A.ex A.cs A.gs A.tk A.mo) I.kIn J e (fun z => nomatch z) fun tk => ⟨.bl b, H, I.kept (t' := tk) fun _ _ z => z, rfl, q⟩
/-- str(e), e an error -/
def rStrEr (K : PySem.W.Frag) : List V → Hp → VK → Prop := fun xs H Q => ∃ a C fs args ds, xs = [.ref a] ∧ ErAt H a C fs args ∧ Asks K C ∧ DqAll H args ds ∧
    (∀ d ∈ ds, Ok d) ∧ Ok (.tuple ds) ∧ ∀ z, Q (.str z) H
theorem call_strEr (hu : X.A.units + 70 < cLine) (hg : X.A.guards = some []) (y : SysIn X.K) : CallR X (.type "str") (rStrEr X.K) := by
  intro pins s σ H xs us Q I r h
  obtain ⟨a, C, fs, args, ds, rfl, hx, A, hd, ok1, ok2, q⟩ := h
  obtain ⟨u, rfl, ru⟩ := vals1 r
  obtain rfl : u = Value.ref a := ru
  obtain ⟨t, vs, ht, hE, hT, rv⟩ := er_exc I hx
  refine PySem.Er.str_of_er (args := vs) (ds := ds) hg (by omega) ⟨hE, hT, ?_⟩ A.st A.ex fun y t h' tk k => ⟨.str y, H, I.kept k, ⟨t, rfl⟩, q y⟩
  cases hd with
  | nil =>
    cases rv
    exact .inl rfl
  | cons d1 d2 =>
    rename_i v vs' d ds'
    cases d2 with
    | nil =>
      cases rv with
      | cons r1 r2 =>
        cases r2
        exact .inr (.inl ⟨_, d, rfl, d1.shw I y r1 (ok1 d List.mem_cons_self)⟩)
    | cons d3 d4 =>
      cases rv with
      | cons r1 r2 =>
        cases r2 with
        | cons r3 r4 =>
          refine .inr (.inr ⟨_, by show 2 ≤ _; simp, Dq.shw I y (Dq.tup ht (.cons d1 (.cons d3 d4))) rfl ok2⟩)
/-- repr(x), x data -/
def rReprD : List V → Hp → VK → Prop := fun xs H Q => ∃ a d, xs = [.ref a] ∧ Dq H (.ref a) d ∧ Ok d ∧ Q (.str d.shown) H
theorem call_reprD (hu : X.A.units + 70 < cLine) (hg : X.A.guards = some []) (y : SysIn X.K) : CallR X (.builtin "repr") rReprD := by
  intro pins s σ H xs us Q I r h
  obtain ⟨a, d, rfl, hd, ok, q⟩ := h
  obtain ⟨u, rfl, ru⟩ := vals1 r
  obtain rfl : u = Value.ref a := ru
  obtain ⟨⟨as, ra, n⟩, sh, dp, sz⟩ := hd.shw I y (u := .ref a) rfl ok
  exact repr_of_reads' ra sh (fun _ => n) hg (by omega) (fun _ _ z => z) (fun h' t tk k => ⟨.str d.shown, H, I.kept k, ⟨t, rfl⟩, q⟩) (Nat.le_trans sz (by rw [sizeLine_eq]; omega))
end
end ErL

set_option maxHeartbeats 1000000
namespace ErL
open PySem PySem.Spec PyProof.Rows L2
open PySem.Er (Made Cl In1 In2 Shw)
section
variable {X : Cx} {pins : List (Addr × Obj)} {σ : L2.St} {H : Hp} {s : Shared} {h' : Heap} {t' : Nat}
theorem laidMany2 {H' : Hp} (I : Inv X pins σ H s) (k : ∀ b o, s.heap.get? b = some o → h'.get? b = some o) (sm : Same H H') (fr : ∀ b o, s.heap.get? b = some o → H b = none → H' b = none)
    (new : ∀ b o, H' b = some o → H b = none → ObjOk X.prog X.w H' h' b o) : Inv X pins σ H' { s with heap := h', toks := t' } := by
  refine I.un ⟨fun b o q _ _ _ => k b o q, fun b o q _ _ _ => ⟨o.slots, k b o q⟩, fun b o q n _ => fr b o q n, fun b o q _ => ⟨o, k b o q⟩, fun b xs q => sm _ _ q, fun b o u q => sm _ _ q, fun b ps q => ⟨#[], by rw [sm _ _ q]; simp⟩⟩ ?_
  intro b o q
  cases e : H b with
  | none => exact new b o q e
  | some o' =>
    have q2 := sm _ _ e
    rw [q] at q2
    cases q2
    exact (I.hok b o e).stay (fun c v _ z => k c v z) (fun c z => sm _ _ z) fun c xs z => sm _ _ z
end
section
variable {X : Cx} {C : Addr} {B newId initId : String} {bmB : List Value} {f f' : Str} {x : Str} {p pos : Pos} {a b : Expr} {ta tb : TE} {kp1 kp2 : Pos}
/-- C(), a class without an __init__ of its own -/
def tEr0 (C : Addr) : TE := fun _ H Q => ∀ e H', ErAt H' e C [] [] → Same H H' → H e = none → Q (.ref e) H'
theorem pe_er0 (F : ExcBaseFacts B newId initId bmB) (q : PySem.W.excIn X.K C bmB newId = true) (kC : PySem.W.keepIn X.K (.ref C) = true) (hg : Gl X x) (hm : X.mg x = some (.ref C)) (hdb : (x == ("__debug__" : Str)) = false := by decide) :
    PE X (.Call (.Name x p) [] [] pos) (tEr0 C) := by
  refine ⟨fun pins s σ H Q I h => ?_⟩
  refine wpAny_Call_Name_kw (ld_glob I hg hm ?_ hdb)
  refine PySem.W.callWith_K0 I.kIn kC ?_
  show wpAny _ _ (call (.ref C) []) _ _ _
  obtain ⟨bm, N, nm, qn, bs, hdct, sn, sub, ab, col, dd, k0, k1, k2, k3, k5, mN, hC, hN, hni, T⟩ := exc_obj I.kIn q
  obtain ⟨hp, g, dr, tk, os⟩ := s
  refine wpAny_call_exc_subT F T hC hN hni (fun h' e hm => ?_) (by show 0 ≤ sizeLine; omega)
  obtain ⟨t, ht, nt0, htup⟩ := hm.there
  have ne : H e = none := I.hok.gone hm.new
  have nt : H t = none := I.hok.gone nt0
  have te : t ≠ e := fun z => by
    subst z
    rw [ht] at htup
    cases htup
  have sm : Same H (upd (upd H t (.tup [])) e (erO e C none t)) := fun b o z => by
    rw [upd_ne (ne_of_none z ne), upd_ne (ne_of_none z nt)]
    exact z
  have at_e : (upd (upd H t (.tup [])) e (erO e C none t)) e = some (erO e C none t) := upd_same
  have at_t : (upd (upd H t (.tup [])) e (erO e C none t)) t = some (.tup []) := by rw [upd_ne te, upd_same]
  refine ⟨.ref e, _, laidMany2 (H' := upd (upd H t (.tup [])) e (erO e C none t)) I hm.keeps sm (fun b o z n => ?_) (fun b o z n => ?_), rfl, h e _ ⟨none, t, at_e, at_t, rfl⟩ sm ne⟩
  · rw [upd_ne (fun y => by rw [y, hm.new] at z; cases z), upd_ne (fun y => by rw [y, nt0] at z; cases z)]
    exact n
  · by_cases be : b = e
    · subst be
      rw [at_e] at z
      cases z
      exact erO_ok ht
    · by_cases bt : b = t
      · subst bt
        rw [at_t] at z
        cases z
        exact ⟨by show 0 ≤ sizeLine; omega, [], .nil, ⟨_, htup, rfl, _, rfl⟩⟩
      · rw [upd_ne be, upd_ne bt, n] at z
        cases z
/-- C(f = a) -/
def tErK1 (C : Addr) (f : Str) (t : TA) : TE := fun σ H Q => t σ H fun vs H1 => ∃ v, vs = [v] ∧ ∀ e H', ErAt H' e C [(f, v)] [] → Same H1 H' → H1 e = none → Q (.ref e) H'
theorem pe_erK1 {k : Nat} (c : Cl X.K C B newId initId bmB) (i : In1 X.K C f) (hb : Bd1 f (gK1 f)) (hr : Room k X.A) (hg : Gl X x) (hm : X.mg x = some (.ref C)) (ha : PK X [⟨some f, a, kp1⟩] (tCons ta tNil))
    (hdb : (x == ("__debug__" : Str)) = false := by decide) (hall : (backToKw pos (keywordEach [⟨some f, a, kp1⟩] X.env)).all (·.1.isSome) = true := by rfl) (hks : (backToKw pos (keywordEach [⟨some f, a, kp1⟩] X.env)).filterMap (·.1) = [f] := by rfl)
    (hpl : ((backTo pos (starEach [] X.env)).any (·.1) || (backToKw pos (keywordEach [⟨some f, a, kp1⟩] X.env)).any (·.1.isNone)) = false := by rfl) :
    PE X (.Call (.Name x p) [] [⟨some f, a, kp1⟩] pos) (tErK1 C f (tCons ta tNil)) := by
  refine ⟨fun pins s σ H Q I h => ?_⟩
  refine wpAny_Call_Name_kw (ld_glob I hg hm ?_ hdb)
  refine PySem.W.callWith_KW0 (h₀ := X.base) I.ok.mod.kin c.kC hall ?_ hpl
  refine thn (ha.run pos pins s σ H _ I h) fun ws s1 ⟨zs, H1, I1, rz, v, ev, q⟩ => ⟨I1.kIn, ?_⟩
  subst ev
  obtain ⟨u, rfl, ru⟩ := vals1 rz
  rw [hks]
  show wpAny _ _ (call (.ref C) [] [(f, u)]) _ _ _
  exact wpAny_call (PySem.Er.made1 c i (v := u) I1.kIn I1.nolimit (by have := hr.dp; omega) (by show 0 ≤ sizeLine; omega) (fun _ ql p1 p2 q1 q2 q3 q4 kv dc pm an cv ct y => .of_eq (hb ql p1 p2 q1 q2 q3 q4 kv dc pm an cv ct y u))
    fun h' tk e d t M => made_inv (vs := []) I1 M .nil (by show 0 ≤ sizeLine; omega) (rel1 ru) fun H' z1 z2 z3 => q e H' z1 z2 z3)
/-- C(f' = a, f = b): the second parameter first -/
def tErK2 (C : Addr) (f f' : Str) (t : TA) : TE := fun σ H Q => t σ H fun vs H1 => ∃ v v', vs = [v', v] ∧ ∀ e H', ErAt H' e C [(f, v), (f', v')] [] → Same H1 H' → H1 e = none → Q (.ref e) H'
theorem pe_erK2 {k : Nat} (c : Cl X.K C B newId initId bmB) (i : In2 X.K C f f') (hb : Bd2 f f' (gK2 f f')) (hr : Room k X.A) (hg : Gl X x) (hm : X.mg x = some (.ref C)) (ha : PK X [⟨some f', a, kp1⟩, ⟨some f, b, kp2⟩] (tCons ta (tCons tb tNil)))
    (hdb : (x == ("__debug__" : Str)) = false := by decide) (hall : (backToKw pos (keywordEach [⟨some f', a, kp1⟩, ⟨some f, b, kp2⟩] X.env)).all (·.1.isSome) = true := by rfl)
    (hks : (backToKw pos (keywordEach [⟨some f', a, kp1⟩, ⟨some f, b, kp2⟩] X.env)).filterMap (·.1) = [f', f] := by rfl)
    (hpl : ((backTo pos (starEach [] X.env)).any (·.1) || (backToKw pos (keywordEach [⟨some f', a, kp1⟩, ⟨some f, b, kp2⟩] X.env)).any (·.1.isNone)) = false := by rfl) :
    PE X (.Call (.Name x p) [] [⟨some f', a, kp1⟩, ⟨some f, b, kp2⟩] pos) (tErK2 C f f' (tCons ta (tCons tb tNil))) := by
  refine ⟨fun pins s σ H Q I h => ?_⟩
  refine wpAny_Call_Name_kw (ld_glob I hg hm ?_ hdb)
  refine PySem.W.callWith_KW0 (h₀ := X.base) I.ok.mod.kin c.kC hall ?_ hpl
  refine thn (ha.run pos pins s σ H _ I h) fun ws s1 ⟨zs, H1, I1, rz, v, v', ev, q⟩ => ⟨I1.kIn, ?_⟩
  subst ev
  obtain ⟨u', u, rfl, ru', ru⟩ := vals2 rz
  rw [hks]
  show wpAny _ _ (call (.ref C) [] [(f', u'), (f, u)]) _ _ _
  exact wpAny_call (PySem.Er.made2 c i (v := u) (v' := u') I1.kIn I1.nolimit (by have := hr.dp; omega) (by show 0 ≤ sizeLine; omega) (fun _ ql p1 p2 p3 q1 q2 q3 q4 r1 r2 r3 r4 kv dc pm an cv ct y => .of_eq (hb ql p1 p2 p3 q1 q2 q3 q4 r1 r2 r3 r4 kv dc pm an cv ct y u u'))
    fun h' tk e d t M => made_inv (vs := []) I1 M .nil (by show 0 ≤ sizeLine; omega) (rel2 i.nf ru ru') fun H' z1 z2 z3 => q e H' z1 z2 z3)
end
end ErL

set_option maxHeartbeats 1000000
namespace ErL
open PySem PySem.Spec PyProof.Rows L2
theorem guards_deeper {A : Around} {env : Env} (h : A.guards = some []) : (A.deeper env).guards = some [] := by
  first | exact h | (simpa [Around.deeper, pushGuards] using h)
/-- a promise without exceptions: the arguments, the heap, what follows -/
abbrev SpG := List V → Hp → VK → Prop
/-- a def keeps its promise wherever nothing is being shown -/
structure FnG (P : Program) (w : World) (K : PySem.W.Frag) (mg : Str → Option Value) (base : Heap) (k : Nat) (f : Addr) (fd : FuncData) (ps : List Str) (sp : SpG) : Prop where
  len : ∀ vs H Q, sp vs H Q → vs.length = ps.length
  run : ∀ (A : Around) (outer : List Env) (s : Shared) (H : Hp) (args : Args) (us : List Value) (vs : List V) (Q : VK), Room k A → A.guards = some [] →
    Env0 P w K mg base A outer s H → BindsTo s fd args (ps.zip us) → Vals vs us → sp vs H Q → codeAny (model P w) A (.call (.ref f) args) (CR CX0 outer P w H s Q E0) s

section
variable {P : Program} {w : World} {K : PySem.W.Frag} {mg : Str → Option Value} {base : Heap} {k : Nat} {f : Addr} {ps N : List Str} {sp : SpG}
theorem fnG_mk {x qual : Str} {st : Stmt} {fd : FuncData} (F : Fun K x qual st f fd) (S : FnScope N ps (defScope st)) (len : ∀ vs H Q, sp vs H Q → vs.length = ps.length)
    (hbody : ∀ (cdv : Value) (A : Around) (outer : List Env) (s : Shared) (H : Hp) (vs : List V) (Q : VK), Room k (A.deeper (envOfC qual (defScope st) s.heap.objs.size f cdv)) →
      (A.deeper (envOfC qual (defScope st) s.heap.objs.size f cdv)).guards = some [] → sp vs H Q →
      ∃ t, PSs (cxOf CX0 P w K mg base N qual (defScope st) f cdv A outer s H E0).nox (defBody st) t ∧ t { nx := fun _ H' => Q .non H', rt := Q } (start N vs) H) :
    FnG P w K mg base (k + 1) f fd ps sp := by
  obtain ⟨oc, od, kV, doc, pm, an, cdv, ct, osl, rfl, lk, hcd⟩ := F.ex
  refine ⟨len, fun A outer s H args us vs Q hr hg e0 hb r hsp => ?_⟩
  have hl := len _ _ _ hsp
  have KX : K.In s.heap := e0.mod.kin.keeps fun b o e => (e0.bs b o e).1
  have lim : s.heap.NoLimit := e0.mod.nolimit.keeps fun b o e => (e0.bs b o e).1
  have kinds : ∀ y ∈ ps.zip us, (defScope st).names.lookup y.1 = some .local ∨
      ((defScope st).names.lookup y.1 = some .cell ∧ ((cellsFrom (s.heap.objs.size + 1) (defScope st).names []).lookup y.1).isSome = true) := by
    rintro ⟨n, v⟩ hy
    rcases S.par n (List.of_mem_zip hy).1 with q | q
    · exact .inl q
    · exact .inr ⟨q, PySem.W.cellsFrom_some _ _ _ (.inl q)⟩
  refine codeAny_call_function hr.depth (KX _ _ lk) rfl S.co S.gen rfl (PySem.W.codeRec_of KX hcd) (hb _ _ _ _ ?_)
  refine wpAny_newFunctionEnv_cells S.kind kinds fun env he s1 x => ?_
  subst he
  refine ⟨lim.keeps x.toInCall.keep, codeAny_func ?_⟩
  obtain ⟨t, ht, hq⟩ := hbody cdv A outer s H vs Q (hr.deeper _) (guards_deeper hg) hsp
  have I := inv_start (CX := CX0) (E := E0) (P := P) (w := w) (K := K) (mg := mg) (base := base) S hr.hd e0 hl r x
  refine wpAny_mono (ht.nox.run [] s1 (start N vs) H _ I hq) (fun fl s' hs => ?_) fun e s' hs => hs
  cases fl with
  | ret u =>
    obtain ⟨v, σ', H', J, rv, q⟩ := hs
    exact ⟨v, H', J.os, J.bare, J.base, J.hok, rv, q⟩
  | next =>
    obtain ⟨σ', H', J, q⟩ := hs
    exact ⟨.non, H', J.os, J.bare, J.base, J.hok, rfl, q⟩
  | brk =>
    obtain ⟨_, _, _, q⟩ := hs
    exact q.elim
  | cont =>
    obtain ⟨_, _, _, q⟩ := hs
    exact q.elim
theorem FnG.mono {fd : FuncData} {j : Nat} (F : FnG P w K mg base j f fd ps sp) (h : j ≤ k) : FnG P w K mg base k f fd ps sp :=
  ⟨F.len, fun A outer s H args us vs Q hr => F.run A outer s H args us vs Q (hr.mono h)⟩
/-- what holds wherever, holds here -/
theorem FnG.of {fd : FuncData} {sp0 : Sp} (F : FnOk P w K mg base CX0 k f fd ps sp0) (h : ∀ vs H Q, sp vs H Q → sp0 vs H Q E0) : FnG P w K mg base k f fd ps sp :=
  ⟨fun vs H Q q => F.len vs H Q E0 (h _ _ _ q), fun A outer s H args us vs Q hr _ e0 hb r hsp => F.run A outer s H args us vs Q E0 hr e0 hb r (h _ _ _ hsp)⟩
end
section
variable {X : Cx} {k : Nat} {f : Addr} {fd : FuncData} {ps : List Str} {sp : SpG} {x : Str} {p pos : Pos} {e : Expr} {es : List Expr} {t : TA}
/-- f(..) -/
def tCallG (sp : SpG) (t : TA) : TE := fun σ H Q => t σ H fun vs H1 => sp vs H1 Q
theorem pe_callG (F : FnG X.prog X.w X.K X.mg X.base k f fd ps sp) (hr : Room k X.A) (hG : X.A.guards = some []) (hg : Gl X x) (hm : X.mg x = some (.ref f)) (hk : PySem.W.keepIn X.K (.ref f) = true) (hb : Binds X.K fd ps [])
    (ha : PA X (e :: es) t) (hdb : (x == ("__debug__" : Str)) = false := by decide) (he : starEach (e :: es) X.env = (false, eval e X.env) :: starEach es X.env := by rfl)
    (hpl : (backTo pos (starEach es X.env)).any (·.1) = false := by rfl) : PE X (.Call (.Name x p) (e :: es) [] pos) (tCallG sp t) := by
  refine ⟨fun pins s σ H Q I h => ?_⟩
  refine wpAny_Call_Name_kw (ld_glob I hg hm ?_ hdb)
  refine PySem.W.callWith_K (h₀ := X.base) I.ok.mod.kin hk (thn (ha.run pos pins s σ H _ I h) fun us s1 ⟨vs, H1, I1, r, q⟩ => ⟨I1.kIn, ?_⟩) he hpl
  have hl : (us ++ []).length = ps.length := by
    rw [List.append_nil, ← r.length]
    exact F.len _ _ _ q
  have hb1 := hb s1 us I1.kIn hl
  rw [List.append_nil] at hb1
  show wpAny _ _ (call (.ref f) us) _ _ _
  refine wpAny_call (codeAny_mono (F.run X.A X.stack s1 H1 ⟨us, []⟩ us vs Q hr hG I1.env0 hb1 r q) fun r' s' hq => ?_)
  cases r' with
  | error e => exact False.elim hq
  | ok fl =>
    cases fl with
    | ret u => exact I1.after hq
    | next => exact False.elim hq
    | brk => exact False.elim hq
    | cont => exact False.elim hq
end
end ErL

set_option maxHeartbeats 0
namespace K14
open PySem PySem.Spec PyProof.Rows L2 ErL
def top (i : Nat) : Stmt := PySem.Challenge.pw_slotsums_k14_error_classes.main.body.getD i (.Pass ⟨0, 0, 0, 0⟩)
/-! ### the classes: their names, the kinds of their __init__ (0 value, 1 position, 2 position and places, 3 line, 4 name, 5 kind and limit, 6 none), their places -/
def cn : List Str := (["InvalidNumber", "InvalidName", "InvalidCount", "InvalidSlots", "InvalidTurn", "InvalidPlaces", "InvalidSizes", "InvalidContents", "InvalidEntry", "InvalidTold", "InvalidFactors", "InvalidSorts", "InvalidTerms", "InvalidExpression", "InvalidHeld"] : List Str) ++ (["InvalidPosition", "InvalidSum", "InvalidOrder", "InvalidPartition", "InvalidExpressions", "InvalidPlan", "InvalidNames", "InvalidPolynomial", "InvalidGrowth", "InvalidChange", "InvalidWeights", "InvalidPatterns", "EmptyEntry", "InvalidText", "InvalidDefinitions"] : List Str) ++ (["InvalidClaim", "InvalidCommand", "OtherSort", "OtherSorts", "OtherTable", "OtherNames", "Vanishing", "ChangesSign", "NoFactors", "TooMany", "UnknownSort", "UnknownName", "NameTaken", "NothingToUndo", "DividedByZero"] : List Str)
def ck : List Nat := [0, 0, 0, 1, 1, 0, 0, 1, 2, 1, 1, 1, 1, 0, 1, 0, 1, 0, 0, 1, 0, 0, 0, 0, 0, 0, 1, 2, 3, 1, 0, 0, 4, 1, 4, 4, 4, 4, 6, 5, 4, 0, 4, 6, 6]
def cp : List Nat := [2, 3, 4, 5, 6, 7, 8, 9, 10, 11, 12, 13, 14, 15, 16, 17, 18, 19, 20, 21, 22, 23, 24, 25, 26, 27, 28, 29, 30, 31, 32, 33, 34, 35, 36, 37, 38, 39, 40, 41, 43, 44, 46, 47, 48]
def bas (k : Nat) : Nat := if k < 40 then 0 else if k < 42 then 1 else 2
def nid : Nat → String
  | 0 => "ValueError.__new__"
  | 1 => "LookupError.__new__"
  | _ => "RuntimeError.__new__"
def iid : Nat → String
  | 0 => "ValueError.__init__"
  | 1 => "LookupError.__init__"
  | _ => "RuntimeError.__init__"
def bnm : Nat → String
  | 0 => "ValueError"
  | 1 => "LookupError"
  | _ => "RuntimeError"
def bmr : Nat → List Value
  | 0 => [.type "ValueError", .type "Exception", .type "BaseException", .type "object"]
  | 1 => [.type "LookupError", .type "Exception", .type "BaseException", .type "object"]
  | _ => [.type "RuntimeError", .type "Exception", .type "BaseException", .type "object"]
def own : Nat → Str
  | 0 => "SlotsumsError"
  | 1 => "MissingError"
  | _ => "StateError"
theorem fb (b : Nat) : ExcBaseFacts (bnm b) (nid b) (iid b) (bmr b) := match b with
  | 0 => F.excBase_ValueError
  | 1 => F.excBase_LookupError
  | _ + 2 => F.excBase_RuntimeError
theorem sf (b : Nat) : StoreFacts (bnm b) (bmr b) "object.__setattr__" "object" := match b with
  | 0 => F.store_ValueError
  | 1 => F.store_LookupError
  | _ + 2 => F.store_RuntimeError
def fld : Nat → List Str
  | 0 => ["value"]
  | 1 => ["position"]
  | 2 => ["position", "places"]
  | 3 => ["line"]
  | 4 => ["name"]
  | 5 => ["kind", "limit"]
  | _ => []
abbrev nm (k : Nat) : Str := cn.getD k ""
abbrev kd (k : Nat) : Nat := ck.getD k 6
/-! ### what is asked of the written part -/
abbrev Fr := PySem.W.Frag
def eqB (a b : Option (Option Value)) : Bool := decide (a = b)
def askB (K : Fr) (C : Addr) : Bool := (PySem.W.clsIn K C).isSome && (PySem.W.hasDictIn K C && (eqB (PySem.W.findIn K (.ref C) "__getattribute__") (some (some (.builtin "BaseException.__getattribute__"))) &&
  (eqB (PySem.W.findIn K (.ref C) "__getattr__") (some none) && (decide (PySem.W.subIn K (.ref C) (.type "BaseException") = some true) && (eqB (PySem.W.findIn K (.ref C) "__class__") (some (some (.builtin "object.__class__"))) &&
  (eqB (PySem.W.specialIn K (.builtin "object.__class__") "__get__") (some (some (.builtin "getset_descriptor.__get__"))) && (decide (PySem.W.takesIn K (.builtin "object.__class__") = some true) &&
  (decide (PySem.W.mroIn K C (.type "object") = some true) && eqB (PySem.W.findIn K (.ref C) "__str__") (some (some (.builtin "BaseException.__str__")))))))))))
theorem ask_ok {K : Fr} {C : Addr} (h : askB K C = true) : Asks K C := by
  simp only [askB, eqB, Bool.and_eq_true, decide_eq_true_eq] at h
  obtain ⟨h1, h2, h3, h4, h5, h6, h7, h8, h9, h10⟩ := h
  exact ⟨h1, h2, h3, h4, h5, h6, h7, h8, h9, h10⟩
def clB (K : Fr) (C : Addr) (b : Nat) : Bool := PySem.W.excInitIn K C (bmr b) (nid b) && (PySem.W.excOver K C (bmr b) && (PySem.W.hasDictIn K C && (eqB (PySem.W.findIn K (.ref C) "__setattr__") (some (some (.builtin "object.__setattr__"))) && PySem.W.keepIn K (.ref C))))
theorem cl_ok {K : Fr} {C : Addr} {b : Nat} (h : clB K C b = true) : PySem.Er.Cl K C (bnm b) (nid b) (iid b) (bmr b) := by
  simp only [clB, eqB, Bool.and_eq_true, decide_eq_true_eq] at h
  obtain ⟨h1, h2, h3, h4, h5⟩ := h
  exact ⟨fb b, sf b, h1, h2, h3, h4, h5⟩
def inB (K : Fr) (C : Addr) (fs : List Str) : Bool := eqB (PySem.W.findIn K (.ref C) "__init__") (some (some (.ref (He.ma K C "__init__")))) && (decide (PySem.W.typeIn K (.ref (He.ma K C "__init__")) = some (.type "function")) && fs.all fun f => decide (PySem.W.takerIn K C f = some none) && eqB (PySem.W.findIn K (.ref C) f) (some none))
def noB (K : Fr) (C : Addr) (b : Nat) : Bool := PySem.W.excIn K C (bmr b) (nid b) && PySem.W.keepIn K (.ref C)
/-- one class -/
def oneB (K : Fr) (k : Nat) : Bool := HandSHeadRun.frNat (He.ga K (nm k)) fun C => eqB (PySem.W.nsIn K mainGlobals (nm k)) (some (some (.ref C))) && (askB K C && (match kd k with
  | 6 => noB K C (bas k)
  | d => clB K C (bas k) && inB K C (fld d)))
/-- its bases -/
def basB (K : Fr) (k : Nat) : Bool := HandSHeadRun.frNat (He.ga K (nm k)) fun C => (List.range 3).all fun b => decide (PySem.W.kitOne K (.ref C) (.ref (He.ga K (own b))) = some (bas k == b)) && decide (PySem.W.kitOne K (.ref C) (.type (bnm b)) = some (bas k == b))
/-- no other class -/
def matB (K : Fr) (k : Nat) : Bool := HandSHeadRun.frNat (He.ga K (nm k)) fun C => (List.range 45).all fun j => decide (PySem.W.kitOne K (.ref C) (.ref (He.ga K (nm j))) = some (k == j))
def ownB (K : Fr) (b : Nat) : Bool := eqB (PySem.W.nsIn K mainGlobals (own b)) (some (some (.ref (He.ga K (own b)))))
def chk (K : Fr) : Bool := (K.lookup sysModules).isSome && ((List.range 3).all (ownB K) && ((List.range 45).all (oneB K) && ((List.range 45).all (basB K) && (List.range 45).all (matB K))))
/-! ### the defs -/
def ini (k : Nat) : He.DefD := ⟨(nm k, some "__init__"), "__init__", nm k ++ ".__init__", defArgs (inClass (top (cp.getD k 0)) 0), defBody (inClass (top (cp.getD k 0)) 0), defScope (inClass (top (cp.getD k 0)) 0), [], []⟩
def ik : List Nat := [0, 1, 2, 3, 4, 5, 6, 7, 8, 9, 10, 11, 12, 13, 14, 15, 16, 17, 18, 19, 20, 21, 22, 23, 24, 25, 26, 27, 28, 29, 30, 31, 32, 33, 34, 35, 36, 37, 39, 40, 41, 42]
def ln : List Str := ["_law_pot", "_law_draw", "_law_value", "_law_first_half", "_law_second_half", "_law_bases", "_law_made", "_law_named", "_law_fields", "_law_due_fields", "_law_right", "law"]
def lwd (i : Nat) : He.DefD := ⟨(ln.getD i "", none), ln.getD i "", ln.getD i "", defArgs (top (50 + i)), defBody (top (50 + i)), defScope (top (50 + i)), [], []⟩
def fn : List He.DefD := ik.map ini ++ (List.range 12).map lwd
def fr : List Str := ["abs", "len", "max", "int", "divmod", "isinstance", "range", "repr", "str", "enumerate", "min", "all", "ValueError", "LookupError", "RuntimeError"]
def fa : List He.Fa := ln.map He.Fa.glo ++ fr.map He.Fa.free
/-! ### the Hook -/
def obsX (K : Fr) : He.AlD := (((fa.all fun f => f.ok K) && fn.all fun d => d.ok K) && chk K, fn.map fun d => He.fnW K d.at_)
def Says (K : Fr) : Prop := obsX K = He.valD fn
def frX (g : Addr → Option Obj) : Fr := He.frG g (sysModules :: He.asD g 4)
def hk : PySem.W.Hook where
  α := He.AlD
  obs := fun s => obsX (frX s.heap.get?)
  val := fun _ => He.valD fn
  says := fun _ h => ∃ K : Fr, K.In h ∧ Says K
  of := fun _ _ e => ⟨_, He.frG_in, e⟩
  keeps := fun _ _ _ ⟨K, hK, c⟩ k => ⟨K, PySem.W.Frag.In.keeps hK k, c⟩
def ob (s : PySem.W.SharedT) : He.AlD := obsX (frX (HandSHeadRun.getT s))
theorem ob_eq (s : PySem.W.SharedT) : ob s = hk.obs s.abs := by
  have e : HandSHeadRun.getT s = s.abs.heap.get? := funext (HandSHeadRun.getT_eq s)
  show obsX (frX (HandSHeadRun.getT s)) = obsX (frX s.abs.heap.get?)
  rw [e]
def names : List Str := (["SlotsumsError", "InvalidNumber", "InvalidName", "InvalidCount", "InvalidSlots", "InvalidTurn", "InvalidPlaces", "InvalidSizes", "InvalidContents", "InvalidEntry", "InvalidTold", "InvalidFactors", "InvalidSorts", "InvalidTerms", "InvalidExpression", "InvalidHeld", "InvalidPosition", "InvalidSum", "InvalidOrder", "InvalidPartition", "InvalidExpressions", "InvalidPlan", "InvalidNames", "InvalidPolynomial", "InvalidGrowth", "InvalidChange", "InvalidWeights", "InvalidPatterns", "EmptyEntry", "InvalidText"] : List Str) ++ (["InvalidDefinitions", "InvalidClaim", "InvalidCommand", "OtherSort", "OtherSorts", "OtherTable", "OtherNames", "Vanishing", "ChangesSign", "NoFactors", "TooMany", "MissingError", "UnknownSort", "UnknownName", "StateError", "NameTaken", "NothingToUndo", "DividedByZero", "_law_pot", "_law_draw", "_law_value", "_law_first_half", "_law_second_half", "_law_bases", "_law_made", "_law_named", "_law_fields", "_law_due_fields", "_law_right"] : List Str)
abbrev R : PySem.W.OpenRow := PySem.W.OpenLaw.row PySem.Challenge.rw_slotsums_k14_error_classes
end K14

set_option maxHeartbeats 0
namespace K14
open PySem PySem.Spec PyProof.Rows L2 ErL HandSHeadRun PySem.W
noncomputable abbrev endR (w : World) (os : OsState) : Option SharedT := endF (stepQ (denQ tabQ) R.prog w) 20000 R.prog w os
theorem run_look (w : World) (os : OsState) : (endR w os).map (fun s => (looksF R.prog (boot_heap w.params) s.abs, seenQ (view R.prog [61]) names (importedModules R.prog.main.body) (fun s => xlAt (view R.prog [61]) [] s && recOk R.toRowW.records s) s.abs)) = some (true, openGood (view R.prog [61]) names) := by
  kernel_rfl
end K14

set_option maxHeartbeats 0
namespace K14
open PySem PySem.Spec PyProof.Rows L2 ErL HandSHeadRun PySem.W
noncomputable abbrev endR2 (w : World) (os : OsState) : Option SharedT := endF (stepQ (denQ tabQ) R.prog w) 20000 R.prog w os
def defB (K : Fr) : He.AlD := ((fa.all fun f => f.ok K) && fn.all fun d => d.ok K, fn.map fun d => He.fnW K d.at_)
theorem run_defs (w : World) (os : OsState) : (endR2 w os).map (fun s => defB (frX (getT s))) = some (He.valD fn) := by
  kernel_rfl
end K14

set_option maxHeartbeats 0
namespace K14
open PySem PySem.Spec PyProof.Rows L2 ErL HandSHeadRun PySem.W
noncomputable abbrev endR3 (w : World) (os : OsState) : Option SharedT := endF (stepQ (denQ tabQ) R.prog w) 20000 R.prog w os
theorem run_chk (w : World) (os : OsState) : (endR3 w os).map (fun s => chk (frX (getT s))) = some true := by
  kernel_rfl
end K14

set_option maxHeartbeats 4000000
namespace K14
open PySem PySem.Spec PyProof.Rows L2 ErL
open PySem.Er (Cl In1 In2 iA1 iB1 iS1 iA2 iB2 iS2)
abbrev cA (K : Fr) (k : Nat) : Addr := He.ga K (nm k)
abbrev sIni (k : Nat) : Stmt := inClass (top (cp.getD k 0)) 0
/-! ### the texts of the __init__s -/
def Tx1 (k : Nat) (f : Str) : Prop := ∃ p1 p2 q1 q2 q3 q4, defArgs (sIni k) = iA1 f p1 p2 ∧ defBody (sIni k) = iB1 f q1 q2 q3 q4 ∧ defScope (sIni k) = iS1 f
def Tx2 (k : Nat) (f f' : Str) : Prop := ∃ p1 p2 p3 q1 q2 q3 q4 r1 r2 r3 r4, defArgs (sIni k) = iA2 f f' p1 p2 p3 ∧ defBody (sIni k) = iB2 f f' q1 q2 q3 q4 r1 r2 r3 r4 ∧ defScope (sIni k) = iS2 f f'
theorem tx_0 : Tx1 0 "value" := ⟨_, _, _, _, _, _, rfl, rfl, rfl⟩
theorem tx_1 : Tx1 1 "value" := ⟨_, _, _, _, _, _, rfl, rfl, rfl⟩
theorem tx_2 : Tx1 2 "value" := ⟨_, _, _, _, _, _, rfl, rfl, rfl⟩
theorem tx_3 : Tx1 3 "position" := ⟨_, _, _, _, _, _, rfl, rfl, rfl⟩
theorem tx_4 : Tx1 4 "position" := ⟨_, _, _, _, _, _, rfl, rfl, rfl⟩
theorem tx_5 : Tx1 5 "value" := ⟨_, _, _, _, _, _, rfl, rfl, rfl⟩
theorem tx_6 : Tx1 6 "value" := ⟨_, _, _, _, _, _, rfl, rfl, rfl⟩
theorem tx_7 : Tx1 7 "position" := ⟨_, _, _, _, _, _, rfl, rfl, rfl⟩
theorem tx_8 : Tx2 8 "position" "places" := ⟨_, _, _, _, _, _, _, _, _, _, _, rfl, rfl, rfl⟩
theorem tx_9 : Tx1 9 "position" := ⟨_, _, _, _, _, _, rfl, rfl, rfl⟩
theorem tx_10 : Tx1 10 "position" := ⟨_, _, _, _, _, _, rfl, rfl, rfl⟩
theorem tx_11 : Tx1 11 "position" := ⟨_, _, _, _, _, _, rfl, rfl, rfl⟩
theorem tx_12 : Tx1 12 "position" := ⟨_, _, _, _, _, _, rfl, rfl, rfl⟩
theorem tx_13 : Tx1 13 "value" := ⟨_, _, _, _, _, _, rfl, rfl, rfl⟩
theorem tx_14 : Tx1 14 "position" := ⟨_, _, _, _, _, _, rfl, rfl, rfl⟩
theorem tx_15 : Tx1 15 "value" := ⟨_, _, _, _, _, _, rfl, rfl, rfl⟩
theorem tx_16 : Tx1 16 "position" := ⟨_, _, _, _, _, _, rfl, rfl, rfl⟩
theorem tx_17 : Tx1 17 "value" := ⟨_, _, _, _, _, _, rfl, rfl, rfl⟩
theorem tx_18 : Tx1 18 "value" := ⟨_, _, _, _, _, _, rfl, rfl, rfl⟩
theorem tx_19 : Tx1 19 "position" := ⟨_, _, _, _, _, _, rfl, rfl, rfl⟩
theorem tx_20 : Tx1 20 "value" := ⟨_, _, _, _, _, _, rfl, rfl, rfl⟩
theorem tx_21 : Tx1 21 "value" := ⟨_, _, _, _, _, _, rfl, rfl, rfl⟩
theorem tx_22 : Tx1 22 "value" := ⟨_, _, _, _, _, _, rfl, rfl, rfl⟩
theorem tx_23 : Tx1 23 "value" := ⟨_, _, _, _, _, _, rfl, rfl, rfl⟩
theorem tx_24 : Tx1 24 "value" := ⟨_, _, _, _, _, _, rfl, rfl, rfl⟩
theorem tx_25 : Tx1 25 "value" := ⟨_, _, _, _, _, _, rfl, rfl, rfl⟩
theorem tx_26 : Tx1 26 "position" := ⟨_, _, _, _, _, _, rfl, rfl, rfl⟩
theorem tx_27 : Tx2 27 "position" "places" := ⟨_, _, _, _, _, _, _, _, _, _, _, rfl, rfl, rfl⟩
theorem tx_28 : Tx1 28 "line" := ⟨_, _, _, _, _, _, rfl, rfl, rfl⟩
theorem tx_29 : Tx1 29 "position" := ⟨_, _, _, _, _, _, rfl, rfl, rfl⟩
theorem tx_30 : Tx1 30 "value" := ⟨_, _, _, _, _, _, rfl, rfl, rfl⟩
theorem tx_31 : Tx1 31 "value" := ⟨_, _, _, _, _, _, rfl, rfl, rfl⟩
theorem tx_32 : Tx1 32 "name" := ⟨_, _, _, _, _, _, rfl, rfl, rfl⟩
theorem tx_33 : Tx1 33 "position" := ⟨_, _, _, _, _, _, rfl, rfl, rfl⟩
theorem tx_34 : Tx1 34 "name" := ⟨_, _, _, _, _, _, rfl, rfl, rfl⟩
theorem tx_35 : Tx1 35 "name" := ⟨_, _, _, _, _, _, rfl, rfl, rfl⟩
theorem tx_36 : Tx1 36 "name" := ⟨_, _, _, _, _, _, rfl, rfl, rfl⟩
theorem tx_37 : Tx1 37 "name" := ⟨_, _, _, _, _, _, rfl, rfl, rfl⟩
theorem tx_39 : Tx2 39 "kind" "limit" := ⟨_, _, _, _, _, _, _, _, _, _, _, rfl, rfl, rfl⟩
theorem tx_40 : Tx1 40 "name" := ⟨_, _, _, _, _, _, rfl, rfl, rfl⟩
theorem tx_41 : Tx1 41 "value" := ⟨_, _, _, _, _, _, rfl, rfl, rfl⟩
theorem tx_42 : Tx1 42 "name" := ⟨_, _, _, _, _, _, rfl, rfl, rfl⟩
/-! ### what is known of the written part -/
structure TT (K : Fr) (mg : Str → Option Value) : Prop where
  sys : SysIn K
  g : ∀ k, k < 45 → mg (nm k) = some (.ref (cA K k))
  gb : ∀ b, b < 3 → mg (own b) = some (.ref (He.ga K (own b)))
  ask : ∀ k, k < 45 → Asks K (cA K k)
  cl : ∀ k, k < 45 → kd k ≠ 6 → Cl K (cA K k) (bnm (bas k)) (nid (bas k)) (iid (bas k)) (bmr (bas k))
  no : ∀ k, k < 45 → kd k = 6 → PySem.W.excIn K (cA K k) (bmr (bas k)) (nid (bas k)) = true ∧ PySem.W.keepIn K (.ref (cA K k)) = true
  ini : ∀ k, k < 45 → kd k ≠ 6 → PySem.W.findIn K (.ref (cA K k)) "__init__" = some (some (.ref (He.ma K (cA K k) "__init__"))) ∧ PySem.W.typeIn K (.ref (He.ma K (cA K k) "__init__")) = some (.type "function")
  tk : ∀ k, k < 45 → kd k ≠ 6 → ∀ f ∈ fld (kd k), PySem.W.takerIn K (cA K k) f = some none ∧ PySem.W.findIn K (.ref (cA K k)) f = some none
  mat : ∀ k j, k < 45 → j < 45 → PySem.W.kitOne K (.ref (cA K k)) (.ref (cA K j)) = some (k == j)
  bs : ∀ k b, k < 45 → b < 3 → PySem.W.kitOne K (.ref (cA K k)) (.ref (He.ga K (own b))) = some (bas k == b) ∧ PySem.W.kitOne K (.ref (cA K k)) (.type (bnm b)) = some (bas k == b)
  fr : ∀ x ∈ fr, mg x = none
  dfs : ∀ d ∈ fn, ∃ fd, FunD K d.name d.qual d.params d.body d.scope (d.dvs K) (d.kws K) (He.fAd K d.at_) fd
  gl : ∀ x ∈ ln, mg x = some (.ref (He.ga K x))
theorem tt_of {K : Fr} {h : Heap} {mg : Str → Option Value} (X : K.In h) (G : h.Ns mainGlobals mg) (c : Says K) : TT K mg := by
  have c1 : (((fa.all fun f => f.ok K) && fn.all fun d => d.ok K) && chk K) = true := congrArg (fun z : He.AlD => z.1) c
  have c2 : fn.map (fun d => He.fnW K d.at_) = fn.map He.DefD.val := congrArg (fun z : He.AlD => z.2) c
  obtain ⟨c1, c3⟩ := He.ba c1
  obtain ⟨ca, cd⟩ := He.ba c1
  obtain ⟨d0, c3⟩ := He.ba (show ((K.lookup sysModules).isSome && ((List.range 3).all (ownB K) && ((List.range 45).all (oneB K) && ((List.range 45).all (basB K) && (List.range 45).all (matB K))))) = true from c3)
  obtain ⟨d1, c3⟩ := He.ba c3
  obtain ⟨d2, c3⟩ := He.ba c3
  obtain ⟨d3, d4⟩ := He.ba c3
  have one : ∀ k, k < 45 → (eqB (PySem.W.nsIn K mainGlobals (nm k)) (some (some (.ref (cA K k)))) && (askB K (cA K k) && (match kd k with
    | 6 => noB K (cA K k) (bas k)
    | d => clB K (cA K k) (bas k) && inB K (cA K k) (fld d)))) = true := fun k hk => by
    have z : oneB K k = true := List.all_eq_true.mp d2 k (List.mem_range.mpr hk)
    unfold oneB at z
    rw [HandSHeadRun.frNat_eq] at z
    exact z
  have withI : ∀ k, k < 45 → kd k ≠ 6 → clB K (cA K k) (bas k) = true ∧ inB K (cA K k) (fld (kd k)) = true := fun k hk h6 => by
    have z := (He.ba (He.ba (one k hk)).2).2
    split at z
    · rename_i e
      exact absurd e h6
    · exact He.ba z
  have inK : ∀ k, k < 45 → kd k ≠ 6 → eqB (PySem.W.findIn K (.ref (cA K k)) "__init__") (some (some (.ref (He.ma K (cA K k) "__init__")))) = true ∧ decide (PySem.W.typeIn K (.ref (He.ma K (cA K k) "__init__")) = some (.type "function")) = true ∧
      ((fld (kd k)).all fun f => decide (PySem.W.takerIn K (cA K k) f = some none) && eqB (PySem.W.findIn K (.ref (cA K k)) f) (some none)) = true := fun k hk h6 => by
    obtain ⟨z1, z2⟩ := He.ba (withI k hk h6).2
    exact ⟨z1, He.ba z2⟩
  refine ⟨Option.isSome_iff_exists.mp d0, fun k hk => PySem.W.mg_of X G (of_decide_eq_true (He.ba (one k hk)).1), fun b hb => PySem.W.mg_of X G (of_decide_eq_true (List.all_eq_true.mp d1 b (List.mem_range.mpr hb))), fun k hk => ask_ok (He.ba (He.ba (one k hk)).2).1,
    fun k hk h6 => cl_ok (withI k hk h6).1, fun k hk h6 => ?_, fun k hk h6 => ⟨of_decide_eq_true (inK k hk h6).1, of_decide_eq_true (inK k hk h6).2.1⟩, fun k hk h6 f hf => ?_, fun k j hk hj => ?_, fun k b hk hb => ?_, fun x hx => ?_, fun d hd => ?_, fun x hx => ?_⟩
  · have z := (He.ba (He.ba (one k hk)).2).2
    rw [h6] at z
    exact He.ba z
  · obtain ⟨z1, z2⟩ := He.ba (List.all_eq_true.mp (inK k hk h6).2.2 f hf)
    exact ⟨of_decide_eq_true z1, of_decide_eq_true z2⟩
  · have z : matB K k = true := List.all_eq_true.mp d4 k (List.mem_range.mpr hk)
    unfold matB at z
    rw [HandSHeadRun.frNat_eq] at z
    exact of_decide_eq_true (List.all_eq_true.mp z j (List.mem_range.mpr hj))
  · have z : basB K k = true := List.all_eq_true.mp d3 k (List.mem_range.mpr hk)
    unfold basB at z
    rw [HandSHeadRun.frNat_eq] at z
    obtain ⟨z1, z2⟩ := He.ba (List.all_eq_true.mp z b (List.mem_range.mpr hb))
    exact ⟨of_decide_eq_true z1, of_decide_eq_true z2⟩
  · exact He.free_ok X G (List.all_eq_true.mp ca _ (List.mem_append_right _ (List.mem_map.mpr ⟨x, hx, rfl⟩)))
  · obtain ⟨i, hi⟩ := List.getElem?_of_mem hd
    have e2 : (fn.map fun d => He.fnW K d.at_)[i]? = (fn.map He.DefD.val)[i]? := by rw [c2]
    rw [List.getElem?_map, List.getElem?_map, hi] at e2
    exact He.DefD.funD (Option.some.inj e2) (List.all_eq_true.mp cd d hd)
  · exact He.glo_ok X G (List.all_eq_true.mp ca _ (List.mem_append_left _ (List.mem_map.mpr ⟨x, hx, rfl⟩)))
section
variable {K : Fr} {mg : Str → Option Value}
theorem TT.in1 (T : TT K mg) {k : Nat} {f : Str} (t : Tx1 k f) (hk : k < 45 := by decide) (hi : k ∈ ik := by decide) (h6 : kd k ≠ 6 := by decide) (hf : f ∈ fld (kd k) := by decide) (nd : (f == ("__debug__" : Str)) = false := by decide) (ns : (f == ("self" : Str)) = false := by decide) : In1 K (cA K k) f := by
  obtain ⟨p1, p2, q1, q2, q3, q4, e1, e2, e3⟩ := t
  obtain ⟨fd, F⟩ := T.dfs (K14.ini k) (List.mem_append_left _ (List.mem_map.mpr ⟨k, hi, rfl⟩))
  obtain ⟨oc, od, dV, kV, doc, pm, an, cdv, ct, osl, rfl, lk, hcd, hD, _⟩ := F.ex
  have hd : dV = .none := by
    rcases hD with ⟨_, z⟩ | ⟨z, _⟩
    · exact z
    · exact absurd rfl z
  subst hd
  have lk2 : K.lookup (He.ma K (cA K k) "__init__") = some ⟨oc, od, .func (PySem.W.fnOf "__init__" (nm k ++ ".__init__") (defArgs (sIni k)) (defBody (sIni k)) (defScope (sIni k)) .none kV doc pm an cdv ct), osl⟩ := lk
  rw [e1, e2, e3] at lk2
  exact ⟨(T.tk k hk h6 f hf).1, nd, ns, _, _, oc, od, kV, doc, pm, an, cdv, ct, osl, p1, p2, q1, q2, q3, q4, (T.ini k hk h6).1, (T.ini k hk h6).2, lk2, hcd⟩
theorem TT.in2 (T : TT K mg) {k : Nat} {f f' : Str} (t : Tx2 k f f') (hk : k < 45 := by decide) (hi : k ∈ ik := by decide) (h6 : kd k ≠ 6 := by decide) (hf : f ∈ fld (kd k) := by decide) (hf' : f' ∈ fld (kd k) := by decide)
    (nd : (f == ("__debug__" : Str)) = false := by decide) (nd' : (f' == ("__debug__" : Str)) = false := by decide) (ns : (f == ("self" : Str)) = false := by decide) (ns' : (f' == ("self" : Str)) = false := by decide) (nf : (f' == f) = false := by decide) : In2 K (cA K k) f f' := by
  obtain ⟨p1, p2, p3, q1, q2, q3, q4, r1, r2, r3, r4, e1, e2, e3⟩ := t
  obtain ⟨fd, F⟩ := T.dfs (K14.ini k) (List.mem_append_left _ (List.mem_map.mpr ⟨k, hi, rfl⟩))
  obtain ⟨oc, od, dV, kV, doc, pm, an, cdv, ct, osl, rfl, lk, hcd, hD, _⟩ := F.ex
  have hd : dV = .none := by
    rcases hD with ⟨_, z⟩ | ⟨z, _⟩
    · exact z
    · exact absurd rfl z
  subst hd
  have lk2 : K.lookup (He.ma K (cA K k) "__init__") = some ⟨oc, od, .func (PySem.W.fnOf "__init__" (nm k ++ ".__init__") (defArgs (sIni k)) (defBody (sIni k)) (defScope (sIni k)) .none kV doc pm an cdv ct), osl⟩ := lk
  rw [e1, e2, e3] at lk2
  exact ⟨(T.tk k hk h6 f hf).1, (T.tk k hk h6 f' hf').1, nd, nd', ns, ns', nf, _, _, oc, od, kV, doc, pm, an, cdv, ct, osl, p1, p2, p3, q1, q2, q3, q4, r1, r2, r3, r4, (T.ini k hk h6).1, (T.ini k hk h6).2, lk2, hcd⟩
/-- a def of the law -/
theorem TT.fun_ (T : TT K mg) (i : Nat) (hi : i < 12 := by decide) : ∃ fd, Fun K (ln.getD i "") (ln.getD i "") (top (50 + i)) (He.ga K (ln.getD i "")) fd := by
  obtain ⟨fd, F⟩ := T.dfs (lwd i) (List.mem_append_right _ (List.mem_map.mpr ⟨i, List.mem_range.mpr hi, rfl⟩))
  obtain ⟨oc, od, dV, kV, doc, pm, an, cdv, ct, osl, rfl, lk, hcd, hD, _⟩ := F.ex
  have hd : dV = .none := by
    rcases hD with ⟨_, z⟩ | ⟨z, _⟩
    · exact z
    · exact absurd rfl z
  subst hd
  exact ⟨_, ⟨oc, od, kV, doc, pm, an, cdv, ct, osl, rfl, lk, hcd⟩, F.kp⟩
end
end K14

set_option maxHeartbeats 4000000
namespace K14
open PySem PySem.Spec PyProof.Rows L2 ErL
section
variable {P : Program} {w : World} {K : Fr} {mg : Str → Option Value} {base : Heap} {f : Addr} {fd : FuncData}
theorem TT.free (T : TT K mg) {x : Str} (h : x ∈ K14.fr := by decide) : mg x = none := T.fr x h
/-! ### a pot -/
abbrev sPot : Stmt := top 50
theorem scPot : FnScope ["_law_script", "_law_k", "_law_cell"] ["_law_script", "_law_k"] (defScope sPot) := ⟨rfl, rfl, rfl, by decide +kernel, rfl, by decide +kernel, by decide +kernel⟩
/-- a pot at p -/
def PotAt (H : Hp) (p : Addr) : Prop := ∃ x y : Int, H p = some (.lst [.int x, .int y]) ∧ 0 ≤ x ∧ 0 ≤ y ∧ y < 2147483648
def spPot (K : Fr) : Sp := fun vs H Q _ => ∃ (a : Addr) (ns : List Int) (k : Int), vs = [.ref a, .int k] ∧ SqL K H a (ns.map V.int) ∧ ns.length ≤ 63 ∧ 0 ≤ k ∧ k < 64 ∧ ∀ p H', H p = none → Same H H' → PotAt H' p → Q (.ref p) H'
theorem ok_pot (F : Fun K "_law_pot" "_law_pot" sPot f fd) (T : TT K mg) : FnOk P w K mg base CX0 1 f fd ["_law_script", "_law_k"] (spPot K) := by
  refine F.ok scPot (fun vs H Q E h => ?_) (fun cdv A outer s H vs Q E hr h => ?_)
  · obtain ⟨a, ns, k, rfl, _⟩ := h
    rfl
  · obtain ⟨a, ns, k, rfl, hS, hl, k0, k63, q⟩ := h
    refine ⟨_, pss_cons (ps_set (i := 2) scPot.nd rfl (Or.inl rfl) (pe_ifExp (pt_cmpR op_lt (pv 1) (pe_callB call_len_seq (by rfl) T.free PySem.boot_len (pa_cons (pv 0) pa_nil)) (nomark _))
        (pe_callB call_abs (by rfl) T.free (by decide +kernel) (pa_cons (pe_ix ix_list (pv 0) (pv 1) (fun _ _ => rfl)) pa_nil)) pe_int))
      (pss_one (ps_ret (pe_lst (pa_cons (pe_callB (call_max2 rfl) (by rfl) T.free (by decide +kernel) (pa_cons pe_int (pa_cons (pe_op op_sub (pv 2) (pe_op op_pow pe_int pe_int)) pa_nil)))
        (pa_cons (pe_op op_mod (pe_callTy call_int1 (by rfl) T.free (by decide +kernel) (pa_cons (pe_op op_add (pe_op op_add (pe_op op_mul (pe_op op_mod (pe_callTy call_int1 (by rfl) T.free (by decide +kernel) (pa_cons (pv 2) pa_nil)) pe_int) pe_int) (pe_op op_mul pe_int (pv 1))) pe_int) pa_nil)) pe_int) pa_nil))))), ?_⟩
    refine ⟨_, rfl, _, rfl, _, _, rfl, .inl hS, _, _, rfl, rfl, _, rfl, ite2 (fun h1 => ?_) (fun _ => ?_)⟩
    · have hk : k < (ns.length : Int) := by
        have z := of_decide_eq_true h1
        rw [List.length_map] at z
        exact z
      obtain ⟨j, rfl⟩ : ∃ j : Nat, k = (j : Int) := ⟨k.toNat, by omega⟩
      have hj : j < ns.length := by omega
      have hat : (ns.map V.int)[j]? = some (.int ns[j]) := by
        rw [List.getElem?_map, List.getElem?_eq_getElem hj]
        rfl
      refine ⟨_, rfl, _, rfl, a, _, _, _, rfl, rfl, hS, atI_nat hat, _, rfl, ?_⟩
      refine ⟨_, rfl, _, _, rfl, rfl, ⟨by decide, by decide, by decide⟩, _, _, rfl, rfl, _, _, rfl, _, rfl, .inl ⟨_, rfl, _, _, rfl, rfl, (by show (0 : Int) < 2147483579; decide), _, _, rfl, rfl, .inr ⟨by decide, by decide⟩, _, rfl, _, _, rfl, rfl, .inl ⟨by decide, by decide⟩, _, _, rfl, rfl, _, _, rfl, rfl, .inl ⟨_, rfl, _, _, rfl, rfl, (by show (0 : Int) < 2147483647; decide), (by show 2 ≤ sizeLine; decide), fun p hp => ?_⟩⟩⟩
      refine q p _ hp (fun b o e => by rw [upd_ne (ne_of_none e hp)]; exact e) ⟨_, _, upd_same, ?_, Int.emod_nonneg _ (by decide), Int.lt_trans (Int.emod_lt_of_pos _ (by decide)) (by decide)⟩
      split <;> omega
    · refine ⟨_, rfl, _, _, rfl, rfl, ⟨by decide, by decide, by decide⟩, _, _, rfl, rfl, _, _, rfl, _, rfl, .inl ⟨_, rfl, _, _, rfl, rfl, (by show (0 : Int) < 2147483579; decide), _, _, rfl, rfl, .inr ⟨by decide, by decide⟩, _, rfl, _, _, rfl, rfl, .inl ⟨by decide, by decide⟩, _, _, rfl, rfl, _, _, rfl, rfl, .inl ⟨_, rfl, _, _, rfl, rfl, (by show (0 : Int) < 2147483647; decide), (by show 2 ≤ sizeLine; decide), fun p hp => ?_⟩⟩⟩
      refine q p _ hp (fun b o e => by rw [upd_ne (ne_of_none e hp)]; exact e) ⟨_, _, upd_same, ?_, Int.emod_nonneg _ (by decide), Int.lt_trans (Int.emod_lt_of_pos _ (by decide)) (by decide)⟩
      split <;> omega
end
end K14
namespace K14
open PySem PySem.Spec PyProof.Rows L2 ErL
section
variable {P : Program} {w : World} {K : Fr} {mg : Str → Option Value} {base : Heap} {f : Addr} {fd : FuncData}
/-! ### a draw -/
abbrev sDraw : Stmt := top 51
theorem scDraw : FnScope ["_law_pot_here", "_law_many", "_law_digit"] ["_law_pot_here", "_law_many"] (defScope sDraw) := ⟨rfl, rfl, rfl, by decide +kernel, rfl, by decide +kernel, by decide +kernel⟩
def But (p : Addr) (H H' : Hp) : Prop := ∀ b o, H b = some o → b ≠ p → H' b = some o
def spDraw : Sp := fun vs H Q _ => ∃ (p : Addr) (m : Int), vs = [.ref p, .int m] ∧ PotAt H p ∧ 0 < m ∧ m < 1073741824 ∧ ∀ d H', 0 ≤ d → d < m → PotAt H' p → But p H H' → Q (.int d) H'
theorem ok_draw (F : Fun K "_law_draw" "_law_draw" sDraw f fd) (T : TT K mg) : FnOk P w K mg base CX0 1 f fd ["_law_pot_here", "_law_many"] spDraw := by
  refine F.ok scDraw (fun vs H Q E h => ?_) (fun cdv A outer s H vs Q E hr h => ?_)
  · obtain ⟨p, m, rfl, _⟩ := h
    rfl
  · obtain ⟨p, m, rfl, ⟨x, y, hp, x0, y0, y1⟩, m0, m1, q⟩ := h
    refine ⟨_, pss_cons (ps_if (pt_cmpR op_gt (pe_ix ix_list (pv 0) pe_int (fun _ _ => rfl)) pe_int (nomark _))
        (pss_cons (ps_asg (pe_callB call_divmod (by rfl) T.free (by decide +kernel) (pa_cons (pe_ix ix_list (pv 0) pe_int (fun _ _ => rfl)) (pa_cons (pv 1) pa_nil))) (pg_tup (by rfl) (pgs_cons (pg_sub (pv 0) pe_int set_list) (pgs_cons (pg_name (i := 2) scDraw.nd rfl (.inl rfl)) pgs_nil))))
          (pss_one (ps_ret (pv 2)))) pss_nil)
      (pss_cons (ps_asg (pe_op op_mod (pe_callTy call_int1 (by rfl) T.free (by decide +kernel) (pa_cons (pe_op op_add (pe_op op_mul (pe_ix ix_list (pv 0) pe_int (fun _ _ => rfl)) pe_int) pe_int) pa_nil)) pe_int) (pg_sub (pv 0) pe_int set_list))
      (pss_one (ps_ret (pe_op op_mod (pe_callTy call_int1 (by rfl) T.free (by decide +kernel) (pa_cons (pe_op op_fdiv (pe_op op_mod (pe_callTy call_int1 (by rfl) T.free (by decide +kernel) (pa_cons (pe_op op_mul (pe_ix ix_list (pv 0) pe_int (fun _ _ => rfl)) (pe_ix ix_list (pv 0) pe_int (fun _ _ => rfl))) pa_nil)) pe_int) pe_int) pa_nil)) (pv 1))))), ?_⟩
    refine ⟨_, rfl, p, _, _, _, rfl, rfl, SqL.of hp, atI_nat (j := 0) rfl, _, _, rfl, rfl, _, rfl, ite2 (fun h1 => ?_) (fun _ => ?_)⟩
    · have hx : 0 < x := of_decide_eq_true h1
      refine ⟨_, rfl, p, _, _, _, rfl, rfl, SqL.of hp, atI_nat (j := 0) rfl, _, rfl, _, _, rfl, ⟨m0, m1⟩, fun t nt => ?_⟩
      have hpt : p ≠ t := ne_of_none hp nt
      have e2 : (upd H t (.tup [.int (x / m), .int (x % m)])) p = some (.lst [.int x, .int y]) := by rw [upd_ne hpt]; exact hp
      refine ⟨t, _, rfl, SqT.of upd_same, rfl, ?_⟩
      refine ⟨_, _, rfl, _, rfl, p, _, _, 0, rfl, rfl, e2, rfl, _, _, rfl, rfl, ?_⟩
      refine ⟨_, rfl, q _ _ (Int.emod_nonneg _ (Int.ne_of_gt m0)) (Int.emod_lt_of_pos _ m0) ⟨x / m, y, upd_same, Int.ediv_nonneg x0 (Int.le_of_lt m0), y0, y1⟩ fun b o e hb => ?_⟩
      rw [upd_ne hb, upd_ne (ne_of_none e nt)]
      exact e
    · refine ⟨_, rfl, p, _, _, _, rfl, rfl, SqL.of hp, atI_nat (j := 1) rfl, _, _, rfl, rfl, .inr ⟨by decide, by decide⟩, _, _, rfl, rfl, .inl ⟨_, rfl, _, _, rfl, rfl, (by show (0 : Int) < 2147483549; decide), ?_⟩⟩
      refine ⟨_, rfl, p, _, _, 1, rfl, rfl, hp, rfl, ?_⟩
      have z0 : 0 ≤ (y * 48271 + 10007) % 2147483549 := Int.emod_nonneg _ (by decide)
      have z1 : (y * 48271 + 10007) % 2147483549 < 2147483549 := Int.emod_lt_of_pos _ (by decide)
      refine ⟨_, rfl, p, _, _, _, rfl, rfl, SqL.of upd_same, atI_nat (j := 1) rfl, _, rfl, p, _, _, _, rfl, rfl, SqL.of upd_same, atI_nat (j := 1) rfl, _, _, rfl, rfl, .inl ⟨by omega, by omega⟩, .inl ⟨_, rfl, _, _, rfl, rfl, (by show (0 : Int) < 2147483497; decide), _, _, rfl, rfl, ⟨by decide, by decide⟩, .inl ⟨_, rfl, _, rfl, _, _, rfl, rfl, m0, ?_⟩⟩⟩
      refine q _ _ (Int.emod_nonneg _ (Int.ne_of_gt m0)) (Int.emod_lt_of_pos _ m0) ⟨x, _, upd_same, x0, z0, by omega⟩ fun b o e hb => ?_
      rw [upd_ne hb]
      exact e
end
end K14

set_option maxHeartbeats 4000000
namespace K14
open PySem PySem.Spec PyProof.Rows L2 ErL
/-! ### small data -/
structure Sm (d : PyData) : Prop where
  sh : d.showable = true
  dp : d.depth ≤ 2
  sz : d.shown.length ≤ 230
theorem sm_none : Sm .none := ⟨rfl, by decide, by decide⟩
theorem sm_bool (b : Bool) : Sm (.bool b) := ⟨rfl, by show 0 ≤ 2; omega, by cases b <;> decide⟩
theorem int_sz {i : Int} (h : i.natAbs < 2 ^ 170) : (PyData.int i).showable = true ∧ (PyData.int i).shown.length ≤ 171 := by
  have l : i.natAbs.log2 < 170 := by
    by_cases z : i.natAbs = 0
    · rw [z]
      decide
    · exact (Nat.log2_lt z).mpr h
  refine ⟨decide_eq_true (Nat.lt_trans l (by decide)), ?_⟩
  show (Str.ofString (toString i)).length ≤ 171
  rw [PySem.ofString_length]
  exact int_text_length_le (by decide) l
theorem sm_int {i : Int} (h : i.natAbs < 2 ^ 170) : Sm (.int i) := ⟨(int_sz h).1, by show 0 ≤ 2; omega, Nat.le_trans (int_sz h).2 (by decide)⟩
theorem sum_le : ∀ {ds : List PyData} {n : Nat}, (∀ d ∈ ds, d.shown.length ≤ n) → ((PyData.shownAll ds).map (·.length)).sum ≤ ds.length * n
  | [], n, _ => by simp [PyData.shownAll]
  | d :: ds, n, h => by
    have h1 := h d List.mem_cons_self
    have h2 := sum_le (ds := ds) (n := n) fun e he => h e (List.mem_cons_of_mem _ he)
    simp only [PyData.shownAll, List.map_cons, List.sum_cons, List.length_cons]
    rw [Nat.succ_mul]
    omega
theorem all_len : ∀ ds : List PyData, (PyData.shownAll ds).length = ds.length
  | [] => rfl
  | d :: ds => congrArg Nat.succ (all_len ds)
theorem all_show : ∀ {ds : List PyData}, (∀ d ∈ ds, d.showable = true) → PyData.showableAll ds = true
  | [], _ => rfl
  | d :: ds, h => by
    show (d.showable && PyData.showableAll ds) = true
    rw [h d List.mem_cons_self, all_show fun e he => h e (List.mem_cons_of_mem _ he)]
    rfl
theorem all_depth : ∀ {ds : List PyData} {n : Nat}, (∀ d ∈ ds, d.depth ≤ n) → PyData.depthAll ds ≤ n
  | [], n, _ => Nat.zero_le n
  | d :: ds, n, h => Nat.max_le.mpr ⟨h d List.mem_cons_self, all_depth fun e he => h e (List.mem_cons_of_mem _ he)⟩
theorem lst_sz {ds : List PyData} {n : Nat} (h : ∀ d ∈ ds, d.shown.length ≤ n) : (PyData.list ds).shown.length ≤ ds.length * n + 2 * ds.length + 3 := by
  have h1 := listText_len_le (PyData.shownAll ds)
  have h2 := sum_le h
  rw [all_len] at h1
  show (listText (PyData.shownAll ds)).length ≤ _
  omega
theorem tup_sz {ds : List PyData} {n : Nat} (h : ∀ d ∈ ds, d.shown.length ≤ n) : (PyData.tuple ds).shown.length ≤ ds.length * n + 2 * ds.length + 3 := by
  have h1 := tupleText_len_le (PyData.shownAll ds)
  have h2 := sum_le h
  rw [all_len] at h1
  show (tupleText (PyData.shownAll ds)).length ≤ _
  omega
/-- a list of at most fifteen small data -/
theorem ok_list {ds : List PyData} (h : ∀ d ∈ ds, Sm d) (l : ds.length ≤ 15) : Ok (.list ds) := by
  refine ⟨all_show fun d hd => (h d hd).sh, ?_, ?_⟩
  · have := all_depth (ds := ds) (n := 2) fun d hd => (h d hd).dp
    show PyData.depthAll ds + 1 ≤ 20
    omega
  · have := lst_sz (ds := ds) (n := 230) fun d hd => (h d hd).sz
    have m : ds.length * 230 ≤ 15 * 230 := Nat.mul_le_mul_right _ l
    omega
theorem ok_tuple {ds : List PyData} (h : ∀ d ∈ ds, Sm d) (l : ds.length ≤ 15) : Ok (.tuple ds) := by
  refine ⟨all_show fun d hd => (h d hd).sh, ?_, ?_⟩
  · have := all_depth (ds := ds) (n := 2) fun d hd => (h d hd).dp
    show PyData.depthAll ds + 1 ≤ 20
    omega
  · have := tup_sz (ds := ds) (n := 230) fun d hd => (h d hd).sz
    have m : ds.length * 230 ≤ 15 * 230 := Nat.mul_le_mul_right _ l
    omega
theorem Sm.ok {d : PyData} (h : Sm d) : Ok d := ⟨h.sh, Nat.le_trans h.dp (by decide), Nat.le_trans h.sz (by decide)⟩
/-- a list of at most a hundred truth values -/
theorem ok_bools {bs : List Bool} (l : bs.length ≤ 100) : Ok (.list (bs.map PyData.bool)) := by
  refine ⟨all_show fun d hd => ?_, ?_, ?_⟩
  · obtain ⟨b, _, rfl⟩ := List.mem_map.mp hd
    rfl
  · have := all_depth (ds := bs.map PyData.bool) (n := 0) fun d hd => by
      obtain ⟨b, _, rfl⟩ := List.mem_map.mp hd
      exact Nat.le_refl 0
    show PyData.depthAll _ + 1 ≤ 20
    omega
  · have := lst_sz (ds := bs.map PyData.bool) (n := 5) fun d hd => by
      obtain ⟨b, _, rfl⟩ := List.mem_map.mp hd
      cases b <;> decide
    rw [List.length_map] at this
    omega
end K14

set_option maxHeartbeats 4000000
namespace K14
open PySem PySem.Spec PyProof.Rows L2 ErL
theorem same_new {H : Hp} {p : Addr} {o : HO} (h : H p = none) : Same H (upd H p o) := fun b u e => by
  rw [upd_ne (ne_of_none e h)]
  exact e
section
variable {P : Program} {w : World} {K : Fr} {mg : Str → Option Value} {base : Heap} {f fD : Addr} {fd fdD : FuncData}
/-! ### a value -/
abbrev sVal : Stmt := top 52
theorem scVal : FnScope ["_law_pot_here", "_law_number", "_law_some"] ["_law_pot_here"] (defScope sVal) := ⟨rfl, rfl, rfl, by decide +kernel, rfl, by decide +kernel, by decide +kernel⟩
def spVal : Sp := fun vs H Q _ => ∃ (p : Addr), vs = [.ref p] ∧ PotAt H p ∧ ∀ v d H', (∀ H'', But p H' H'' → Dq H'' v d) → Sm d → PotAt H' p → But p H H' → Q v H'
theorem ok_value (F : Fun K "_law_value" "_law_value" sVal f fd) (T : TT K mg) (FD : Fun K "_law_draw" "_law_draw" sDraw fD fdD) (gD : mg "_law_draw" = some (.ref fD)) : FnOk P w K mg base CX0 2 f fd ["_law_pot_here"] spVal := by
  have GD : FnOk P w K mg base CX0 1 fD fdD ["_law_pot_here", "_law_many"] spDraw := ok_draw FD T
  have bD : Binds K fdD ["_law_pot_here", "_law_many"] [] := FD.binds fun _ _ _ _ _ _ us hl => match us, hl with | [_, _], _ => rfl
  refine F.ok scVal (fun vs H Q E h => ?_) (fun cdv A outer s H vs Q E hr h => ?_)
  · obtain ⟨p, rfl, _⟩ := h
    rfl
  · obtain ⟨p, rfl, hp, q⟩ := h
    refine ⟨_, pss_cons (ps_set (i := 1) scVal.nd rfl (Or.inl rfl) (pe_call GD hr rfl gD FD.kp bD .nil pass0 (pa_cons (pv 0) (pa_cons (pe_op op_pow pe_int pe_int) pa_nil))))
      (pss_cons (ps_set (i := 2) scVal.nd rfl (Or.inl rfl) (pe_lst (pa_cons (pv 1) (pa_cons (pe_un un_neg (pv 1)) (pa_cons pe_non (pa_cons pe_bl (pa_cons pe_str (pa_cons pe_str (pa_cons (pe_lst (pa_cons (pv 1) pa_nil)) (pa_cons (pe_tup (pa_cons (pv 1) (pa_cons pe_int pa_nil)))
        (pa_cons pe_dnewK (pa_cons (pe_disp (pps_cons pe_str (pv 1) pps_nil) (by rfl) (by rfl) (fun z => by cases z) (by decide)) (pa_cons (pe_tup pa_nil) (pa_cons (pe_op op_mul (pv 1) (pe_op op_pow pe_int pe_int)) pa_nil))))))))))))))
      (pss_one (ps_ret (pe_ix ix_list (pv 2) (pe_call GD hr rfl gD FD.kp bD .nil pass0 (pa_cons (pv 0) (pa_cons (pe_callB call_len_seq (by rfl) T.free PySem.boot_len (pa_cons (pv 2) pa_nil)) pa_nil))) (fun _ _ => rfl))))), ?_⟩
    refine ⟨_, rfl, _, _, rfl, rfl, ⟨by decide, by decide, by decide⟩, p, _, rfl, hp, by decide, by decide, fun n H1 n0 n1 hp1 b1 => ?_⟩
    have n2 : n < 1000000000 := n1
    refine ⟨_, rfl, _, rfl, _, rfl, _, rfl, (by show 1 ≤ sizeLine; decide), fun l1 m1 => ?_⟩
    refine ⟨_, rfl, (by show 2 ≤ sizeLine; decide), fun t1 m2 => ?_⟩
    intro d0 m3 d1 m4
    refine ⟨_, rfl, upd_same, [(.inr "a", .int n)], rfl, (by show 1 ≤ 15; decide), ?_⟩
    refine ⟨(by show 0 ≤ sizeLine; decide), fun t2 m5 => ?_⟩
    refine ⟨_, rfl, _, _, rfl, rfl, ⟨by decide, by decide, by decide⟩, _, _, rfl, rfl, .inl ⟨by omega, by omega⟩, (by show 12 ≤ sizeLine; decide), fun L m6 => ?_⟩
    have s1 : Same H1 (upd H1 l1 (.lst [.int n])) := same_new m1
    have s2 := s1.trans (same_new (o := .tup [.int n, .int 1]) m2)
    have s3 := s2.trans (same_new (o := .dK []) m3)
    have s4 : Same (upd (upd (upd H1 l1 (.lst [.int n])) t1 (.tup [.int n, .int 1])) d0 (.dK [])) (upd (upd (upd (upd (upd H1 l1 (.lst [.int n])) t1 (.tup [.int n, .int 1])) d0 (.dK [])) d1 (.dK [])) d1 (.dK (mergeK [] [(.inr "a", .int n)]))) := by
      rw [upd_upd]
      exact same_new m4
    have s5 := same_new (o := .tup []) m5
    have s6 := same_new (o := .lst [V.int n, V.int (-n), V.non, V.bl true, V.str "", V.str "A", V.ref l1, V.ref t1, V.ref d0, V.ref d1, V.ref t2, V.int (n * 10 ^ Int.toNat 40)]) m6
    obtain ⟨x, y, hx, x0, y0, y1⟩ := hp1
    have hpL := (s5.trans s6) _ _ (s4 _ _ (s3 _ _ hx))
    have npL : p ≠ L := ne_of_none (s5 _ _ (s4 _ _ (s3 _ _ hx))) m6
    refine ⟨_, rfl, _, rfl, _, rfl, _, _, rfl, .inl (SqL.of upd_same), p, _, rfl, ⟨x, y, hpL, x0, y0, y1⟩, (by show (0 : Int) < 12; decide), (by show (12 : Int) < 1073741824; decide), fun i H5 i0 i1 hp5 b5 => ?_⟩
    have i1' : i < 12 := i1
    -- what stands behind the draw
    have k6 : ∀ b o, b ≠ p → (upd (upd (upd (upd (upd (upd (upd H1 l1 (.lst [.int n])) t1 (.tup [.int n, .int 1])) d0 (.dK [])) d1 (.dK [])) d1 (.dK (mergeK [] [(.inr "a", .int n)]))) t2 (.tup [])) L (.lst [V.int n, V.int (-n), V.non, V.bl true, V.str "", V.str "A", V.ref l1, V.ref t1, V.ref d0, V.ref d1, V.ref t2, V.int (n * 10 ^ Int.toNat 40)])) b = some o → H5 b = some o := fun b o hb e => b5 b o e hb
    have hp1n : ∀ c, H1 c = none → c ≠ p := fun c e z => by rw [z, hx] at e; cases e
    have e1 : H5 l1 = some (.lst [.int n]) := k6 _ _ (hp1n _ m1) ((s5.trans s6) _ _ (s4 _ _ ((same_new m2).trans (same_new m3) _ _ upd_same)))
    have e2 : H5 t1 = some (.tup [.int n, .int 1]) := k6 _ _ (hp1n _ (s1.free m2)) ((s5.trans s6) _ _ (s4 _ _ (same_new m3 _ _ upd_same)))
    have e3 : H5 d0 = some (.dK []) := k6 _ _ (hp1n _ (s2.free m3)) ((s5.trans s6) _ _ (s4 _ _ upd_same))
    have e4 : H5 d1 = some (.dK [(.inr "a", .int n)]) := k6 _ _ (hp1n _ (s3.free m4)) ((s5.trans s6) _ _ upd_same)
    have e5 : H5 t2 = some (.tup []) := k6 _ _ (hp1n _ (s3.free (s4.free m5))) (s6 _ _ upd_same)
    have e6 : H5 L = some (.lst [V.int n, V.int (-n), V.non, V.bl true, V.str "", V.str "A", V.ref l1, V.ref t1, V.ref d0, V.ref d1, V.ref t2, V.int (n * 10 ^ Int.toNat 40)]) := k6 _ _ (Ne.symm npL) upd_same
    have bH : But p H H5 := fun b o e hb => k6 b o hb ((s5.trans s6) _ _ (s4 _ _ (s3 _ _ (b1 b o e hb))))
    have pick : ∀ (j : Nat) (v : V) (d : PyData), i = (j : Int) → ([V.int n, V.int (-n), V.non, V.bl true, V.str "", V.str "A", V.ref l1, V.ref t1, V.ref d0, V.ref d1, V.ref t2, V.int (n * 10 ^ Int.toNat 40)] : List V)[j]? = some v → (∀ H'', But p H5 H'' → Dq H'' v d) → Sm d →
        ∃ (a : Addr) (xs : List V) (k : Int) (v : V), V.ref L = .ref a ∧ V.int i = .int k ∧ SqL K H5 a xs ∧ atI xs k = some v ∧ Q v H5 := fun j v d ej hv dq sm =>
      ⟨L, _, i, v, rfl, rfl, SqL.of e6, by rw [ej]; exact atI_nat hv, q v d H5 dq sm hp5 bH⟩
    have pn : n.natAbs < 2 ^ 170 := by omega
    have hc : i = 0 ∨ i = 1 ∨ i = 2 ∨ i = 3 ∨ i = 4 ∨ i = 5 ∨ i = 6 ∨ i = 7 ∨ i = 8 ∨ i = 9 ∨ i = 10 ∨ i = 11 := by omega
    have sl : Sm (.list [.int n]) := ⟨by show ((PyData.int n).showable && true) = true; rw [(int_sz pn).1]; rfl, by show max 0 0 + 1 ≤ 2; decide, by
      have := lst_sz (ds := [.int n]) (n := 171) fun d hd => by
        rw [List.mem_singleton.mp hd]
        exact (int_sz pn).2
      exact Nat.le_trans this (by show 1 * 171 + 2 * 1 + 3 ≤ 230; decide)⟩
    have st : Sm (.tuple [.int n, .int 1]) := ⟨by show ((PyData.int n).showable && ((PyData.int 1).showable && true)) = true; rw [(int_sz pn).1]; rfl, by show max 0 (max 0 0) + 1 ≤ 2; decide, by
      have h1 := tupleText_len_le (PyData.shownAll [.int n, .int 1])
      have h2 := (int_sz pn).2
      have h3 : (PyData.int 1).shown.length = 1 := by decide
      have h4 : ((PyData.shownAll [.int n, .int 1]).map (·.length)).sum = (PyData.int n).shown.length + ((PyData.int 1).shown.length + 0) := rfl
      have h5 : (PyData.shownAll [.int n, .int 1]).length = 2 := rfl
      show (tupleText (PyData.shownAll [.int n, .int 1])).length ≤ 230
      omega⟩
    have sd : Sm (.dict [(.str "a", .int n)]) := ⟨by show ((PyData.str "a").showable && (PyData.int n).showable && true) = true; rw [(int_sz pn).1]; rfl, by show max (max 0 0) 0 + 1 ≤ 2; decide, by
      have h1 := dictText_len_le (PyData.shownKv [(.str "a", .int n)])
      have h2 := (int_sz pn).2
      have h4 : (PyData.shownKv [(.str "a", .int n)]) = [(PyData.str "a").shown ++ ": " ++ (PyData.int n).shown] := rfl
      have h5 : ((PyData.str "a").shown ++ ": " ++ (PyData.int n).shown).length = 3 + 2 + (PyData.int n).shown.length := by
        have q1 : (PyData.str "a").shown.length = 3 := by decide +kernel
        have q2 : (": " : Str).length = 2 := rfl
        rw [strLen_append, strLen_append, q1, q2]
      rw [h4] at h1
      simp only [List.map_cons, List.map_nil, List.sum_cons, List.sum_nil, List.length_cons, List.length_nil, h5] at h1
      show (dictText (PyData.shownKv [(.str "a", .int n)])).length ≤ 230
      rw [h4]
      omega⟩
    have p40 : (n * 10 ^ Int.toNat 40).natAbs < 2 ^ 170 := by
      have e : (10 : Int) ^ Int.toNat 40 = 10000000000000000000000000000000000000000 := by decide
      rw [e]
      omega
    rcases hc with z | z | z | z | z | z | z | z | z | z | z | z
    · exact pick 0 _ _ z rfl (fun _ _ => .int n) (sm_int pn)
    · exact pick 1 _ _ z rfl (fun _ _ => .int (-n)) (sm_int (by omega))
    · exact pick 2 _ _ z rfl (fun _ _ => .non) sm_none
    · exact pick 3 _ _ z rfl (fun _ _ => .bl true) (sm_bool true)
    · exact pick 4 _ _ z rfl (fun _ _ => .str "") ⟨rfl, by decide, by decide +kernel⟩
    · exact pick 5 _ _ z rfl (fun _ _ => .str "A") ⟨rfl, by decide, by decide +kernel⟩
    · exact pick 6 _ _ z rfl (fun _ bb => .lst (bb _ _ e1 (hp1n _ m1)) (.cons (.int n) .nil)) sl
    · exact pick 7 _ _ z rfl (fun _ bb => .tup (bb _ _ e2 (hp1n _ (s1.free m2))) (.cons (.int n) (.cons (.int 1) .nil))) st
    · exact pick 8 _ _ z rfl (fun _ bb => .dct (bb _ _ e3 (hp1n _ (s2.free m3))) .nil) ⟨rfl, by decide, by decide⟩
    · exact pick 9 _ _ z rfl (fun _ bb => .dct (bb _ _ e4 (hp1n _ (s3.free m4))) (.cons (.int n) .nil)) sd
    · exact pick 10 _ _ z rfl (fun _ bb => .tup (bb _ _ e5 (hp1n _ (s3.free (s4.free m5)))) .nil) ⟨rfl, by decide, by decide⟩
    · exact pick 11 _ _ z rfl (fun _ _ => .int _) (sm_int p40)
end
end K14

set_option maxHeartbeats 4000000
namespace K14
open PySem PySem.Spec PyProof.Rows L2 ErL
/-! ### which classes an error is of -/
abbrev bls (bs : List Bool) : List V := bs.map V.bl
def tIs (K : Fr) (c : V) : TE := tCB (rIsEr K) (tCons (tVar 0) (tCons (tC c) tNil))
def tI3 (K : Fr) (a b c : V) : TE := tLst (tCons (tIs K a) (tCons (tIs K b) (tCons (tIs K c) tNil)))
/-- an error of the k-th class -/
def EAt (K : Fr) (H : Hp) (e : Addr) (k : Nat) : Prop := ∃ fs args, ErAt H e (cA K k) fs args
section
variable {K : Fr} {mg : Str → Option Value} {σ : L2.St} {H : Hp} {Q : VK} {e : Addr} {k : Nat}
/-- what isinstance says of a class, as a value -/
def Says1 (K : Fr) (k : Nat) (c : V) (b : Bool) : Prop := ∃ cv, (∀ u, RelV c u → u = cv) ∧ PySem.W.kitOne K (.ref (cA K k)) cv = some b
theorem rd3 (T : TT K mg) (hk : k < 45) {a b c : V} {x y z : Bool} (ha : Says1 K k a x) (hb : Says1 K k b y) (hc : Says1 K k c z) (h0 : σ[0]? = some (some (.ref e))) (hE : EAt K H e k)
    (q : ∀ l H', Same H H' → H' l = some (.lst (bls [x, y, z])) → H l = none → Q (.ref l) H') : tI3 K a b c σ H Q := by
  obtain ⟨fs, args, hE⟩ := hE
  obtain ⟨ca, a1, a2⟩ := ha
  obtain ⟨cb, b1, b2⟩ := hb
  obtain ⟨cc, c1, c2⟩ := hc
  exact ⟨_, h0, e, _, fs, args, a, ca, x, rfl, hE, T.ask k hk, a1, a2, _, h0, e, _, fs, args, b, cb, y, rfl, hE, T.ask k hk, b1, b2, _, h0, e, _, fs, args, c, cc, z, rfl, hE, T.ask k hk, c1, c2, (by show 3 ≤ sizeLine; decide), fun l hl => q l _ (same_new hl) upd_same hl⟩
theorem EAt.same {H' : Hp} (h : EAt K H e k) (s : Same H H') : EAt K H' e k := by
  obtain ⟨fs, args, h⟩ := h
  exact ⟨fs, args, h.same s⟩
theorem rdc (T : TT K mg) (hk : k < 45) {a b c : V} {x y z : Bool} {bs : List Bool} {l : Addr} (ha : Says1 K k a x) (hb : Says1 K k b y) (hc : Says1 K k c z) (h0 : σ[0]? = some (some (.ref e))) (h1 : σ[1]? = some (some (.ref l))) (hE : EAt K H e k)
    (hl : H l = some (.lst (bls bs))) (hn : bs.length ≤ 100) (q : ∀ l' H', Same H H' → H' l' = some (.lst (bls (bs ++ [x, y, z]))) → H l' = none → Q (.ref l') H') : tOp L2.rCat (tVar 1) (tI3 K a b c) σ H Q := by
  refine ⟨_, h1, rd3 T hk ha hb hc h0 hE fun l2 H2 s2 e2 n2 => ?_⟩
  refine ⟨_, _, _, _, rfl, rfl, s2 _ _ hl, e2, ?_, fun p hp => ?_⟩
  · show (bls bs).length + 3 ≤ sizeLine
    rw [List.length_map, sizeLine_eq]
    omega
  · refine q p _ (s2.trans (same_new hp)) ?_ (s2.free hp)
    rw [upd_same]
    show some (HO.lst (bls bs ++ bls [x, y, z])) = some (HO.lst (bls (bs ++ [x, y, z])))
    rw [← List.map_append]
theorem says_cls (T : TT K mg) (hk : k < 45) (j : Nat) (hj : j < 45 := by decide) : Says1 K k (.ref (cA K j)) (k == j) := ⟨.ref (cA K j), fun u r => r, T.mat k j hk hj⟩
theorem says_own (T : TT K mg) (hk : k < 45) (b : Nat) (hb : b < 3 := by decide) : Says1 K k (.ref (He.ga K (own b))) (bas k == b) := ⟨.ref (He.ga K (own b)), fun u r => r, (T.bs k b hk hb).1⟩
theorem says_ty (T : TT K mg) (hk : k < 45) (b : Nat) (hb : b < 3 := by decide) : Says1 K k (.ty (bnm b)) (bas k == b) := ⟨.type (bnm b), fun u r => r, (T.bs k b hk hb).2⟩
end
section
variable {P : Program} {w : World} {K : Fr} {mg : Str → Option Value} {base : Heap} {f : Addr} {fd : FuncData}
def spIs (K : Fr) (g : Nat → List Bool) : Sp := fun vs H Q _ => ∃ (e : Addr) (k : Nat), vs = [.ref e] ∧ k < 45 ∧ EAt K H e k ∧ ∀ l H', Same H H' → H' l = some (.lst (bls (g k))) → H l = none → Q (.ref l) H'
abbrev b_isi : bootBuiltins "isinstance" = some (.builtin "isinstance") := by decide +kernel
abbrev s_first_half : Stmt := top 53
theorem sc_first_half : FnScope ["_law_e", "_law_found"] ["_law_e"] (defScope s_first_half) := ⟨rfl, rfl, rfl, by decide +kernel, rfl, by decide +kernel, by decide +kernel⟩
def gF (k : Nat) : List Bool := (List.range 24).map (k == ·)
theorem ok_first_half (F : Fun K "_law_first_half" "_law_first_half" s_first_half f fd) (T : TT K mg) : FnOk P w K mg base CX0 1 f fd ["_law_e"] (spIs K gF) := by
  refine F.ok sc_first_half (fun vs H Q E h => ?_) (fun cdv A outer s H vs Q E hr h => ?_)
  · obtain ⟨e, k, rfl, _⟩ := h
    rfl
  · obtain ⟨e, k, rfl, hk, hE, q⟩ := h
    refine ⟨_, pss_cons (ps_set (i := 1) sc_first_half.nd rfl (Or.inl rfl) (pe_lst (pa_cons (pe_callB call_isEr (by rfl) T.free (by decide +kernel) (pa_cons (pv 0) (pa_cons (pe_glob (v := .ref (cA K 0)) (by rfl) (T.g 0 (by decide)) rfl) pa_nil))) (pa_cons (pe_callB call_isEr (by rfl) T.free (by decide +kernel) (pa_cons (pv 0) (pa_cons (pe_glob (v := .ref (cA K 1)) (by rfl) (T.g 1 (by decide)) rfl) pa_nil))) (pa_cons (pe_callB call_isEr (by rfl) T.free (by decide +kernel) (pa_cons (pv 0) (pa_cons (pe_glob (v := .ref (cA K 2)) (by rfl) (T.g 2 (by decide)) rfl) pa_nil))) pa_nil)))))
      (pss_cons (ps_set (i := 1) sc_first_half.nd rfl (Or.inl rfl) (pe_op op_cat (pv 1) (pe_lst (pa_cons (pe_callB call_isEr (by rfl) T.free (by decide +kernel) (pa_cons (pv 0) (pa_cons (pe_glob (v := .ref (cA K 3)) (by rfl) (T.g 3 (by decide)) rfl) pa_nil))) (pa_cons (pe_callB call_isEr (by rfl) T.free (by decide +kernel) (pa_cons (pv 0) (pa_cons (pe_glob (v := .ref (cA K 4)) (by rfl) (T.g 4 (by decide)) rfl) pa_nil))) (pa_cons (pe_callB call_isEr (by rfl) T.free (by decide +kernel) (pa_cons (pv 0) (pa_cons (pe_glob (v := .ref (cA K 5)) (by rfl) (T.g 5 (by decide)) rfl) pa_nil))) pa_nil))))))
      (pss_cons (ps_set (i := 1) sc_first_half.nd rfl (Or.inl rfl) (pe_op op_cat (pv 1) (pe_lst (pa_cons (pe_callB call_isEr (by rfl) T.free (by decide +kernel) (pa_cons (pv 0) (pa_cons (pe_glob (v := .ref (cA K 6)) (by rfl) (T.g 6 (by decide)) rfl) pa_nil))) (pa_cons (pe_callB call_isEr (by rfl) T.free (by decide +kernel) (pa_cons (pv 0) (pa_cons (pe_glob (v := .ref (cA K 7)) (by rfl) (T.g 7 (by decide)) rfl) pa_nil))) (pa_cons (pe_callB call_isEr (by rfl) T.free (by decide +kernel) (pa_cons (pv 0) (pa_cons (pe_glob (v := .ref (cA K 8)) (by rfl) (T.g 8 (by decide)) rfl) pa_nil))) pa_nil))))))
      (pss_cons (ps_set (i := 1) sc_first_half.nd rfl (Or.inl rfl) (pe_op op_cat (pv 1) (pe_lst (pa_cons (pe_callB call_isEr (by rfl) T.free (by decide +kernel) (pa_cons (pv 0) (pa_cons (pe_glob (v := .ref (cA K 9)) (by rfl) (T.g 9 (by decide)) rfl) pa_nil))) (pa_cons (pe_callB call_isEr (by rfl) T.free (by decide +kernel) (pa_cons (pv 0) (pa_cons (pe_glob (v := .ref (cA K 10)) (by rfl) (T.g 10 (by decide)) rfl) pa_nil))) (pa_cons (pe_callB call_isEr (by rfl) T.free (by decide +kernel) (pa_cons (pv 0) (pa_cons (pe_glob (v := .ref (cA K 11)) (by rfl) (T.g 11 (by decide)) rfl) pa_nil))) pa_nil))))))
      (pss_cons (ps_set (i := 1) sc_first_half.nd rfl (Or.inl rfl) (pe_op op_cat (pv 1) (pe_lst (pa_cons (pe_callB call_isEr (by rfl) T.free (by decide +kernel) (pa_cons (pv 0) (pa_cons (pe_glob (v := .ref (cA K 12)) (by rfl) (T.g 12 (by decide)) rfl) pa_nil))) (pa_cons (pe_callB call_isEr (by rfl) T.free (by decide +kernel) (pa_cons (pv 0) (pa_cons (pe_glob (v := .ref (cA K 13)) (by rfl) (T.g 13 (by decide)) rfl) pa_nil))) (pa_cons (pe_callB call_isEr (by rfl) T.free (by decide +kernel) (pa_cons (pv 0) (pa_cons (pe_glob (v := .ref (cA K 14)) (by rfl) (T.g 14 (by decide)) rfl) pa_nil))) pa_nil))))))
      (pss_cons (ps_set (i := 1) sc_first_half.nd rfl (Or.inl rfl) (pe_op op_cat (pv 1) (pe_lst (pa_cons (pe_callB call_isEr (by rfl) T.free (by decide +kernel) (pa_cons (pv 0) (pa_cons (pe_glob (v := .ref (cA K 15)) (by rfl) (T.g 15 (by decide)) rfl) pa_nil))) (pa_cons (pe_callB call_isEr (by rfl) T.free (by decide +kernel) (pa_cons (pv 0) (pa_cons (pe_glob (v := .ref (cA K 16)) (by rfl) (T.g 16 (by decide)) rfl) pa_nil))) (pa_cons (pe_callB call_isEr (by rfl) T.free (by decide +kernel) (pa_cons (pv 0) (pa_cons (pe_glob (v := .ref (cA K 17)) (by rfl) (T.g 17 (by decide)) rfl) pa_nil))) pa_nil))))))
      (pss_cons (ps_set (i := 1) sc_first_half.nd rfl (Or.inl rfl) (pe_op op_cat (pv 1) (pe_lst (pa_cons (pe_callB call_isEr (by rfl) T.free (by decide +kernel) (pa_cons (pv 0) (pa_cons (pe_glob (v := .ref (cA K 18)) (by rfl) (T.g 18 (by decide)) rfl) pa_nil))) (pa_cons (pe_callB call_isEr (by rfl) T.free (by decide +kernel) (pa_cons (pv 0) (pa_cons (pe_glob (v := .ref (cA K 19)) (by rfl) (T.g 19 (by decide)) rfl) pa_nil))) (pa_cons (pe_callB call_isEr (by rfl) T.free (by decide +kernel) (pa_cons (pv 0) (pa_cons (pe_glob (v := .ref (cA K 20)) (by rfl) (T.g 20 (by decide)) rfl) pa_nil))) pa_nil))))))
      (pss_one (ps_ret (pe_op op_cat (pv 1) (pe_lst (pa_cons (pe_callB call_isEr (by rfl) T.free (by decide +kernel) (pa_cons (pv 0) (pa_cons (pe_glob (v := .ref (cA K 21)) (by rfl) (T.g 21 (by decide)) rfl) pa_nil))) (pa_cons (pe_callB call_isEr (by rfl) T.free (by decide +kernel) (pa_cons (pv 0) (pa_cons (pe_glob (v := .ref (cA K 22)) (by rfl) (T.g 22 (by decide)) rfl) pa_nil))) (pa_cons (pe_callB call_isEr (by rfl) T.free (by decide +kernel) (pa_cons (pv 0) (pa_cons (pe_glob (v := .ref (cA K 23)) (by rfl) (T.g 23 (by decide)) rfl) pa_nil))) pa_nil))))))))))))), ?_⟩
    refine rd3 T hk (says_cls T hk 0) (says_cls T hk 1) (says_cls T hk 2) rfl hE (fun l0 H0 s0 e0 n0 => ?_)
    refine rdc T hk (says_cls T hk 3) (says_cls T hk 4) (says_cls T hk 5) rfl rfl (hE.same s0) e0 (by simp) (fun l1 H1 s1 e1 n1 => ?_)
    refine rdc T hk (says_cls T hk 6) (says_cls T hk 7) (says_cls T hk 8) rfl rfl (hE.same (s0.trans s1)) e1 (by simp) (fun l2 H2 s2 e2 n2 => ?_)
    refine rdc T hk (says_cls T hk 9) (says_cls T hk 10) (says_cls T hk 11) rfl rfl (hE.same ((s0.trans s1).trans s2)) e2 (by simp) (fun l3 H3 s3 e3 n3 => ?_)
    refine rdc T hk (says_cls T hk 12) (says_cls T hk 13) (says_cls T hk 14) rfl rfl (hE.same (((s0.trans s1).trans s2).trans s3)) e3 (by simp) (fun l4 H4 s4 e4 n4 => ?_)
    refine rdc T hk (says_cls T hk 15) (says_cls T hk 16) (says_cls T hk 17) rfl rfl (hE.same ((((s0.trans s1).trans s2).trans s3).trans s4)) e4 (by simp) (fun l5 H5 s5 e5 n5 => ?_)
    refine rdc T hk (says_cls T hk 18) (says_cls T hk 19) (says_cls T hk 20) rfl rfl (hE.same (((((s0.trans s1).trans s2).trans s3).trans s4).trans s5)) e5 (by simp) (fun l6 H6 s6 e6 n6 => ?_)
    refine rdc T hk (says_cls T hk 21) (says_cls T hk 22) (says_cls T hk 23) rfl rfl (hE.same ((((((s0.trans s1).trans s2).trans s3).trans s4).trans s5).trans s6)) e6 (by simp) (fun l7 H7 s7 e7 n7 => ?_)
    exact q l7 H7 (((((((s0.trans s1).trans s2).trans s3).trans s4).trans s5).trans s6).trans s7) e7 (((((((s0.trans s1).trans s2).trans s3).trans s4).trans s5).trans s6).free n7)
abbrev s_second_half : Stmt := top 54
theorem sc_second_half : FnScope ["_law_e", "_law_found"] ["_law_e"] (defScope s_second_half) := ⟨rfl, rfl, rfl, by decide +kernel, rfl, by decide +kernel, by decide +kernel⟩
def gS (k : Nat) : List Bool := (List.range 21).map fun j => k == 24 + j
theorem ok_second_half (F : Fun K "_law_second_half" "_law_second_half" s_second_half f fd) (T : TT K mg) : FnOk P w K mg base CX0 1 f fd ["_law_e"] (spIs K gS) := by
  refine F.ok sc_second_half (fun vs H Q E h => ?_) (fun cdv A outer s H vs Q E hr h => ?_)
  · obtain ⟨e, k, rfl, _⟩ := h
    rfl
  · obtain ⟨e, k, rfl, hk, hE, q⟩ := h
    refine ⟨_, pss_cons (ps_set (i := 1) sc_second_half.nd rfl (Or.inl rfl) (pe_lst (pa_cons (pe_callB call_isEr (by rfl) T.free (by decide +kernel) (pa_cons (pv 0) (pa_cons (pe_glob (v := .ref (cA K 24)) (by rfl) (T.g 24 (by decide)) rfl) pa_nil))) (pa_cons (pe_callB call_isEr (by rfl) T.free (by decide +kernel) (pa_cons (pv 0) (pa_cons (pe_glob (v := .ref (cA K 25)) (by rfl) (T.g 25 (by decide)) rfl) pa_nil))) (pa_cons (pe_callB call_isEr (by rfl) T.free (by decide +kernel) (pa_cons (pv 0) (pa_cons (pe_glob (v := .ref (cA K 26)) (by rfl) (T.g 26 (by decide)) rfl) pa_nil))) pa_nil)))))
      (pss_cons (ps_set (i := 1) sc_second_half.nd rfl (Or.inl rfl) (pe_op op_cat (pv 1) (pe_lst (pa_cons (pe_callB call_isEr (by rfl) T.free (by decide +kernel) (pa_cons (pv 0) (pa_cons (pe_glob (v := .ref (cA K 27)) (by rfl) (T.g 27 (by decide)) rfl) pa_nil))) (pa_cons (pe_callB call_isEr (by rfl) T.free (by decide +kernel) (pa_cons (pv 0) (pa_cons (pe_glob (v := .ref (cA K 28)) (by rfl) (T.g 28 (by decide)) rfl) pa_nil))) (pa_cons (pe_callB call_isEr (by rfl) T.free (by decide +kernel) (pa_cons (pv 0) (pa_cons (pe_glob (v := .ref (cA K 29)) (by rfl) (T.g 29 (by decide)) rfl) pa_nil))) pa_nil))))))
      (pss_cons (ps_set (i := 1) sc_second_half.nd rfl (Or.inl rfl) (pe_op op_cat (pv 1) (pe_lst (pa_cons (pe_callB call_isEr (by rfl) T.free (by decide +kernel) (pa_cons (pv 0) (pa_cons (pe_glob (v := .ref (cA K 30)) (by rfl) (T.g 30 (by decide)) rfl) pa_nil))) (pa_cons (pe_callB call_isEr (by rfl) T.free (by decide +kernel) (pa_cons (pv 0) (pa_cons (pe_glob (v := .ref (cA K 31)) (by rfl) (T.g 31 (by decide)) rfl) pa_nil))) (pa_cons (pe_callB call_isEr (by rfl) T.free (by decide +kernel) (pa_cons (pv 0) (pa_cons (pe_glob (v := .ref (cA K 32)) (by rfl) (T.g 32 (by decide)) rfl) pa_nil))) pa_nil))))))
      (pss_cons (ps_set (i := 1) sc_second_half.nd rfl (Or.inl rfl) (pe_op op_cat (pv 1) (pe_lst (pa_cons (pe_callB call_isEr (by rfl) T.free (by decide +kernel) (pa_cons (pv 0) (pa_cons (pe_glob (v := .ref (cA K 33)) (by rfl) (T.g 33 (by decide)) rfl) pa_nil))) (pa_cons (pe_callB call_isEr (by rfl) T.free (by decide +kernel) (pa_cons (pv 0) (pa_cons (pe_glob (v := .ref (cA K 34)) (by rfl) (T.g 34 (by decide)) rfl) pa_nil))) (pa_cons (pe_callB call_isEr (by rfl) T.free (by decide +kernel) (pa_cons (pv 0) (pa_cons (pe_glob (v := .ref (cA K 35)) (by rfl) (T.g 35 (by decide)) rfl) pa_nil))) pa_nil))))))
      (pss_cons (ps_set (i := 1) sc_second_half.nd rfl (Or.inl rfl) (pe_op op_cat (pv 1) (pe_lst (pa_cons (pe_callB call_isEr (by rfl) T.free (by decide +kernel) (pa_cons (pv 0) (pa_cons (pe_glob (v := .ref (cA K 36)) (by rfl) (T.g 36 (by decide)) rfl) pa_nil))) (pa_cons (pe_callB call_isEr (by rfl) T.free (by decide +kernel) (pa_cons (pv 0) (pa_cons (pe_glob (v := .ref (cA K 37)) (by rfl) (T.g 37 (by decide)) rfl) pa_nil))) (pa_cons (pe_callB call_isEr (by rfl) T.free (by decide +kernel) (pa_cons (pv 0) (pa_cons (pe_glob (v := .ref (cA K 38)) (by rfl) (T.g 38 (by decide)) rfl) pa_nil))) pa_nil))))))
      (pss_cons (ps_set (i := 1) sc_second_half.nd rfl (Or.inl rfl) (pe_op op_cat (pv 1) (pe_lst (pa_cons (pe_callB call_isEr (by rfl) T.free (by decide +kernel) (pa_cons (pv 0) (pa_cons (pe_glob (v := .ref (cA K 39)) (by rfl) (T.g 39 (by decide)) rfl) pa_nil))) (pa_cons (pe_callB call_isEr (by rfl) T.free (by decide +kernel) (pa_cons (pv 0) (pa_cons (pe_glob (v := .ref (cA K 40)) (by rfl) (T.g 40 (by decide)) rfl) pa_nil))) (pa_cons (pe_callB call_isEr (by rfl) T.free (by decide +kernel) (pa_cons (pv 0) (pa_cons (pe_glob (v := .ref (cA K 41)) (by rfl) (T.g 41 (by decide)) rfl) pa_nil))) pa_nil))))))
      (pss_one (ps_ret (pe_op op_cat (pv 1) (pe_lst (pa_cons (pe_callB call_isEr (by rfl) T.free (by decide +kernel) (pa_cons (pv 0) (pa_cons (pe_glob (v := .ref (cA K 42)) (by rfl) (T.g 42 (by decide)) rfl) pa_nil))) (pa_cons (pe_callB call_isEr (by rfl) T.free (by decide +kernel) (pa_cons (pv 0) (pa_cons (pe_glob (v := .ref (cA K 43)) (by rfl) (T.g 43 (by decide)) rfl) pa_nil))) (pa_cons (pe_callB call_isEr (by rfl) T.free (by decide +kernel) (pa_cons (pv 0) (pa_cons (pe_glob (v := .ref (cA K 44)) (by rfl) (T.g 44 (by decide)) rfl) pa_nil))) pa_nil)))))))))))), ?_⟩
    refine rd3 T hk (says_cls T hk 24) (says_cls T hk 25) (says_cls T hk 26) rfl hE (fun l0 H0 s0 e0 n0 => ?_)
    refine rdc T hk (says_cls T hk 27) (says_cls T hk 28) (says_cls T hk 29) rfl rfl (hE.same s0) e0 (by simp) (fun l1 H1 s1 e1 n1 => ?_)
    refine rdc T hk (says_cls T hk 30) (says_cls T hk 31) (says_cls T hk 32) rfl rfl (hE.same (s0.trans s1)) e1 (by simp) (fun l2 H2 s2 e2 n2 => ?_)
    refine rdc T hk (says_cls T hk 33) (says_cls T hk 34) (says_cls T hk 35) rfl rfl (hE.same ((s0.trans s1).trans s2)) e2 (by simp) (fun l3 H3 s3 e3 n3 => ?_)
    refine rdc T hk (says_cls T hk 36) (says_cls T hk 37) (says_cls T hk 38) rfl rfl (hE.same (((s0.trans s1).trans s2).trans s3)) e3 (by simp) (fun l4 H4 s4 e4 n4 => ?_)
    refine rdc T hk (says_cls T hk 39) (says_cls T hk 40) (says_cls T hk 41) rfl rfl (hE.same ((((s0.trans s1).trans s2).trans s3).trans s4)) e4 (by simp) (fun l5 H5 s5 e5 n5 => ?_)
    refine rdc T hk (says_cls T hk 42) (says_cls T hk 43) (says_cls T hk 44) rfl rfl (hE.same (((((s0.trans s1).trans s2).trans s3).trans s4).trans s5)) e5 (by simp) (fun l6 H6 s6 e6 n6 => ?_)
    exact q l6 H6 ((((((s0.trans s1).trans s2).trans s3).trans s4).trans s5).trans s6) e6 ((((((s0.trans s1).trans s2).trans s3).trans s4).trans s5).free n6)
abbrev s_bases : Stmt := top 55
theorem sc_bases : FnScope ["_law_e", "_law_found"] ["_law_e"] (defScope s_bases) := ⟨rfl, rfl, rfl, by decide +kernel, rfl, by decide +kernel, by decide +kernel⟩
def gB (k : Nat) : List Bool := ((List.range 3).map (bas k == ·)) ++ (List.range 3).map (bas k == ·)
theorem ok_bases (F : Fun K "_law_bases" "_law_bases" s_bases f fd) (T : TT K mg) : FnOk P w K mg base CX0 1 f fd ["_law_e"] (spIs K gB) := by
  refine F.ok sc_bases (fun vs H Q E h => ?_) (fun cdv A outer s H vs Q E hr h => ?_)
  · obtain ⟨e, k, rfl, _⟩ := h
    rfl
  · obtain ⟨e, k, rfl, hk, hE, q⟩ := h
    refine ⟨_, pss_cons (ps_set (i := 1) sc_bases.nd rfl (Or.inl rfl) (pe_lst (pa_cons (pe_callB call_isEr (by rfl) T.free (by decide +kernel) (pa_cons (pv 0) (pa_cons (pe_glob (v := .ref (He.ga K (own 0))) (by rfl) (T.gb 0 (by decide)) rfl) pa_nil))) (pa_cons (pe_callB call_isEr (by rfl) T.free (by decide +kernel) (pa_cons (pv 0) (pa_cons (pe_glob (v := .ref (He.ga K (own 1))) (by rfl) (T.gb 1 (by decide)) rfl) pa_nil))) (pa_cons (pe_callB call_isEr (by rfl) T.free (by decide +kernel) (pa_cons (pv 0) (pa_cons (pe_glob (v := .ref (He.ga K (own 2))) (by rfl) (T.gb 2 (by decide)) rfl) pa_nil))) pa_nil)))))
      (pss_one (ps_ret (pe_op op_cat (pv 1) (pe_lst (pa_cons (pe_callB call_isEr (by rfl) T.free (by decide +kernel) (pa_cons (pv 0) (pa_cons (pe_bltn (v := .ty (bnm 0)) (u := .type (bnm 0)) (by rfl) T.free (by decide +kernel) rfl) pa_nil))) (pa_cons (pe_callB call_isEr (by rfl) T.free (by decide +kernel) (pa_cons (pv 0) (pa_cons (pe_bltn (v := .ty (bnm 1)) (u := .type (bnm 1)) (by rfl) T.free (by decide +kernel) rfl) pa_nil))) (pa_cons (pe_callB call_isEr (by rfl) T.free (by decide +kernel) (pa_cons (pv 0) (pa_cons (pe_bltn (v := .ty (bnm 2)) (u := .type (bnm 2)) (by rfl) T.free (by decide +kernel) rfl) pa_nil))) pa_nil))))))), ?_⟩
    refine rd3 T hk (says_own T hk 0) (says_own T hk 1) (says_own T hk 2) rfl hE (fun l0 H0 s0 e0 n0 => ?_)
    refine rdc T hk (says_ty T hk 0) (says_ty T hk 1) (says_ty T hk 2) rfl rfl (hE.same s0) e0 (by simp) (fun l1 H1 s1 e1 n1 => ?_)
    exact q l1 H1 (s0.trans s1) e1 (s0.free n1)
end
end K14

set_option maxHeartbeats 4000000
namespace K14
open PySem PySem.Spec PyProof.Rows L2 ErL
/-! ### what an error holds, what it was made with -/
def flds (d : Nat) (a b : V) : List (Str × V) := match d with
  | 0 => [("value", a)]
  | 1 => [("position", b)]
  | 2 => [("position", b), ("places", a)]
  | 3 => [("line", b)]
  | 4 => [("name", a)]
  | 5 => [("kind", a), ("limit", b)]
  | _ => []
def due (d : Nat) (a b : V) : List V := match d with
  | 0 => [a]
  | 1 => [b]
  | 2 => [b, a]
  | 3 => [b]
  | 4 => [a]
  | 5 => [a, b]
  | _ => []
abbrev Spc : Type := Addr × List (Str × V) × List V
def spc (K : Fr) (a b : V) (k : Nat) : Spc := (cA K k, flds (kd k) a b, due (kd k) a b)
def AllEr (H : Hp) : List Addr → List Spc → Prop := Paired fun e p => ErAt H e p.1 p.2.1 p.2.2
theorem AllEr.same {H H' : Hp} (s : Same H H') : ∀ {es : List Addr} {ps : List Spc}, AllEr H es ps → AllEr H' es ps
  | _, _, .nil => .nil
  | _, _, .cons h t => .cons (h.same s) (AllEr.same s t)
theorem AllEr.app {H : Hp} : ∀ {es es' : List Addr} {ps ps' : List Spc}, AllEr H es ps → AllEr H es' ps' → AllEr H (es ++ es') (ps ++ ps')
  | _, _, _, _, .nil, h => h
  | _, _, _, _, .cons h t, h' => .cons h (AllEr.app t h')
theorem AllEr.len {H : Hp} {es : List Addr} {ps : List Spc} (h : AllEr H es ps) : es.length = ps.length := Paired.length h
theorem AllEr.at_ {H : Hp} : ∀ {es : List Addr} {ps : List Spc} {k : Nat} {p : Spc}, AllEr H es ps → ps[k]? = some p → ∃ e, es[k]? = some e ∧ ErAt H e p.1 p.2.1 p.2.2
  | _, _, 0, _, .cons h _, e => by
    cases e
    exact ⟨_, rfl, h⟩
  | _, _, k + 1, _, .cons _ t, e => AllEr.at_ (k := k) t e
/-! ### makers -/
def MkE (σ : L2.St) (t : TE) (p : Spc) : Prop := ∀ H Q, (∀ e H', ErAt H' e p.1 p.2.1 p.2.2 → Same H H' → Q (.ref e) H') → t σ H Q
def MkA (σ : L2.St) (t : TA) (ps : List Spc) : Prop := ∀ H Q, (∀ es H', AllEr H' es ps → Same H H' → Q (es.map V.ref) H') → t σ H Q
section
variable {σ : L2.St} {H : Hp} {Q : VK} {t : TE} {tr : TA} {p : Spc} {ps ps0 : List Spc} {C : Addr} {f f' : Str} {i j : Nat} {v v' : V}
theorem mkA_nil : MkA σ tNil [] := fun H Q h => h [] H .nil (Same.refl H)
theorem mkA_cons (h : MkE σ t p) (r : MkA σ tr ps) : MkA σ (tCons t tr) (p :: ps) := fun H Q q => h H _ fun e H1 e1 s1 => r H1 _ fun es H2 e2 s2 => q (e :: es) H2 (.cons (e1.same s2) e2) (s1.trans s2)
theorem mkE0 : MkE σ (tEr0 C) (C, [], []) := fun H Q q e H' h s _ => q e H' h s
theorem mkE1 (hi : σ[i]? = some (some v)) : MkE σ (tEr1 C f (tCons (tVar i) tNil)) (C, [(f, v)], [v]) := fun H Q q => ⟨v, hi, v, rfl, fun e H' h s _ => q e H' h s⟩
theorem mkE2 (hi : σ[i]? = some (some v)) (hj : σ[j]? = some (some v')) : MkE σ (tEr2 C f f' (tCons (tVar i) (tCons (tVar j) tNil))) (C, [(f, v), (f', v')], [v, v']) := fun H Q q => ⟨v, hi, v', hj, v, v', rfl, fun e H' h s _ => q e H' h s⟩
theorem rdL (m : MkA σ tr ps) (hz : ps.length ≤ 100) (q : ∀ l es H', AllEr H' es ps → Same H H' → H' l = some (.lst (es.map V.ref)) → H l = none → Q (.ref l) H') : tLst tr σ H Q := by
  refine m H _ fun es H1 e1 s1 => ⟨?_, fun l hl => ?_⟩
  · rw [List.length_map, e1.len, sizeLine_eq]
    omega
  · exact q l es _ (e1.same (same_new hl)) (s1.trans (same_new hl)) upd_same (s1.free hl)
theorem rdLc {l : Addr} {es : List Addr} {n : Nat} (m : MkA σ tr ps) (hn : σ[n]? = some (some (.ref l))) (hl : H l = some (.lst (es.map V.ref))) (he : AllEr H es ps0) (hz : ps0.length ≤ 100) (hz' : ps.length ≤ 100)
    (q : ∀ l' es' H', AllEr H' es' (ps0 ++ ps) → Same H H' → H' l' = some (.lst (es'.map V.ref)) → H l' = none → Q (.ref l') H') : tOp L2.rCat (tVar n) (tLst tr) σ H Q := by
  refine ⟨_, hn, rdL m hz' fun l2 es2 H2 e2 s2 l2e _ => ?_⟩
  refine ⟨_, _, _, _, rfl, rfl, s2 _ _ hl, l2e, ?_, fun p hp => ?_⟩
  · rw [List.length_map, List.length_map, he.len, e2.len, sizeLine_eq]
    omega
  · refine q p (es ++ es2) _ (((he.same s2).app e2).same (same_new hp)) (s2.trans (same_new hp)) ?_ (s2.free hp)
    rw [upd_same, List.map_append]
end
theorem sq_set {t : TE} {i : Nat} {u : TS} {D : Ends} {σ : L2.St} {H : Hp} (h : t σ H (fun v H1 => u D (σ.set i (some v)) H1)) : tSeq (tAsg t (gName i)) u D σ H := h
theorem sq_ret {t : TE} {D : Ends} {σ : L2.St} {H : Hp} (h : t σ H D.rt) : tRet t D σ H := h
section
variable {P : Program} {w : World} {K : Fr} {mg : Str → Option Value} {base : Heap} {f : Addr} {fd : FuncData}
/-! ### one of each -/
def spMade (K : Fr) : Sp := fun vs H Q _ => ∃ (a b : V), vs = [a, b] ∧ ∀ l es H', AllEr H' es ((List.range 45).map (spc K a b)) → Same H H' → H' l = some (.lst (es.map V.ref)) → H l = none → Q (.ref l) H'
abbrev s_made : Stmt := top 56
theorem sc_made : FnScope ["_law_a", "_law_b", "_law_found"] ["_law_a", "_law_b"] (defScope s_made) := ⟨rfl, rfl, rfl, by decide +kernel, rfl, by decide +kernel, by decide +kernel⟩
theorem ok_made (F : Fun K "_law_made" "_law_made" s_made f fd) (T : TT K mg) : FnOk P w K mg base CX0 2 f fd ["_law_a", "_law_b"] (spMade K) := by
  refine F.ok sc_made (fun vs H Q E h => ?_) (fun cdv A outer s H vs Q E hr h => ?_)
  · obtain ⟨a, b, rfl, _⟩ := h
    rfl
  · obtain ⟨a, b, rfl, q⟩ := h
    refine ⟨_, pss_cons (ps_set (i := 2) sc_made.nd rfl (Or.inl rfl) (pe_lst (pa_cons (pe_er1 (T.cl 0 (by decide) (by decide)) (T.in1 tx_0) bd1_value hr (by rfl) (T.g 0 (by decide)) (pa_cons (pv 0) pa_nil)) (pa_cons (pe_er1 (T.cl 1 (by decide) (by decide)) (T.in1 tx_1) bd1_value hr (by rfl) (T.g 1 (by decide)) (pa_cons (pv 0) pa_nil)) (pa_cons (pe_er1 (T.cl 2 (by decide) (by decide)) (T.in1 tx_2) bd1_value hr (by rfl) (T.g 2 (by decide)) (pa_cons (pv 0) pa_nil)) (pa_cons (pe_er1 (T.cl 3 (by decide) (by decide)) (T.in1 tx_3) bd1_position hr (by rfl) (T.g 3 (by decide)) (pa_cons (pv 1) pa_nil)) (pa_cons (pe_er1 (T.cl 4 (by decide) (by decide)) (T.in1 tx_4) bd1_position hr (by rfl) (T.g 4 (by decide)) (pa_cons (pv 1) pa_nil)) (pa_cons (pe_er1 (T.cl 5 (by decide) (by decide)) (T.in1 tx_5) bd1_value hr (by rfl) (T.g 5 (by decide)) (pa_cons (pv 0) pa_nil)) pa_nil))))))))
      (pss_cons (ps_set (i := 2) sc_made.nd rfl (Or.inl rfl) (pe_op op_cat (pv 2) (pe_lst (pa_cons (pe_er1 (T.cl 6 (by decide) (by decide)) (T.in1 tx_6) bd1_value hr (by rfl) (T.g 6 (by decide)) (pa_cons (pv 0) pa_nil)) (pa_cons (pe_er1 (T.cl 7 (by decide) (by decide)) (T.in1 tx_7) bd1_position hr (by rfl) (T.g 7 (by decide)) (pa_cons (pv 1) pa_nil)) (pa_cons (pe_er2 (T.cl 8 (by decide) (by decide)) (T.in2 tx_8) bd2_places hr (by rfl) (T.g 8 (by decide)) (pa_cons (pv 1) (pa_cons (pv 0) pa_nil))) (pa_cons (pe_er1 (T.cl 9 (by decide) (by decide)) (T.in1 tx_9) bd1_position hr (by rfl) (T.g 9 (by decide)) (pa_cons (pv 1) pa_nil)) (pa_cons (pe_er1 (T.cl 10 (by decide) (by decide)) (T.in1 tx_10) bd1_position hr (by rfl) (T.g 10 (by decide)) (pa_cons (pv 1) pa_nil)) pa_nil))))))))
      (pss_cons (ps_set (i := 2) sc_made.nd rfl (Or.inl rfl) (pe_op op_cat (pv 2) (pe_lst (pa_cons (pe_er1 (T.cl 11 (by decide) (by decide)) (T.in1 tx_11) bd1_position hr (by rfl) (T.g 11 (by decide)) (pa_cons (pv 1) pa_nil)) (pa_cons (pe_er1 (T.cl 12 (by decide) (by decide)) (T.in1 tx_12) bd1_position hr (by rfl) (T.g 12 (by decide)) (pa_cons (pv 1) pa_nil)) (pa_cons (pe_er1 (T.cl 13 (by decide) (by decide)) (T.in1 tx_13) bd1_value hr (by rfl) (T.g 13 (by decide)) (pa_cons (pv 0) pa_nil)) (pa_cons (pe_er1 (T.cl 14 (by decide) (by decide)) (T.in1 tx_14) bd1_position hr (by rfl) (T.g 14 (by decide)) (pa_cons (pv 1) pa_nil)) (pa_cons (pe_er1 (T.cl 15 (by decide) (by decide)) (T.in1 tx_15) bd1_value hr (by rfl) (T.g 15 (by decide)) (pa_cons (pv 0) pa_nil)) pa_nil))))))))
      (pss_cons (ps_set (i := 2) sc_made.nd rfl (Or.inl rfl) (pe_op op_cat (pv 2) (pe_lst (pa_cons (pe_er1 (T.cl 16 (by decide) (by decide)) (T.in1 tx_16) bd1_position hr (by rfl) (T.g 16 (by decide)) (pa_cons (pv 1) pa_nil)) (pa_cons (pe_er1 (T.cl 17 (by decide) (by decide)) (T.in1 tx_17) bd1_value hr (by rfl) (T.g 17 (by decide)) (pa_cons (pv 0) pa_nil)) (pa_cons (pe_er1 (T.cl 18 (by decide) (by decide)) (T.in1 tx_18) bd1_value hr (by rfl) (T.g 18 (by decide)) (pa_cons (pv 0) pa_nil)) (pa_cons (pe_er1 (T.cl 19 (by decide) (by decide)) (T.in1 tx_19) bd1_position hr (by rfl) (T.g 19 (by decide)) (pa_cons (pv 1) pa_nil)) (pa_cons (pe_er1 (T.cl 20 (by decide) (by decide)) (T.in1 tx_20) bd1_value hr (by rfl) (T.g 20 (by decide)) (pa_cons (pv 0) pa_nil)) pa_nil))))))))
      (pss_cons (ps_set (i := 2) sc_made.nd rfl (Or.inl rfl) (pe_op op_cat (pv 2) (pe_lst (pa_cons (pe_er1 (T.cl 21 (by decide) (by decide)) (T.in1 tx_21) bd1_value hr (by rfl) (T.g 21 (by decide)) (pa_cons (pv 0) pa_nil)) (pa_cons (pe_er1 (T.cl 22 (by decide) (by decide)) (T.in1 tx_22) bd1_value hr (by rfl) (T.g 22 (by decide)) (pa_cons (pv 0) pa_nil)) (pa_cons (pe_er1 (T.cl 23 (by decide) (by decide)) (T.in1 tx_23) bd1_value hr (by rfl) (T.g 23 (by decide)) (pa_cons (pv 0) pa_nil)) (pa_cons (pe_er1 (T.cl 24 (by decide) (by decide)) (T.in1 tx_24) bd1_value hr (by rfl) (T.g 24 (by decide)) (pa_cons (pv 0) pa_nil)) (pa_cons (pe_er1 (T.cl 25 (by decide) (by decide)) (T.in1 tx_25) bd1_value hr (by rfl) (T.g 25 (by decide)) (pa_cons (pv 0) pa_nil)) pa_nil))))))))
      (pss_cons (ps_set (i := 2) sc_made.nd rfl (Or.inl rfl) (pe_op op_cat (pv 2) (pe_lst (pa_cons (pe_er1 (T.cl 26 (by decide) (by decide)) (T.in1 tx_26) bd1_position hr (by rfl) (T.g 26 (by decide)) (pa_cons (pv 1) pa_nil)) (pa_cons (pe_er2 (T.cl 27 (by decide) (by decide)) (T.in2 tx_27) bd2_places hr (by rfl) (T.g 27 (by decide)) (pa_cons (pv 1) (pa_cons (pv 0) pa_nil))) (pa_cons (pe_er1 (T.cl 28 (by decide) (by decide)) (T.in1 tx_28) bd1_line hr (by rfl) (T.g 28 (by decide)) (pa_cons (pv 1) pa_nil)) (pa_cons (pe_er1 (T.cl 29 (by decide) (by decide)) (T.in1 tx_29) bd1_position hr (by rfl) (T.g 29 (by decide)) (pa_cons (pv 1) pa_nil)) (pa_cons (pe_er1 (T.cl 30 (by decide) (by decide)) (T.in1 tx_30) bd1_value hr (by rfl) (T.g 30 (by decide)) (pa_cons (pv 0) pa_nil)) pa_nil))))))))
      (pss_cons (ps_set (i := 2) sc_made.nd rfl (Or.inl rfl) (pe_op op_cat (pv 2) (pe_lst (pa_cons (pe_er1 (T.cl 31 (by decide) (by decide)) (T.in1 tx_31) bd1_value hr (by rfl) (T.g 31 (by decide)) (pa_cons (pv 0) pa_nil)) (pa_cons (pe_er1 (T.cl 32 (by decide) (by decide)) (T.in1 tx_32) bd1_name hr (by rfl) (T.g 32 (by decide)) (pa_cons (pv 0) pa_nil)) (pa_cons (pe_er1 (T.cl 33 (by decide) (by decide)) (T.in1 tx_33) bd1_position hr (by rfl) (T.g 33 (by decide)) (pa_cons (pv 1) pa_nil)) (pa_cons (pe_er1 (T.cl 34 (by decide) (by decide)) (T.in1 tx_34) bd1_name hr (by rfl) (T.g 34 (by decide)) (pa_cons (pv 0) pa_nil)) (pa_cons (pe_er1 (T.cl 35 (by decide) (by decide)) (T.in1 tx_35) bd1_name hr (by rfl) (T.g 35 (by decide)) (pa_cons (pv 0) pa_nil)) (pa_cons (pe_er1 (T.cl 36 (by decide) (by decide)) (T.in1 tx_36) bd1_name hr (by rfl) (T.g 36 (by decide)) (pa_cons (pv 0) pa_nil)) pa_nil)))))))))
      (pss_cons (ps_set (i := 2) sc_made.nd rfl (Or.inl rfl) (pe_op op_cat (pv 2) (pe_lst (pa_cons (pe_er1 (T.cl 37 (by decide) (by decide)) (T.in1 tx_37) bd1_name hr (by rfl) (T.g 37 (by decide)) (pa_cons (pv 0) pa_nil)) (pa_cons (pe_er0 (fb (bas 38)) (T.no 38 (by decide) rfl).1 (T.no 38 (by decide) rfl).2 (by rfl) (T.g 38 (by decide))) (pa_cons (pe_er2 (T.cl 39 (by decide) (by decide)) (T.in2 tx_39) bd2_kind hr (by rfl) (T.g 39 (by decide)) (pa_cons (pv 0) (pa_cons (pv 1) pa_nil))) (pa_cons (pe_er1 (T.cl 40 (by decide) (by decide)) (T.in1 tx_40) bd1_name hr (by rfl) (T.g 40 (by decide)) (pa_cons (pv 0) pa_nil)) (pa_cons (pe_er1 (T.cl 41 (by decide) (by decide)) (T.in1 tx_41) bd1_value hr (by rfl) (T.g 41 (by decide)) (pa_cons (pv 0) pa_nil)) (pa_cons (pe_er1 (T.cl 42 (by decide) (by decide)) (T.in1 tx_42) bd1_name hr (by rfl) (T.g 42 (by decide)) (pa_cons (pv 0) pa_nil)) pa_nil)))))))))
      (pss_one (ps_ret (pe_op op_cat (pv 2) (pe_lst (pa_cons (pe_er0 (fb (bas 43)) (T.no 43 (by decide) rfl).1 (T.no 43 (by decide) rfl).2 (by rfl) (T.g 43 (by decide))) (pa_cons (pe_er0 (fb (bas 44)) (T.no 44 (by decide) rfl).1 (T.no 44 (by decide) rfl).2 (by rfl) (T.g 44 (by decide))) pa_nil))))))))))))), ?_⟩
    have m0 : MkA (L2.start ["_law_a", "_law_b", "_law_found"] [a, b]) _ [spc K a b 0, spc K a b 1, spc K a b 2, spc K a b 3, spc K a b 4, spc K a b 5] := (mkA_cons (mkE1 (i := 0) rfl) (mkA_cons (mkE1 (i := 0) rfl) (mkA_cons (mkE1 (i := 0) rfl) (mkA_cons (mkE1 (i := 1) rfl) (mkA_cons (mkE1 (i := 1) rfl) (mkA_cons (mkE1 (i := 0) rfl) mkA_nil))))))
    refine sq_set (rdL m0 (by simp) (fun l0 es0 H0 e0 s0 z0 n0 => ?_))
    have m1 : MkA ((L2.start ["_law_a", "_law_b", "_law_found"] [a, b]).set 2 (some (V.ref l0))) _ [spc K a b 6, spc K a b 7, spc K a b 8, spc K a b 9, spc K a b 10] := (mkA_cons (mkE1 (i := 0) rfl) (mkA_cons (mkE1 (i := 1) rfl) (mkA_cons (mkE2 (i := 1) (j := 0) (by rfl) rfl) (mkA_cons (mkE1 (i := 1) rfl) (mkA_cons (mkE1 (i := 1) rfl) mkA_nil)))))
    refine sq_set (rdLc (n := 2) m1 rfl z0 e0 (by simp) (by simp) (fun l1 es1 H1 e1 s1 z1 n1 => ?_))
    have m2 : MkA ((L2.start ["_law_a", "_law_b", "_law_found"] [a, b]).set 2 (some (V.ref l1))) _ [spc K a b 11, spc K a b 12, spc K a b 13, spc K a b 14, spc K a b 15] := (mkA_cons (mkE1 (i := 1) rfl) (mkA_cons (mkE1 (i := 1) rfl) (mkA_cons (mkE1 (i := 0) rfl) (mkA_cons (mkE1 (i := 1) rfl) (mkA_cons (mkE1 (i := 0) rfl) mkA_nil)))))
    refine sq_set (rdLc (n := 2) m2 rfl z1 e1 (by simp) (by simp) (fun l2 es2 H2 e2 s2 z2 n2 => ?_))
    have m3 : MkA ((L2.start ["_law_a", "_law_b", "_law_found"] [a, b]).set 2 (some (V.ref l2))) _ [spc K a b 16, spc K a b 17, spc K a b 18, spc K a b 19, spc K a b 20] := (mkA_cons (mkE1 (i := 1) rfl) (mkA_cons (mkE1 (i := 0) rfl) (mkA_cons (mkE1 (i := 0) rfl) (mkA_cons (mkE1 (i := 1) rfl) (mkA_cons (mkE1 (i := 0) rfl) mkA_nil)))))
    refine sq_set (rdLc (n := 2) m3 rfl z2 e2 (by simp) (by simp) (fun l3 es3 H3 e3 s3 z3 n3 => ?_))
    have m4 : MkA ((L2.start ["_law_a", "_law_b", "_law_found"] [a, b]).set 2 (some (V.ref l3))) _ [spc K a b 21, spc K a b 22, spc K a b 23, spc K a b 24, spc K a b 25] := (mkA_cons (mkE1 (i := 0) rfl) (mkA_cons (mkE1 (i := 0) rfl) (mkA_cons (mkE1 (i := 0) rfl) (mkA_cons (mkE1 (i := 0) rfl) (mkA_cons (mkE1 (i := 0) rfl) mkA_nil)))))
    refine sq_set (rdLc (n := 2) m4 rfl z3 e3 (by simp) (by simp) (fun l4 es4 H4 e4 s4 z4 n4 => ?_))
    have m5 : MkA ((L2.start ["_law_a", "_law_b", "_law_found"] [a, b]).set 2 (some (V.ref l4))) _ [spc K a b 26, spc K a b 27, spc K a b 28, spc K a b 29, spc K a b 30] := (mkA_cons (mkE1 (i := 1) rfl) (mkA_cons (mkE2 (i := 1) (j := 0) (by rfl) rfl) (mkA_cons (mkE1 (i := 1) rfl) (mkA_cons (mkE1 (i := 1) rfl) (mkA_cons (mkE1 (i := 0) rfl) mkA_nil)))))
    refine sq_set (rdLc (n := 2) m5 rfl z4 e4 (by simp) (by simp) (fun l5 es5 H5 e5 s5 z5 n5 => ?_))
    have m6 : MkA ((L2.start ["_law_a", "_law_b", "_law_found"] [a, b]).set 2 (some (V.ref l5))) _ [spc K a b 31, spc K a b 32, spc K a b 33, spc K a b 34, spc K a b 35, spc K a b 36] := (mkA_cons (mkE1 (i := 0) rfl) (mkA_cons (mkE1 (i := 0) rfl) (mkA_cons (mkE1 (i := 1) rfl) (mkA_cons (mkE1 (i := 0) rfl) (mkA_cons (mkE1 (i := 0) rfl) (mkA_cons (mkE1 (i := 0) rfl) mkA_nil))))))
    refine sq_set (rdLc (n := 2) m6 rfl z5 e5 (by simp) (by simp) (fun l6 es6 H6 e6 s6 z6 n6 => ?_))
    have m7 : MkA ((L2.start ["_law_a", "_law_b", "_law_found"] [a, b]).set 2 (some (V.ref l6))) _ [spc K a b 37, spc K a b 38, spc K a b 39, spc K a b 40, spc K a b 41, spc K a b 42] := (mkA_cons (mkE1 (i := 0) rfl) (mkA_cons mkE0 (mkA_cons (mkE2 (i := 0) (j := 1) (by rfl) rfl) (mkA_cons (mkE1 (i := 0) rfl) (mkA_cons (mkE1 (i := 0) rfl) (mkA_cons (mkE1 (i := 0) rfl) mkA_nil))))))
    refine sq_set (rdLc (n := 2) m7 rfl z6 e6 (by simp) (by simp) (fun l7 es7 H7 e7 s7 z7 n7 => ?_))
    have m8 : MkA ((L2.start ["_law_a", "_law_b", "_law_found"] [a, b]).set 2 (some (V.ref l7))) _ [spc K a b 43, spc K a b 44] := (mkA_cons mkE0 (mkA_cons mkE0 mkA_nil))
    refine sq_ret (rdLc (n := 2) m8 rfl z7 e7 (by simp) (by simp) (fun l8 es8 H8 e8 s8 z8 n8 => ?_))
    exact q l8 es8 H8 e8 ((((((((s0.trans s1).trans s2).trans s3).trans s4).trans s5).trans s6).trans s7).trans s8) z8 ((((((((s0.trans s1).trans s2).trans s3).trans s4).trans s5).trans s6).trans s7).free n8)
end
end K14

set_option maxHeartbeats 4000000
namespace K14
open PySem PySem.Spec PyProof.Rows L2 ErL
section
variable {P : Program} {w : World} {K : Fr} {mg : Str → Option Value} {base : Heap} {f : Addr} {fd : FuncData} {a b : V}
/-! ### errors made by the names of their parameters -/
/-- a value that a reading hands on, the heap grown -/
def Giv (σ : L2.St) (t : TE) (v : V) : Prop := ∀ H Q, (∀ H', Same H H' → Q v H') → t σ H Q
def GivA (σ : L2.St) (t : TA) (vs : List V) : Prop := ∀ H Q, (∀ H', Same H H' → Q vs H') → t σ H Q
section
variable {σ : L2.St} {H : Hp} {Q : VK} {t : TE} {tr : TA} {v v' : V} {vs vs0 : List V} {C : Addr} {f f' g : Str} {i j : Nat}
theorem giv_nil : GivA σ tNil [] := fun H Q h => h H (Same.refl H)
theorem giv_cons (h : Giv σ t v) (r : GivA σ tr vs) : GivA σ (tCons t tr) (v :: vs) := fun H Q q => h H _ fun H1 s1 => r H1 _ fun H2 s2 => q H2 (s1.trans s2)
theorem giv_k1 (A : Asks K C) (n : PySem.W.findIn K (.ref C) f = some none) (hi : σ[i]? = some (some v)) : Giv σ (tErF K f (tErK1 C f (tCons (tVar i) tNil))) v := fun H Q q =>
  ⟨v, hi, v, rfl, fun e H' h s _ => ⟨e, C, _, _, v, rfl, h, A, n, by simp [List.lookup], q H' s⟩⟩
theorem giv_k2 (A : Asks K C) (n : PySem.W.findIn K (.ref C) f = some none) (hi : σ[i]? = some (some v')) (hj : σ[j]? = some (some v)) : Giv σ (tErF K f (tErK2 C f f' (tCons (tVar i) (tCons (tVar j) tNil)))) v := fun H Q q =>
  ⟨v', hi, v, hj, v, v', rfl, fun e H' h s _ => ⟨e, C, _, _, v, rfl, h, A, n, by simp [List.lookup], q H' s⟩⟩
theorem giv_k2' (A : Asks K C) (n : PySem.W.findIn K (.ref C) f' = some none) (nf : (f' == f) = false) (hi : σ[i]? = some (some v')) (hj : σ[j]? = some (some v)) : Giv σ (tErF K f' (tErK2 C f f' (tCons (tVar i) (tCons (tVar j) tNil)))) v' := fun H Q q =>
  ⟨v', hi, v, hj, v, v', rfl, fun e H' h s _ => ⟨e, C, _, _, v', rfl, h, A, n, by simp [List.lookup, nf], q H' s⟩⟩
theorem rdG (m : GivA σ tr vs) (hz : vs.length ≤ 100) (q : ∀ l H', Same H H' → H' l = some (.lst vs) → H l = none → Q (.ref l) H') : tLst tr σ H Q := by
  refine m H _ fun H1 s1 => ⟨by rw [sizeLine_eq]; omega, fun l hl => ?_⟩
  exact q l _ (s1.trans (same_new hl)) upd_same (s1.free hl)
theorem rdGc {l : Addr} {n : Nat} (m : GivA σ tr vs) (hn : σ[n]? = some (some (.ref l))) (hl : H l = some (.lst vs0)) (hz : vs0.length ≤ 100) (hz' : vs.length ≤ 100)
    (q : ∀ l' H', Same H H' → H' l' = some (.lst (vs0 ++ vs)) → H l' = none → Q (.ref l') H') : tOp L2.rCat (tVar n) (tLst tr) σ H Q := by
  refine ⟨_, hn, rdG m hz' fun l2 H2 s2 l2e _ => ?_⟩
  refine ⟨_, _, _, _, rfl, rfl, s2 _ _ hl, l2e, by rw [sizeLine_eq]; omega, fun p hp => ?_⟩
  exact q p _ (s2.trans (same_new hp)) upd_same (s2.free hp)
end
def spNamed : Sp := fun vs H Q _ => ∃ (a b : V), vs = [a, b] ∧ ∀ l H', Same H H' → H' l = some (.lst [a, a, a, a, a, a, a, b, b, a, a, b, b]) → H l = none → Q (.ref l) H'
abbrev s_named : Stmt := top 57
theorem sc_named : FnScope ["_law_a", "_law_b", "_law_found"] ["_law_a", "_law_b"] (defScope s_named) := ⟨rfl, rfl, rfl, by decide +kernel, rfl, by decide +kernel, by decide +kernel⟩
theorem ok_named (F : Fun K "_law_named" "_law_named" s_named f fd) (T : TT K mg) : FnOk P w K mg base CX0 2 f fd ["_law_a", "_law_b"] spNamed := by
  refine F.ok sc_named (fun vs H Q E h => ?_) (fun cdv A outer s H vs Q E hr h => ?_)
  · obtain ⟨a, b, rfl, _⟩ := h
    rfl
  · obtain ⟨a, b, rfl, q⟩ := h
    refine ⟨_, pss_cons (ps_set (i := 2) sc_named.nd rfl (Or.inl rfl) (pe_lst (pa_cons (pe_erF (pe_erK1 (T.cl 0 (by decide) (by decide)) (T.in1 tx_0) bk1_value hr (by rfl) (T.g 0 (by decide)) (pk_cons (pv 0) pk_nil))) (pa_cons (pe_erF (pe_erK1 (T.cl 4 (by decide) (by decide)) (T.in1 tx_4) bk1_position hr (by rfl) (T.g 4 (by decide)) (pk_cons (pv 0) pk_nil))) (pa_cons (pe_erF (pe_erK1 (T.cl 28 (by decide) (by decide)) (T.in1 tx_28) bk1_line hr (by rfl) (T.g 28 (by decide)) (pk_cons (pv 0) pk_nil))) pa_nil)))))
      (pss_cons (ps_set (i := 2) sc_named.nd rfl (Or.inl rfl) (pe_op op_cat (pv 2) (pe_lst (pa_cons (pe_erF (pe_erK1 (T.cl 34 (by decide) (by decide)) (T.in1 tx_34) bk1_name hr (by rfl) (T.g 34 (by decide)) (pk_cons (pv 0) pk_nil))) (pa_cons (pe_erF (pe_erK1 (T.cl 40 (by decide) (by decide)) (T.in1 tx_40) bk1_name hr (by rfl) (T.g 40 (by decide)) (pk_cons (pv 0) pk_nil))) (pa_cons (pe_erF (pe_erK1 (T.cl 41 (by decide) (by decide)) (T.in1 tx_41) bk1_value hr (by rfl) (T.g 41 (by decide)) (pk_cons (pv 0) pk_nil))) pa_nil))))))
      (pss_cons (ps_set (i := 2) sc_named.nd rfl (Or.inl rfl) (pe_op op_cat (pv 2) (pe_lst (pa_cons (pe_erF (pe_erK2 (T.cl 8 (by decide) (by decide)) (T.in2 tx_8) bk2_places hr (by rfl) (T.g 8 (by decide)) (pk_cons (pv 0) (pk_cons (pv 1) pk_nil)))) (pa_cons (pe_erF (pe_erK2 (T.cl 8 (by decide) (by decide)) (T.in2 tx_8) bk2_places hr (by rfl) (T.g 8 (by decide)) (pk_cons (pv 0) (pk_cons (pv 1) pk_nil)))) pa_nil)))))
      (pss_cons (ps_set (i := 2) sc_named.nd rfl (Or.inl rfl) (pe_op op_cat (pv 2) (pe_lst (pa_cons (pe_erF (pe_erK2 (T.cl 27 (by decide) (by decide)) (T.in2 tx_27) bk2_places hr (by rfl) (T.g 27 (by decide)) (pk_cons (pv 1) (pk_cons (pv 0) pk_nil)))) (pa_cons (pe_erF (pe_erK2 (T.cl 27 (by decide) (by decide)) (T.in2 tx_27) bk2_places hr (by rfl) (T.g 27 (by decide)) (pk_cons (pv 1) (pk_cons (pv 0) pk_nil)))) pa_nil)))))
      (pss_one (ps_ret (pe_op op_cat (pv 2) (pe_lst (pa_cons (pe_erF (pe_erK2 (T.cl 39 (by decide) (by decide)) (T.in2 tx_39) bk2_kind hr (by rfl) (T.g 39 (by decide)) (pk_cons (pv 0) (pk_cons (pv 1) pk_nil)))) (pa_cons (pe_erF (pe_erK2 (T.cl 39 (by decide) (by decide)) (T.in2 tx_39) bk2_kind hr (by rfl) (T.g 39 (by decide)) (pk_cons (pv 0) (pk_cons (pv 1) pk_nil)))) (pa_cons (pe_erF (pe_erK1 (T.cl 42 (by decide) (by decide)) (T.in1 tx_42) bk1_name hr (by rfl) (T.g 42 (by decide)) (pk_cons (pv 1) pk_nil))) pa_nil)))))))))), ?_⟩
    have m0 : GivA (L2.start ["_law_a", "_law_b", "_law_found"] [a, b]) _ [a, a, a] := (giv_cons (giv_k1 (i := 0) (T.ask 0 (by decide)) (T.tk 0 (by decide) (by decide) "value" (by decide)).2 rfl) (giv_cons (giv_k1 (i := 0) (T.ask 4 (by decide)) (T.tk 4 (by decide) (by decide) "position" (by decide)).2 rfl) (giv_cons (giv_k1 (i := 0) (T.ask 28 (by decide)) (T.tk 28 (by decide) (by decide) "line" (by decide)).2 rfl) giv_nil)))
    refine sq_set (rdG m0 (by simp) (fun l0 H0 s0 z0 n0 => ?_))
    have m1 : GivA ((L2.start ["_law_a", "_law_b", "_law_found"] [a, b]).set 2 (some (V.ref l0))) _ [a, a, a] := (giv_cons (giv_k1 (i := 0) (T.ask 34 (by decide)) (T.tk 34 (by decide) (by decide) "name" (by decide)).2 rfl) (giv_cons (giv_k1 (i := 0) (T.ask 40 (by decide)) (T.tk 40 (by decide) (by decide) "name" (by decide)).2 rfl) (giv_cons (giv_k1 (i := 0) (T.ask 41 (by decide)) (T.tk 41 (by decide) (by decide) "value" (by decide)).2 rfl) giv_nil)))
    refine sq_set (rdGc (n := 2) m1 rfl z0 (by simp) (by simp) (fun l1 H1 s1 z1 n1 => ?_))
    have m2 : GivA ((L2.start ["_law_a", "_law_b", "_law_found"] [a, b]).set 2 (some (V.ref l1))) _ [a, b] := (giv_cons (giv_k2' (f := "position") (i := 0) (j := 1) (T.ask 8 (by decide)) (T.tk 8 (by decide) (by decide) "places" (by decide)).2 (by decide) rfl rfl) (giv_cons (giv_k2 (f' := "places") (i := 0) (j := 1) (T.ask 8 (by decide)) (T.tk 8 (by decide) (by decide) "position" (by decide)).2 (by rfl) rfl) giv_nil))
    refine sq_set (rdGc (n := 2) m2 rfl z1 (by simp) (by simp) (fun l2 H2 s2 z2 n2 => ?_))
    have m3 : GivA ((L2.start ["_law_a", "_law_b", "_law_found"] [a, b]).set 2 (some (V.ref l2))) _ [b, a] := (giv_cons (giv_k2' (f := "position") (i := 1) (j := 0) (T.ask 27 (by decide)) (T.tk 27 (by decide) (by decide) "places" (by decide)).2 (by decide) rfl rfl) (giv_cons (giv_k2 (f' := "places") (i := 1) (j := 0) (T.ask 27 (by decide)) (T.tk 27 (by decide) (by decide) "position" (by decide)).2 (by rfl) rfl) giv_nil))
    refine sq_set (rdGc (n := 2) m3 rfl z2 (by simp) (by simp) (fun l3 H3 s3 z3 n3 => ?_))
    have m4 : GivA ((L2.start ["_law_a", "_law_b", "_law_found"] [a, b]).set 2 (some (V.ref l3))) _ [a, b, b] := (giv_cons (giv_k2' (f := "kind") (i := 0) (j := 1) (T.ask 39 (by decide)) (T.tk 39 (by decide) (by decide) "limit" (by decide)).2 (by decide) rfl rfl) (giv_cons (giv_k2 (f' := "limit") (i := 0) (j := 1) (T.ask 39 (by decide)) (T.tk 39 (by decide) (by decide) "kind" (by decide)).2 (by rfl) rfl) (giv_cons (giv_k1 (i := 1) (T.ask 42 (by decide)) (T.tk 42 (by decide) (by decide) "name" (by decide)).2 rfl) giv_nil)))
    refine sq_ret (rdGc (n := 2) m4 rfl z3 (by simp) (by simp) (fun l4 H4 s4 z4 n4 => ?_))
    exact q l4 H4 ((((s0.trans s1).trans s2).trans s3).trans s4) z4 ((((s0.trans s1).trans s2).trans s3).free n4)
/-! ### the fields -/
def letr : Nat → Str
  | 0 => "v"
  | 1 => "p"
  | 2 => "e"
  | 3 => "l"
  | 4 => "n"
  | 5 => "t"
  | _ => "-"
def spFields (K : Fr) : Sp := fun vs H Q _ => ∃ (e : Addr) (k : Nat) (a b : V) (args : List V), vs = [.ref e, .str (letr (kd k))] ∧ k < 45 ∧ ErAt H e (cA K k) (flds (kd k) a b) args ∧
  ∀ l H', Same H H' → H' l = some (.lst (due (kd k) a b)) → H l = none → Q (.ref l) H'
def spDue : Sp := fun vs H Q _ => ∃ (a b : V) (d : Nat), vs = [a, b, .str (letr d)] ∧ d < 7 ∧ ∀ l H', Same H H' → H' l = some (.lst (due d a b)) → H l = none → Q (.ref l) H'
end
end K14

set_option maxHeartbeats 4000000
namespace K14
open PySem PySem.Spec PyProof.Rows L2 ErL
section
variable {P : Program} {w : World} {K : Fr} {mg : Str → Option Value} {base : Heap} {f : Addr} {fd : FuncData}
abbrev s_fields : Stmt := top 58
theorem sc_fields : FnScope ["_law_e", "_law_letter"] ["_law_e", "_law_letter"] (defScope s_fields) := ⟨rfl, rfl, rfl, by decide +kernel, rfl, by decide +kernel, by decide +kernel⟩
theorem kd_cases {k : Nat} (h : k < 45) : kd k < 7 := by
  have z : ((List.range 45).all fun k => decide (kd k < 7)) = true := by decide +kernel
  exact of_decide_eq_true (List.all_eq_true.mp z k (List.mem_range.mpr h))
theorem fld_has {k : Nat} (T : TT K mg) (hk : k < 45) (h6 : kd k ≠ 6) {g : Str} (hg : g ∈ fld (kd k)) : PySem.W.findIn K (.ref (cA K k)) g = some none := (T.tk k hk h6 g hg).2
theorem ok_fields (F : Fun K "_law_fields" "_law_fields" s_fields f fd) (T : TT K mg) : FnOk P w K mg base CX0 1 f fd ["_law_e", "_law_letter"] (spFields K) := by
  refine F.ok sc_fields (fun vs H Q E h => ?_) (fun cdv A outer s H vs Q E hr h => ?_)
  · obtain ⟨e, k, a, b, args, rfl, _⟩ := h
    rfl
  · obtain ⟨e, k, a, b, args, rfl, hk, hE, q⟩ := h
    refine ⟨_, pss_cons (ps_if (pt_cmpR op_eq (pv 1) pe_str (nomark _)) (pss_one (ps_ret (pe_lst (pa_cons (pe_erF (pv 0)) pa_nil)))) pss_nil)
      (pss_cons (ps_if (pt_cmpR op_eq (pv 1) pe_str (nomark _)) (pss_one (ps_ret (pe_lst (pa_cons (pe_erF (pv 0)) pa_nil)))) pss_nil)
      (pss_cons (ps_if (pt_cmpR op_eq (pv 1) pe_str (nomark _)) (pss_one (ps_ret (pe_lst (pa_cons (pe_erF (pv 0)) (pa_cons (pe_erF (pv 0)) pa_nil))))) pss_nil)
      (pss_cons (ps_if (pt_cmpR op_eq (pv 1) pe_str (nomark _)) (pss_one (ps_ret (pe_lst (pa_cons (pe_erF (pv 0)) pa_nil)))) pss_nil)
      (pss_cons (ps_if (pt_cmpR op_eq (pv 1) pe_str (nomark _)) (pss_one (ps_ret (pe_lst (pa_cons (pe_erF (pv 0)) pa_nil)))) pss_nil)
      (pss_one (ps_ret (pe_ifExp (pt_cmpR op_eq (pv 1) pe_str (nomark _)) (pe_lst (pa_cons (pe_erF (pv 0)) (pa_cons (pe_erF (pv 0)) pa_nil))) (pe_lst pa_nil)))))))), ?_⟩
    have hd := kd_cases hk
    have fh : ∀ g, kd k ≠ 6 → g ∈ fld (kd k) → PySem.W.findIn K (.ref (cA K k)) g = some none := fun g h6 hg => fld_has T hk h6 hg
    have A := T.ask k hk
    generalize hkd : kd k = d at hE q hd fh ⊢
    match d, hd with
    | 0, _ =>
      refine ⟨_, rfl, rfl, _, rfl, iteT ⟨_, rfl, e, _, _, _, _, rfl, hE, A, fh "value" (by decide) (by decide), rfl, (by show 1 ≤ sizeLine; decide), fun l hl => ?_⟩⟩
      exact q l _ (same_new hl) upd_same hl
    | 1, _ =>
      refine ⟨_, rfl, rfl, _, rfl, iteF ⟨_, rfl, rfl, _, rfl, iteT ⟨_, rfl, e, _, _, _, _, rfl, hE, A, fh "position" (by decide) (by decide), rfl, (by show 1 ≤ sizeLine; decide), fun l hl => ?_⟩⟩⟩
      exact q l _ (same_new hl) upd_same hl
    | 2, _ =>
      refine ⟨_, rfl, rfl, _, rfl, iteF ⟨_, rfl, rfl, _, rfl, iteF ⟨_, rfl, rfl, _, rfl, iteT ⟨_, rfl, e, _, _, _, _, rfl, hE, A, fh "position" (by decide) (by decide), rfl, _, rfl, e, _, _, _, _, rfl, hE, A, fh "places" (by decide) (by decide), rfl, (by show 2 ≤ sizeLine; decide), fun l hl => ?_⟩⟩⟩⟩
      exact q l _ (same_new hl) upd_same hl
    | 3, _ =>
      refine ⟨_, rfl, rfl, _, rfl, iteF ⟨_, rfl, rfl, _, rfl, iteF ⟨_, rfl, rfl, _, rfl, iteF ⟨_, rfl, rfl, _, rfl, iteT ⟨_, rfl, e, _, _, _, _, rfl, hE, A, fh "line" (by decide) (by decide), rfl, (by show 1 ≤ sizeLine; decide), fun l hl => ?_⟩⟩⟩⟩⟩
      exact q l _ (same_new hl) upd_same hl
    | 4, _ =>
      refine ⟨_, rfl, rfl, _, rfl, iteF ⟨_, rfl, rfl, _, rfl, iteF ⟨_, rfl, rfl, _, rfl, iteF ⟨_, rfl, rfl, _, rfl, iteF ⟨_, rfl, rfl, _, rfl, iteT ⟨_, rfl, e, _, _, _, _, rfl, hE, A, fh "name" (by decide) (by decide), rfl, (by show 1 ≤ sizeLine; decide), fun l hl => ?_⟩⟩⟩⟩⟩⟩
      exact q l _ (same_new hl) upd_same hl
    | 5, _ =>
      refine ⟨_, rfl, rfl, _, rfl, iteF ⟨_, rfl, rfl, _, rfl, iteF ⟨_, rfl, rfl, _, rfl, iteF ⟨_, rfl, rfl, _, rfl, iteF ⟨_, rfl, rfl, _, rfl, iteF ⟨_, rfl, rfl, _, rfl, iteT ⟨_, rfl, e, _, _, _, _, rfl, hE, A, fh "kind" (by decide) (by decide), rfl, _, rfl, e, _, _, _, _, rfl, hE, A, fh "limit" (by decide) (by decide), rfl, (by show 2 ≤ sizeLine; decide), fun l hl => ?_⟩⟩⟩⟩⟩⟩⟩
      exact q l _ (same_new hl) upd_same hl
    | 6, _ =>
      refine ⟨_, rfl, rfl, _, rfl, iteF ⟨_, rfl, rfl, _, rfl, iteF ⟨_, rfl, rfl, _, rfl, iteF ⟨_, rfl, rfl, _, rfl, iteF ⟨_, rfl, rfl, _, rfl, iteF ⟨_, rfl, rfl, _, rfl, iteF ⟨(by show 0 ≤ sizeLine; decide), fun l hl => ?_⟩⟩⟩⟩⟩⟩⟩
      exact q l _ (same_new hl) upd_same hl
    | d + 7, h7 => exact absurd h7 (by omega)
end
end K14

set_option maxHeartbeats 4000000
namespace K14
open PySem PySem.Spec PyProof.Rows L2 ErL
section
variable {P : Program} {w : World} {K : Fr} {mg : Str → Option Value} {base : Heap} {f : Addr} {fd : FuncData}
abbrev s_due : Stmt := top 59
theorem sc_due : FnScope ["_law_a", "_law_b", "_law_letter"] ["_law_a", "_law_b", "_law_letter"] (defScope s_due) := ⟨rfl, rfl, rfl, by decide +kernel, rfl, by decide +kernel, by decide +kernel⟩
theorem ok_due (F : Fun K "_law_due_fields" "_law_due_fields" s_due f fd) : FnOk P w K mg base CX0 1 f fd ["_law_a", "_law_b", "_law_letter"] spDue := by
  refine F.ok sc_due (fun vs H Q E h => ?_) (fun cdv A outer s H vs Q E hr h => ?_)
  · obtain ⟨a, b, d, rfl, _⟩ := h
    rfl
  · obtain ⟨a, b, d, rfl, hd, q⟩ := h
    refine ⟨_, pss_cons (ps_if (pt_cmpR op_in_seq (pv 2) (pe_tup (pa_cons pe_str (pa_cons pe_str pa_nil))) (by rfl)) (pss_one (ps_ret (pe_lst (pa_cons (pv 0) pa_nil)))) pss_nil)
      (pss_cons (ps_if (pt_cmpR op_in_seq (pv 2) (pe_tup (pa_cons pe_str (pa_cons pe_str pa_nil))) (by rfl)) (pss_one (ps_ret (pe_lst (pa_cons (pv 1) pa_nil)))) pss_nil)
      (pss_cons (ps_if (pt_cmpR op_eq (pv 2) pe_str (nomark _)) (pss_one (ps_ret (pe_lst (pa_cons (pv 1) (pa_cons (pv 0) pa_nil))))) pss_nil)
      (pss_one (ps_ret (pe_ifExp (pt_cmpR op_eq (pv 2) pe_str (nomark _)) (pe_lst (pa_cons (pv 0) (pa_cons (pv 1) pa_nil))) (pe_lst pa_nil)))))), ?_⟩
    match d, hd with
    | 0, _ => exact ⟨_, rfl, (by show 2 ≤ sizeLine; decide), fun p1 n1 => ⟨_, _, rfl, .inr (SqT.of upd_same), rfl, rfl, _, rfl, iteT ⟨_, rfl, (by show 1 ≤ sizeLine; decide), fun l hl => q l _ ((same_new n1).trans (same_new hl)) upd_same ((same_new n1).free hl)⟩⟩⟩
    | 1, _ => exact ⟨_, rfl, (by show 2 ≤ sizeLine; decide), fun p1 n1 => ⟨_, _, rfl, .inr (SqT.of upd_same), rfl, rfl, _, rfl, iteF ⟨_, rfl, (by show 2 ≤ sizeLine; decide), fun p2 n2 => ⟨_, _, rfl, .inr (SqT.of upd_same), rfl, rfl, _, rfl, iteT ⟨_, rfl, (by show 1 ≤ sizeLine; decide), fun l hl => q l _ (((same_new n1).trans (same_new n2)).trans (same_new hl)) upd_same (((same_new n1).trans (same_new n2)).free hl)⟩⟩⟩⟩⟩
    | 2, _ => exact ⟨_, rfl, (by show 2 ≤ sizeLine; decide), fun p1 n1 => ⟨_, _, rfl, .inr (SqT.of upd_same), rfl, rfl, _, rfl, iteF ⟨_, rfl, (by show 2 ≤ sizeLine; decide), fun p2 n2 => ⟨_, _, rfl, .inr (SqT.of upd_same), rfl, rfl, _, rfl, iteF ⟨_, rfl, rfl, _, rfl, iteT ⟨_, rfl, _, rfl, (by show 2 ≤ sizeLine; decide), fun l hl => q l _ (((same_new n1).trans (same_new n2)).trans (same_new hl)) upd_same (((same_new n1).trans (same_new n2)).free hl)⟩⟩⟩⟩⟩⟩
    | 3, _ => exact ⟨_, rfl, (by show 2 ≤ sizeLine; decide), fun p1 n1 => ⟨_, _, rfl, .inr (SqT.of upd_same), rfl, rfl, _, rfl, iteF ⟨_, rfl, (by show 2 ≤ sizeLine; decide), fun p2 n2 => ⟨_, _, rfl, .inr (SqT.of upd_same), rfl, rfl, _, rfl, iteT ⟨_, rfl, (by show 1 ≤ sizeLine; decide), fun l hl => q l _ (((same_new n1).trans (same_new n2)).trans (same_new hl)) upd_same (((same_new n1).trans (same_new n2)).free hl)⟩⟩⟩⟩⟩
    | 4, _ => exact ⟨_, rfl, (by show 2 ≤ sizeLine; decide), fun p1 n1 => ⟨_, _, rfl, .inr (SqT.of upd_same), rfl, rfl, _, rfl, iteT ⟨_, rfl, (by show 1 ≤ sizeLine; decide), fun l hl => q l _ ((same_new n1).trans (same_new hl)) upd_same ((same_new n1).free hl)⟩⟩⟩
    | 5, _ => exact ⟨_, rfl, (by show 2 ≤ sizeLine; decide), fun p1 n1 => ⟨_, _, rfl, .inr (SqT.of upd_same), rfl, rfl, _, rfl, iteF ⟨_, rfl, (by show 2 ≤ sizeLine; decide), fun p2 n2 => ⟨_, _, rfl, .inr (SqT.of upd_same), rfl, rfl, _, rfl, iteF ⟨_, rfl, rfl, _, rfl, iteF ⟨_, rfl, rfl, _, rfl, iteT ⟨_, rfl, _, rfl, (by show 2 ≤ sizeLine; decide), fun l hl => q l _ (((same_new n1).trans (same_new n2)).trans (same_new hl)) upd_same (((same_new n1).trans (same_new n2)).free hl)⟩⟩⟩⟩⟩⟩⟩
    | 6, _ => exact ⟨_, rfl, (by show 2 ≤ sizeLine; decide), fun p1 n1 => ⟨_, _, rfl, .inr (SqT.of upd_same), rfl, rfl, _, rfl, iteF ⟨_, rfl, (by show 2 ≤ sizeLine; decide), fun p2 n2 => ⟨_, _, rfl, .inr (SqT.of upd_same), rfl, rfl, _, rfl, iteF ⟨_, rfl, rfl, _, rfl, iteF ⟨_, rfl, rfl, _, rfl, iteF ⟨(by show 0 ≤ sizeLine; decide), fun l hl => q l _ (((same_new n1).trans (same_new n2)).trans (same_new hl)) upd_same (((same_new n1).trans (same_new n2)).free hl)⟩⟩⟩⟩⟩⟩⟩
    | d + 7, h7 => exact absurd h7 (by omega)
end
end K14

set_option maxHeartbeats 4000000
namespace K14
open PySem PySem.Spec PyProof.Rows L2 ErL
/-- a def that can be called: by its name, wherever nothing is being shown -/
structure Cd (P : Program) (w : World) (K : Fr) (mg : Str → Option Value) (base : Heap) (k : Nat) (x : Str) (f : Addr) (fd : FuncData) (ps : List Str) (sp : SpG) : Prop where
  ok : FnG P w K mg base k f fd ps sp
  gl : mg x = some (.ref f)
  kp : PySem.W.keepIn K (.ref f) = true
  bd : Binds K fd ps []
section
variable {X : Cx} {k : Nat} {f : Addr} {fd : FuncData} {ps : List Str} {sp : SpG} {x : Str} {p pos : Pos} {e : Expr} {es : List Expr} {t : TA}
theorem pe_cd (C : Cd X.prog X.w X.K X.mg X.base k x f fd ps sp) (hr : Room k X.A) (hG : X.A.guards = some []) (hg : Gl X x) (ha : PA X (e :: es) t) (hdb : (x == ("__debug__" : Str)) = false := by decide) (he : starEach (e :: es) X.env = (false, eval e X.env) :: starEach es X.env := by rfl)
    (hpl : (backTo pos (starEach es X.env)).any (·.1) = false := by rfl) : PE X (.Call (.Name x p) (e :: es) [] pos) (tCallG sp t) := pe_callG C.ok hr hG hg C.gl C.kp C.bd ha hdb he hpl
end
theorem dq_bls {H : Hp} : ∀ bs : List Bool, DqAll H (bls bs) (bs.map PyData.bool)
  | [] => .nil
  | b :: bs => .cons (.bl b) (dq_bls bs)
def LT : Str := "vvvppvvpeppppvpvpvvpvvvvvvpelpvvnpnnnn-tnvn--"
theorem lt_len : LT.length = 45 := by decide +kernel
theorem lt_at {k : Nat} (h : k < 45) : ∃ c, atI LT.cps.toList (k : Int) = some c ∧ (⟨#[c]⟩ : Str) = letr (kd k) := by
  have z : ((List.range 45).all fun k => match atI LT.cps.toList (k : Int) with | some c => decide ((⟨#[c]⟩ : Str) = letr (kd k)) | none => false) = true := by decide +kernel
  have y : (match atI LT.cps.toList (k : Int) with | some c => decide ((⟨#[c]⟩ : Str) = letr (kd k)) | none => false) = true := List.all_eq_true.mp z k (List.mem_range.mpr h)
  cases hc : atI LT.cps.toList (k : Int) with
  | some c =>
    rw [hc] at y
    exact ⟨c, rfl, of_decide_eq_true y⟩
  | none =>
    rw [hc] at y
    cases y
theorem ne_self {v u : V} (h : v = u) : (!decide (v = u)) = false := by rw [decide_eq_true h]; rfl
section
variable {K : Fr} {σ : L2.St} {H : Hp} {Q : VK}
/-- the places below n at which a number stands, as truth values -/
theorem rd_eqs {i j n : Nat} {m : Nat} (hi : σ[i]? = some (some (.int (m : Int)))) (hij : i ≠ j) (hj : j < σ.length) (hn : n ≤ 100)
    (q : ∀ l H', Same H H' → H' l = some (.lst (bls ((List.range n).map (m == ·)))) → H l = none → Q (.ref l) H') :
    tLc (iRng1 (tCons (tC (.int (n : Int))) tNil)) (gName j) tYes (tOp L2.rEq (tVar i) (tVar j)) [j] σ H Q := by
  refine ⟨(n : Int), rfl, by omega, by omega, fun D hD => ?_⟩
  refine lc_range (lo := 0) (n := n) (fun i H' => Same H H' ∧ H' D = some (.lst (bls ((List.range i).map (m == ·))))) ⟨same_new hD, upd_same⟩ (fun i2 H' hi2 p => ?_) (fun H' p => q D H' p.1 p.2 hD)
  obtain ⟨s, e⟩ := p
  refine ⟨?_, ?_⟩
  · show ((σ.set j none).set j _).set j none = σ.set j none
    rw [List.set_set, List.set_set]
  refine ⟨.int (m : Int), ?_, .int ((0 : Int) + (i2 : Nat)), ?_, rfl, bls ((List.range i2).map (m == ·)), e, ?_, ?_, ?_⟩
  · show ((σ.set j none).set j _)[i]? = _
    rw [List.set_set, List.getElem?_set_ne (Ne.symm hij)]
    exact hi
  · show ((σ.set j none).set j _)[j]? = _
    rw [List.set_set]
    exact List.getElem?_set_self hj
  · rw [List.length_map, List.length_map, List.length_range, sizeLine_eq]
    omega
  · intro b o eb
    rw [upd_ne (ne_of_none eb hD)]
    exact s b o eb
  · rw [upd_same]
    have ez : (decide (V.int (m : Int) = V.int ((0 : Int) + (i2 : Nat)))) = (m == i2) := by
      by_cases h : m = i2
      · subst h
        simp
      · have h2 : ¬ (V.int (m : Int) = V.int ((0 : Int) + (i2 : Nat))) := fun z => h (by injection z with z; omega)
        rw [decide_eq_false h2]
        simp [h]
    rw [ez, List.range_succ, List.map_append]
    show _ = some (HO.lst (List.map V.bl (_ ++ _)))
    rw [List.map_append]
    rfl
end
end K14

set_option maxHeartbeats 4000000
namespace K14
open PySem PySem.Spec PyProof.Rows L2 ErL
def dueD (d : Nat) (a b : PyData) : List PyData := match d with
  | 0 => [a]
  | 1 => [b]
  | 2 => [b, a]
  | 3 => [b]
  | 4 => [a]
  | 5 => [a, b]
  | _ => []
theorem dq_due {H : Hp} {a b : V} {da db : PyData} (qa : Dq H a da) (qb : Dq H b db) (d : Nat) : DqAll H (due d a b) (dueD d da db) := match d with
  | 0 => .cons qa .nil
  | 1 => .cons qb .nil
  | 2 => .cons qb (.cons qa .nil)
  | 3 => .cons qb .nil
  | 4 => .cons qa .nil
  | 5 => .cons qa (.cons qb .nil)
  | _ + 6 => .nil
theorem sm_due {da db : PyData} (sa : Sm da) (sb : Sm db) (d : Nat) : ∀ x ∈ dueD d da db, Sm x := by
  intro x hx
  match d, hx with
  | 0, hx => rw [List.mem_singleton.mp hx]; exact sa
  | 1, hx => rw [List.mem_singleton.mp hx]; exact sb
  | 2, hx =>
    rcases List.mem_cons.mp hx with z | z
    · rw [z]; exact sb
    · rw [List.mem_singleton.mp z]; exact sa
  | 3, hx => rw [List.mem_singleton.mp hx]; exact sb
  | 4, hx => rw [List.mem_singleton.mp hx]; exact sa
  | 5, hx =>
    rcases List.mem_cons.mp hx with z | z
    · rw [z]; exact sa
    · rw [List.mem_singleton.mp z]; exact sb
  | _ + 6, hx => cases hx
theorem len_due {da db : PyData} (d : Nat) : (dueD d da db).length ≤ 15 := match d with
  | 0 => by show 1 ≤ 15; omega
  | 1 => by show 1 ≤ 15; omega
  | 2 => by show 2 ≤ 15; omega
  | 3 => by show 1 ≤ 15; omega
  | 4 => by show 1 ≤ 15; omega
  | 5 => by show 2 ≤ 15; omega
  | _ + 6 => by show 0 ≤ 15; omega
theorem cb1 {r : List V → Hp → VK → Prop} {t : TE} {σ : L2.St} {H : Hp} {Q : VK} (h : t σ H fun v H1 => r [v] H1 Q) : tCB r (tCons t tNil) σ H Q := h
section
variable {P : Program} {w : World} {K : Fr} {mg : Str → Option Value} {base : Heap} {f : Addr} {fd : FuncData}
abbrev s_right : Stmt := top 60
abbrev NR : List Str := ["_law_pot_here", "_law_a", "_law_b", "_law_letters", "_law_errors", "_law_others", "_law_k", "_law_e", "_law_base", "_law_due", "_law_place"]
theorem sc_right : FnScope NR ["_law_pot_here"] (defScope s_right) := ⟨rfl, rfl, rfl, by decide +kernel, rfl, by decide +kernel, by decide +kernel⟩
def spRight : SpG := fun vs H Q => ∃ p : Addr, vs = [.ref p] ∧ PotAt H p ∧ ∀ H', But p H H' → Q (.bl true) H'
/-- the defs that it calls -/
structure Ds (P : Program) (w : World) (K : Fr) (mg : Str → Option Value) (base : Heap) : Prop where
  v : ∃ f fd, Cd P w K mg base 2 "_law_value" f fd ["_law_pot_here"] (fun vs H Q => spVal vs H Q E0)
  m : ∃ f fd, Cd P w K mg base 2 "_law_made" f fd ["_law_a", "_law_b"] (fun vs H Q => spMade K vs H Q E0)
  n : ∃ f fd, Cd P w K mg base 2 "_law_named" f fd ["_law_a", "_law_b"] (fun vs H Q => spNamed vs H Q E0)
  b : ∃ f fd, Cd P w K mg base 2 "_law_bases" f fd ["_law_e"] (fun vs H Q => spIs K gB vs H Q E0)
  f : ∃ f fd, Cd P w K mg base 2 "_law_first_half" f fd ["_law_e"] (fun vs H Q => spIs K gF vs H Q E0)
  s : ∃ f fd, Cd P w K mg base 2 "_law_second_half" f fd ["_law_e"] (fun vs H Q => spIs K gS vs H Q E0)
  i : ∃ f fd, Cd P w K mg base 2 "_law_fields" f fd ["_law_e", "_law_letter"] (fun vs H Q => spFields K vs H Q E0)
  d : ∃ f fd, Cd P w K mg base 2 "_law_due_fields" f fd ["_law_a", "_law_b", "_law_letter"] (fun vs H Q => spDue vs H Q E0)
theorem ok_right (F : Fun K "_law_right" "_law_right" s_right f fd) (T : TT K mg) (D : Ds P w K mg base) : FnG P w K mg base 3 f fd ["_law_pot_here"] spRight := by
  obtain ⟨⟨fV, dV, CV⟩, ⟨fM, dM, CM⟩, ⟨fN, dN, CN⟩, ⟨fB, dB, CB⟩, ⟨fF, dF, CF⟩, ⟨fS, dS, CS⟩, ⟨fI, dI, CI⟩, ⟨fD, dD, CD⟩⟩ := D
  refine fnG_mk F sc_right (fun vs H Q h => ?_) (fun cdv A outer s H vs Q hr hG h => ?_)
  · obtain ⟨p, rfl, _⟩ := h
    rfl
  · obtain ⟨p, rfl, hp, q⟩ := h
    have hu : (A.deeper (envOfC "_law_right" (defScope s_right) s.heap.objs.size f cdv)).units + 70 < cLine := by
      have := hr.un
      omega
    refine ⟨_, pss_cons (ps_par (i := 1) (j := 2) rfl sc_right.nd rfl rfl (by decide) rfl rfl (pa_cons (pe_cd CV hr hG (by rfl) (pa_cons (pv 0) pa_nil)) (pa_cons (pe_cd CV hr hG (by rfl) (pa_cons (pv 0) pa_nil)) pa_nil)) rfl)
      (pss_cons (ps_set (i := 3) sc_right.nd rfl (Or.inl rfl) pe_str)
      (pss_cons (ps_par (i := 4) (j := 5) rfl sc_right.nd rfl rfl (by decide) rfl rfl (pa_cons (pe_cd CM hr hG (by rfl) (pa_cons (pv 1) (pa_cons (pv 2) pa_nil))) (pa_cons (pe_cd CM hr hG (by rfl) (pa_cons (pv 2) (pa_cons (pv 1) pa_nil))) pa_nil)) rfl)
      (pss_cons (ps_if (pt_cmpR op_ne (pe_callB call_len_seq (by rfl) T.free PySem.boot_len (pa_cons (pv 4) pa_nil)) (pe_callB call_len_str (by rfl) T.free PySem.boot_len (pa_cons (pv 3) pa_nil)) (nomark _)) (pss_one (ps_ret pe_bl)) pss_nil)
      (pss_cons (ps_for PassesOwn.never rfl (pi_enum (by rfl) T.free (pa_cons (pv 4) pa_nil)) (pg_tup rfl (pgs_cons (pg_name (i := 6) sc_right.nd rfl (Or.inr rfl)) (pgs_cons (pg_name (i := 7) sc_right.nd rfl (Or.inl rfl)) pgs_nil)))
        (Evl.pss_cut (ps_set (i := 8) sc_right.nd rfl (Or.inr rfl) (pe_ifExp (pt_cmpR op_lt (pv 6) pe_int (nomark _)) pe_int (pe_ifExp (pt_cmpR op_lt (pv 6) pe_int (nomark _)) pe_int pe_int)))
        (pss_cons (ps_setLc (i := 9) (own := [("_law_place", 10)]) (g := gName 10) (tt := tYes) (by rfl) sc_right.nd rfl rfl (sw_true rfl rfl rfl (by decide +kernel)) (pi_range1 (by rfl) T.free (pa_cons pe_int pa_nil)) (blkOk_by (N := NR) (sc := defScope s_right) (by decide +kernel)) (fun _ _ _ _ _ => pg_name (i := 10) sc_right.nd rfl (Or.inl rfl)) (fun _ _ _ _ _ => pts_nil) (fun _ _ _ _ _ => pe_cmpR op_eq (pv 8) (pv 10) (nomark _)))
        (pss_cons (ps_if (PW.pt (pw_or (pt_cmpR op_ne (pe_callB (call_reprD hu hG T.sys) (by rfl) T.free (by decide +kernel) (pa_cons (pe_cd CB hr hG (by rfl) (pa_cons (pv 7) pa_nil)) pa_nil)) (pe_callB (call_reprD hu hG T.sys) (by rfl) T.free (by decide +kernel) (pa_cons (pe_op op_cat (pv 9) (pv 9)) pa_nil)) (nomark _))
            (pw_or1 (pt_not (pt_val (pe_callB call_isi (by rfl) T.free (by decide +kernel) (pa_cons (pe_callTy (call_strEr hu hG T.sys) (by rfl) T.free (by decide +kernel) (pa_cons (pv 7) pa_nil)) (pa_cons (pe_bltn (v := .ty "str") (u := .type "str") (by rfl) T.free (by decide +kernel) rfl) pa_nil)))))))) (pss_one (ps_ret pe_bl)) pss_nil)
        (pss_cons (ps_if (pt_cmpR op_ne (pe_callB (call_reprD hu hG T.sys) (by rfl) T.free (by decide +kernel) (pa_cons (pe_op op_cat (pe_cd CF hr hG (by rfl) (pa_cons (pv 7) pa_nil)) (pe_cd CS hr hG (by rfl) (pa_cons (pv 7) pa_nil))) pa_nil))
            (pe_callB (call_reprD hu hG T.sys) (by rfl) T.free (by decide +kernel) (pa_cons (pe_lc (own := [("_law_place", 10)]) (g := gName 10) (tt := tYes) (by rfl) sc_right.nd (pi_range1 (by rfl) T.free (pa_cons pe_int pa_nil)) (blkOk_by (N := NR) (sc := defScope s_right) (by decide +kernel)) (fun _ _ _ _ _ => pg_name (i := 10) sc_right.nd rfl (Or.inl rfl)) (fun _ _ _ _ _ => pts_nil) (fun _ _ _ _ _ => pe_cmpR op_eq (pv 6) (pv 10) (nomark _))) pa_nil)) (nomark _)) (pss_one (ps_ret pe_bl)) pss_nil)
        (pss_cons (ps_if (pt_cmpR op_ne (pe_callB (call_reprD hu hG T.sys) (by rfl) T.free (by decide +kernel) (pa_cons (pe_cd CI hr hG (by rfl) (pa_cons (pv 7) (pa_cons (pe_ix ix_str (pv 3) (pv 6) (fun _ _ => rfl)) pa_nil))) pa_nil))
            (pe_callB (call_reprD hu hG T.sys) (by rfl) T.free (by decide +kernel) (pa_cons (pe_cd CD hr hG (by rfl) (pa_cons (pv 1) (pa_cons (pv 2) (pa_cons (pe_ix ix_str (pv 3) (pv 6) (fun _ _ => rfl)) pa_nil)))) pa_nil)) (nomark _)) (pss_one (ps_ret pe_bl)) pss_nil)
        (pss_one (ps_if (pt_cmpR op_ne (pe_callB (call_reprD hu hG T.sys) (by rfl) T.free (by decide +kernel) (pa_cons (pe_cd CI hr hG (by rfl) (pa_cons (pe_ix ix_list (pv 5) (pv 6) (fun _ _ => rfl)) (pa_cons (pe_ix ix_str (pv 3) (pv 6) (fun _ _ => rfl)) pa_nil))) pa_nil))
            (pe_callB (call_reprD hu hG T.sys) (by rfl) T.free (by decide +kernel) (pa_cons (pe_cd CD hr hG (by rfl) (pa_cons (pv 2) (pa_cons (pv 1) (pa_cons (pe_ix ix_str (pv 3) (pv 6) (fun _ _ => rfl)) pa_nil)))) pa_nil)) (nomark _)) (pss_one (ps_ret pe_bl)) pss_nil))))))))
      (pss_one (ps_ret (pe_cmpR op_eq (pe_callB (call_reprD hu hG T.sys) (by rfl) T.free (by decide +kernel) (pa_cons (pe_cd CN hr hG (by rfl) (pa_cons (pv 1) (pa_cons (pv 2) pa_nil))) pa_nil))
        (pe_callB (call_reprD hu hG T.sys) (by rfl) T.free (by decide +kernel) (pa_cons (pe_lst (pa_cons (pv 1) (pa_cons (pv 1) (pa_cons (pv 1) (pa_cons (pv 1) (pa_cons (pv 1) (pa_cons (pv 1) (pa_cons (pv 1) (pa_cons (pv 2) (pa_cons (pv 2) (pa_cons (pv 1) (pa_cons (pv 1) (pa_cons (pv 2) (pa_cons (pv 2) pa_nil)))))))))))))) pa_nil)) (nomark _)))))))), ?_⟩
    have lz : LT.length ≤ sizeLine := by rw [lt_len, sizeLine_eq]; omega
    refine ⟨_, rfl, p, rfl, hp, fun a da H1 qa sa hp1 b1 => ⟨_, rfl, p, rfl, hp1, fun b db H2 qb sb hp2 b2 => ⟨a, b, rfl, ?_⟩⟩⟩
    have qa2 : Dq H2 a da := qa H2 b2
    have qb2 : Dq H2 b db := qb H2 fun _ _ e _ => e
    refine ⟨_, rfl, _, rfl, a, b, rfl, fun le es H3 he s3 z3 n3 => ⟨_, rfl, _, rfl, b, a, rfl, fun lo os H4 ho s4 z4 n4 => ⟨_, _, rfl, ?_⟩⟩⟩
    have le45 : (es.map V.ref).length = 45 := by rw [List.length_map, he.len, List.length_map, List.length_range]
    have zl : H4 le = some (.lst (es.map V.ref)) := s4 _ _ z3
    have he4 := he.same s4
    have qa4 : Dq H4 a da := qa2.same (s3.trans s4)
    have qb4 : Dq H4 b db := qb2.same (s3.trans s4)
    refine ⟨_, rfl, le, _, rfl, .inl (SqL.of zl), _, rfl, LT, rfl, lz, rfl, false, congrArg V.bl (ne_self (by rw [le45, lt_len])), iteF ?_⟩
    refine ⟨_, rfl, le, es.map V.ref, rfl, SqL.of zl, for_it walk_enum (fun _ σ H' => Same H4 H' ∧ ∃ x6 x7 x8 x9, σ = [some (.ref p), some a, some b, some (.str LT), some (.ref le), some (.ref lo), x6, x7, x8, x9, none]) ⟨Same.refl _, none, none, none, none, rfl⟩ (fun i σ H' _ pv => SqL.of (pv.1 _ _ zl)) (fun k x σ H' H'' hk pv y => ?_) (fun σ H' pv => ?_)⟩
    · obtain ⟨s0, x6, x7, x8, x9, rfl⟩ := pv
      obtain ⟨t, x', y', rfl, ht, rfl, e1, e2⟩ := y
      rw [le45] at hk
      have hps : ((List.range 45).map (spc K a b))[k]? = some (spc K a b k) := by rw [List.getElem?_map, List.getElem?_range hk]; rfl
      have hps' : ((List.range 45).map (spc K b a))[k]? = some (spc K b a k) := by rw [List.getElem?_map, List.getElem?_range hk]; rfl
      obtain ⟨e, ek, hE⟩ := he4.at_ hps
      obtain ⟨e', ek', hE'⟩ := ho.at_ hps'
      have ee : (es.map V.ref)[k]? = some (.ref e) := by rw [List.getElem?_map, ek]; rfl
      have ee' : (os.map V.ref)[k]? = some (.ref e') := by rw [List.getElem?_map, ek']; rfl
      cases e1
      have e2 : (es.map V.ref)[k]? = some y' := e2
      rw [ee] at e2
      cases e2
      obtain ⟨c, hc, ec⟩ := lt_at hk
      have sT : Same H4 (upd H' t (.tup [.int (k : Nat), .ref e])) := s0.trans (same_new ht)
      refine ⟨t, _, rfl, SqT.of upd_same, rfl, ⟨_, _, rfl, _, _, rfl, rfl, ?_⟩⟩
      generalize hHc : upd H' t (.tup [.int (k : Nat), .ref e]) = Hc at sT ⊢
      refine ⟨fun σ' H' => H' = Hc ∧ σ' = [some (.ref p), some a, some b, some (.str LT), some (.ref le), some (.ref lo), some (.int (k : Nat)), some (.ref e), some (.int (bas k : Nat)), x9, none], ?_, ?_⟩
      · refine ⟨_, rfl, _, _, rfl, rfl, _, rfl, ite2 (fun h => ?_) (fun h => ⟨_, rfl, _, _, rfl, rfl, _, rfl, ite2 (fun h' => ?_) (fun h' => ?_)⟩)⟩
        · have z := of_decide_eq_true h
          exact ⟨rfl, by rw [show bas k = 0 from if_pos (by omega)]; rfl⟩
        · have z := of_decide_eq_true h'
          have z' : ¬ ((k : Int) < 40) := fun y => h (decide_eq_true y)
          exact ⟨rfl, by rw [show bas k = 1 from (if_neg (by omega)).trans (if_pos (by omega))]; rfl⟩
        · have z : ¬ ((k : Int) < 42) := fun y => h' (decide_eq_true y)
          exact ⟨rfl, by rw [show bas k = 2 from (if_neg (by omega)).trans (if_neg (by omega))]; rfl⟩
      rintro σ' H9 ⟨rfl, rfl⟩
      refine sq_set (rd_eqs (i := 8) (j := 10) (n := 3) (m := bas k) rfl (by decide) (by show 10 < 11; omega) (by decide) (fun l5 H5 s5 z5 n5 => ?_))
      have hE5 := (hE.same sT).same s5
      have D3 : bls ((List.range 3).map (bas k == ·)) ++ bls ((List.range 3).map (bas k == ·)) = bls (gB k) := List.map_append.symm
      have lB : (gB k).length ≤ 100 := by rw [gB, List.length_append, List.length_map, List.length_range]; omega
      refine ⟨_, rfl, e, k, rfl, hk, ⟨_, _, hE5⟩, fun l6 H6 s6 z6 n6 => ⟨l6, .list ((gB k).map .bool), rfl, .lst z6 (dq_bls _), ok_bools lB, _, rfl, _, rfl, l5, l5, _, _, rfl, rfl, s6 _ _ z5, s6 _ _ z5, (by rw [List.length_map, List.length_map, List.length_range, sizeLine_eq]; omega), fun p2 hp2 =>
        ⟨p2, .list ((gB k).map .bool), rfl, .lst (by rw [upd_same, D3]) (dq_bls _), ok_bools lB, rfl, false, congrArg V.bl (ne_self rfl), iteF ?_⟩⟩⟩
      have sx : Same H4 (upd H6 p2 (.lst (bls ((List.range 3).map (bas k == ·)) ++ bls ((List.range 3).map (bas k == ·))))) := ((sT.trans s5).trans s6).trans (same_new hp2)
      generalize hHd : upd H6 p2 (.lst (bls ((List.range 3).map (bas k == ·)) ++ bls ((List.range 3).map (bas k == ·)))) = Hd at sx ⊢
      refine ⟨_, rfl, e, _, _, _, dueD (kd k) da db, rfl, hE.same sx, T.ask k hk, dq_due (qa4.same sx) (qb4.same sx) _, fun d hd => (sm_due sa sb _ d hd).ok, ok_tuple (sm_due sa sb _) (len_due _), fun z => ⟨.str z, .ty "str", .type "str", .type "str", true, rfl, .ty "str", .base (.str z), kit_ty rfl, true, rfl, iteF ?_⟩⟩
      have F45 : bls (gF k) ++ bls (gS k) = bls ((List.range 45).map (k == ·)) := by
        have zz : ((List.range 45).all fun k => decide (gF k ++ gS k = (List.range 45).map (k == ·))) = true := by decide +kernel
        rw [← List.map_append, of_decide_eq_true (List.all_eq_true.mp zz k (List.mem_range.mpr hk))]
      have l45 : ((List.range 45).map (k == ·)).length ≤ 100 := by rw [List.length_map, List.length_range]; omega
      refine ⟨_, rfl, e, k, rfl, hk, ⟨_, _, hE.same sx⟩, fun l7 H7 s7 z7 n7 => ⟨_, rfl, e, k, rfl, hk, ⟨_, _, (hE.same sx).same s7⟩, fun l8 H8 s8 z8 n8 => ⟨l7, l8, _, _, rfl, rfl, s8 _ _ z7, z8, (by rw [← List.length_append, F45, List.length_map, sizeLine_eq]; omega), fun p3 hp3 => ⟨p3, .list (((List.range 45).map (k == ·)).map .bool), rfl, .lst (by rw [upd_same, F45]) (dq_bls _), ok_bools l45, ?_⟩⟩⟩⟩
      refine cb1 ?_
      refine rd_eqs (i := 6) (j := 10) (n := 45) (m := k) (σ := [some (.ref p), some a, some b, some (.str LT), some (.ref le), some (.ref lo), some (.int (k : Nat)), some (.ref e), some (.int (bas k : Nat)), some (.ref l5), none]) rfl (by decide) (by show 10 < 11; omega) (by decide) (fun l9 H9' s9 z9 n9 => ⟨l9, .list (((List.range 45).map (k == ·)).map .bool), rfl, .lst z9 (dq_bls _), ok_bools l45, rfl, false, congrArg V.bl (ne_self rfl), iteF ?_⟩)
      have sy : Same H4 H9' := (((sx.trans s7).trans s8).trans (same_new hp3)).trans s9
      refine ⟨_, rfl, _, rfl, _, rfl, LT, (k : Nat), c, rfl, rfl, lz, hc, e, k, a, b, _, congrArg (fun y => [V.ref e, V.str y]) ec, hk, hE.same sy, fun l10 H10 s10 z10 n10 => ⟨l10, .list (dueD (kd k) da db), rfl, .lst z10 (dq_due (qa4.same (sy.trans s10)) (qb4.same (sy.trans s10)) _), (ok_list (sm_due sa sb _) (len_due _)), ?_⟩⟩
      refine ⟨_, rfl, _, rfl, _, rfl, _, rfl, LT, (k : Nat), c, rfl, rfl, lz, hc, a, b, kd k, congrArg (fun y => [a, b, V.str y]) ec, kd_cases hk, fun l11 H11 s11 z11 n11 => ⟨l11, .list (dueD (kd k) da db), rfl, .lst z11 (dq_due (qa4.same ((sy.trans s10).trans s11)) (qb4.same ((sy.trans s10).trans s11)) _), (ok_list (sm_due sa sb _) (len_due _)), rfl, false, congrArg V.bl (ne_self rfl), iteF ?_⟩⟩
      have sz : Same H4 H11 := (sy.trans s10).trans s11
      refine ⟨_, rfl, _, rfl, lo, _, (k : Nat), _, rfl, rfl, SqL.of (sz _ _ z4), atI_nat ee', _, rfl, _, rfl, LT, (k : Nat), c, rfl, rfl, lz, hc, e', k, b, a, _, congrArg (fun y => [V.ref e', V.str y]) ec, hk, hE'.same sz, fun l12 H12 s12 z12 n12 => ⟨l12, .list (dueD (kd k) db da), rfl, .lst z12 (dq_due (qb4.same (sz.trans s12)) (qa4.same (sz.trans s12)) _), (ok_list (sm_due sb sa _) (len_due _)), ?_⟩⟩
      refine ⟨_, rfl, _, rfl, _, rfl, _, rfl, LT, (k : Nat), c, rfl, rfl, lz, hc, b, a, kd k, congrArg (fun y => [b, a, V.str y]) ec, kd_cases hk, fun l13 H13 s13 z13 n13 => ⟨l13, .list (dueD (kd k) db da), rfl, .lst z13 (dq_due (qb4.same ((sz.trans s12).trans s13)) (qa4.same ((sz.trans s12).trans s13)) _), (ok_list (sm_due sb sa _) (len_due _)), rfl, false, congrArg V.bl (ne_self rfl), iteF ?_⟩⟩
      exact ⟨(sz.trans s12).trans s13, _, _, _, _, rfl⟩
    · obtain ⟨s0, x6, x7, x8, x9, rfl⟩ := pv
      have sm13 : ∀ d ∈ [da, da, da, da, da, da, da, db, db, da, da, db, db], Sm d := by
        intro d hd
        simp only [List.mem_cons, List.not_mem_nil, or_false] at hd
        rcases hd with z | z | z | z | z | z | z | z | z | z | z | z | z <;> rw [z] <;> assumption
      have dq13 : ∀ Hx, Same H4 Hx → DqAll Hx [a, a, a, a, a, a, a, b, b, a, a, b, b] [da, da, da, da, da, da, da, db, db, da, da, db, db] := fun Hx sx =>
        have u := qa4.same sx
        have v := qb4.same sx
        .cons u (.cons u (.cons u (.cons u (.cons u (.cons u (.cons u (.cons v (.cons v (.cons u (.cons u (.cons v (.cons v .nil))))))))))))
      have ok13 := ok_list sm13 (by show 13 ≤ 15; omega)
      refine ⟨_, rfl, _, rfl, a, b, rfl, fun l5 H5 s5 z5 n5 => ⟨l5, _, rfl, .lst z5 (dq13 _ (s0.trans s5)), ok13, _, rfl, _, rfl, _, rfl, _, rfl, _, rfl, _, rfl, _, rfl, _, rfl, _, rfl, _, rfl, _, rfl, _, rfl, _, rfl, (by show 13 ≤ sizeLine; decide), fun p6 hp6 => ⟨p6, _, rfl, .lst upd_same (dq13 _ ((s0.trans s5).trans (same_new hp6))), ok13, rfl, ?_⟩⟩⟩
      rw [decide_eq_true rfl]
      refine q _ fun x o ex hx => ?_
      exact (((s3.trans s4).trans (s0.trans s5)).trans (same_new hp6)) _ _ (b2 _ _ (b1 _ _ ex hx) hx)
end
end K14

set_option maxHeartbeats 4000000
namespace K14
open PySem PySem.Spec PyProof.Rows L2 ErL
theorem sq_keep {K : Fr} {H H' : Hp} {a : Addr} {xs : List V} (h : SqL K H a xs) (k : ∀ o, H a = some o → H' a = some o) : SqL K H' a xs := by
  rcases h with h | h
  · rcases h with h | ⟨o, h⟩
    · exact .inl (.inl (k _ h))
    · exact .inl (.inr ⟨o, k _ h⟩)
  · exact .inr h
section
variable {P : Program} {w : World} {K : Fr} {mg : Str → Option Value} {base : Heap} {f fR fP : Addr} {fd dR dP : FuncData}
abbrev s_law : Stmt := top 61
abbrev NL : List Str := ["_law_script", "_law_k"]
theorem sc_law : FnScope NL ["_law_script"] (defScope s_law) := ⟨rfl, rfl, rfl, by decide +kernel, rfl, by decide +kernel, by decide +kernel⟩
def spLaw (K : Fr) : SpG := fun vs H Q => ∃ (a : Addr) (ns : List Int), vs = [.ref a] ∧ SqL K H a (ns.map V.int) ∧ ns.length ≤ 63 ∧ ∀ H', Q (.bl true) H'
theorem ok_law (F : Fun K "law" "law" s_law f fd) (T : TT K mg) (CR : Cd P w K mg base 3 "_law_right" fR dR ["_law_pot_here"] spRight) (CP : Cd P w K mg base 3 "_law_pot" fP dP ["_law_script", "_law_k"] (fun vs H Q => spPot K vs H Q E0)) :
    FnG P w K mg base 4 f fd ["_law_script"] (spLaw K) := by
  refine fnG_mk F sc_law (fun vs H Q h => ?_) (fun cdv A outer s H vs Q hr hG h => ?_)
  · obtain ⟨a, ns, rfl, _⟩ := h
    rfl
  · obtain ⟨a, ns, rfl, hS, hl, q⟩ := h
    refine ⟨_, pss_one (ps_ret (pe_callB (cr_all (by rfl)) (by rfl) T.free (by decide +kernel) (pa_cons (pe_lc (own := [("_law_k", 1)]) (g := gName 1) (tt := tYes) (by rfl) sc_law.nd
      (pi_range1 (by rfl) T.free (pa_cons (pe_callB (call_max2 rfl) (by rfl) T.free (by decide +kernel) (pa_cons pe_int (pa_cons (pe_callB (call_min2 rfl) (by rfl) T.free (by decide +kernel) (pa_cons (pe_callB call_len_seq (by rfl) T.free PySem.boot_len (pa_cons (pv 0) pa_nil)) (pa_cons pe_int pa_nil))) pa_nil))) pa_nil))
      (blkOk_by (N := NL) (sc := defScope s_law) (by decide +kernel)) (fun _ _ _ _ _ => pg_name (i := 1) sc_law.nd rfl (Or.inl rfl)) (fun _ _ _ _ _ => pts_nil)
      (fun _ _ _ _ _ => pe_cd CR hr hG (by rfl) (pa_cons (pe_cd CP hr hG (by rfl) (pa_cons (pv 0) (pa_cons (pv 1) pa_nil))) pa_nil))) pa_nil))), ?_⟩
    refine ⟨_, rfl, a, _, rfl, .inl hS, ?_⟩
    refine ⟨_, _, rfl, _, _, rfl, ?_⟩
    obtain ⟨j, hj, j0, j3⟩ : ∃ j : Int, (if (if (3 : Int) < ((ns.map V.int).length : Int) then (3 : Int) else ((ns.map V.int).length : Int)) > 1 then (if (3 : Int) < ((ns.map V.int).length : Int) then (3 : Int) else ((ns.map V.int).length : Int)) else (1 : Int)) = j ∧ 0 ≤ j ∧ j ≤ 3 := ⟨_, rfl, by split <;> split <;> omega, by split <;> split <;> omega⟩
    rw [hj]
    refine ⟨j, rfl, by omega, by omega, fun D hD => ?_⟩
    refine lc_range (lo := 0) (n := j.toNat) (fun i H' => (∀ o, H a = some o → H' a = some o) ∧ H' D = some (.lst (bls (List.replicate i true)))) ⟨fun o e => same_new hD _ _ e, upd_same⟩ (fun i H' hi pv => ?_) (fun H' pv => ?_)
    · obtain ⟨kS, eD⟩ := pv
      refine ⟨rfl, _, rfl, _, rfl, a, ns, (0 : Int) + (i : Nat), rfl, sq_keep hS kS, hl, by omega, by omega, fun p H1 np s1 hp => ⟨p, rfl, hp, fun H2 b2 => ?_⟩⟩
      have eD2 : H2 D = some (.lst (bls (List.replicate i true))) := b2 _ _ (s1 _ _ eD) (ne_of_none eD np)
      refine ⟨_, eD2, ?_, fun o e => ?_, ?_⟩
      · rw [List.length_map, List.length_replicate, sizeLine_eq]
        omega
      · rw [upd_ne (ne_of_none e hD)]
        exact b2 _ _ (s1 _ _ (kS o e)) (ne_of_none (kS o e) np)
      · rw [upd_same, List.replicate_succ']
        show _ = some (HO.lst (List.map V.bl (_ ++ _)))
        rw [List.map_append]
        rfl
    · exact ⟨D, List.replicate j.toNat true, rfl, SqL.of pv.2, by rw [show (List.replicate j.toNat true).all id = true by simp]; exact q _⟩
end
end K14

set_option maxHeartbeats 4000000
namespace K14
open PySem PySem.Spec PyProof.Rows L2 ErL
/-- the script as an object of the heap -/
abbrev scO (us : List Value) : Obj := { cls := .type "list", data := .seq us.toArray }
/-- a def of one parameter, called on a script where nothing is being shown -/
theorem lawG {P : Program} {w : World} {K : Fr} {mg mb : Str → Option Value} {k : Nat} {fl sc : Addr} {fd : FuncData} {x : Str} {sp : SpG} {st : Shared} {us : List Value} {zs : List Int}
    (kin : K.In st.heap) (n1 : st.heap.Ns mainGlobals mg) (n2 : st.heap.Ns builtinsNs mb) (n3 : ∀ y : Str, y ≠ "__name__" → mb y = bootBuiltins y) (nl : st.heap.NoLimit) (ng : st.gens = #[])
    (here : st.heap.get? sc = some (scO us)) (iz : IntsAre us zs) (lz : zs.length ≤ sizeLine) (rm : Room k callerA) (F : ∀ b : Heap, K.In b → b.Ns mainGlobals mg → FnG P w K mg b k fl fd [x] sp) (bd : Binds K fd [x] [])
    (pr : ∀ H : Hp, SqL K H sc (zs.map V.int) → sp [.ref sc] H (fun v _ => v = .bl true)) :
    codeAny (model P w) callerA (.call (.ref fl) ⟨[.ref sc], []⟩) (fun r s' => r = .ok (.ret (.bool true)) ∧ OldK st.heap s'.heap ∧ s'.os = st.os ∧ AllBare s'.gens) st := by
  have vz := vals_ints iz
  have lu : (zs.map V.int).length ≤ sizeLine := by
    rw [List.length_map]
    exact lz
  -- nothing is tracked but the script, and that only if it is no object of the written part
  obtain ⟨H, on, sq⟩ : ∃ H : Hp, (∀ b y, H b = some y → b = sc ∧ K.lookup sc = none ∧ y = .frz (scO us) (.lst (zs.map V.int))) ∧ SqL K H sc (zs.map V.int) := by
    cases own : K.lookup sc with
    | some y =>
      have e := kin sc y own
      rw [here] at e
      cases e
      refine ⟨fun _ => none, fun b y z => (nomatch (show (none : Option HO) = some y from z)), .inr ⟨_, us.toArray, _, own, rfl, rfl, rfl, ?_, by simpa using vz⟩⟩
      rw [List.size_toArray, iz.length]
      exact lz
    | none =>
      refine ⟨fun b => if b = sc then some (.frz (scO us) (.lst (zs.map V.int))) else none, fun b y z => ?_, .inl (.inr ⟨_, if_pos rfl⟩)⟩
      by_cases hb : b = sc
      · exact ⟨hb, rfl, Option.some.inj (z.symm.trans (if_pos hb))⟩
      · exact (nomatch (show (none : Option HO) = some y from (if_neg hb).symm.trans z))
  have ok : HOk P w H st.heap := fun b y z => by
    obtain ⟨rfl, _, rfl⟩ := on b y z
    exact ⟨here, lu, us, _, vz, here⟩
  have out : ∀ {b : Addr} {o : Obj} {es : Array DictEntry} {ep : Nat}, st.heap.get? b = some o → o.data = .dict es ep → H b = none := fun {b o es ep} e d => by
    cases q : H b with
    | none => rfl
    | some y =>
      obtain ⟨rfl, _, _⟩ := on b y q
      rw [here] at e
      cases e
      exact (nomatch (show Data.seq us.toArray _ = Data.dict es ep from d))
  have ns : ∀ {b : Addr} {m : Str → Option Value}, st.heap.Ns b m → (hidT st.heap H).Ns b m := by
    rintro b m ⟨o, es, ep, e, d, r⟩
    exact ⟨o, es, ep, hidT_get e (out e d), d, r⟩
  have kb : K.In (hidT st.heap H) := fun b o e => hidT_get (kin b o e) (by
    cases q : H b with
    | none => rfl
    | some y =>
      obtain ⟨rfl, z, _⟩ := on b y q
      rw [z] at e
      cases e)
  obtain ⟨ml, l1, l2⟩ := nl
  have env : Env0 P w K mg (hidT st.heap H) callerA [] st H :=
    { frames := rfl, mod := { kin := kb, glob := ns n1, blt := ⟨mb, ns n2, n3⟩, nolimit := ⟨ml, ns l1, l2⟩ }, bs := fun b o e => of_hidT e, bsz := Nat.le_of_eq (hidT_size _ _), funs := trivial, frf := fun b hb => (nomatch (show b ∈ ([] : List Addr) from hb)), hok := ok, bare := .of_eq ng }
  refine codeAny_mono ((F _ kb (ns n1)).run callerA [] st H ⟨[.ref sc], []⟩ [.ref sc] [.ref sc] _ rm rfl env (bd st [.ref sc] kin rfl) (.cons rfl .nil) (pr H sq)) ?_
  intro r s' h
  match r, h with
  | .ok (.ret u), h =>
    obtain ⟨v, H', os, ba, un, ok', rv, q⟩ := h
    cases (show v = .bl true from q)
    cases (show u = Value.bool true from rv)
    refine ⟨rfl, OldK.of_keep fun b o e => ?_, os, ba⟩
    cases q : H b with
    | none => exact un.keep b o e q (fun z => (nomatch (show b ∈ ([] : List Addr) from z))) (by simp)
    | some y =>
      obtain ⟨rfl, _, rfl⟩ := on b y q
      rw [here] at e
      cases e
      exact (ok' _ _ (un.frzs _ _ _ q)).1
  | .ok .next, h => exact False.elim h
  | .ok .brk, h => exact False.elim h
  | .ok .cont, h => exact False.elim h
  | .error e, h => exact False.elim h
section
variable {P : Program} {w : World} {K : Fr} {mg : Str → Option Value}
/-- all defs together -/
theorem law_G (T : TT K mg) : ∃ fd, Binds K fd ["_law_script"] [] ∧ ∀ base : Heap, FnG P w K mg base 4 (He.ga K "law") fd ["_law_script"] (spLaw K) := by
  obtain ⟨d0, F0⟩ := T.fun_ 0
  obtain ⟨d1, F1⟩ := T.fun_ 1
  obtain ⟨d2, F2⟩ := T.fun_ 2
  obtain ⟨d3, F3⟩ := T.fun_ 3
  obtain ⟨d4, F4⟩ := T.fun_ 4
  obtain ⟨d5, F5⟩ := T.fun_ 5
  obtain ⟨d6, F6⟩ := T.fun_ 6
  obtain ⟨d7, F7⟩ := T.fun_ 7
  obtain ⟨d8, F8⟩ := T.fun_ 8
  obtain ⟨d9, F9⟩ := T.fun_ 9
  obtain ⟨d10, F10⟩ := T.fun_ 10
  obtain ⟨d11, F11⟩ := T.fun_ 11
  refine ⟨d11, F11.binds fun _ _ _ _ _ _ us hl => match us, hl with | [_], _ => rfl, fun base => ?_⟩
  have D : Ds P w K mg base := by
    refine ⟨⟨_, d2, FnG.of (ok_value F2 T F1 (T.gl "_law_draw" (by decide))) (fun _ _ _ q => q), T.gl "_law_value" (by decide), F2.kp, F2.binds fun _ _ _ _ _ _ us hl => match us, hl with | [_], _ => rfl⟩,
      ⟨_, d6, FnG.of (ok_made F6 T) (fun _ _ _ q => q), T.gl "_law_made" (by decide), F6.kp, F6.binds fun _ _ _ _ _ _ us hl => match us, hl with | [_, _], _ => rfl⟩,
      ⟨_, d7, FnG.of (ok_named F7 T) (fun _ _ _ q => q), T.gl "_law_named" (by decide), F7.kp, F7.binds fun _ _ _ _ _ _ us hl => match us, hl with | [_, _], _ => rfl⟩,
      ⟨_, d5, (FnG.of (ok_bases F5 T) (fun _ _ _ q => q)).mono (by decide), T.gl "_law_bases" (by decide), F5.kp, F5.binds fun _ _ _ _ _ _ us hl => match us, hl with | [_], _ => rfl⟩,
      ⟨_, d3, (FnG.of (ok_first_half F3 T) (fun _ _ _ q => q)).mono (by decide), T.gl "_law_first_half" (by decide), F3.kp, F3.binds fun _ _ _ _ _ _ us hl => match us, hl with | [_], _ => rfl⟩,
      ⟨_, d4, (FnG.of (ok_second_half F4 T) (fun _ _ _ q => q)).mono (by decide), T.gl "_law_second_half" (by decide), F4.kp, F4.binds fun _ _ _ _ _ _ us hl => match us, hl with | [_], _ => rfl⟩,
      ⟨_, d8, (FnG.of (ok_fields F8 T) (fun _ _ _ q => q)).mono (by decide), T.gl "_law_fields" (by decide), F8.kp, F8.binds fun _ _ _ _ _ _ us hl => match us, hl with | [_, _], _ => rfl⟩,
      ⟨_, d9, (FnG.of (ok_due F9) (fun _ _ _ q => q)).mono (by decide), T.gl "_law_due_fields" (by decide), F9.kp, F9.binds fun _ _ _ _ _ _ us hl => match us, hl with | [_, _, _], _ => rfl⟩⟩
  exact ok_law F11 T ⟨ok_right F10 T D, T.gl "_law_right" (by decide), F10.kp, F10.binds fun _ _ _ _ _ _ us hl => match us, hl with | [_], _ => rfl⟩
    ⟨(FnG.of (ok_pot F0 T) (fun _ _ _ q => q)).mono (by decide), T.gl "_law_pot" (by decide), F0.kp, F0.binds fun _ _ _ _ _ _ us hl => match us, hl with | [_, _], _ => rfl⟩
end
end K14

set_option maxHeartbeats 0
namespace K14
open PySem PySem.Spec PyProof.Rows L2 ErL HandSHeadRun PySem.W
theorem run (w : World) : RunEq R (view R.prog [61]) hk ob 20000 names w := by
  intro os
  have a := run_look w os
  have b := run_defs w os
  have c := run_chk w os
  unfold endR at a
  unfold endR2 at b
  unfold endR3 at c
  cases e : endF (stepQ (denQ tabQ) R.prog w) 20000 R.prog w os with
  | none =>
    rw [e] at a
    cases a
  | some s =>
    rw [e] at a b c
    have a' := Option.some.inj a
    have b' : defB (frX (getT s)) = He.valD fn := Option.some.inj b
    have c' : chk (frX (getT s)) = true := Option.some.inj c
    have o : ob s = He.valD fn := by
      show ((defB (frX (getT s))).1 && chk (frX (getT s)), (defB (frX (getT s))).2) = He.valD fn
      rw [b', c', Bool.and_true]
    show some (_, _, ob s) = some (true, openGood (view R.prog [61]) names, He.valD fn)
    rw [o]
    have a1 := congrArg Prod.fst a'
    have a2 := congrArg Prod.snd a'
    exact congrArg some (Prod.ext a1 (Prod.ext a2 rfl))
end K14
open PySem PySem.W PySem.Calls PyProof.Rows
theorem PySem.Challenge.cw_slotsums_k14_error_classes_holds : PySem.Challenge.rw_slotsums_k14_error_classes.Holds := by
  w_on; o_law
  refine HandSHeadRun.head_any (r := K14.R) (q := view K14.R.prog [61]) (H := K14.hk) (ob := K14.ob) (M := 20000) (loose := K14.names) (d := HandSHeadRun.topDef K14.R.prog 61) (kwd := []) K14.ob_eq
    (by kernel_rfl) (fun s => by kernel_rfl) K14.run (by kernel_rfl) (by kernel_rfl) (by kernel_rfl) (by rfl) (by first | assumption | decide +kernel) (by decide +kernel) ⟨rfl, rfl, rfl, rfl, rfl, by decide +kernel⟩ ?hw ?hc
  case hw => w_witness2
  case hc =>
    refine Att.attach_call (l := PySem.Challenge.rw_slotsums_k14_error_classes) (n := 63) rfl (by kernel_rfl) fun w s0 st mg mb fl o pm cd doc sc us zs G Y ho hd hcd hmg here iz lz ng => ?_
    obtain ⟨K, kin, c⟩ := Y
    have T := K14.tt_of kin G.T.g c
    obtain ⟨fd, bd, F⟩ := K14.law_G (P := (PySem.Challenge.rw_slotsums_k14_error_classes).prog) (w := w) T
    have e1 : (HandSHeadRun.topDef K14.R.prog 61).name = ("law" : PySem.Str) := by kernel_rfl
    have e2 := (T.gl "law" (by decide)).symm.trans ((congrArg mg e1).symm.trans hmg)
    cases e2
    exact K14.lawG kin G.T.g G.T.b G.T.builtins G.T.nolimit ng here iz (Nat.le_trans lz (by decide)) ⟨rfl, by decide, by decide⟩ (fun b _ _ => F b) bd fun H q => ⟨sc, zs, rfl, q, lz, fun _ => rfl⟩


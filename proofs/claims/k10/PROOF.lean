import PyProof.Rows.All
import Wide.All
import OpenK.AllK
import Wide.FinOn
import PyProof.EqAt
import PyProof.EqKinds
import PyProof.TupleCall
import KE.KExcInit
import KE.KExcStr
import HandS.ForMost
import HandS.Exc
import HandS.Defaults
import HandS.Head0
import HandS.Head1
import HandS.Head2
import HandS.HeadEnd
import HandS.HeadHook1
import HandS.HeadHook2
import KE.KExcIs
import HandS.IsInst
import HandS.ExcOwn
import KE.KOpsOwn
import HandS.SlotsOwn
import HandS.Property
import HandS.ClsMeth
import HandS.Gcd
import HandS.FStr
import HandS.Head3
import PyProof.ReprNest
import PyProof.ReprRoads
import KE.KNest
import KE.KNestM
import HandS.Evl
import HandS.Wide
import HandS.ForExc
import HandS.TryOnly
import HandS.Star
import HandS.ExcIs
import HandS.Lambda
import PyProof.ReprLen
import HandS.EndTab
import PySem.Challenge.RW_slotsums_k10_ratios_two_by_two
set_option Elab.async false
set_option linter.all false
set_option maxRecDepth 100000
set_option maxHeartbeats 4000000
namespace PySem
namespace Er
open PySem.W PySem.Calls PyProof.Rows PySem.HandSPX
section
variable {M : Model} {A : Around} {E : Value → Shared → Prop} {h : Heap} {g : Array GenState} {d : Drawn} {t : Nat} {os : OsState}
variable {nm q : Str} {C N : Addr} {bs bm bmB : List Value} {hdct : Bool} {sn : List Str} {sub : List Value} {ab : Bool} {col : Option Bool}
variable {dd : Option Addr} {k0 k1 k2 k3 k5 : Option Value} {B newId initId : String}
variable {prog : Program} {w : World} {R : Result → Shared → Prop}

theorem check_newK (FB : ExcBaseFacts B newId initId bmB) (hT : ∀ T : String, bm.contains (.type T) = bmB.contains (.type T)) {rest : List Value}
    {kw : List (Str × Value)} {Q : Unit → Shared → Prop}
    (hC : h.get? C = some (excClassObj nm q C N bs bm hdct sn sub ab col dd k0 k1 k2 k3 k5 newId))
    (hq : Q () ⟨h, g, d, t, os⟩) : wpAny M A (checkBuiltinCall newId ⟨.ref C :: rest, kw⟩) Q E ⟨h, g, d, t, os⟩ := by
  have hcont : (Value.ref C :: bm).contains (.type B) = true := by
    rw [List.contains_cons, hT, FB.hasB, Bool.or_true]
  have hstar := FB.noStar
  simp only [checkBuiltinCall, FB.newKind, FB.newSplit, FB.newRow]
  repeat (first
    | refine wpAny_loadPart_at hC ?_
    | (refine wpAny_isSubtype_exc hC ?_; rw [hcont])
    | refine wpAny_staticBase_exc hC ?_
    | refine wpAny_madeBy_exc hC ?_
    | simp only [bne_self_eq_false, Bool.false_eq_true, if_false]
    | wp_step)
  exact hq

theorem newK (FB : ExcBaseFacts B newId initId bmB) (hT : ∀ T : String, bm.contains (.type T) = bmB.contains (.type T)) {rest : List Value} {kw : List (Str × Value)}
    (hC : h.get? C = some (excClassObj nm q C N bs bm hdct sn sub ab col dd k0 k1 k2 k3 k5 newId))
    (hq : R (.ok (.ret (.ref (h.objs.size + 1)))) ⟨(h.push (kdv_tup rest)).push (excO C h.objs.size), g, d, t, os⟩) (hrest : rest.length ≤ sizeLine) :
    codeAny (model prog w) A (.builtin newId ⟨.ref C :: rest, kw⟩) R ⟨h, g, d, t, os⟩ := by
  have hends := FB.ends
  have hcB : (Value.ref C :: bm).contains (.type B) = true := by
    rw [List.contains_cons, hT, FB.hasB, Bool.or_true]
  have hcA : (Value.ref C :: bm).contains (.type "AttributeError") = false := by
    rw [List.contains_cons, hT, FB.noAttr]
    rfl
  have hcN : (Value.ref C :: bm).contains (.type "NameError") = false := by
    rw [List.contains_cons, hT, FB.noName]
    rfl
  refine codeAny_builtinAt FB.entry ?_
  unfold Builtin.«BaseException.__new__»
  refine wpAt_bind ?_
  show wpAt _ _ _ (stack >>= _) _ _ _
  refine wpAt_bind (wpAt_stack fun p below => wpAt_of_wpAny ?_)
  wp_walk
  refine wpAt_of_wpAny ?_
  rw [FB.owner]
  repeat (first
    | with_reducible refine wpAny_madeHere_exc FB.canon hC ?_
    | with_reducible refine wpAny_loadPart_at hC ?_
    | (with_reducible refine wpAny_isSubtype_exc hC ?_; first | rw [hcB] | rw [hcA] | rw [hcN])
    | wp_step)
  show R _ _
  rw [Heap.size_push]
  exact hq

theorem type_callK (FB : ExcBaseFacts B newId initId bmB) (hT : ∀ T : String, bm.contains (.type T) = bmB.contains (.type T)) {rest : List Value} {kw : List (Str × Value)} {fI : Addr} {Q : Fin → Shared → Prop}
    (hC : h.get? C = some (excClassObj nm q C N bs bm hdct sn sub ab col dd k0 k1 k2 k3 k5 newId))
    (hi : W.Looks (model prog w) h (typeLookup (.ref C) "__init__") (some (.ref fI)))
    (hb : ∀ self, W.Looks (model prog w) h (bindSpecial (.ref fI) self) (.ref fI, [self])) (hrest : rest.length ≤ sizeLine)
    (hq : codeAny (model prog w) A (.call (.ref fI) ⟨.ref (h.objs.size + 1) :: rest, kw⟩)
      (fun r s' => match r with | .ok (.ret v) => v = .none ∧ Q (.done (.ret (.ref (h.objs.size + 1)))) s' | .ok _ => False | .error e => E e s')
      ⟨(h.push (kdv_tup rest)).push (excO C h.objs.size), g, d, t, os⟩) :
    wpAny (model prog w) A (Builtin.«type.__call__» ⟨.ref C :: rest, kw⟩) Q E ⟨h, g, d, t, os⟩ := by
  repeat (first
    | with_reducible refine wpAny_loadPart_at hC ?_
    | with_reducible refine wpAny_madeBy_exc hC ?_
    | wp_step)
  refine codeAny_call_builtin_code (Code.quiet_builtin _ FB.quiet) (check_newK FB hT hC ?_)
  refine newK FB hT hC ?_ hrest
  show wpAny _ _ _ _ _ _
  have k : ∀ b o, h.get? b = some o → ((h.push (kdv_tup rest)).push (excO C h.objs.size)).get? b = some o :=
    fun b o e => Heap.get?_push_of_some _ (Heap.get?_push_of_some _ e)
  have hC1 := k _ _ hC
  have hget : ((h.push (kdv_tup rest)).push (excO C h.objs.size)).get? (h.objs.size + 1) = some (excO C h.objs.size) := by heap_get
  have hcC : (Value.ref C :: bm).contains (.ref C) = true := by simp
  have i1 := hi.keeps k
  have b1 := (hb (.ref (h.objs.size + 1))).keeps k
  unfold isInstance
  repeat (first
    | with_reducible refine wpAny_loadPart_at hget ?_
    | (with_reducible refine wpAny_isSubtype_exc hC1 ?_; rw [hcC])
    | wp_step)
  show wpAny _ _ (typeLookup (.ref C) _) _ _ _
  refine i1.at ?_
  refine wpAny_holding (wpAny_bind (b1.at ?_))
  refine wpAny_bind (wpAny_call (codeAny_mono hq fun r s' z => ?_))
  rcases r with e | (v | _ | _ | _) <;> first | exact z | exact z.elim | skip
  obtain ⟨rfl, z⟩ := z
  first
    | exact wpAny_pure (wpAny_pure z)
    | (wp_walk; exact z)

theorem call_ownK (FB : ExcBaseFacts B newId initId bmB) (hT : ∀ T : String, bm.contains (.type T) = bmB.contains (.type T)) {rest : List Value} {kw : List (Str × Value)} {fI : Addr}
    (hC : h.get? C = some (excClassObj nm q C N bs bm hdct sn sub ab col dd k0 k1 k2 k3 k5 newId))
    (hi : W.Looks (model prog w) h (typeLookup (.ref C) "__init__") (some (.ref fI)))
    (hb : ∀ self, W.Looks (model prog w) h (bindSpecial (.ref fI) self) (.ref fI, [self])) (hrest : rest.length ≤ sizeLine)
    (hq : codeAny (model prog w) (A.under (.builtin "type.__call__" ⟨.ref C :: rest, kw⟩)) (.call (.ref fI) ⟨.ref (h.objs.size + 1) :: rest, kw⟩)
      (W.InitBack (h.objs.size + 1) R) ⟨(h.push (kdv_tup rest)).push (excO C h.objs.size), g, d, t, os⟩) :
    codeAny (model prog w) A (.call (.ref C) ⟨rest, kw⟩) R ⟨h, g, d, t, os⟩ := by
  have f1 := tc_lookup
  have f2 := tc_bind (.ref C)
  have hTy : (⟨h, g, d, t, os⟩ : Shared).TypeIs (.ref C) "type" := ⟨_, hC, rfl⟩
  refine codeAny_of_tree ?_
  show wpAny _ _ (callAny (.ref C) _) _ _ _
  repeat (any_goals (first
    | assumption
    | with_reducible refine wpAny_loadPart_at hC ?_
    | wp_step))
  refine ⟨rfl, ?_⟩
  refine codeAny_call_builtin_at (Code.quiet_builtin _ (by decide +kernel)) entry_typeCall (wpAny_check_type_call_sub hC (type_callK FB hT hC hi hb hrest ?_))
  refine codeAny_mono hq fun r s' z => ?_
  rcases r with e | (v | _ | _ | _) <;> exact z
end
end Er
end PySem

set_option maxHeartbeats 4000000
namespace PySem
namespace Er
open PySem.W PySem.Calls PyProof.Rows Builtin Builtin.ObjectAttr
open PySem.HandSPX (excO)
section
variable {prog : Program} {w : World} {A : Around} {E : Value → Shared → Prop} {R : Result → Shared → Prop} {hp : Heap} {g : Array GenState} {d : Drawn} {t : Nat} {os : OsState}
variable {K : Frag} {C : Addr} {B : String} {bmB : List Value}

/-- the first field of an error -/
theorem put_new {name : Str} {tk : Tok} {v : Value} {x t0 : Addr} (SF : StoreFacts B bmB "object.__setattr__" "object") (X : K.In hp)
    (hx : hp.get? x = some (excO C t0)) (ho : excOver K C bmB = true) (ht : takerIn K C name = some none) (hh : hasDictIn K C = true)
    (hq : ∀ h' tk' dx, (∀ b o, b ≠ x → hp.get? b = some o → h'.get? b = some o) → hp.objs.size ≤ dx → dx ≠ x →
      h'.get? x = some { cls := .ref C, dict := some dx, data := .fields #[.ref t0, .none, .none, .none, .bool false, .none] } →
      h'.Ns1 dx (fun y => if y = name then some v else none) → R (.ok (.ret .none)) ⟨h', g, d, tk', os⟩) :
    codeAny (model prog w) A (.call (.builtin "object.__setattr__") ⟨[.ref x, .str name tk, v], []⟩) R ⟨hp, g, d, t, os⟩ := by
  have hxs : x ≠ hp.objs.size := Nat.ne_of_lt (Heap.lt_size hx)
  refine osa_openX (od := none) SF X ⟨hx, rfl, rfl, trivial⟩ ho ht fun b => ?_
  obtain ⟨cd, hc, hd'⟩ := any_some hh
  have hcls : W.Looks (model prog w) hp (classData C) cd := looks_clsIn X hc
  obtain ⟨nm, bs, mro, ns, qn, hd, sn, sb, ab, col, del⟩ := cd
  dsimp only at hd'
  subst hd'
  unfold storeInOwnDict ownDictForStores
  repeat (first
    | with_reducible refine PX.store_in_new ?_ ?_
    | with_reducible refine wpAny_loadPart_at hx ?_
    | with_reducible refine hcls.at ?_
    | wp_step)
  · exact ⟨_, #[], _, (Heap.get?_update_ne _ _ _ _ hxs.symm).trans (Heap.get?_push_at rfl rfl), rfl, fun e he => absurd he (by simp), fun _ => rfl⟩
  · intro h' tk' hn' hs
    have hx1 : (hp.push { cls := .type "dict", data := .dict #[] }).get? x = some (excO C t0) := Heap.get?_push_of_some _ hx
    refine hq h' tk' hp.objs.size (fun b o hb ho => ?_) (Nat.le_refl _) hxs.symm ?_ hn'
    · exact (hs.2 b (Nat.ne_of_lt (Heap.lt_size ho))).trans ((Heap.get?_update_ne _ _ _ _ hb).trans (Heap.get?_push_of_some _ ho))
    · exact (hs.2 x hxs).trans (Heap.get?_update_self _ hx1 rfl)

/-- a further one -/
theorem put_old {name : Str} {tk : Tok} {v : Value} {x dx : Addr} {fv : Array Value} {m0 : Str → Option Value} {nl : List Str} (SF : StoreFacts B bmB "object.__setattr__" "object") (X : K.In hp)
    (hx : hp.get? x = some { cls := .ref C, dict := some dx, data := .fields fv }) (hns : hp.Ns1 dx m0) (hw : Within m0 nl) (hz : nl.length ≤ 1000)
    (ho : excOver K C bmB = true) (ht : takerIn K C name = some none) (hh : hasDictIn K C = true)
    (hq : ∀ h' tk', (∀ b o, b ≠ dx → hp.get? b = some o → h'.get? b = some o) → h'.Ns1 dx (fun y => if y = name then some v else m0 y) →
      R (.ok (.ret .none)) ⟨h', g, d, tk', os⟩) :
    codeAny (model prog w) A (.call (.builtin "object.__setattr__") ⟨[.ref x, .str name tk, v], []⟩) R ⟨hp, g, d, t, os⟩ := by
  obtain ⟨oD, esD, epD, hoD, hdD, _⟩ := hns.count hw
  refine osa_openX (od := some oD) SF X ⟨hx, rfl, rfl, hoD⟩ ho ht fun b => ?_
  obtain ⟨cd, hc, hd'⟩ := any_some hh
  have hcls : W.Looks (model prog w) hp (classData C) cd := looks_clsIn X hc
  obtain ⟨nm, bs, mro, ns, qn, hd, sn, sb, ab, col, del⟩ := cd
  dsimp only at hd'
  subst hd'
  unfold storeInOwnDict ownDictForStores
  repeat (first
    | with_reducible refine PX.store_in_old hns hw hz ?_
    | with_reducible refine wpAny_loadPart_at hx ?_
    | with_reducible refine hcls.at ?_
    | wp_step)
  intro h' tk' hn' hs
  exact hq h' tk' (fun b o hb ho => (hs.2 b hb).trans ho) hn'
end

/-! ### the texts of the two kinds of __init__ -/
def iA1 (f : Str) (p1 p2 : Pos) : Arguments :=
  { posonlyargs := [], args := [{ arg := "self", annotation := none, pos := p1 }, { arg := f, annotation := none, pos := p2 }], vararg := none, kwonlyargs := [], kw_defaults := [], kwarg := none, defaults := [] }
def iB1 (f : Str) (q1 q2 q3 q4 : Pos) : List Stmt := [.Assign [.Attribute (.Name "self" q1) f q2] (.Name f q3) q4]
def iS1 (f : Str) : Scope := { kind := .function, names := [(PySem.Str.ofString "self", .local), (f, .local)], isGenerator := false, isCoroutine := false, more := [] }
def iA2 (f f' : Str) (p1 p2 p3 : Pos) : Arguments :=
  { posonlyargs := [], args := [{ arg := "self", annotation := none, pos := p1 }, { arg := f, annotation := none, pos := p2 }, { arg := f', annotation := none, pos := p3 }], vararg := none, kwonlyargs := [], kw_defaults := [], kwarg := none, defaults := [] }
def iB2 (f f' : Str) (q1 q2 q3 q4 r1 r2 r3 r4 : Pos) : List Stmt :=
  [.Assign [.Attribute (.Name "self" q1) f q2] (.Name f q3) q4, .Assign [.Attribute (.Name "self" r1) f' r2] (.Name f' r3) r4]
def iS2 (f f' : Str) : Scope := { kind := .function, names := [(PySem.Str.ofString "self", .local), (f, .local), (f', .local)], isGenerator := false, isCoroutine := false, more := [] }

/-- a local name is read -/
theorem ld {M : Model} {s : Shared} {name : Str} {scope : Scope} {L a : Addr} {cd : Value} {m : Str → Option Value} {x : Str} {pos : Pos} {v : Value} {Q : Value → Shared → Prop} {A : Around} {E : Value → Shared → Prop}
    (hn : s.heap.Ns L m) (hv : m x = some v) (h : Q v s) (hk : scope.kind = .function) (hl : (envOfC name scope L a cd).kindOf x = some .local) (hd : (x == ("__debug__" : Str)) = false) :
    wpAny M A (eval (.Name x pos) (envOfC name scope L a cd)) Q E s := wpAny_Name (wpAny_loadName_local hk hl hn hv h) hd

/-- what the class at C says of making and storing -/
structure Cl (K : Frag) (C : Addr) (B newId initId : String) (bmB : List Value) : Prop where
  FB : ExcBaseFacts B newId initId bmB
  SF : StoreFacts B bmB "object.__setattr__" "object"
  ini : excInitIn K C bmB newId = true
  ov : excOver K C bmB = true
  hd : hasDictIn K C = true
  sa : findIn K (.ref C) "__setattr__" = some (some (.builtin "object.__setattr__"))
  kC : keepIn K (.ref C) = true
/-- of its __init__ with one field -/
structure In1 (K : Frag) (C : Addr) (f : Str) : Prop where
  tk : takerIn K C f = some none
  nd : (f == ("__debug__" : Str)) = false
  ns : (f == ("self" : Str)) = false
  fn : ∃ (fI : Addr) (qual : Str) (oc : Value) (od : Option Addr) (kV doc pm : Value) (an : Option Addr) (cdv ct : Value) (osl : Array (Option Value)) (p1 p2 q1 q2 q3 q4 : Pos),
    findIn K (.ref C) "__init__" = some (some (.ref fI)) ∧ typeIn K (.ref fI) = some (.type "function") ∧
    K.lookup fI = some ⟨oc, od, .func (fnOf "__init__" qual (iA1 f p1 p2) (iB1 f q1 q2 q3 q4) (iS1 f) .none kV doc pm an cdv ct), osl⟩ ∧ codeIn K cdv qual = true
/-- of its __init__ with two fields -/
structure In2 (K : Frag) (C : Addr) (f f' : Str) : Prop where
  tk : takerIn K C f = some none
  tk' : takerIn K C f' = some none
  nd : (f == ("__debug__" : Str)) = false
  nd' : (f' == ("__debug__" : Str)) = false
  ns : (f == ("self" : Str)) = false
  ns' : (f' == ("self" : Str)) = false
  nf : (f' == f) = false
  fn : ∃ (fI : Addr) (qual : Str) (oc : Value) (od : Option Addr) (kV doc pm : Value) (an : Option Addr) (cdv ct : Value) (osl : Array (Option Value)) (p1 p2 p3 q1 q2 q3 q4 r1 r2 r3 r4 : Pos),
    findIn K (.ref C) "__init__" = some (some (.ref fI)) ∧ typeIn K (.ref fI) = some (.type "function") ∧
    K.lookup fI = some ⟨oc, od, .func (fnOf "__init__" qual (iA2 f f' p1 p2 p3) (iB2 f f' q1 q2 q3 q4 r1 r2 r3 r4) (iS2 f f') .none kV doc pm an cdv ct), osl⟩ ∧ codeIn K cdv qual = true

/-- a made error: e of the class C, its dict d, its arguments' tuple t -/
structure Made (h h' : Heap) (e C d t : Addr) (args : List Value) (m : Str → Option Value) : Prop where
  keep : ∀ b o, h.get? b = some o → h'.get? b = some o
  be : h.objs.size ≤ e
  bt : h.objs.size ≤ t
  bd : h.objs.size ≤ d
  te : t ≠ e
  de : d ≠ e
  dt : d ≠ t
  obj : h'.get? e = some { cls := .ref C, dict := some d, data := .fields #[.ref t, .none, .none, .none, .bool false, .none] }
  tup : h'.get? t = some (kdv_tup args)
  ns : h'.Ns1 d m
end Er
end PySem

set_option maxHeartbeats 4000000
namespace PySem
namespace Er
open PySem.W PySem.Calls PyProof.Rows Builtin Builtin.ObjectAttr
open PySem.HandSPX (excO)
section
variable {prog : Program} {w : World} {A : Around} {E : Value → Shared → Prop} {R : Result → Shared → Prop} {s : Shared}
variable {K : Frag} {C : Addr} {B newId initId : String} {bmB : List Value} {f f' : Str}

theorem kind1 {f : Str} (ns : (f == ("self" : Str)) = false) : (iS1 f).names.lookup f = some .local := by
  show List.lookup f [(PySem.Str.ofString "self", NameKind.local), (f, NameKind.local)] = some NameKind.local
  have e : (f == PySem.Str.ofString "self") = false := ns
  simp [List.lookup, e]
theorem kind2 {f f' : Str} (ns : (f == ("self" : Str)) = false) : (iS2 f f').names.lookup f = some .local := by
  show List.lookup f [(PySem.Str.ofString "self", NameKind.local), (f, NameKind.local), (f', NameKind.local)] = some NameKind.local
  have e : (f == PySem.Str.ofString "self") = false := ns
  simp [List.lookup, e]
theorem kind2' {f f' : Str} (ns : (f' == ("self" : Str)) = false) (nf : (f' == f) = false) : (iS2 f f').names.lookup f' = some .local := by
  show List.lookup f' [(PySem.Str.ofString "self", NameKind.local), (f, NameKind.local), (f', NameKind.local)] = some NameKind.local
  have e : (f' == PySem.Str.ofString "self") = false := ns
  simp [List.lookup, e, nf]

theorem ne_of_beq {a b : Str} (h : (a == b) = false) : a ≠ b := fun e => by
  subst e
  simp at h

/-- the body of an __init__ with one field -/
theorem body1 (c : Cl K C B newId initId bmB) (i : In1 K C f) {x t0 L a : Addr} {cd v : Value} {qual : Str} {q1 q2 q3 q4 : Pos} {m : Str → Option Value} (X : K.In s.heap)
    (hx : s.heap.get? x = some (excO C t0)) (hn : s.heap.Ns L m) (m1 : m "self" = some (.ref x)) (m2 : m f = some v) {Q : Flow → Shared → Prop}
    (hq : ∀ h' tk' dx, (∀ b o, b ≠ x → s.heap.get? b = some o → h'.get? b = some o) → s.heap.objs.size ≤ dx → dx ≠ x →
      h'.get? x = some { cls := .ref C, dict := some dx, data := .fields #[.ref t0, .none, .none, .none, .bool false, .none] } →
      h'.Ns1 dx (fun y => if y = f then some v else none) → Q .next { s with heap := h', toks := tk' }) :
    wpAny (model prog w) A (execs (iB1 f q1 q2 q3 q4) (envOfC qual (iS1 f) L a cd)) Q E s := by
  show wpAny _ _ (execs _ _) _ _ _
  refine wpAny_execs_cons (plainObj_wpAny_Assign_Attribute ?_)
  refine ld (v := v) hn m2 (ld (v := .ref x) hn m1 ?_ rfl rfl (by decide)) rfl (kind1 i.ns) i.nd
  refine set_plain X (ox := excO C t0) (od := none) ⟨hx, rfl, rfl, trivial⟩ c.sa ?_
  refine put_new c.SF X hx c.ov i.tk c.hd (fun h' tk' dx k dn dne hx' hns => ?_)
  show wpAny _ _ (execs _ _) _ _ _
  exact wpAny_execs_nil (hq h' tk' dx k dn dne hx' hns)
/-- .. with two -/
theorem body2 (c : Cl K C B newId initId bmB) (i : In2 K C f f') {x t0 L a : Addr} {cd v v' : Value} {qual : Str} {q1 q2 q3 q4 r1 r2 r3 r4 : Pos} {m : Str → Option Value} (X : K.In s.heap)
    (hx : s.heap.get? x = some (excO C t0)) (hLx : L ≠ x) (hKx : K.lookup x = none) (hn : s.heap.Ns L m) (m1 : m "self" = some (.ref x)) (m2 : m f = some v) (m3 : m f' = some v') {Q : Flow → Shared → Prop}
    (hq : ∀ h' tk' dx, (∀ b o, b ≠ x → s.heap.get? b = some o → h'.get? b = some o) → s.heap.objs.size ≤ dx → dx ≠ x →
      h'.get? x = some { cls := .ref C, dict := some dx, data := .fields #[.ref t0, .none, .none, .none, .bool false, .none] } →
      h'.Ns1 dx (fun y => if y = f' then some v' else if y = f then some v else none) → Q .next { s with heap := h', toks := tk' }) :
    wpAny (model prog w) A (execs (iB2 f f' q1 q2 q3 q4 r1 r2 r3 r4) (envOfC qual (iS2 f f') L a cd)) Q E s := by
  show wpAny _ _ (execs _ _) _ _ _
  refine wpAny_execs_cons (plainObj_wpAny_Assign_Attribute ?_)
  refine ld (v := v) hn m2 (ld (v := .ref x) hn m1 ?_ rfl rfl (by decide)) rfl (kind2 i.ns) i.nd
  refine set_plain X (ox := excO C t0) (od := none) ⟨hx, rfl, rfl, trivial⟩ c.sa ?_
  refine put_new c.SF X hx c.ov i.tk c.hd (fun h' tk' dx k dn dne hx' hns => ?_)
  have X' : K.In h' := fun b o e => k b o (fun z => by rw [z, hKx] at e; cases e) (X b o e)
  have hn' : h'.Ns L m := by
    obtain ⟨o, es, ep, ho, r⟩ := hn
    exact ⟨o, es, ep, k _ _ hLx ho, r⟩
  show wpAny _ _ (execs _ _) _ _ _
  refine wpAny_execs_cons (plainObj_wpAny_Assign_Attribute ?_)
  refine ld (v := v') hn' m3 (ld (v := .ref x) hn' m1 ?_ rfl rfl (by decide)) rfl (kind2' i.ns' i.nf) i.nd'
  obtain ⟨oD, esD, epD, hoD, hdD, _⟩ := hns.count (Within.cons f v Within.nil)
  refine set_plain X' (ox := { cls := .ref C, dict := some dx, data := .fields #[.ref t0, .none, .none, .none, .bool false, .none] }) (od := some oD) ⟨hx', rfl, rfl, hoD⟩ c.sa ?_
  refine put_old c.SF X' hx' hns (Within.cons f v Within.nil) (by simp) c.ov i.tk' c.hd (fun h2 tk2 k2 hns2 => ?_)
  show wpAny _ _ (execs _ _) _ _ _
  exact wpAny_execs_nil (hq h2 tk2 dx (fun b o hb e => k2 b o (fun z => absurd (Heap.lt_size e) (by rw [z]; exact Nat.not_lt.mpr dn)) (k b o hb e)) dn dne (k2 x _ (Ne.symm dne) hx') hns2)

theorem map1 {kindOf : Str → Option NameKind} {x v : Value} {f : Str} (e0 : kindOf "self" = some .local) (e1 : kindOf f = some .local) (ns : (f == ("self" : Str)) = false) :
    bindL kindOf [("self", x), (f, v)] (fun _ => none) "self" = some x ∧ bindL kindOf [("self", x), (f, v)] (fun _ => none) f = some v := by
  have n1 : ¬ (("self" : Str) = f) := fun e => ne_of_beq ns e.symm
  constructor
  · show (if kindOf f = some .local then fun y => if y = f then some v else (if kindOf "self" = some .local then fun y => if y = ("self" : Str) then some x else none else fun _ => none) y else _) ("self" : Str) = some x
    rw [if_pos e1, if_pos e0]
    simp [n1]
  · show (if kindOf f = some .local then fun y => if y = f then some v else (if kindOf "self" = some .local then fun y => if y = ("self" : Str) then some x else none else fun _ => none) y else _) f = some v
    rw [if_pos e1]
    simp
theorem map2 {kindOf : Str → Option NameKind} {x v v' : Value} {f f' : Str} (e0 : kindOf "self" = some .local) (e1 : kindOf f = some .local) (e2 : kindOf f' = some .local) (ns : (f == ("self" : Str)) = false) (ns' : (f' == ("self" : Str)) = false) (nf : (f' == f) = false) :
    bindL kindOf [("self", x), (f, v), (f', v')] (fun _ => none) "self" = some x ∧ bindL kindOf [("self", x), (f, v), (f', v')] (fun _ => none) f = some v ∧ bindL kindOf [("self", x), (f, v), (f', v')] (fun _ => none) f' = some v' := by
  have n1 : ¬ (("self" : Str) = f) := fun e => ne_of_beq ns e.symm
  have n2 : ¬ (("self" : Str) = f') := fun e => ne_of_beq ns' e.symm
  have n3 : ¬ (f = f') := fun e => ne_of_beq nf e.symm
  refine ⟨?_, ?_, ?_⟩
  all_goals simp [bindL, e0, e1, e2, n1, n2, n3]

/-- a call of the class, one field -/
theorem made1 (c : Cl K C B newId initId bmB) (i : In1 K C f) {rest : List Value} {kw : List (Str × Value)} {v : Value} (X : K.In s.heap) (hlim : s.heap.NoLimit) (hroom : A.depth + 1 < recursionLimit) (hz : rest.length ≤ sizeLine)
    (hb : ∀ (s : Shared) (qual : Str) (p1 p2 q1 q2 q3 q4 : Pos) (kV doc pm : Value) (an : Option Addr) (cdv ct x : Value),
      BindsTo s (fnOf "__init__" qual (iA1 f p1 p2) (iB1 f q1 q2 q3 q4) (iS1 f) .none kV doc pm an cdv ct) ⟨x :: rest, kw⟩ [("self", x), (f, v)])
    (hq : ∀ h' tk e d t, Made s.heap h' e C d t rest (fun y => if y = f then some v else none) → R (.ok (.ret (.ref e))) { s with heap := h', toks := tk }) :
    codeAny (model prog w) A (.call (.ref C) ⟨rest, kw⟩) R s := by
  obtain ⟨fI, qual, oc, od, kV, doc, pm, an, cdv, ct, osl, p1, p2, q1, q2, q3, q4, hi, ht, ho, hcd⟩ := i.fn
  obtain ⟨nm, N, qn, bs, bm, hdct, sn, sub, ab, col, dd, k0, k1, k2, k3, k5, hC, hT⟩ := excInit_of X c.ini
  obtain ⟨hp, g, dr, tk, os⟩ := s
  have k : ∀ b o, hp.get? b = some o → ((hp.push (kdv_tup rest)).push (excO C hp.objs.size)).get? b = some o := fun b o e => Heap.get?_push_of_some _ (Heap.get?_push_of_some _ e)
  have hget : ((hp.push (kdv_tup rest)).push (excO C hp.objs.size)).get? (hp.objs.size + 1) = some (excO C hp.objs.size) := by heap_get
  have hget0 : ((hp.push (kdv_tup rest)).push (excO C hp.objs.size)).get? hp.objs.size = some (kdv_tup rest) := by heap_get
  have hsz : ((hp.push (kdv_tup rest)).push (excO C hp.objs.size)).objs.size = hp.objs.size + 1 + 1 := by rw [Heap.size_push, Heap.size_push]
  refine call_ownK c.FB hT hC (looks_findIn X hi) (fun self => bind_fn X self ht) hz ?_
  refine Att.call_fn (s := ⟨(hp.push (kdv_tup rest)).push (excO C hp.objs.size), g, dr, tk, os⟩) (binds := [("self", .ref (hp.objs.size + 1)), (f, v)]) (X.keeps k) (hlim.keeps k) ho hcd ?_ (hb _ _ _ _ _ _ _ _ _ _ _ _ _ _ _) ?_ (fun s1 IC => ?_) rfl rfl rfl
  · show A.depth + 1 < recursionLimit
    exact hroom
  · have e1 : (iS1 f).names.lookup f = some .local := kind1 i.ns
    have e0 : (iS1 f).names.lookup ("self" : Str) = some NameKind.local := rfl
    simp [List.all, e1, e0]
  obtain ⟨h1, tk1, rfl⟩ := IC.toInCall.same
  have ks : ∀ b o, ((hp.push (kdv_tup rest)).push (excO C hp.objs.size)).get? b = some o → h1.get? b = some o := IC.toInCall.keep
  have hn := IC.toInCall.ns
  obtain ⟨m1, m2⟩ := map1 (kindOf := (envOfC qual (iS1 f) ((hp.push (kdv_tup rest)).push (excO C hp.objs.size)).objs.size fI cdv).kindOf) (x := .ref (hp.objs.size + 1)) (v := v) rfl (kind1 i.ns) i.ns
  refine wpAny_mono (body1 c i ((X.keeps k).keeps ks) (ks _ _ hget) hn m1 m2 (Q := fun fl s' => fl = .next ∧ ∃ h' tk' dx, s' = ⟨h', g, dr, tk', os⟩ ∧ Made hp h' (hp.objs.size + 1) C dx hp.objs.size rest (fun y => if y = f then some v else none)) (fun h' tk' dx k' dn dne hx hns => ⟨rfl, h', tk', dx, rfl, ?_⟩)) (fun fl s' hh => ?_) (fun e s' hh => hh)
  · have lt1 : hp.objs.size + 1 < h1.objs.size := Heap.lt_size (ks _ _ hget)
    have z2 : h1.objs.size ≤ dx := dn
    have z3 : hp.objs.size < dx := by omega
    exact ⟨fun b o e => k' b o (Nat.ne_of_lt (Nat.lt_succ_of_lt (Heap.lt_size e))) (ks _ _ (k _ _ e)), Nat.le_succ _, Nat.le_refl _, Nat.le_of_lt z3, Nat.ne_of_lt (Nat.lt_succ_self _), dne, Nat.ne_of_gt z3, hx, k' _ _ (Nat.ne_of_lt (Nat.lt_succ_self _)) (ks _ _ hget0), hns⟩
  · obtain ⟨rfl, h', tk', dx, rfl, M⟩ := hh
    exact ⟨rfl, hq h' tk' (hp.objs.size + 1) dx hp.objs.size M⟩
/-- .. two -/
theorem made2 (c : Cl K C B newId initId bmB) (i : In2 K C f f') {rest : List Value} {kw : List (Str × Value)} {v v' : Value} (X : K.In s.heap) (hlim : s.heap.NoLimit) (hroom : A.depth + 1 < recursionLimit) (hz : rest.length ≤ sizeLine)
    (hb : ∀ (s : Shared) (qual : Str) (p1 p2 p3 q1 q2 q3 q4 r1 r2 r3 r4 : Pos) (kV doc pm : Value) (an : Option Addr) (cdv ct x : Value),
      BindsTo s (fnOf "__init__" qual (iA2 f f' p1 p2 p3) (iB2 f f' q1 q2 q3 q4 r1 r2 r3 r4) (iS2 f f') .none kV doc pm an cdv ct) ⟨x :: rest, kw⟩ [("self", x), (f, v), (f', v')])
    (hq : ∀ h' tk e d t, Made s.heap h' e C d t rest (fun y => if y = f' then some v' else if y = f then some v else none) → R (.ok (.ret (.ref e))) { s with heap := h', toks := tk }) :
    codeAny (model prog w) A (.call (.ref C) ⟨rest, kw⟩) R s := by
  obtain ⟨fI, qual, oc, od, kV, doc, pm, an, cdv, ct, osl, p1, p2, p3, q1, q2, q3, q4, r1, r2, r3, r4, hi, ht, ho, hcd⟩ := i.fn
  obtain ⟨nm, N, qn, bs, bm, hdct, sn, sub, ab, col, dd, k0, k1, k2, k3, k5, hC, hT⟩ := excInit_of X c.ini
  obtain ⟨hp, g, dr, tk, os⟩ := s
  have k : ∀ b o, hp.get? b = some o → ((hp.push (kdv_tup rest)).push (excO C hp.objs.size)).get? b = some o := fun b o e => Heap.get?_push_of_some _ (Heap.get?_push_of_some _ e)
  have hget : ((hp.push (kdv_tup rest)).push (excO C hp.objs.size)).get? (hp.objs.size + 1) = some (excO C hp.objs.size) := by heap_get
  have hget0 : ((hp.push (kdv_tup rest)).push (excO C hp.objs.size)).get? hp.objs.size = some (kdv_tup rest) := by heap_get
  have hsz : ((hp.push (kdv_tup rest)).push (excO C hp.objs.size)).objs.size = hp.objs.size + 1 + 1 := by rw [Heap.size_push, Heap.size_push]
  have hKx : K.lookup (hp.objs.size + 1) = none := by
    cases e : K.lookup (hp.objs.size + 1) with
    | none => rfl
    | some o =>
      have z : hp.get? (hp.objs.size + 1) = some o := X _ _ e
      exact absurd (Nat.lt_of_succ_lt (Heap.lt_size z)) (Nat.lt_irrefl _)
  refine call_ownK c.FB hT hC (looks_findIn X hi) (fun self => bind_fn X self ht) hz ?_
  refine Att.call_fn (s := ⟨(hp.push (kdv_tup rest)).push (excO C hp.objs.size), g, dr, tk, os⟩) (binds := [("self", .ref (hp.objs.size + 1)), (f, v), (f', v')]) (X.keeps k) (hlim.keeps k) ho hcd ?_ (hb _ _ _ _ _ _ _ _ _ _ _ _ _ _ _ _ _ _ _ _) ?_ (fun s1 IC => ?_) rfl rfl rfl
  · show A.depth + 1 < recursionLimit
    exact hroom
  · have e1 : (iS2 f f').names.lookup f = some .local := kind2 i.ns
    have e2 : (iS2 f f').names.lookup f' = some .local := kind2' i.ns' i.nf
    have e0 : (iS2 f f').names.lookup ("self" : Str) = some NameKind.local := rfl
    simp [List.all, e1, e2, e0]
  obtain ⟨h1, tk1, rfl⟩ := IC.toInCall.same
  have ks : ∀ b o, ((hp.push (kdv_tup rest)).push (excO C hp.objs.size)).get? b = some o → h1.get? b = some o := IC.toInCall.keep
  have hn := IC.toInCall.ns
  obtain ⟨m1, m2, m3⟩ := map2 (kindOf := (envOfC qual (iS2 f f') ((hp.push (kdv_tup rest)).push (excO C hp.objs.size)).objs.size fI cdv).kindOf) (x := .ref (hp.objs.size + 1)) (v := v) (v' := v') rfl (kind2 i.ns) (kind2' i.ns' i.nf) i.ns i.ns' i.nf
  have hLx : ((hp.push (kdv_tup rest)).push (excO C hp.objs.size)).objs.size ≠ hp.objs.size + 1 := by omega
  refine wpAny_mono (body2 c i ((X.keeps k).keeps ks) (ks _ _ hget) hLx hKx hn m1 m2 m3 (Q := fun fl s' => fl = .next ∧ ∃ h' tk' dx, s' = ⟨h', g, dr, tk', os⟩ ∧ Made hp h' (hp.objs.size + 1) C dx hp.objs.size rest (fun y => if y = f' then some v' else if y = f then some v else none)) (fun h' tk' dx k' dn dne hx hns => ⟨rfl, h', tk', dx, rfl, ?_⟩)) (fun fl s' hh => ?_) (fun e s' hh => hh)
  · have lt1 : hp.objs.size + 1 < h1.objs.size := Heap.lt_size (ks _ _ hget)
    have z2 : h1.objs.size ≤ dx := dn
    have z3 : hp.objs.size < dx := by omega
    exact ⟨fun b o e => k' b o (Nat.ne_of_lt (Nat.lt_succ_of_lt (Heap.lt_size e))) (ks _ _ (k _ _ e)), Nat.le_succ _, Nat.le_refl _, Nat.le_of_lt z3, Nat.ne_of_lt (Nat.lt_succ_self _), dne, Nat.ne_of_gt z3, hx, k' _ _ (Nat.ne_of_lt (Nat.lt_succ_self _)) (ks _ _ hget0), hns⟩
  · obtain ⟨rfl, h', tk', dx, rfl, M⟩ := hh
    exact ⟨rfl, hq h' tk' (hp.objs.size + 1) dx hp.objs.size M⟩
end
end Er
end PySem

set_option maxHeartbeats 4000000
namespace ErL
open PySem PySem.Spec PyProof.Rows L2
open PySem.Er (Made Cl In1 In2)
/-- an error object at e: its class, its dict (or none), its arguments' tuple -/
def erO (e C : Addr) (d : Option Addr) (t : Addr) : HO := .ext fun h =>
  h.get? e = some ({ cls := .ref C, dict := d, data := .fields #[.ref t, .none, .none, .none, .bool false, .none] } : Obj)
/-- an error of the class at C with these fields, made with these arguments -/
def ErAt (H : Hp) (e C : Addr) (fs : List (Str × V)) (args : List V) : Prop :=
  ∃ (d : Option Addr) (t : Addr), H e = some (erO e C d t) ∧ H t = some (.tup args) ∧ match d with
    | some dx => H dx = some (.xd fs)
    | none => fs = []
theorem ErAt.same {H H' : Hp} {e C : Addr} {fs : List (Str × V)} {args : List V} (x : ErAt H e C fs args) (s : Same H H') : ErAt H' e C fs args := by
  obtain ⟨d, t, h1, h2, h3⟩ := x
  refine ⟨d, t, s _ _ h1, s _ _ h2, ?_⟩
  cases d with
  | none => exact h3
  | some dx => exact s _ _ h3

theorem erO_ok {P : Program} {w : World} {H : Hp} {h : Heap} {e C t : Addr} {d : Option Addr} (he : h.get? e = some ({ cls := .ref C, dict := d, data := .fields #[.ref t, .none, .none, .none, .bool false, .none] } : Obj)) :
    ObjOk P w H h e (erO e C d t) := ⟨he, ⟨_, he⟩, fun _ _ z k => k _ z⟩

section
variable {X : Cx} {pins : List (Addr × Obj)} {σ : L2.St} {H : Hp} {s : Shared} {h' : Heap} {t' : Nat}
/-- several objects laid at once, all of them new -/
theorem laidMany {H' : Hp} (I : Inv X pins σ H s) (k : ∀ b o, s.heap.get? b = some o → h'.get? b = some o) (sm : Same H H') (fr : ∀ b, b < s.heap.objs.size → H b = none → H' b = none)
    (new : ∀ b o, H' b = some o → H b = none → ObjOk X.prog X.w H' h' b o) : Inv X pins σ H' { s with heap := h', toks := t' } := by
  refine I.un ⟨fun b o q _ _ _ => k b o q, fun b o q _ _ _ => ⟨o.slots, k b o q⟩, fun b o q n _ => fr b (Heap.lt_size q) n, fun b o q _ => ⟨o, k b o q⟩, fun b xs q => sm _ _ q, fun b o u q => sm _ _ q, fun b ps q => ⟨#[], by rw [sm _ _ q]; simp⟩⟩ ?_
  intro b o q
  cases e : H b with
  | none => exact new b o q e
  | some o' =>
    have q2 := sm _ _ e
    rw [q] at q2
    cases q2
    exact (I.hok b o e).stay (fun c v _ z => k c v z) (fun c z => sm _ _ z) fun c xs z => sm _ _ z

/-- a made error is tracked -/
theorem made_inv {e C d t : Addr} {args : List Value} {vs : List V} {m : Str → Option Value} {fs : List (Str × V)} {Q : VK} (I : Inv X pins σ H s) (M : Made s.heap h' e C d t args m) (r : Vals vs args) (hz : vs.length ≤ sizeLine)
    (hf : ∀ f, RelO (fs.lookup f) (m f)) (q : ∀ H', ErAt H' e C fs vs → Same H H' → H e = none → Q (.ref e) H') : EP X pins σ Q (.ref e) { s with heap := h', toks := t' } := by
  have ne : H e = none := I.hok.fresh M.be
  have nt : H t = none := I.hok.fresh M.bt
  have nd : H d = none := I.hok.fresh M.bd
  have sm : Same H (upd (upd (upd H t (.tup vs)) d (.xd fs)) e (erO e C (some d) t)) := fun b o z => by
    rw [upd_ne (ne_of_none z ne), upd_ne (ne_of_none z nd), upd_ne (ne_of_none z nt)]
    exact z
  have at_e : (upd (upd (upd H t (.tup vs)) d (.xd fs)) e (erO e C (some d) t)) e = some (erO e C (some d) t) := upd_same
  have at_d : (upd (upd (upd H t (.tup vs)) d (.xd fs)) e (erO e C (some d) t)) d = some (.xd fs) := by rw [upd_ne M.de, upd_same]
  have at_t : (upd (upd (upd H t (.tup vs)) d (.xd fs)) e (erO e C (some d) t)) t = some (.tup vs) := by rw [upd_ne M.te, upd_ne (Ne.symm M.dt), upd_same]
  refine ⟨.ref e, _, laidMany (H' := upd (upd (upd H t (.tup vs)) d (.xd fs)) e (erO e C (some d) t)) I M.keep sm (fun b lt n => ?_) (fun b o z n => ?_), rfl, q _ ⟨some d, t, at_e, at_t, at_d⟩ sm ne⟩
  · rw [upd_ne (Nat.ne_of_lt (Nat.lt_of_lt_of_le lt M.be)), upd_ne (Nat.ne_of_lt (Nat.lt_of_lt_of_le lt M.bd)), upd_ne (Nat.ne_of_lt (Nat.lt_of_lt_of_le lt M.bt))]
    exact n
  · by_cases be : b = e
    · subst be
      rw [at_e] at z
      cases z
      exact erO_ok M.obj
    · by_cases bd : b = d
      · subst bd
        rw [at_d] at z
        cases z
        exact ⟨m, M.ns, hf⟩
      · by_cases bt : b = t
        · subst bt
          rw [at_t] at z
          cases z
          exact ⟨hz, args, r, ⟨_, M.tup, rfl, _, rfl⟩⟩
        · rw [upd_ne be, upd_ne bd, upd_ne bt, n] at z
          cases z
end
theorem rel1 {f : Str} {v : V} {u : Value} (r : RelV v u) (y : Str) : RelO (List.lookup y [(f, v)]) (if y = f then some u else none) := by
  by_cases e : y = f
  · subst e
    simp [List.lookup]
    exact r
  · have e2 : (y == f) = false := by simpa using e
    simp [List.lookup, e, e2]
    trivial
theorem rel2 {f f' : Str} {v v' : V} {u u' : Value} (nf : (f' == f) = false) (r : RelV v u) (r' : RelV v' u') (y : Str) : RelO (List.lookup y [(f, v), (f', v')]) (if y = f' then some u' else if y = f then some u else none) := by
  have n1 : f' ≠ f := PySem.Er.ne_of_beq nf
  by_cases e : y = f
  · subst e
    have n2 : ¬ (y = f') := fun z => n1 z.symm
    simp [List.lookup, n2]
    exact r
  · have e2 : (y == f) = false := by simpa using e
    by_cases e' : y = f'
    · subst e'
      simp [List.lookup, e2]
      exact r'
    · have e3 : (y == f') = false := by simpa using e'
      simp [List.lookup, e, e2, e', e3]
      trivial

section
variable {X : Cx} {C : Addr} {B newId initId : String} {bmB : List Value} {f f' : Str} {x : Str} {p pos : Pos} {a b : Expr} {ta tb : TE}
/-- how the parameters of the two kinds of __init__ are bound -/
abbrev Bd1 (f : Str) (g : Value → List Value × List (Str × Value)) : Prop := ∀ (qual : Str) (p1 p2 q1 q2 q3 q4 : Pos) (kV doc pm : Value) (an : Option Addr) (cdv ct x u : Value),
  bindArgs (PySem.W.fnOf "__init__" qual (PySem.Er.iA1 f p1 p2) (PySem.Er.iB1 f q1 q2 q3 q4) (PySem.Er.iS1 f) .none kV doc pm an cdv ct) ⟨x :: (g u).1, (g u).2⟩ = pure [(("self" : Str), x), (f, u)]
abbrev Bd2 (f f' : Str) (g : Value → Value → List Value × List (Str × Value)) : Prop := ∀ (qual : Str) (p1 p2 p3 q1 q2 q3 q4 r1 r2 r3 r4 : Pos) (kV doc pm : Value) (an : Option Addr) (cdv ct x u u' : Value),
  bindArgs (PySem.W.fnOf "__init__" qual (PySem.Er.iA2 f f' p1 p2 p3) (PySem.Er.iB2 f f' q1 q2 q3 q4 r1 r2 r3 r4) (PySem.Er.iS2 f f') .none kV doc pm an cdv ct) ⟨x :: (g u u').1, (g u u').2⟩ = pure [(("self" : Str), x), (f, u), (f', u')]
abbrev gP1 : Value → List Value × List (Str × Value) := fun u => ([u], [])
abbrev gK1 (f : Str) : Value → List Value × List (Str × Value) := fun u => ([], [(f, u)])
abbrev gP2 : Value → Value → List Value × List (Str × Value) := fun u u' => ([u, u'], [])
abbrev gK2 (f f' : Str) : Value → Value → List Value × List (Str × Value) := fun u u' => ([], [(f', u'), (f, u)])
theorem bd1_value : Bd1 "value" gP1 := by first | (unfold Bd1; intros; first | rfl | with_unfolding_all rfl) | (unfold Bd2; intros; first | rfl | with_unfolding_all rfl)
theorem bd1_position : Bd1 "position" gP1 := by first | (unfold Bd1; intros; first | rfl | with_unfolding_all rfl) | (unfold Bd2; intros; first | rfl | with_unfolding_all rfl)
theorem bd1_name : Bd1 "name" gP1 := by first | (unfold Bd1; intros; first | rfl | with_unfolding_all rfl) | (unfold Bd2; intros; first | rfl | with_unfolding_all rfl)
theorem bd1_line : Bd1 "line" gP1 := by first | (unfold Bd1; intros; first | rfl | with_unfolding_all rfl) | (unfold Bd2; intros; first | rfl | with_unfolding_all rfl)
theorem bk1_value : Bd1 "value" (gK1 "value") := by first | (unfold Bd1; intros; first | rfl | with_unfolding_all rfl) | (unfold Bd2; intros; first | rfl | with_unfolding_all rfl)
theorem bk1_position : Bd1 "position" (gK1 "position") := by first | (unfold Bd1; intros; first | rfl | with_unfolding_all rfl) | (unfold Bd2; intros; first | rfl | with_unfolding_all rfl)
theorem bk1_name : Bd1 "name" (gK1 "name") := by first | (unfold Bd1; intros; first | rfl | with_unfolding_all rfl) | (unfold Bd2; intros; first | rfl | with_unfolding_all rfl)
theorem bk1_line : Bd1 "line" (gK1 "line") := by first | (unfold Bd1; intros; first | rfl | with_unfolding_all rfl) | (unfold Bd2; intros; first | rfl | with_unfolding_all rfl)
theorem bd2_places : Bd2 "position" "places" gP2 := by first | (unfold Bd1; intros; first | rfl | with_unfolding_all rfl) | (unfold Bd2; intros; first | rfl | with_unfolding_all rfl)
theorem bd2_kind : Bd2 "kind" "limit" gP2 := by first | (unfold Bd1; intros; first | rfl | with_unfolding_all rfl) | (unfold Bd2; intros; first | rfl | with_unfolding_all rfl)
theorem bk2_places : Bd2 "position" "places" (gK2 "position" "places") := by first | (unfold Bd1; intros; first | rfl | with_unfolding_all rfl) | (unfold Bd2; intros; first | rfl | with_unfolding_all rfl)
theorem bk2_kind : Bd2 "kind" "limit" (gK2 "kind" "limit") := by first | (unfold Bd1; intros; first | rfl | with_unfolding_all rfl) | (unfold Bd2; intros; first | rfl | with_unfolding_all rfl)
/-- C(a) -/
def tEr1 (C : Addr) (f : Str) (t : TA) : TE := fun σ H Q => t σ H fun vs H1 => ∃ v, vs = [v] ∧ ∀ e H', ErAt H' e C [(f, v)] [v] → Same H1 H' → H1 e = none → Q (.ref e) H'
/-- C(a, b) -/
def tEr2 (C : Addr) (f f' : Str) (t : TA) : TE := fun σ H Q => t σ H fun vs H1 => ∃ v v', vs = [v, v'] ∧ ∀ e H', ErAt H' e C [(f, v), (f', v')] [v, v'] → Same H1 H' → H1 e = none → Q (.ref e) H'
theorem pe_er1 {k : Nat} (c : Cl X.K C B newId initId bmB) (i : In1 X.K C f) (hb : Bd1 f gP1) (hr : Room k X.A) (hg : Gl X x) (hm : X.mg x = some (.ref C)) (ha : PA X [a] (tCons ta tNil))
    (hdb : (x == ("__debug__" : Str)) = false := by decide) (he : starEach [a] X.env = (false, eval a X.env) :: starEach [] X.env := by rfl) (hpl : (backTo pos (starEach [] X.env)).any (·.1) = false := by rfl) :
    PE X (.Call (.Name x p) [a] [] pos) (tEr1 C f (tCons ta tNil)) := by
  refine ⟨fun pins s σ H Q I h => ?_⟩
  refine wpAny_Call_Name_kw (ld_glob I hg hm ?_ hdb)
  refine PySem.W.callWith_K (h₀ := X.base) I.ok.mod.kin c.kC (thn (ha.run pos pins s σ H _ I h) fun us s1 ⟨vs, H1, I1, r, v, ev, q⟩ => ⟨I1.kIn, ?_⟩) he hpl
  subst ev
  obtain ⟨u, rfl, ru⟩ := vals1 r
  show wpAny _ _ (call (.ref C) [u]) _ _ _
  exact wpAny_call (PySem.Er.made1 c i (v := u) I1.kIn I1.nolimit (by have := hr.dp; omega) (by show 1 ≤ sizeLine; rw [sizeLine_eq]; omega) (fun _ ql p1 p2 q1 q2 q3 q4 kv dc pm an cv ct y => .of_eq (hb ql p1 p2 q1 q2 q3 q4 kv dc pm an cv ct y u))
    fun h' tk e d t M => made_inv I1 M r (by show 1 ≤ sizeLine; rw [sizeLine_eq]; omega) (rel1 ru) fun H' z1 z2 z3 => q e H' z1 z2 z3)
theorem pe_er2 {k : Nat} (c : Cl X.K C B newId initId bmB) (i : In2 X.K C f f') (hb : Bd2 f f' gP2) (hr : Room k X.A) (hg : Gl X x) (hm : X.mg x = some (.ref C)) (ha : PA X [a, b] (tCons ta (tCons tb tNil)))
    (hdb : (x == ("__debug__" : Str)) = false := by decide) (he : starEach [a, b] X.env = (false, eval a X.env) :: starEach [b] X.env := by rfl) (hpl : (backTo pos (starEach [b] X.env)).any (·.1) = false := by rfl) :
    PE X (.Call (.Name x p) [a, b] [] pos) (tEr2 C f f' (tCons ta (tCons tb tNil))) := by
  refine ⟨fun pins s σ H Q I h => ?_⟩
  refine wpAny_Call_Name_kw (ld_glob I hg hm ?_ hdb)
  refine PySem.W.callWith_K (h₀ := X.base) I.ok.mod.kin c.kC (thn (ha.run pos pins s σ H _ I h) fun us s1 ⟨vs, H1, I1, r, v, v', ev, q⟩ => ⟨I1.kIn, ?_⟩) he hpl
  subst ev
  obtain ⟨u, u', rfl, ru, ru'⟩ := vals2 r
  show wpAny _ _ (call (.ref C) [u, u']) _ _ _
  exact wpAny_call (PySem.Er.made2 c i (v := u) (v' := u') I1.kIn I1.nolimit (by have := hr.dp; omega) (by show 2 ≤ sizeLine; rw [sizeLine_eq]; omega) (fun _ ql p1 p2 p3 q1 q2 q3 q4 r1 r2 r3 r4 kv dc pm an cv ct y => .of_eq (hb ql p1 p2 p3 q1 q2 q3 q4 r1 r2 r3 r4 kv dc pm an cv ct y u u'))
    fun h' tk e d t M => made_inv I1 M r (by show 2 ≤ sizeLine; rw [sizeLine_eq]; omega) (rel2 i.nf ru ru') fun H' z1 z2 z3 => q e H' z1 z2 z3)
end
end ErL

set_option maxHeartbeats 4000000
namespace PySem
namespace Er
open Sem (wp)
open Builtin Builtin.Str Builtin.BaseException Builtin.Exceptions
open PySem.W (Looks Frag findIn subIn looks_findIn looks_subIn)
theorem text_eq (x : Value) : bexcText "__str__" x = pyStrObj x := by
  cases x <;> rfl
section
variable {prog : Program} {w : World} {M : Model} {A : Around} {E : Value → Shared → Prop} {s : Shared} {K : Frag} {C e t0 : Addr}
theorem bstr_two {u u' : Value} {rest : List Value} {Q : Fin → Shared → Prop} (x : ExcC K C e t0 s.heap) (ht : s.heap.TupAt t0 (u :: u' :: rest))
    (hq : wpAny (model prog w) A (pyStrObj (.ref t0)) (fun v s' => Q (.done (.ret v)) s') E s) :
    wpAny (model prog w) A (Builtin.«BaseException.__str__» ⟨[.ref e], []⟩) Q E s := by
  unfold Builtin.«BaseException.__str__»
  refine wpAny_bind (wpAny_of_eq (a := ((Value.ref e : Value), ([] : List Value))) (by first | rfl | (simp only [slotArgs]; rfl)) ?_)
  refine wpAny_bind (bexcArgs_C x ht ?_)
  show wpAny (model prog w) A (bexcText "__str__" (.ref t0) >>= fun r => ret r) _ _ _
  rw [text_eq]
  refine wpAny_bind (wpAny_mono hq (fun v s' z => ?_) fun _ _ z => z)
  exact wpAny_pure z
theorem bstr_one {u : Value} {Q : Fin → Shared → Prop} (x : ExcC K C e t0 s.heap) (ht : s.heap.TupAt t0 [u])
    (hq : wpAny (model prog w) A (pyStrObj u) (fun v s' => Q (.done (.ret v)) s') E s) :
    wpAny (model prog w) A (Builtin.«BaseException.__str__» ⟨[.ref e], []⟩) Q E s := by
  unfold Builtin.«BaseException.__str__»
  repeat (first
    | with_reducible refine bexcArgs_C x ht ?_
    | (rw [text_eq]; refine wpAny_bind (wpAny_mono hq (fun v s' z => ?_) fun _ _ z => z))
    | wp_step)
  exact z
end
end Er
end PySem
namespace PySem
namespace Er
open Sem (wp)
open Builtin Builtin.Str Builtin.BaseException Builtin.Exceptions
open PySem.W (Looks Frag findIn subIn looks_findIn looks_subIn)
section
variable {prog : Program} {w : World} {M : Model} {A : Around} {E : Value → Shared → Prop} {s : Shared} {K : Frag} {C e t0 : Addr}
/-- a value whose text is told -/
structure Shw (h : Heap) (u : Value) (d : PyData) : Prop where
  rd : ∃ as, Reads h u d as ∧ sysModules ∉ as
  sh : d.showable = true
  dp : d.depth ≤ 20
  sz : d.shown.length ≤ 5000
theorem Shw.keeps {h h' : Heap} {u : Value} {d : PyData} (x : Shw h u d) (k : ∀ b o, h.get? b = some o → h'.get? b = some o) : Shw h' u d := by
  obtain ⟨as, r, n⟩ := x.rd
  exact ⟨⟨as, PyProof.Rows.Reads.keeps k r, n⟩, x.sh, x.dp, x.sz⟩
/-- str of it is some text -/
theorem text_of {u : Value} {d : PyData} {Q : Value → Shared → Prop} (x : Shw s.heap u d) (hg : A.guards = some []) (hu : A.units + 60 < cLine)
    (hq : ∀ y t h' tk, (∀ b o, s.heap.get? b = some o → h'.get? b = some o) → Q (.str y t) { s with heap := h', toks := tk }) : wpAny (model prog w) A (pyStrObj u) Q E s := by
  obtain ⟨⟨as, r, n⟩, sh, dp, sz⟩ := x
  have lz : (5000 : Nat) ≤ sizeLine := by rw [sizeLine_eq]; omega
  cases d with
  | none =>
    cases r
    exact PySem.pyStrObj_none (hq _ _ _ _ fun _ _ z => z)
  | bool b =>
    cases r
    exact PySem.pyStrObj_bool (hq _ _ _ _ fun _ _ z => z)
  | int i =>
    cases r
    exact PySem.pyStrObj_int (of_decide_eq_true sh) (hq _ _ _ _ fun _ _ z => z)
  | str x =>
    cases r
    exact wpAny_pure (hq _ _ _ _ fun _ _ z => z)
  | list xs =>
    obtain ⟨a, rfl⟩ : ∃ a, u = .ref a := by cases r; exact ⟨_, rfl⟩
    exact pyStrObj_of_reads r sh (fun _ => n) hg (by omega) (fun _ _ z => z) (fun h' y tk k => hq _ _ _ _ k) (Nat.le_trans sz lz)
  | tuple xs =>
    obtain ⟨a, rfl⟩ : ∃ a, u = .ref a := by cases r; exact ⟨_, rfl⟩
    exact pyStrObj_of_reads r sh (fun _ => n) hg (by omega) (fun _ _ z => z) (fun h' y tk k => hq _ _ _ _ k) (Nat.le_trans sz lz)
  | dict xs =>
    obtain ⟨a, rfl⟩ : ∃ a, u = .ref a := by cases r; exact ⟨_, rfl⟩
    exact pyStrObj_of_reads r sh (fun _ => n) hg (by omega) (fun _ _ z => z) (fun h' y tk k => hq _ _ _ _ k) (Nat.le_trans sz lz)
end
end Er
end PySem

set_option maxHeartbeats 400000
namespace PySem
namespace Er
open Sem (wp)
open Builtin Builtin.Str Builtin.BaseException Builtin.Exceptions
open PySem.W (Looks Frag findIn subIn looks_findIn looks_subIn)
section
variable {prog : Program} {w : World} {M : Model} {A : Around} {E : Value → Shared → Prop} {s : Shared} {K : Frag} {C e t0 : Addr}
/-- what str(error) leans on -/
structure Str0 (K : Frag) (C e t0 : Addr) (args : List Value) (ds : List PyData) (h : Heap) : Prop where
  at_ : ExcC K C e t0 h
  tup : h.TupAt t0 args
  all : args = [] ∨ (∃ u d, args = [u] ∧ Shw h u d) ∨ ∃ d, 2 ≤ args.length ∧ Shw h (.ref t0) d
theorem strOf_er {args : List Value} {ds : List PyData} (hg : A.guards = some []) (hu : A.units + 62 < cLine) (x : Str0 K C e t0 args ds s.heap)
    (hs : findIn K (.ref C) "__str__" = some (some (.builtin "BaseException.__str__"))) (hB : subIn K (.ref C) (.type "BaseException") = some true) {Q : Value → Shared → Prop}
    (hq : ∀ y t h' tk, (∀ b o, s.heap.get? b = some o → h'.get? b = some o) → Q (.str y t) { s with heap := h', toks := tk }) : wpAny (model prog w) A (strOf (.ref e)) Q E s := by
  have hf : Looks (model prog w) s.heap (typeLookup (.ref C) "__str__") (some (.builtin "BaseException.__str__")) := looks_findIn x.at_.1 hs
  have hb : wpAny (model prog w) A.in1 (Builtin.«BaseException.__str__» ⟨[.ref e], []⟩) (fun fin s' => ∃ v, fin = .done (.ret v) ∧ ∃ y t h' tk, v = .str y t ∧ s' = { s with heap := h', toks := tk } ∧ ∀ b o, s.heap.get? b = some o → h'.get? b = some o) E s := by
    rcases x.all with rfl | ⟨u, d, rfl, z⟩ | ⟨d, l, z⟩
    · exact bexcStr_C_none x.at_ x.tup ⟨_, rfl, _, _, _, _, rfl, rfl, fun _ _ z => z⟩
    · exact bstr_one x.at_ x.tup (text_of (A := A.in1) z hg (by show A.units + 1 + 60 < cLine; omega) fun y t h' tk k => ⟨_, rfl, y, t, h', tk, rfl, rfl, k⟩)
    · obtain ⟨u, u', rest, rfl⟩ : ∃ u u' rest, args = u :: u' :: rest := by
        cases args with
        | nil => exact absurd l (Nat.not_succ_le_zero 1)
        | cons u r =>
          cases r with
          | nil => exact absurd (Nat.le_of_succ_le_succ l) (Nat.not_succ_le_zero 0)
          | cons u' rest => exact ⟨u, u', rest, rfl⟩
      exact bstr_two x.at_ x.tup (text_of (A := A.in1) z hg (by show A.units + 1 + 60 < cLine; omega) fun y t h' tk k => ⟨_, rfl, y, t, h', tk, rfl, rfl, k⟩)
  have hu0 : A.units < cLine := by omega
  have hc : wpAny (model prog w) A (call (.builtin "BaseException.__str__") [.ref e]) (fun v s' => ∃ y t h' tk, v = .str y t ∧ s' = { s with heap := h', toks := tk } ∧ ∀ b o, s.heap.get? b = some o → h'.get? b = some o) E s := by
    refine call_bexcStr_C x.at_ hB (wpAny_mono hb (fun fin s' z => ?_) fun _ _ z => z)
    exact z
  clear hb
  unfold strOf
  rw [show isExactStr (.ref e) = false from rfl]
  refine wpAny_bind (m := cRoomFor _ _) (wpAny_cRoomFor hu0 ?_)
  refine wpAny_bind (m := callSpecial? (.ref e) (Str.ofString "__str__")) (callSpecial_C x.at_.LT hf (F.excStr_Exception.str.bind _) (wpAny_mono hc (fun v s' z => ?_) fun _ _ z => z))
  obtain ⟨y, t, h', tk, rfl, rfl, k⟩ := z
  exact wpAny_pure (hq y t h' tk k)
theorem str_of_er {args : List Value} {ds : List PyData} (hg : A.guards = some []) (hu : A.units + 64 < cLine) (x : Str0 K C e t0 args ds s.heap)
    (hs : findIn K (.ref C) "__str__" = some (some (.builtin "BaseException.__str__"))) (hB : subIn K (.ref C) (.type "BaseException") = some true) {Q : Value → Shared → Prop}
    (hq : ∀ y t h' tk, (∀ b o, s.heap.get? b = some o → h'.get? b = some o) → Q (.str y t) { s with heap := h', toks := tk }) : wpAny (model prog w) A (call (.type "str") [.ref e]) Q E s :=
  callType_new F.called_str (by decide) (F.typeCall_str_1 _) (F.newCall_str_1 _) (fun obj => F.args_object_init_2 obj _) F.entry_str_new
    (meets_str_new (S := fun A' R s' => A'.guards = some [] ∧ A'.units + 63 < cLine ∧ Str0 K C e t0 args ds s'.heap ∧
        ∀ y t h' tk, (∀ b o, s'.heap.get? b = some o → h'.get? b = some o) → R (.ok (.ret (.str y t))) { s' with heap := h', toks := tk })
      fun _ _ A' _ _ h => strOf_er (A := A'.in1) h.1 (by show A'.units + 1 + 62 < cLine; have := h.2.1; omega) h.2.2.1 hs hB h.2.2.2)
    ⟨hg, (show A.units + 1 + 63 < cLine by omega), x, fun y t h' tk k => ⟨typeIs_str _ _ _, hq y t h' tk k⟩⟩
end
end Er
end PySem

set_option maxHeartbeats 1000000
namespace ErL
open PySem PySem.Spec PyProof.Rows L2
open PySem.Er (Made Cl In1 In2 Shw)
/-! ### data that stand in the abstract heap -/
mutual
inductive Dq (H : Hp) : V → PyData → Prop
  | non : Dq H .non .none
  | bl (b : Bool) : Dq H (.bl b) (.bool b)
  | int (i : Int) : Dq H (.int i) (.int i)
  | str (x : Str) : Dq H (.str x) (.str x)
  | lst {a : Addr} {xs : List V} {ds : List PyData} : H a = some (.lst xs) → DqAll H xs ds → Dq H (.ref a) (.list ds)
  | tup {a : Addr} {xs : List V} {ds : List PyData} : H a = some (.tup xs) → DqAll H xs ds → Dq H (.ref a) (.tuple ds)
  | dct {a : Addr} {kvs : List (Key × V)} {ps : List (PyData × PyData)} : H a = some (.dK kvs) → DqKv H kvs ps → Dq H (.ref a) (.dict ps)
inductive DqAll (H : Hp) : List V → List PyData → Prop
  | nil : DqAll H [] []
  | cons {v : V} {vs : List V} {d : PyData} {ds : List PyData} : Dq H v d → DqAll H vs ds → DqAll H (v :: vs) (d :: ds)
inductive DqKv (H : Hp) : List (Key × V) → List (PyData × PyData) → Prop
  | nil : DqKv H [] []
  | cons {x : Str} {v : V} {kvs : List (Key × V)} {d : PyData} {ps : List (PyData × PyData)} : Dq H v d → DqKv H kvs ps → DqKv H ((.inr x, v) :: kvs) ((.str x, d) :: ps)
end
mutual
theorem Dq.same {H H' : Hp} (s : Same H H') : ∀ {v : V} {d : PyData}, Dq H v d → Dq H' v d
  | _, _, .non => .non
  | _, _, .bl b => .bl b
  | _, _, .int i => .int i
  | _, _, .str x => .str x
  | _, _, .lst e a => .lst (s _ _ e) (DqAll.same s a)
  | _, _, .tup e a => .tup (s _ _ e) (DqAll.same s a)
  | _, _, .dct e a => .dct (s _ _ e) (DqKv.same s a)
theorem DqAll.same {H H' : Hp} (s : Same H H') : ∀ {vs : List V} {ds : List PyData}, DqAll H vs ds → DqAll H' vs ds
  | _, _, .nil => .nil
  | _, _, .cons a b => .cons (Dq.same s a) (DqAll.same s b)
theorem DqKv.same {H H' : Hp} (s : Same H H') : ∀ {kvs : List (Key × V)} {ps : List (PyData × PyData)}, DqKv H kvs ps → DqKv H' kvs ps
  | _, _, .nil => .nil
  | _, _, .cons a b => .cons (Dq.same s a) (DqKv.same s b)
end
section
variable {X : Cx} {pins : List (Addr × Obj)} {σ : L2.St} {H : Hp} {s : Shared}
/-- read at the heap; the addresses are tracked -/
def Rds (H : Hp) (h : Heap) (u : Value) (d : PyData) : Prop := ∃ as, Reads h u d as ∧ ∀ b ∈ as, ∃ o, H b = some o
def RdsAll (H : Hp) (h : Heap) (us : List Value) (ds : List PyData) : Prop := ∃ as, ReadsAll h us ds as ∧ ∀ b ∈ as, ∃ o, H b = some o
mutual
theorem Dq.reads (I : Inv X pins σ H s) : ∀ {v : V} {d : PyData} {u : Value}, Dq H v d → RelV v u → Rds H s.heap u d
  | _, _, _, .non, r => by
    cases r
    exact ⟨_, Reads.none, fun b z => nomatch z⟩
  | _, _, _, .bl b, r => by
    cases r
    exact ⟨_, Reads.bool b, fun b z => nomatch z⟩
  | _, _, _, .int i, r => by
    obtain ⟨t, rfl⟩ := r
    exact ⟨_, Reads.int i t, fun b z => nomatch z⟩
  | _, _, _, .str x, r => by
    obtain ⟨t, rfl⟩ := r
    exact ⟨_, Reads.str x t, fun b z => nomatch z⟩
  | _, _, _, .lst (a := a) (xs := xs) e q, r => by
    cases r
    obtain ⟨_, its, n, rv, ho⟩ := (show ObjOk X.prog X.w H s.heap a (.lst xs) from I.hok a _ e)
    obtain ⟨as, ra, ta⟩ := DqAll.reads I q rv
    refine ⟨_, Reads.list ho rfl rfl ra, fun b z => ?_⟩
    rcases List.mem_cons.mp z with rfl | z
    · exact ⟨_, e⟩
    · exact ta b z
  | _, _, _, .tup (a := a) (xs := xs) e q, r => by
    cases r
    obtain ⟨_, its, rv, o, ho, hc, n, hd⟩ := (show ObjOk X.prog X.w H s.heap a (.tup xs) from I.hok a _ e)
    obtain ⟨as, ra, ta⟩ := DqAll.reads I q rv
    exact ⟨_, Reads.tuple ho hc hd ra, ta⟩
  | _, _, _, .dct (a := a) (kvs := kvs) e q, r => by
    cases r
    obtain ⟨_, _, vs, rv, o, es, ep, ho, hx, hd, _, hp, _⟩ := (show ObjOk X.prog X.w H s.heap a (.dK kvs) from I.hok a _ e)
    obtain ⟨⟨as, ra, ta⟩, ⟨bs, rb, tb⟩⟩ := DqKv.reads I q rv hp
    refine ⟨_, Reads.dict ho hx.1 hd ra rb, fun b z => ?_⟩
    rcases List.mem_append.mp z with z | z
    · rcases List.mem_cons.mp z with rfl | z
      · exact ⟨_, e⟩
      · exact ta b z
    · exact tb b z
theorem DqAll.reads (I : Inv X pins σ H s) : ∀ {vs : List V} {ds : List PyData} {us : List Value}, DqAll H vs ds → Vals vs us → RdsAll H s.heap us ds
  | _, _, _, .nil, r => by
    cases r
    exact ⟨_, ReadsAll.nil, fun b z => nomatch z⟩
  | _, _, _, .cons a b, r => by
    cases r with
    | cons r1 r2 =>
      obtain ⟨as, x1, t1⟩ := Dq.reads I a r1
      obtain ⟨bs, x2, t2⟩ := DqAll.reads I b r2
      exact ⟨_, ReadsAll.cons x1 x2, fun c z => (List.mem_append.mp z).elim (t1 c) (t2 c)⟩
theorem DqKv.reads (I : Inv X pins σ H s) : ∀ {kvs : List (Key × V)} {ps : List (PyData × PyData)} {vs : List (Key × Value)} {es : List DictEntry}, DqKv H kvs ps → KV kvs vs → Pairs (mixKind X.prog X.w) es vs →
    RdsAll H s.heap (es.map (·.key)) (ps.map (·.1)) ∧ RdsAll H s.heap (es.map (·.val)) (ps.map (·.2))
  | _, _, _, _, .nil, r, p => by
    cases r
    cases p
    exact ⟨⟨_, ReadsAll.nil, fun b z => nomatch z⟩, ⟨_, ReadsAll.nil, fun b z => nomatch z⟩⟩
  | _, _, _, _, .cons (x := x) a b, r, p => by
    cases r with
    | cons r1 r2 =>
      cases p with
      | cons p1 p2 p3 =>
        rename_i kv0 vs0 en es0
        obtain ⟨k0, v0⟩ := kv0
        obtain ⟨ek, ev⟩ := r1
        dsimp only at ek ev p1 p2
        subst ek
        obtain ⟨⟨as, x1, t1⟩, ⟨bs, x2, t2⟩⟩ := DqKv.reads I b r2 p3
        obtain ⟨cs, x3, t3⟩ := Dq.reads I a ev
        rcases keyIs_shape (show keyIs (.inr x) en.key = true from p1) with ⟨i, t, z, _⟩ | ⟨y, t, z, ey⟩
        · cases z
        · cases z
          refine ⟨⟨[] ++ as, ?_, fun c z => t1 c (by simpa using z)⟩, ⟨cs ++ bs, ?_, fun c z => (List.mem_append.mp z).elim (t3 c) (t2 c)⟩⟩
          · show ReadsAll s.heap (en.key :: _) (PyData.str x :: _) _
            rw [ey]
            exact ReadsAll.cons (Reads.str x t) x1
          · show ReadsAll s.heap (en.val :: _) (_ :: _) _
            rw [p2]
            exact ReadsAll.cons x3 x2
end
/-- the module of modules stands in the written part -/
def SysIn (K : PySem.W.Frag) : Prop := ∃ o, K.lookup sysModules = some o
/-- small enough to be shown -/
structure Ok (d : PyData) : Prop where
  sh : d.showable = true
  dp : d.depth ≤ 20
  sz : d.shown.length ≤ 5000
theorem Dq.shw (I : Inv X pins σ H s) (y : SysIn X.K) {v : V} {d : PyData} {u : Value} (q : Dq H v d) (r : RelV v u) (k : Ok d) : Shw s.heap u d := by
  obtain ⟨as, ra, ta⟩ := q.reads I r
  obtain ⟨o, ho⟩ := y
  refine ⟨⟨as, ra, fun z => ?_⟩, k.sh, k.dp, k.sz⟩
  obtain ⟨o', e⟩ := ta _ z
  have n := (I.bs _ o (I.ok.mod.kin _ _ ho)).2
  rw [n] at e
  cases e
end
end ErL

set_option maxHeartbeats 1000000
namespace ErL
open PySem PySem.Spec PyProof.Rows L2
open PySem.Er (Made Cl In1 In2 Shw)
/-- what isinstance, a field's reading and str ask of an error's class -/
structure Asks (K : PySem.W.Frag) (C : Addr) : Prop where
  cl : (PySem.W.clsIn K C).isSome = true
  hd : PySem.W.hasDictIn K C = true
  ga : PySem.W.findIn K (.ref C) "__getattribute__" = some (some (.builtin "BaseException.__getattribute__"))
  gg : PySem.W.findIn K (.ref C) "__getattr__" = some none
  ex : PySem.W.subIn K (.ref C) (.type "BaseException") = some true
  cs : PySem.W.findIn K (.ref C) "__class__" = some (some (.builtin "object.__class__"))
  gs : PySem.W.specialIn K (.builtin "object.__class__") "__get__" = some (some (.builtin "getset_descriptor.__get__"))
  tk : PySem.W.takesIn K (.builtin "object.__class__") = some true
  mo : PySem.W.mroIn K C (.type "object") = some true
  st : PySem.W.findIn K (.ref C) "__str__" = some (some (.builtin "BaseException.__str__"))
section
variable {X : Cx} {pins : List (Addr × Obj)} {σ : L2.St} {H : Hp} {s : Shared} {e C : Addr} {fs : List (Str × V)} {args : List V}
theorem er_inst (I : Inv X pins σ H s) (x : ErAt H e C fs args) : ∃ (ox : Obj) (od : Option Obj), PySem.W.InstAt s.heap e ox C od ∧
    ∀ f v, fs.lookup f = some v → ∃ d u, od = some d ∧ PySem.W.lookIn f d = some (some u) ∧ RelV v u := by
  obtain ⟨d, t, h1, h2, h3⟩ := x
  have q : s.heap.get? e = some ({ cls := .ref C, dict := d, data := .fields #[.ref t, .none, .none, .none, .bool false, .none] } : Obj) := (show ObjOk X.prog X.w H s.heap e (erO e C d t) from I.hok e _ h1).1
  cases d with
  | none =>
    refine ⟨_, none, ⟨q, rfl, rfl, trivial⟩, fun f v z => ?_⟩
    have h3' : fs = [] := h3
    rw [h3'] at z
    cases z
  | some dx =>
    obtain ⟨mA, hns, rel⟩ := (show ObjOk X.prog X.w H s.heap dx (.xd fs) from I.hok dx _ h3)
    obtain ⟨od, ho, hl⟩ := lookIn_ns hns
    refine ⟨_, some od, ⟨q, rfl, rfl, ho⟩, fun f v z => ?_⟩
    obtain ⟨u, hu, ru⟩ := RelO.some_of (v := v) (o := mA f) (by rw [← z]; exact rel f)
    exact ⟨od, u, rfl, by rw [hl, hu], ru⟩
theorem er_exc (I : Inv X pins σ H s) (x : ErAt H e C fs args) : ∃ (t : Addr) (us : List Value), H t = some (.tup args) ∧ PySem.ExcC X.K C e t s.heap ∧ s.heap.TupAt t us ∧ Vals args us := by
  obtain ⟨d, t, h1, h2, h3⟩ := x
  have q : s.heap.get? e = some ({ cls := .ref C, dict := d, data := .fields #[.ref t, .none, .none, .none, .bool false, .none] } : Obj) := (show ObjOk X.prog X.w H s.heap e (erO e C d t) from I.hok e _ h1).1
  obtain ⟨_, us, rv, o, ho, hc, n, hd⟩ := (show ObjOk X.prog X.w H s.heap t (.tup args) from I.hok t _ h2)
  exact ⟨t, us, h2, ⟨I.kIn, _, _, q, rfl, rfl, rfl⟩, ⟨o, n, ho, hc, hd⟩, rv⟩
end
section
variable {X : Cx} {f : Str} {te : TE} {pos : Pos} {e : Expr}
/-- e.f of an error -/
def tErF (K : PySem.W.Frag) (f : Str) (te : TE) : TE := fun σ H Q => te σ H fun x H1 => ∃ a C fs args v, x = .ref a ∧ ErAt H1 a C fs args ∧ Asks K C ∧ PySem.W.findIn K (.ref C) f = some none ∧ fs.lookup f = some v ∧ Q v H1
theorem pe_erF (he : PE X e te) (hb : attributeBase e f X.env (eval e X.env) = eval e X.env := by rfl) : PE X (.Attribute e f pos) (tErF X.K f te) := by
  refine ⟨fun pins s σ H Q I h => ?_⟩
  refine attr_of hb (thn (he.run pins s σ H _ I h) fun u s1 hh => ?_)
  obtain ⟨x, H1, I1, rx, a, C, fs, args, v, rfl, hx, A, hn, hl, q⟩ := hh
  obtain rfl : u = Value.ref a := rx
  obtain ⟨ox, od, J, hf⟩ := er_inst I1 hx
  obtain ⟨d, w, rfl, l, rw⟩ := hf f v hl
  exact PySem.PX.exc_get I1.kIn J A.ga A.gg A.ex (PySem.W.findObj_own A.hd hn rfl l) (handed_of rw) ⟨v, H1, I1.tok _, rw, q⟩
/-- isinstance(e, c), e an error -/
def rIsEr (K : PySem.W.Frag) : List V → Hp → VK → Prop := fun xs H Q => ∃ a C fs args c cv b, xs = [.ref a, c] ∧ ErAt H a C fs args ∧ Asks K C ∧ (∀ u, RelV c u → u = cv) ∧ PySem.W.kitOne K (.ref C) cv = some b ∧ Q (.bl b) H
theorem call_isEr : CallR X (.builtin "isinstance") (rIsEr X.K) := by
  intro pins s σ H xs us Q I r h
  obtain ⟨a, C, fs, args, c, cv, b, rfl, hx, A, hc, e, q⟩ := h
  obtain ⟨u, u', rfl, ru, ru'⟩ := vals2 r
  obtain rfl : u = Value.ref a := ru
  obtain rfl := hc _ ru'
  obtain ⟨ox, od, J, _⟩ := er_inst I hx
  exact PySem.W.kia_one (PySem.W.kitx_exc A.cl A.ga A.gg A.ex A.cs A.gs A.tk A.mo) I.kIn J e (fun z => nomatch z) fun tk => ⟨.bl b, H, I.kept (t' := tk) fun _ _ z => z, rfl, q⟩
/-- str(e), e an error -/
def rStrEr (K : PySem.W.Frag) : List V → Hp → VK → Prop := fun xs H Q => ∃ a C fs args ds, xs = [.ref a] ∧ ErAt H a C fs args ∧ Asks K C ∧ DqAll H args ds ∧
    (∀ d ∈ ds, Ok d) ∧ Ok (.tuple ds) ∧ ∀ z, Q (.str z) H
theorem call_strEr (hu : X.A.units + 70 < cLine) (hg : X.A.guards = some []) (y : SysIn X.K) : CallR X (.type "str") (rStrEr X.K) := by
  intro pins s σ H xs us Q I r h
  obtain ⟨a, C, fs, args, ds, rfl, hx, A, hd, ok1, ok2, q⟩ := h
  obtain ⟨u, rfl, ru⟩ := vals1 r
  obtain rfl : u = Value.ref a := ru
  obtain ⟨t, vs, ht, hE, hT, rv⟩ := er_exc I hx
  refine PySem.Er.str_of_er (args := vs) (ds := ds) hg (by omega) ⟨hE, hT, ?_⟩ A.st A.ex fun y t h' tk k => ⟨.str y, H, I.kept k, ⟨t, rfl⟩, q y⟩
  cases hd with
  | nil =>
    cases rv
    exact .inl rfl
  | cons d1 d2 =>
    rename_i v vs' d ds'
    cases d2 with
    | nil =>
      cases rv with
      | cons r1 r2 =>
        cases r2
        exact .inr (.inl ⟨_, d, rfl, d1.shw I y r1 (ok1 d List.mem_cons_self)⟩)
    | cons d3 d4 =>
      cases rv with
      | cons r1 r2 =>
        cases r2 with
        | cons r3 r4 =>
          refine .inr (.inr ⟨_, by show 2 ≤ _; simp, Dq.shw I y (Dq.tup ht (.cons d1 (.cons d3 d4))) rfl ok2⟩)
/-- repr(x), x data -/
def rReprD : List V → Hp → VK → Prop := fun xs H Q => ∃ a d, xs = [.ref a] ∧ Dq H (.ref a) d ∧ Ok d ∧ Q (.str d.shown) H
theorem call_reprD (hu : X.A.units + 70 < cLine) (hg : X.A.guards = some []) (y : SysIn X.K) : CallR X (.builtin "repr") rReprD := by
  intro pins s σ H xs us Q I r h
  obtain ⟨a, d, rfl, hd, ok, q⟩ := h
  obtain ⟨u, rfl, ru⟩ := vals1 r
  obtain rfl : u = Value.ref a := ru
  obtain ⟨⟨as, ra, n⟩, sh, dp, sz⟩ := hd.shw I y (u := .ref a) rfl ok
  exact repr_of_reads' ra sh (fun _ => n) hg (by omega) (fun _ _ z => z) (fun h' t tk k => ⟨.str d.shown, H, I.kept k, ⟨t, rfl⟩, q⟩) (Nat.le_trans sz (by rw [sizeLine_eq]; omega))
end
end ErL

set_option maxHeartbeats 1000000
namespace ErL
open PySem PySem.Spec PyProof.Rows L2
open PySem.Er (Made Cl In1 In2 Shw)
section
variable {X : Cx} {pins : List (Addr × Obj)} {σ : L2.St} {H : Hp} {s : Shared} {h' : Heap} {t' : Nat}
theorem laidMany2 {H' : Hp} (I : Inv X pins σ H s) (k : ∀ b o, s.heap.get? b = some o → h'.get? b = some o) (sm : Same H H') (fr : ∀ b o, s.heap.get? b = some o → H b = none → H' b = none)
    (new : ∀ b o, H' b = some o → H b = none → ObjOk X.prog X.w H' h' b o) : Inv X pins σ H' { s with heap := h', toks := t' } := by
  refine I.un ⟨fun b o q _ _ _ => k b o q, fun b o q _ _ _ => ⟨o.slots, k b o q⟩, fun b o q n _ => fr b o q n, fun b o q _ => ⟨o, k b o q⟩, fun b xs q => sm _ _ q, fun b o u q => sm _ _ q, fun b ps q => ⟨#[], by rw [sm _ _ q]; simp⟩⟩ ?_
  intro b o q
  cases e : H b with
  | none => exact new b o q e
  | some o' =>
    have q2 := sm _ _ e
    rw [q] at q2
    cases q2
    exact (I.hok b o e).stay (fun c v _ z => k c v z) (fun c z => sm _ _ z) fun c xs z => sm _ _ z
end
section
variable {X : Cx} {C : Addr} {B newId initId : String} {bmB : List Value} {f f' : Str} {x : Str} {p pos : Pos} {a b : Expr} {ta tb : TE} {kp1 kp2 : Pos}
/-- C(), a class without an __init__ of its own -/
def tEr0 (C : Addr) : TE := fun _ H Q => ∀ e H', ErAt H' e C [] [] → Same H H' → H e = none → Q (.ref e) H'
theorem pe_er0 (F : ExcBaseFacts B newId initId bmB) (q : PySem.W.excIn X.K C bmB newId = true) (kC : PySem.W.keepIn X.K (.ref C) = true) (hg : Gl X x) (hm : X.mg x = some (.ref C)) (hdb : (x == ("__debug__" : Str)) = false := by decide) :
    PE X (.Call (.Name x p) [] [] pos) (tEr0 C) := by
  refine ⟨fun pins s σ H Q I h => ?_⟩
  refine wpAny_Call_Name_kw (ld_glob I hg hm ?_ hdb)
  refine PySem.W.callWith_K0 I.kIn kC ?_
  show wpAny _ _ (call (.ref C) []) _ _ _
  obtain ⟨bm, N, nm, qn, bs, hdct, sn, sub, ab, col, dd, k0, k1, k2, k3, k5, mN, hC, hN, hni, T⟩ := exc_obj I.kIn q
  obtain ⟨hp, g, dr, tk, os⟩ := s
  refine wpAny_call_exc_subT F T hC hN hni (fun h' e hm => ?_) (by show 0 ≤ sizeLine; omega)
  obtain ⟨t, ht, nt0, htup⟩ := hm.there
  have ne : H e = none := I.hok.gone hm.new
  have nt : H t = none := I.hok.gone nt0
  have te : t ≠ e := fun z => by
    subst z
    rw [ht] at htup
    cases htup
  have sm : Same H (upd (upd H t (.tup [])) e (erO e C none t)) := fun b o z => by
    rw [upd_ne (ne_of_none z ne), upd_ne (ne_of_none z nt)]
    exact z
  have at_e : (upd (upd H t (.tup [])) e (erO e C none t)) e = some (erO e C none t) := upd_same
  have at_t : (upd (upd H t (.tup [])) e (erO e C none t)) t = some (.tup []) := by rw [upd_ne te, upd_same]
  refine ⟨.ref e, _, laidMany2 (H' := upd (upd H t (.tup [])) e (erO e C none t)) I hm.keeps sm (fun b o z n => ?_) (fun b o z n => ?_), rfl, h e _ ⟨none, t, at_e, at_t, rfl⟩ sm ne⟩
  · rw [upd_ne (fun y => by rw [y, hm.new] at z; cases z), upd_ne (fun y => by rw [y, nt0] at z; cases z)]
    exact n
  · by_cases be : b = e
    · subst be
      rw [at_e] at z
      cases z
      exact erO_ok ht
    · by_cases bt : b = t
      · subst bt
        rw [at_t] at z
        cases z
        exact ⟨by show 0 ≤ sizeLine; omega, [], .nil, ⟨_, htup, rfl, _, rfl⟩⟩
      · rw [upd_ne be, upd_ne bt, n] at z
        cases z
/-- C(f = a) -/
def tErK1 (C : Addr) (f : Str) (t : TA) : TE := fun σ H Q => t σ H fun vs H1 => ∃ v, vs = [v] ∧ ∀ e H', ErAt H' e C [(f, v)] [] → Same H1 H' → H1 e = none → Q (.ref e) H'
theorem pe_erK1 {k : Nat} (c : Cl X.K C B newId initId bmB) (i : In1 X.K C f) (hb : Bd1 f (gK1 f)) (hr : Room k X.A) (hg : Gl X x) (hm : X.mg x = some (.ref C)) (ha : PK X [⟨some f, a, kp1⟩] (tCons ta tNil))
    (hdb : (x == ("__debug__" : Str)) = false := by decide) (hall : (backToKw pos (keywordEach [⟨some f, a, kp1⟩] X.env)).all (·.1.isSome) = true := by rfl) (hks : (backToKw pos (keywordEach [⟨some f, a, kp1⟩] X.env)).filterMap (·.1) = [f] := by rfl)
    (hpl : ((backTo pos (starEach [] X.env)).any (·.1) || (backToKw pos (keywordEach [⟨some f, a, kp1⟩] X.env)).any (·.1.isNone)) = false := by rfl) :
    PE X (.Call (.Name x p) [] [⟨some f, a, kp1⟩] pos) (tErK1 C f (tCons ta tNil)) := by
  refine ⟨fun pins s σ H Q I h => ?_⟩
  refine wpAny_Call_Name_kw (ld_glob I hg hm ?_ hdb)
  refine PySem.W.callWith_KW0 (h₀ := X.base) I.ok.mod.kin c.kC hall ?_ hpl
  refine thn (ha.run pos pins s σ H _ I h) fun ws s1 ⟨zs, H1, I1, rz, v, ev, q⟩ => ⟨I1.kIn, ?_⟩
  subst ev
  obtain ⟨u, rfl, ru⟩ := vals1 rz
  rw [hks]
  show wpAny _ _ (call (.ref C) [] [(f, u)]) _ _ _
  exact wpAny_call (PySem.Er.made1 c i (v := u) I1.kIn I1.nolimit (by have := hr.dp; omega) (by show 0 ≤ sizeLine; omega) (fun _ ql p1 p2 q1 q2 q3 q4 kv dc pm an cv ct y => .of_eq (hb ql p1 p2 q1 q2 q3 q4 kv dc pm an cv ct y u))
    fun h' tk e d t M => made_inv (vs := []) I1 M .nil (by show 0 ≤ sizeLine; omega) (rel1 ru) fun H' z1 z2 z3 => q e H' z1 z2 z3)
/-- C(f' = a, f = b): the second parameter first -/
def tErK2 (C : Addr) (f f' : Str) (t : TA) : TE := fun σ H Q => t σ H fun vs H1 => ∃ v v', vs = [v', v] ∧ ∀ e H', ErAt H' e C [(f, v), (f', v')] [] → Same H1 H' → H1 e = none → Q (.ref e) H'
theorem pe_erK2 {k : Nat} (c : Cl X.K C B newId initId bmB) (i : In2 X.K C f f') (hb : Bd2 f f' (gK2 f f')) (hr : Room k X.A) (hg : Gl X x) (hm : X.mg x = some (.ref C)) (ha : PK X [⟨some f', a, kp1⟩, ⟨some f, b, kp2⟩] (tCons ta (tCons tb tNil)))
    (hdb : (x == ("__debug__" : Str)) = false := by decide) (hall : (backToKw pos (keywordEach [⟨some f', a, kp1⟩, ⟨some f, b, kp2⟩] X.env)).all (·.1.isSome) = true := by rfl)
    (hks : (backToKw pos (keywordEach [⟨some f', a, kp1⟩, ⟨some f, b, kp2⟩] X.env)).filterMap (·.1) = [f', f] := by rfl)
    (hpl : ((backTo pos (starEach [] X.env)).any (·.1) || (backToKw pos (keywordEach [⟨some f', a, kp1⟩, ⟨some f, b, kp2⟩] X.env)).any (·.1.isNone)) = false := by rfl) :
    PE X (.Call (.Name x p) [] [⟨some f', a, kp1⟩, ⟨some f, b, kp2⟩] pos) (tErK2 C f f' (tCons ta (tCons tb tNil))) := by
  refine ⟨fun pins s σ H Q I h => ?_⟩
  refine wpAny_Call_Name_kw (ld_glob I hg hm ?_ hdb)
  refine PySem.W.callWith_KW0 (h₀ := X.base) I.ok.mod.kin c.kC hall ?_ hpl
  refine thn (ha.run pos pins s σ H _ I h) fun ws s1 ⟨zs, H1, I1, rz, v, v', ev, q⟩ => ⟨I1.kIn, ?_⟩
  subst ev
  obtain ⟨u', u, rfl, ru', ru⟩ := vals2 rz
  rw [hks]
  show wpAny _ _ (call (.ref C) [] [(f', u'), (f, u)]) _ _ _
  exact wpAny_call (PySem.Er.made2 c i (v := u) (v' := u') I1.kIn I1.nolimit (by have := hr.dp; omega) (by show 0 ≤ sizeLine; omega) (fun _ ql p1 p2 p3 q1 q2 q3 q4 r1 r2 r3 r4 kv dc pm an cv ct y => .of_eq (hb ql p1 p2 p3 q1 q2 q3 q4 r1 r2 r3 r4 kv dc pm an cv ct y u u'))
    fun h' tk e d t M => made_inv (vs := []) I1 M .nil (by show 0 ≤ sizeLine; omega) (rel2 i.nf ru ru') fun H' z1 z2 z3 => q e H' z1 z2 z3)
end
end ErL

set_option maxHeartbeats 1000000
namespace ErL
open PySem PySem.Spec PyProof.Rows L2
theorem guards_deeper {A : Around} {env : Env} (h : A.guards = some []) : (A.deeper env).guards = some [] := by
  first | exact h | (simpa [Around.deeper, pushGuards] using h)
/-- a promise without exceptions: the arguments, the heap, what follows -/
abbrev SpG := List V → Hp → VK → Prop
/-- a def keeps its promise wherever nothing is being shown -/
structure FnG (P : Program) (w : World) (K : PySem.W.Frag) (mg : Str → Option Value) (base : Heap) (k : Nat) (f : Addr) (fd : FuncData) (ps : List Str) (sp : SpG) : Prop where
  len : ∀ vs H Q, sp vs H Q → vs.length = ps.length
  run : ∀ (A : Around) (outer : List Env) (s : Shared) (H : Hp) (args : Args) (us : List Value) (vs : List V) (Q : VK), Room k A → A.guards = some [] →
    Env0 P w K mg base A outer s H → BindsTo s fd args (ps.zip us) → Vals vs us → sp vs H Q → codeAny (model P w) A (.call (.ref f) args) (CR CX0 outer P w H s Q E0) s

section
variable {P : Program} {w : World} {K : PySem.W.Frag} {mg : Str → Option Value} {base : Heap} {k : Nat} {f : Addr} {ps N : List Str} {sp : SpG}
theorem fnG_mk {x qual : Str} {st : Stmt} {fd : FuncData} (F : Fun K x qual st f fd) (S : FnScope N ps (defScope st)) (len : ∀ vs H Q, sp vs H Q → vs.length = ps.length)
    (hbody : ∀ (cdv : Value) (A : Around) (outer : List Env) (s : Shared) (H : Hp) (vs : List V) (Q : VK), Room k (A.deeper (envOfC qual (defScope st) s.heap.objs.size f cdv)) →
      (A.deeper (envOfC qual (defScope st) s.heap.objs.size f cdv)).guards = some [] → sp vs H Q →
      ∃ t, PSs (cxOf CX0 P w K mg base N qual (defScope st) f cdv A outer s H E0).nox (defBody st) t ∧ t { nx := fun _ H' => Q .non H', rt := Q } (start N vs) H) :
    FnG P w K mg base (k + 1) f fd ps sp := by
  obtain ⟨oc, od, kV, doc, pm, an, cdv, ct, osl, rfl, lk, hcd⟩ := F.ex
  refine ⟨len, fun A outer s H args us vs Q hr hg e0 hb r hsp => ?_⟩
  have hl := len _ _ _ hsp
  have KX : K.In s.heap := e0.mod.kin.keeps fun b o e => (e0.bs b o e).1
  have lim : s.heap.NoLimit := e0.mod.nolimit.keeps fun b o e => (e0.bs b o e).1
  have kinds : ∀ y ∈ ps.zip us, (defScope st).names.lookup y.1 = some .local ∨
      ((defScope st).names.lookup y.1 = some .cell ∧ ((cellsFrom (s.heap.objs.size + 1) (defScope st).names []).lookup y.1).isSome = true) := by
    rintro ⟨n, v⟩ hy
    rcases S.par n (List.of_mem_zip hy).1 with q | q
    · exact .inl q
    · exact .inr ⟨q, PySem.W.cellsFrom_some _ _ _ (.inl q)⟩
  refine codeAny_call_function hr.depth (KX _ _ lk) rfl S.co S.gen rfl (PySem.W.codeRec_of KX hcd) (hb _ _ _ _ ?_)
  refine wpAny_newFunctionEnv_cells S.kind kinds fun env he s1 x => ?_
  subst he
  refine ⟨lim.keeps x.toInCall.keep, codeAny_func ?_⟩
  obtain ⟨t, ht, hq⟩ := hbody cdv A outer s H vs Q (hr.deeper _) (guards_deeper hg) hsp
  have I := inv_start (CX := CX0) (E := E0) (P := P) (w := w) (K := K) (mg := mg) (base := base) S hr.hd e0 hl r x
  refine wpAny_mono (ht.nox.run [] s1 (start N vs) H _ I hq) (fun fl s' hs => ?_) fun e s' hs => hs
  cases fl with
  | ret u =>
    obtain ⟨v, σ', H', J, rv, q⟩ := hs
    exact ⟨v, H', J.os, J.bare, J.base, J.hok, rv, q⟩
  | next =>
    obtain ⟨σ', H', J, q⟩ := hs
    exact ⟨.non, H', J.os, J.bare, J.base, J.hok, rfl, q⟩
  | brk =>
    obtain ⟨_, _, _, q⟩ := hs
    exact q.elim
  | cont =>
    obtain ⟨_, _, _, q⟩ := hs
    exact q.elim
theorem FnG.mono {fd : FuncData} {j : Nat} (F : FnG P w K mg base j f fd ps sp) (h : j ≤ k) : FnG P w K mg base k f fd ps sp :=
  ⟨F.len, fun A outer s H args us vs Q hr => F.run A outer s H args us vs Q (hr.mono h)⟩
/-- what holds wherever, holds here -/
theorem FnG.of {fd : FuncData} {sp0 : Sp} (F : FnOk P w K mg base CX0 k f fd ps sp0) (h : ∀ vs H Q, sp vs H Q → sp0 vs H Q E0) : FnG P w K mg base k f fd ps sp :=
  ⟨fun vs H Q q => F.len vs H Q E0 (h _ _ _ q), fun A outer s H args us vs Q hr _ e0 hb r hsp => F.run A outer s H args us vs Q E0 hr e0 hb r (h _ _ _ hsp)⟩
end
section
variable {X : Cx} {k : Nat} {f : Addr} {fd : FuncData} {ps : List Str} {sp : SpG} {x : Str} {p pos : Pos} {e : Expr} {es : List Expr} {t : TA}
/-- f(..) -/
def tCallG (sp : SpG) (t : TA) : TE := fun σ H Q => t σ H fun vs H1 => sp vs H1 Q
theorem pe_callG (F : FnG X.prog X.w X.K X.mg X.base k f fd ps sp) (hr : Room k X.A) (hG : X.A.guards = some []) (hg : Gl X x) (hm : X.mg x = some (.ref f)) (hk : PySem.W.keepIn X.K (.ref f) = true) (hb : Binds X.K fd ps [])
    (ha : PA X (e :: es) t) (hdb : (x == ("__debug__" : Str)) = false := by decide) (he : starEach (e :: es) X.env = (false, eval e X.env) :: starEach es X.env := by rfl)
    (hpl : (backTo pos (starEach es X.env)).any (·.1) = false := by rfl) : PE X (.Call (.Name x p) (e :: es) [] pos) (tCallG sp t) := by
  refine ⟨fun pins s σ H Q I h => ?_⟩
  refine wpAny_Call_Name_kw (ld_glob I hg hm ?_ hdb)
  refine PySem.W.callWith_K (h₀ := X.base) I.ok.mod.kin hk (thn (ha.run pos pins s σ H _ I h) fun us s1 ⟨vs, H1, I1, r, q⟩ => ⟨I1.kIn, ?_⟩) he hpl
  have hl : (us ++ []).length = ps.length := by
    rw [List.append_nil, ← r.length]
    exact F.len _ _ _ q
  have hb1 := hb s1 us I1.kIn hl
  rw [List.append_nil] at hb1
  show wpAny _ _ (call (.ref f) us) _ _ _
  refine wpAny_call (codeAny_mono (F.run X.A X.stack s1 H1 ⟨us, []⟩ us vs Q hr hG I1.env0 hb1 r q) fun r' s' hq => ?_)
  cases r' with
  | error e => exact False.elim hq
  | ok fl =>
    cases fl with
    | ret u => exact I1.after hq
    | next => exact False.elim hq
    | brk => exact False.elim hq
    | cont => exact False.elim hq
end
end ErL

set_option maxHeartbeats 1000000
/-! operators of an own class over the layer: a method of two operands, a method of one, == -/
namespace RtL
open PySem PySem.Spec PyProof.Rows L2
section
variable {X : Cx} {CX : CXT} {k : Nat} {f C : Addr} {fd : FuncData} {sp : Sp} {E : XK} {ps : List Str}
/-- x op y by the method of x's class, y of the same class or a whole number -/
def rOwnBin (C : Addr) (sp : Sp) (E : XK) : R2 := fun x y H Q => ∃ a dx fs, x = .ref a ∧ H a = some (.ins C dx fs) ∧ ((∃ i, y = .int i) ∨ ∃ b dy gs, y = .ref b ∧ H b = some (.ins C dy gs)) ∧ sp [.ref a, y] H Q E
/-- what is asked of the class -/
structure OpOf (K : PySem.W.Frag) (C f : Addr) (d r : Str) : Prop where
  me : PySem.W.selfFirst K C = true
  at_ : PySem.W.findIn K (.ref C) d = some (some (.ref f))
  fn : PySem.W.isFn K (.ref f) = true
  re : PySem.W.findIn K (.ref C) r = some none
  nt : PySem.W.subIn K (.type "int") (.ref C) = some false
theorem op_ownBin {op : Operator} {fo ro : Option Value} (O : OpOf X.K C f (PySem.dunder op.info.2) (PySem.dunderR op.info.2)) (h1 : PySem.W.findIn X.K (.type "int") (PySem.dunder op.info.2) = some fo) (h2 : PySem.W.findIn X.K (.type "int") (PySem.dunderR op.info.2) = some ro)
    (F : FnOk X.prog X.w X.K X.mg X.base CX k f fd ps sp) (hr : Room k X.A) (hb : Binds X.K fd ps []) (hx : Passes CX X E) : OpR X (binaryOp op) (rOwnBin C sp E) := by
  intro pins s σ H x y v u Q I rx ry h
  obtain ⟨a, dx, fs, rfl, ha, hy, q⟩ := h
  cases (show v = Value.ref a from rx)
  obtain ⟨mA, oa, _⟩ := ins_get I.hok ha
  obtain ⟨od, J, _⟩ := oa.look
  obtain ⟨m, hF⟩ := I.fr
  have go := wpAny_mono (run_fn F hr hb .nil hx I (us := [.ref a, u]) (vs := [.ref a, y]) (.cons rfl (.cons ry .nil)) q) (fun w s' z => (by
    obtain ⟨z', H', I', rz, qz⟩ := z
    exact SlX.cmpback rz ⟨z', H', I', rz, qz⟩ : PySem.W.CmpBack (EP X pins σ Q) w s')) fun _ _ x => x
  rcases hy with ⟨i, rfl⟩ | ⟨b, dy, gs, rfl, hb'⟩
  · obtain ⟨t, e⟩ := (show ∃ t, u = Value.int i t from ry)
    subst e
    exact PySem.W.ksp_binT hF I.ok.mod.kin J rfl O.me O.at_ O.fn O.re (.inl rfl) h1 h2 O.nt go
  · cases (show u = Value.ref b from ry)
    obtain ⟨mB, ob, _⟩ := ins_get I.hok hb'
    obtain ⟨od', J', _⟩ := ob.look
    exact PySem.W.binop_K hF I.ok.mod.kin J J'.type O.me O.at_ O.fn go
/-- - x by the method of x's class -/
def rOwnUn (C : Addr) (sp : Sp) (E : XK) : V → Hp → VK → Prop := fun x H Q => ∃ a dx fs, x = .ref a ∧ H a = some (.ins C dx fs) ∧ sp [.ref a] H Q E
theorem un_own (hs : PySem.W.findIn X.K (.ref C) "__neg__" = some (some (.ref f))) (hf : PySem.W.isFn X.K (.ref f) = true) (F : FnOk X.prog X.w X.K X.mg X.base CX k f fd ps sp) (hr : Room k X.A) (hb : Binds X.K fd ps []) (hx : Passes CX X E) :
    UnR X (unaryOp .USub) (rOwnUn C sp E) := by
  intro pins s σ H x v Q I rx h
  obtain ⟨a, dx, fs, rfl, ha, q⟩ := h
  cases (show v = Value.ref a from rx)
  obtain ⟨mA, oa, _⟩ := ins_get I.hok ha
  obtain ⟨od, J, _⟩ := oa.look
  obtain ⟨m, hF⟩ := I.fr
  exact PySem.W.ksp_neg hF I.ok.mod.kin J hs hf (run_fn F hr hb .nil hx I (us := [.ref a]) (vs := [.ref a]) (.cons rfl .nil) q)
/-- x == y by the method of x's class, y of the same class, a whole number, a text, None or a truth value -/
def rOwnEq (C : Addr) (sp : Sp) (E : XK) : R2 := fun x y H Q => ∃ a dx fs, x = .ref a ∧ H a = some (.ins C dx fs) ∧ ((∃ b dy gs, y = .ref b ∧ H b = some (.ins C dy gs)) ∨ (∃ i, y = .int i) ∨ (∃ z, y = .str z) ∨ y = .non ∨ ∃ c, y = .bl c) ∧ sp [.ref a, y] H Q E
structure EqOf (K : PySem.W.Frag) (C f : Addr) : Prop where
  at_ : PySem.W.findIn K (.ref C) "__eq__" = some (some (.ref f))
  fn : PySem.W.isFn K (.ref f) = true
  nt : ∀ t ∈ ["int", "str", "NoneType", "bool"], PySem.W.subIn K (.type t) (.ref C) = some false
theorem op_ownEq (O : EqOf X.K C f) (F : FnOk X.prog X.w X.K X.mg X.base CX k f fd ps sp) (hr : Room k X.A) (hb : Binds X.K fd ps []) (hx : Passes CX X E) : OpR X (compareOp .Eq) (rOwnEq C sp E) := by
  intro pins s σ H x y v u Q I rx ry h
  obtain ⟨a, dx, fs, rfl, ha, hy, q⟩ := h
  cases (show v = Value.ref a from rx)
  obtain ⟨mA, oa, _⟩ := ins_get I.hok ha
  obtain ⟨od, J, _⟩ := oa.look
  obtain ⟨m, hF⟩ := I.fr
  have go := wpAny_mono (run_fn F hr hb .nil hx I (us := [.ref a, u]) (vs := [.ref a, y]) (.cons rfl (.cons ry .nil)) q) (fun w s' z => (by
    obtain ⟨z', H', I', rz, qz⟩ := z
    exact SlX.cmpback rz ⟨z', H', I', rz, qz⟩ : PySem.W.CmpBack (EP X pins σ Q) w s')) fun _ _ x => x
  have nf : ∀ t ∈ ["int", "str", "NoneType", "bool"], PySem.W.notFirst X.K C (.type t) = true := fun t ht => by
    unfold PySem.W.notFirst
    rw [O.nt t ht]
    simp
  show wpAny _ _ (richCompare .Eq _ _) _ _ _
  rcases hy with ⟨b, dy, gs, rfl, hb'⟩ | ⟨i, rfl⟩ | ⟨z, rfl⟩ | rfl | ⟨c, rfl⟩
  · cases (show u = Value.ref b from ry)
    obtain ⟨mB, ob, _⟩ := ins_get I.hok hb'
    obtain ⟨od', J', _⟩ := ob.look
    exact PySem.W.cmp_K (op := .Eq) (tb := .ref C) hr.units0 hF I.ok.mod.kin J J'.type (by unfold PySem.W.notFirst; simp) O.at_ O.fn go
  · obtain ⟨t, e⟩ := (show ∃ t, u = Value.int i t from ry)
    subst e
    exact PySem.W.cmp_K (op := .Eq) (tb := .type "int") hr.units0 hF I.ok.mod.kin J (PySem.W.Looks.of_pure rfl) (nf _ (by decide)) O.at_ O.fn go
  · obtain ⟨t, e⟩ := (show ∃ t, u = Value.str z t from ry)
    subst e
    exact PySem.W.cmp_K (op := .Eq) (tb := .type "str") hr.units0 hF I.ok.mod.kin J (PySem.W.Looks.of_pure rfl) (nf _ (by decide)) O.at_ O.fn go
  · cases (show u = Value.none from ry)
    exact PySem.W.cmp_K (op := .Eq) (tb := .type "NoneType") hr.units0 hF I.ok.mod.kin J (PySem.W.Looks.of_pure rfl) (nf _ (by decide)) O.at_ O.fn go
  · cases (show u = Value.bool c from ry)
    exact PySem.W.cmp_K (op := .Eq) (tb := .type "bool") hr.units0 hF I.ok.mod.kin J (PySem.W.Looks.of_pure rfl) (nf _ (by decide)) O.at_ O.fn go
end
end RtL

set_option maxHeartbeats 1000000
/-! a def that stands anywhere (a property's getter, a classmethod's def): what the head's look says of it -/
namespace RtL
open PySem PySem.Spec PyProof.Rows L2
abbrev Fr := PySem.W.Frag
def lookA (K : Fr) (a : Addr) : He.FnW := match K.lookup a with
  | some ⟨_, _, .func d, _⟩ => some (d.name, d.qualname, d.params, d.body, d.scope, d.globals, d.closure, d.builtins)
  | _ => none
def wellA (K : Fr) (a : Addr) (q : Str) (ds : List He.Dv) : Bool := PySem.W.keepIn K (.ref a) && match K.lookup a with
  | some ⟨_, _, .func d, _⟩ => PySem.W.codeIn K d.code q && (He.dflB K d.defaults (ds.map (He.Dv.v K)) && He.kwdB K d.kwdefaults [])
  | _ => false
theorem def_at {K : Fr} {a : Addr} {x q : Str} {ps : Arguments} {bd : List Stmt} {sc : Scope} {ds : List He.Dv} (e : lookA K a = some (x, q, ps, .stmts bd, sc, mainGlobals, [], builtinsNs)) (c : wellA K a q ds = true) :
    ∃ fd, FunD K x q ps bd sc (ds.map (He.Dv.v K)) [] a fd := by
  have c1 := (Bool.and_eq_true_iff.mp c).1
  have c2 := (Bool.and_eq_true_iff.mp c).2
  unfold lookA at e
  cases hl : K.lookup a with
  | none => rw [hl] at e; cases e
  | some o =>
    obtain ⟨o1, o2, dt, o3⟩ := o
    rw [hl] at e c2
    cases dt with
    | func d =>
      obtain ⟨m1, m2, m3, m4, m5, m6, m7, m8, m9, m10, m11, m12, m13, m14, m15⟩ := d
      have e' : (some (m1, m2, m3, m4, m5, m6, m7, m15) : He.FnW) = some (x, q, ps, .stmts bd, sc, mainGlobals, [], builtinsNs) := e
      injection e' with e'
      simp only [Prod.mk.injEq] at e'
      obtain ⟨rfl, rfl, rfl, rfl, rfl, rfl, rfl, rfl⟩ := e'
      have c3 : (PySem.W.codeIn K m13 m2 && (He.dflB K m8 (ds.map (He.Dv.v K)) && He.kwdB K m9 [])) = true := c2
      have c4 := (Bool.and_eq_true_iff.mp c3).2
      exact ⟨_, ⟨o1, o2, m8, m9, m10, m11, m12, m13, m14, o3, rfl, hl, (Bool.and_eq_true_iff.mp c3).1, He.dflB_ok (Bool.and_eq_true_iff.mp c4).1, He.kwdB_ok (Bool.and_eq_true_iff.mp c4).2⟩, c1⟩
    | _ => cases c2
/-- the def of a record (a property, a classmethod) that a class has under a name -/
def recA (K : Fr) (C : Addr) (f : Str) (T : String) : Addr := match PySem.W.recIn K (He.ma K C f) T with
  | some (.ref g :: _) => g
  | _ => 0
def propB (K : Fr) (C : Addr) (f : Str) : Bool := He.eqO (PySem.W.findIn K (.ref C) f) (some (some (.ref (He.ma K C f)))) && (He.eqO (PySem.W.specialIn K (.ref (He.ma K C f)) "__get__") (some (some (.builtin "property.__get__"))) &&
  (decide (PySem.W.takesIn K (.ref (He.ma K C f)) = some true) && match PySem.W.recIn K (He.ma K C f) "property" with
    | some (.ref _ :: _) => true
    | _ => false))
theorem prop_ok {K : Fr} {C : Addr} {f : Str} (h : propB K C f = true) : PropOf K C f (He.ma K C f) (recA K C f "property") := by
  have h1 := (Bool.and_eq_true_iff.mp h).1
  have h2 := (Bool.and_eq_true_iff.mp (Bool.and_eq_true_iff.mp h).2).1
  have h3 := (Bool.and_eq_true_iff.mp (Bool.and_eq_true_iff.mp (Bool.and_eq_true_iff.mp h).2).2).1
  have h4 := (Bool.and_eq_true_iff.mp (Bool.and_eq_true_iff.mp (Bool.and_eq_true_iff.mp h).2).2).2
  refine ⟨He.eqO_ok h1, He.eqO_ok h2, of_decide_eq_true h3, ?_⟩
  unfold recA
  split at h4
  · rename_i g r e
    exact ⟨r, by rw [e]⟩
  · cases h4
end RtL

set_option maxHeartbeats 1000000
/-! repr of a list that holds whole numbers and objects of an own class with __repr__ -/
namespace RtL
open PySem PySem.Spec PyProof.Rows L2
open PySem.Sem (wp)
open PySem.Builtin PySem.Builtin.List
section
variable {M : Model} {K : PySem.W.Frag} {A : Around} {E : Value → Shared → Prop} {s : Shared} {x f C : Addr} {ox : Obj} {od : Option Obj}
theorem ifBoundBy_K {last : Value → List Value → Sem Value} {name : Str} {Q : Option Value → Shared → Prop} (X : K.In s.heap) (I : PySem.W.InstAt s.heap x ox C od) (hs : PySem.W.findIn K (.ref C) name = some (some (.ref f))) (hf : PySem.W.isFn K (.ref f) = true)
    (h : wpAny M A (last (.ref f) [.ref x]) (fun v => Q (some v)) E s) : wpAny M A (callSpecialIfBoundBy? last (.ref x) name) Q E s := by
  simp only [callSpecialIfBoundBy?, bindSpecialIfBound?]
  refine wpAny_holding (wpAny_bind (wpAny_bind (wpAny_bind (I.type.here ((PySem.W.looks_findIn X hs).here ?_)))))
  refine wpAny_bind (wpAny_askSetting (wpAny_ite ?_))
  have fin : wpAny M A (last (.ref f) [.ref x] >>= fun v => pure (some v)) Q E s := wpAny_bind (wpAny_mono h (fun v s' h' => wpAny_pure h') fun _ _ h' => h')
  split
  · exact wpAny_bind ((PySem.W.bind_fn X _ (beq_iff_eq.mp hf)).here (wpAny_pure (by exact fin)))
  · exact wpAny_tryCatch (wpAny_bind ((PySem.W.bind_fn X _ (beq_iff_eq.mp hf)).here (wpAny_pure (by exact fin))))
end
theorem loop_depth (A : Around) (args : Args) : (A.under (.builtin "list.__repr__.loop" args)).depth ≤ A.depth + 1 := by
  first
  | exact Nat.le_of_eq rfl
  | (simp [Around.under, Code.weight, Code.isCreation, Code.isGuard, Code.isCaller, Code.frames, Code.isFrame, guardIds]; done)
  | (simp [Around.under, Code.weight, Code.isCreation, Code.isGuard, Code.isCaller, Code.frames, Code.isFrame, guardIds] <;> omega)
theorem Room.loop {k : Nat} {A : Around} (r : Room (k + 1) A) (args : Args) : Room k (A.under (.builtin "list.__repr__.loop" args)) :=
  ⟨r.hd, by have := r.dp; have := loop_depth A args; omega, by have := r.un; rw [units_under_list_loop]; omega⟩
theorem Env0.loop {P : Program} {w : World} {K : PySem.W.Frag} {mg : Str → Option Value} {base : Heap} {A : Around} {outer : List Env} {s : Shared} {H : Hp} (e : Env0 P w K mg base A outer s H) (args : Args) :
    Env0 P w K mg base (A.under (.builtin "list.__repr__.loop" args)) outer s H := ⟨by first | exact e.frames | (simpa [Around.under, Code.envs, Code.isFrame, pushEnvs] using e.frames), e.mod, e.bs, e.bsz, e.funs, e.frf, e.hok, e.bare⟩
/-- an item and its text -/
def ItT (C : Addr) (sp : Sp) (H : Hp) (v : V) (t : Str) : Prop := (∃ i : Int, v = .int i ∧ t = toString i ∧ i.natAbs.log2 < 1920) ∨ ∃ a dx fs, v = .ref a ∧ H a = some (.ins C dx fs) ∧ ∀ Q : VK, Q (.str t) H → sp [.ref a] H Q E0
section
variable {X : Cx} {k : Nat} {f C : Addr} {fd : FuncData} {sp : Sp} {ps : List Str} {pins : List (Addr × Obj)} {σ : L2.St} {H : Hp}
theorem under_own (hs : PySem.W.findIn X.K (.ref C) "__repr__" = some (some (.ref f))) (hf : PySem.W.isFn X.K (.ref f) = true) (F : FnOk X.prog X.w X.K X.mg X.base CX0 k f fd ps sp) (hb : Binds X.K fd ps []) {A : Around} {s : Shared} {E : Value → Shared → Prop} (hr : Room k A)
    (e0 : Env0 X.prog X.w X.K X.mg X.base A X.stack s H) (I : Inv X pins σ H s) {a dx : Addr} {fs : List (Str × V)} {t : Str} {base : Nat} {Q : Str → Shared → Prop} (ha : H a = some (.ins C dx fs)) (hq : ∀ Q : VK, Q (.str t) H → sp [.ref a] H Q E0) (hz : base ≤ sizeLine)
    (h : ∀ s', Inv X pins σ H s' → Q t s') : wpAny (model X.prog X.w) A (pyReprUnder base (.ref a)) Q E s := by
  obtain ⟨mA, oa, _⟩ := ins_get I.hok ha
  obtain ⟨od, J, _⟩ := oa.look
  have q := hq (fun v H' => v = .str t ∧ H' = H) ⟨rfl, rfl⟩
  have hl : ([Value.ref a] ++ []).length = ps.length := by
    rw [← F.len _ _ _ _ q]
    rfl
  refine wpAny_pyReprUnder_ref hz ?_
  unfold pyReprObjUnder pyReprObjBy
  refine wpAny_bind (wpAny_cRoomFor (by have := hr.un; omega) ?_)
  refine wpAny_bind (wpAny_bind (J.type.here ((PySem.W.looks_findIn I.kIn hs).here ?_)))
  show wpAny _ _ (if (some (Value.ref f)).isNone = true then _ else _) _ _ _
  rw [if_neg (by simp)]
  refine wpAny_bind (ifBoundBy_K I.kIn J hs hf ?_)
  show wpAny _ _ (call (.ref f) [.ref a]) _ _ _
  refine wpAny_call (codeAny_mono (F.run A X.stack s H ⟨[.ref a], []⟩ [.ref a] [.ref a] _ E0 hr e0 (hb s [.ref a] I.kIn hl) (.cons rfl .nil) q) fun r s' hq => ?_)
  match r, hq with
  | .ok (.ret u), hq =>
    obtain ⟨v, H', I3, rv, ev, eH⟩ := I.after hq
    subst ev eH
    obtain ⟨tk, e⟩ := rv
    subst e
    exact wpAny_bind (wpAny_isInstance (T := "str") (b := true) rfl isSubtype_str_str (wpAny_pure ⟨_, _, rfl, h s' I3⟩))
  | .ok .next, hq => exact False.elim hq
  | .ok .brk, hq => exact False.elim hq
  | .ok .cont, hq => exact False.elim hq
  | .error e, hq => exact False.elim hq
abbrev pL (P : Addr) (acc : Array Value) (c : Nat) : Addr × Obj := (P, { cls := .type "list", dict := none, data := .seq acc c, slots := #[] })
/-- the list of the parts grows -/
theorem pin_push {P : Addr} {acc acc' : Array Value} {c c' : Nat} {s : Shared} {h' : Heap} {t' : Nat} (I : Inv X (pL P acc c :: pins) σ H s) (h1 : P ∈ X.ex ∨ X.s_0.heap.objs.size ≤ P) (h2 : ∀ x c, X.env.cells.lookup x = some c → c ≠ P) (h3 : ∀ p ∈ X.pn ++ pins, p.1 ≠ P)
    (k : ∀ b o, b ≠ P → s.heap.get? b = some o → h'.get? b = some o) (hP : h'.get? P = some (pL P acc' c').2) : Inv X (pL P acc' c' :: pins) σ H { s with heap := h', toks := t' } := by
  obtain ⟨p1, p2, p3, p4, p5⟩ := I.pin (pL P acc c) (List.mem_append_right _ List.mem_cons_self)
  have J := (ClX.unpin I).turned (t' := t') k p2 p3 h1 h2 h3
  refine J.pins_of fun p hp => ?_
  rcases List.mem_cons.mp hp with e | e
  · subst e
    exact ⟨hP, p2, p3, p4, fun v z => nomatch z⟩
  · exact J.pin p (List.mem_append_right _ e)
theorem loopI (hs : PySem.W.findIn X.K (.ref C) "__repr__" = some (some (.ref f))) (hf : PySem.W.isFn X.K (.ref f) = true) (F : FnOk X.prog X.w X.K X.mg X.base CX0 k f fd ps sp) (hb : Binds X.K fd ps []) {A : Around} (hr : Room (k + 1) A)
    (e0 : ∀ s, Inv X pins σ H s → Env0 X.prog X.w X.K X.mg X.base A X.stack s H) {a P : Addr} {vs : List V} {ts : List Str} {base : Nat} {R : Result → Shared → Prop} (ea : H a = some (.lst vs)) (hlen : ts.length = vs.length)
    (hT : ∀ (i : Nat) (v : V), vs[i]? = some v → ∃ t, ts[i]? = some t ∧ ItT C sp H v t) (hsz : base + (listText ts).length ≤ sizeLine)
    (h1 : P ∈ X.ex ∨ X.s_0.heap.objs.size ≤ P) (h2 : ∀ x c, X.env.cells.lookup x = some c → c ≠ P) (h3 : ∀ p ∈ X.pn ++ pins, p.1 ≠ P) (hR : ∀ s' u, Inv X pins σ H s' → R (.ok (.ret (.str (listText ts) u))) s') :
    ∀ (n i : Nat) (s : Shared) (acc : Array Value) (c : Nat) (done : List (Str × Tok)), vs.length - i = n → i ≤ vs.length → Inv X (pL P acc c :: pins) σ H s → acc.toList = strValues done → done.map (·.1) = ts.take i →
      codeAny (model X.prog X.w) A (.builtin "list.__repr__.loop" ⟨[.ref a, rawInt i, .ref P, rawInt ((base + piled (ts.take i) : Nat) : Int)], []⟩) R s := by
  have hX : (listText ts).length = (textFrom 0 "[" ts).length + 1 := by
    show (textFrom 0 "[" ts ++ "]").length = _
    rw [strLen_append]; rfl
  have hL := textFrom_len ts 0 "["
  have hsz1 : vs.length ≤ sizeLine := by
    have h1 := hL.1
    rw [if_neg (Nat.lt_irrefl 0)] at h1
    omega
  have hsz2 : ∀ t ∈ ts, t.length ≤ sizeLine := fun t ht => by
    have h2 := hL.2.1 t ht
    omega
  have hsz3 : (listText ts).length ≤ sizeLine := by omega
  have hp3 := piled_le_listText ts
  intro n
  induction n with
  | zero =>
    intro i s acc c done hk hi I hacc hdone
    obtain ⟨_, its, nn, rv, ho⟩ := (show ObjOk X.prog X.w H s.heap a (.lst vs) from I.hok a _ ea)
    have hin : i = its.length := by rw [← rv.length]; omega
    refine codeAny_builtin PySem.F.entry_list_repr_loop ?_
    show wpAny _ _ («list.__repr__.loop» ⟨[.ref a, .int i 0, .ref P, .int ((base + piled (ts.take i) : Nat) : Int) 0], []⟩) _ _ s
    rw [repr_loop_tree]
    refine wpAny_bind (wpAny_listItems ho rfl ?_)
    have hnone : its.toArray[(i : Int).toNat]? = none := by simp [hin]
    simp only [hnone]
    unfold reprEnd
    refine wpAny_bind (wpAny_listItems (ClX.pin_at I) rfl ?_)
    rw [hacc, repr_fold]
    refine wpAny_bind (wpAny_pure ?_)
    have hall : done.map (·.1) = ts := by rw [hdone, hin, ← rv.length, ← hlen, List.take_length]
    rw [hall]
    refine wpAny_bind (wpAny_mkStr (wpAny_pure ?_) hsz3)
    exact hR _ _ ((ClX.unpin I).tok _)
  | succ n ih =>
    intro i s acc c done hk hi I hacc hdone
    have hlt : i < vs.length := by omega
    obtain ⟨_, its, nn, rv, ho⟩ := (show ObjOk X.prog X.w H s.heap a (.lst vs) from I.hok a _ ea)
    have hlt' : i < its.length := by rw [← rv.length]; exact hlt
    obtain ⟨t, ht, hit⟩ := hT i vs[i] (by simp [hlt])
    obtain ⟨u, hu, ru⟩ := rv.get (i := i) (x := vs[i]) (by simp [hlt])
    have hp1 := piled_take_succ ht
    have hp2 := piled_take_le ts (i + 1)
    refine codeAny_builtin PySem.F.entry_list_repr_loop ?_
    show wpAny _ _ («list.__repr__.loop» ⟨[.ref a, .int i 0, .ref P, .int ((base + piled (ts.take i) : Nat) : Int) 0], []⟩) _ _ s
    rw [repr_loop_tree]
    refine wpAny_bind (wpAny_listItems ho rfl ?_)
    have hsome : its.toArray[(i : Int).toNat]? = some u := by
      rw [Int.toNat_natCast, List.getElem?_toArray]
      exact hu
    simp only [hsome]
    rw [Int.toNat_natCast]
    have go : ∀ s', Inv X (pL P acc c :: pins) σ H s' → wpAny (model X.prog X.w) (A.under (.builtin "list.__repr__.loop" ⟨[.ref a, .int i 0, .ref P, .int ((base + piled (ts.take i) : Nat) : Int) 0], []⟩)) (do
        let signs := base + piled (ts.take i) + (t.length + 2)
        let r ← mkStr t
        listUpdate (.ref P) (·.push r)
        again (.builtin "list.__repr__.loop" ⟨[.ref a, rawInt ((i : Int) + 1), .ref P, rawInt signs], []⟩))
        (fun fin s' => match fin with | .done fl => R (.ok fl) s' | .again c' => c'.quiet = true ∧ codeAny (model X.prog X.w) A c' R s') (fun e s' => R (.error e) s') s' := fun s' I' => by
      refine wpAny_bind (wpAny_mkStr ?_ (hsz2 t (List.mem_of_getElem? ht)))
      refine wpAny_bind ?_
      show wpAny _ _ (updateSeq P _) _ _ _
      have hasz : acc.size ≤ sizeLine := by
        have e1 : acc.toList.length = acc.size := by simp
        have e2 : (strValues done).length = done.length := by simp [strValues]
        have e3 : done.length = (ts.take i).length := by rw [← hdone, List.length_map]
        have e4 : (ts.take i).length ≤ i := by rw [List.length_take]; omega
        rw [hacc] at e1; omega
      refine wpAny_updateSeq (ClX.pin_at I') rfl (wpAny_pure ⟨PySem.F.quiet_list_repr_loop _, ?_⟩) hasz
      have e1 : ((i : Int) + 1) = ((i + 1 : Nat) : Int) := by omega
      have e2 : base + piled (ts.take i) + (t.length + 2) = base + piled (ts.take (i + 1)) := by omega
      rw [e1, e2]
      refine ih (i + 1) _ (acc.push (.str t s'.toks)) _ (done ++ [(t, s'.toks)]) (by omega) hlt (pin_push (I'.tok (s'.toks + 1)) h1 h2 h3 (fun b o hne e => (Heap.get?_update_other _ _ (fun h : P = b => hne h.symm)).trans e) (Heap.get?_update_self _ (ClX.pin_at I') rfl)) (by simp [hacc, strValues]) (by simp [List.take_add_one, ht, hdone])
    rcases hit with ⟨j, ev, et, hlog⟩ | ⟨b, dx, fs, ev, eb, hq⟩
    · rw [ev] at ru
      obtain ⟨tk, eu⟩ := (show ∃ tk, u = Value.int j tk from ru)
      subst et
      rw [eu]
      refine wpAny_bind (wpAny_holding (ReprIs.int tk hlog (base + piled (ts.take i) + 1) (by omega) _ _ _ _ fun tk' => ?_))
      exact go _ (I.tok tk')
    · rw [ev] at ru
      rw [show u = Value.ref b from ru]
      refine wpAny_bind (wpAny_holding (under_own hs hf F hb (Room.loop hr _) (Env0.loop (e0 s (ClX.unpin I)) _) I eb hq (by omega) fun s' I' => ?_))
      exact go s' I'
/-- repr(xs), xs a list of these -/
def rReprL (C : Addr) (sp : Sp) : List V → Hp → VK → Prop := fun xs H Q => ∃ a vs ts, xs = [.ref a] ∧ H a = some (.lst vs) ∧ vs ≠ [] ∧ ts.length = vs.length ∧ (∀ (i : Nat) (v : V), vs[i]? = some v → ∃ t, ts[i]? = some t ∧ ItT C sp H v t) ∧
  (listText ts).length ≤ sizeLine ∧ Q (.str (listText ts)) H
theorem call_reprL (hs : PySem.W.findIn X.K (.ref C) "__repr__" = some (some (.ref f))) (hf : PySem.W.isFn X.K (.ref f) = true) (F : FnOk X.prog X.w X.K X.mg X.base CX0 k f fd ps sp) (hb : Binds X.K fd ps []) (hr : Room (k + 3) X.A) (hg : X.A.guards = some []) :
    CallR X (.builtin "repr") (rReprL C sp) := by
  intro pins s σ H xs us Q I r h
  obtain ⟨a, vs, ts, rfl, ea, hne, hlen, hT, hsz, q⟩ := h
  obtain ⟨u, rfl, rx⟩ := vals1 r
  cases (show u = Value.ref a from rx)
  obtain ⟨_, its, nn, rv, ho⟩ := (show ObjOk X.prog X.w H s.heap a (.lst vs) from I.hok a _ ea)
  cases rv with
  | nil => exact absurd rfl hne
  | cons r1 r2 =>
    rename_i v vs x l
    refine call_repr_slot (by have := hr.un; show X.A.units + 1 < cLine; omega) ⟨_, ho, rfl⟩ PySem.F.slot_list_repr.toG ?_
    refine wpAny_call (codeAny_call_builtin PySem.F.slot_list_repr.plain PySem.F.entry_list_repr (PySem.F.slot_list_repr.check _ _ _ _ _ _ _ _ ⟨_, ho, rfl⟩ (PySem.F.args_list_repr_1 _) ?_))
    refine wpAny_list_repr_head (g := []) hg (fun v rest kw hm => nomatch hm) ho rfl ?_
    refine wpAny_bind (m := newList []) (wpAny_newObj_type ?_)
    refine wpAny_pure ⟨PySem.F.quiet_list_repr_loop _, ?_⟩
    have I1 := I.lt
    refine loopI (A := X.A.in1) (P := s.heap.objs.size) hs hf F hb (Room.in1 (hr.mono (by omega) : Room (k + 2) X.A)) (fun s' I' => I'.env0.in1) (base := 0) ea hlen hT (by omega) (.inr I.sz) (fun x c e z => ?_) (fun p hp z => ?_) (fun s' u I' => ?_) _ 0 _ #[] _ [] rfl (Nat.zero_le _) (ClX.pin_new I (fun b o e => Heap.get?_push_of_some _ e) (Nat.le_refl _) (Heap.get?_push_size _ rfl) (fun v z => nomatch z)) rfl (by simp)
    · obtain ⟨v, o, hc, _⟩ := I.cell x c e
      rw [z] at hc
      exact absurd (Heap.lt_size hc) (Nat.lt_irrefl _)
    · have e := (I.pin p hp).1
      rw [z] at e
      exact absurd (Heap.lt_size e) (Nat.lt_irrefl _)
    · exact ⟨_, _, rfl, .str _, H, I', ⟨u, rfl⟩, q⟩
end
end RtL

set_option maxHeartbeats 1000000
/-! != of an own class that has __eq__ alone; repr of a truth value -/
namespace RtL
open PySem PySem.Spec PyProof.Rows L2
open PySem.Builtin
section
variable {prog : Program} {w : World} {K : PySem.W.Frag} {A : Around} {E : Value → Shared → Prop} {s : Shared} {x f C : Addr} {ox : Obj} {od : Option Obj} {b tb : Value}
/-- what is asked of the class -/
structure NeOf (K : PySem.W.Frag) (C f : Addr) : Prop where
  ne : PySem.W.findIn K (.ref C) "__ne__" = some (some (.builtin "object.__ne__"))
  mo : PySem.W.mroIn K C (.type "object") = some true
theorem ifBound_B {M : Model} {args : List Value} {Q : Option Value → Shared → Prop} {name : Str} {id T : String} (X : K.In s.heap) (I : PySem.W.InstAt s.heap x ox C od) (hs : PySem.W.findIn K (.ref C) name = some (some (.builtin id))) (S : Slot T name id)
    (h : wpAny M A (call (.builtin id) (.ref x :: args)) (fun v => Q (some v)) E s) : wpAny M A (callSpecialIfBound? (.ref x) name args) Q E s := by
  simp only [callSpecialIfBound?, bindSpecialIfBound?]
  refine wpAny_holding (wpAny_bind (wpAny_bind (wpAny_bind (I.type.here ((PySem.W.looks_findIn X hs).here ?_)))))
  refine wpAny_bind (wpAny_askSetting (wpAny_ite ?_))
  have fin : wpAny M A (call (.builtin id) ([.ref x] ++ args) >>= fun v => pure (some v)) Q E s := wpAny_bind (wpAny_mono h (fun v s' h' => wpAny_pure h') fun _ _ h' => h')
  rw [S.bind]
  split
  · exact wpAny_bind (wpAny_pure (wpAny_pure (by exact fin)))
  · exact wpAny_tryCatch (wpAny_bind (wpAny_pure (wpAny_pure (by exact fin))))
theorem ne_K {Q : Value → Shared → Prop} (hu : A.units + 1 < cLine) (X : K.In s.heap) (I : PySem.W.InstAt s.heap x ox C od) (hb : PySem.W.Looks (model prog w) s.heap (typeOf b) tb) (hn : PySem.W.notFirst K C tb = true) (N : NeOf K C f)
    (hs : PySem.W.findIn K (.ref C) "__eq__" = some (some (.ref f))) (hf : PySem.W.isFn K (.ref f) = true) (h : wpAny (model prog w) A.in1 (call (.ref f) [.ref x, b]) (fun v s' => ∃ c, v = .bool c ∧ Q (.bool (!c)) s') E s) :
    wpAny (model prog w) A (richCompare .NotEq (.ref x) b) Q E s := by
  have one : wpAny (model prog w) A (tryCompare (.ref x) (cmpInfo .NotEq).2.1 b) (fun r s' => ∃ v, r = some v ∧ Q v s') E s := by
    unfold tryCompare
    refine wpAny_bind (ifBound_B (T := "object") (name := "__ne__") X I N.ne PySem.F.cmp_object.ne (wpAny_call (codeAny_call_builtin PySem.F.cmp_object.ne.plain PySem.F.cmpEntry_ne
      (PySem.W.check_slot PySem.F.cmpKind_ne PySem.F.cmpSplit_ne (I.type.andThen (PySem.W.looks_mroIn X N.mo)) (PySem.F.cmpArgs_ne _ _) ?_))))
    unfold Builtin.«object.__ne__»
    refine wpAny_bind (m := slotArgs "__ne__" 1 ⟨[.ref x, b], []⟩) (wpAny_pure ?_)
    refine wpAny_bind (wpAny_cRoomFor (by show A.units + 1 < cLine; exact hu) ?_)
    refine wpAny_bind (m := callSpecialIfBound? (.ref x) (Str.ofString "__eq__") [b]) (PySem.W.ifBound_K X I hs hf (wpAny_mono h (fun v s' hv => ?_) fun _ _ e => e))
    obtain ⟨c, rfl, hq⟩ := hv
    refine wpAny_bind (m := truthy (.bool c)) (wpAny_truthy_bool ?_)
    exact wpAny_pure (wpAny_pure ⟨_, rfl, hq⟩)
  unfold richCompare
  simp only [oneThing_ref]
  refine wpAny_holding (wpAny_bind (wpAny_cRoomFor (by omega) ?_))
  refine wpAny_bind (I.type.here (wpAny_bind (hb.here ?_)))
  split
  · rename_i q
    have e : PySem.W.subIn K tb (.ref C) = some false := by
      rcases Bool.or_eq_true_iff.mp hn with e | e
      · rw [beq_iff_eq.mp e] at q; simp at q
      · exact beq_iff_eq.mp e
    refine wpAny_bind ((PySem.W.looks_subIn X e).here ?_)
    simp only [Bool.false_eq_true, if_false]
    refine wpAny_bind (wpAny_mono one (fun r s' z => ?_) fun _ _ e => e)
    obtain ⟨v, rfl, hq⟩ := z
    exact wpAny_pure hq
  · refine wpAny_bind (wpAny_pure ?_)
    simp only [Bool.false_eq_true, if_false]
    refine wpAny_bind (wpAny_mono one (fun r s' z => ?_) fun _ _ e => e)
    obtain ⟨v, rfl, hq⟩ := z
    exact wpAny_pure hq
end
section
variable {X : Cx} {CX : CXT} {k : Nat} {f C : Addr} {fd : FuncData} {sp : Sp} {E : XK} {ps : List Str}
/-- x != y by the method __eq__ of x's class -/
def rOwnNe (C : Addr) (sp : Sp) (E : XK) : R2 := fun x y H Q => rOwnEq C sp E x y H fun v H' => ∃ c, v = .bl c ∧ Q (.bl (!c)) H'
theorem op_ownNe (O : EqOf X.K C f) (N : NeOf X.K C f) (F : FnOk X.prog X.w X.K X.mg X.base CX k f fd ps sp) (hr : Room (k + 1) X.A) (hb : Binds X.K fd ps []) (hx : Passes CX X E) : OpR X (compareOp .NotEq) (rOwnNe C sp E) := by
  intro pins s σ H x y v u Q I rx ry h
  obtain ⟨a, dx, fs, rfl, ha, hy, q⟩ := h
  cases (show v = Value.ref a from rx)
  obtain ⟨mA, oa, _⟩ := ins_get I.hok ha
  obtain ⟨od, J, _⟩ := oa.look
  have nf : ∀ t ∈ ["int", "str", "NoneType", "bool"], PySem.W.notFirst X.K C (.type t) = true := fun t ht => by
    unfold PySem.W.notFirst
    rw [O.nt t ht]
    simp
  have hl : ([Value.ref a, u] ++ []).length = ps.length := by
    rw [← F.len _ _ _ _ q]
    rfl
  have go : wpAny (model X.prog X.w) X.A.in1 (call (.ref f) [.ref a, u]) (fun v s' => ∃ c, v = .bool c ∧ EP X pins σ Q (.bool (!c)) s') X.xe s := by
    refine wpAny_call (codeAny_mono (F.run X.A.in1 X.stack s H ⟨[.ref a, u], []⟩ [.ref a, u] [.ref a, y] _ E hr.in1 I.env0.in1 (hb s [.ref a, u] I.kIn hl) (.cons rfl (.cons ry .nil)) q) fun r s' hq => ?_)
    match r, hq with
    | .ok (.ret z), hq =>
      obtain ⟨v, H', I3, rv, c, ev, q3⟩ := I.after hq
      subst ev
      cases (show z = Value.bool c from rv)
      exact ⟨c, rfl, .bl (!c), H', I3, rfl, q3⟩
    | .ok .next, hq => exact False.elim hq
    | .ok .brk, hq => exact False.elim hq
    | .ok .cont, hq => exact False.elim hq
    | .error e, hq => exact hx pins σ H s e s' I hq
  have hu : X.A.units + 1 < cLine := by have := hr.un; omega
  show wpAny _ _ (richCompare .NotEq _ _) _ _ _
  rcases hy with ⟨b, dy, gs, rfl, hb'⟩ | ⟨i, rfl⟩ | ⟨z, rfl⟩ | rfl | ⟨c, rfl⟩
  · cases (show u = Value.ref b from ry)
    obtain ⟨mB, ob, _⟩ := ins_get I.hok hb'
    obtain ⟨od', J', _⟩ := ob.look
    exact ne_K (tb := .ref C) hu I.kIn J J'.type (by unfold PySem.W.notFirst; simp) N O.at_ O.fn go
  · obtain ⟨t, e⟩ := (show ∃ t, u = Value.int i t from ry)
    subst e
    exact ne_K (tb := .type "int") hu I.kIn J (PySem.W.Looks.of_pure rfl) (nf _ (by decide)) N O.at_ O.fn go
  · obtain ⟨t, e⟩ := (show ∃ t, u = Value.str z t from ry)
    subst e
    exact ne_K (tb := .type "str") hu I.kIn J (PySem.W.Looks.of_pure rfl) (nf _ (by decide)) N O.at_ O.fn go
  · cases (show u = Value.none from ry)
    exact ne_K (tb := .type "NoneType") hu I.kIn J (PySem.W.Looks.of_pure rfl) (nf _ (by decide)) N O.at_ O.fn go
  · cases (show u = Value.bool c from ry)
    exact ne_K (tb := .type "bool") hu I.kIn J (PySem.W.Looks.of_pure rfl) (nf _ (by decide)) N O.at_ O.fn go
/-- repr(b), b a truth value -/
theorem call_reprB : CallR X (.builtin "repr") (fun xs H Q => ∃ b, xs = [.bl b] ∧ Q (.str (if b then "True" else "False")) H) := by
  intro pins s σ H xs us Q I r h
  obtain ⟨b, rfl, q⟩ := h
  obtain ⟨u, rfl, rx⟩ := vals1 r
  cases (show u = Value.bool b from rx)
  refine PySem.P.repr_of_bool ⟨.str _, H, I.tok _, ⟨s.toks, rfl⟩, q⟩
end
end RtL

set_option maxHeartbeats 0
namespace K10
open PySem PySem.Spec PyProof.Rows L2 RtL ErL
def top (i : Nat) : Stmt := PySem.Challenge.pw_slotsums_k10_ratios_two_by_two.main.body.getD i (.Pass ⟨0, 0, 0, 0⟩)
abbrev inR (i : Nat) : Stmt := inClass (top 11) i
/-! ### the defs -/
def glD (i : Nat) (x : Str) : He.DefD := ⟨(x, none), x, x, defArgs (top i), defBody (top i), defScope (top i), [], []⟩
def meD (i : Nat) (m : Str) (d : List He.Dv) : He.DefD := ⟨("Ratio", some m), m, "Ratio." ++ m, defArgs (inR i), defBody (inR i), defScope (inR i), d, []⟩
def ln : List Str := ["_law_pot", "_law_draw", "_law_pick", "_law_integer", "_law_parts", "_law_divisor", "_law_lowest", "_law_sign", "_law_same", "_law_texts_right", "_law_divided_by_zero", "_law_second_right", "_law_refused", "_law_operand_refused", "_law_total_right", "_law_right", "law"]
def inD : He.DefD := ⟨("InvalidNumber", some "__init__"), "__init__", "InvalidNumber.__init__", defArgs (inClass (top 3) 0), defBody (inClass (top 3) 0), defScope (inClass (top 3) 0), [], []⟩
def fn : List He.DefD := [inD, glD 7 "is_an_integer", glD 9 "is_number", glD 10 "as_ratio", meD 0 "__init__" [.int 1], meD 5 "over" [], meD 6 "is_below" [], meD 7 "__add__" [], meD 8 "__sub__" [], meD 9 "__mul__" [], meD 10 "__neg__" [], meD 11 "__eq__" [], meD 12 "__str__" [], meD 13 "__repr__" []] ++ (List.range 17).map fun i => glD (13 + i) (ln.getD i "")
/-- the defs of the class's records: the attribute, the record's type, the place in the class's text -/
def rc : List (Str × String × Nat) := [("top", "property", 1), ("bottom", "property", 2), ("sign", "property", 3), ("total", "classmethod", 4)]
def fr : List Str := ["abs", "len", "max", "int", "divmod", "isinstance", "range", "repr", "str", "bool", "min", "all", "any"]
def fa : List He.Fa := ((["is_an_integer", "is_number", "as_ratio", "Ratio", "SlotsumsError", "InvalidNumber", "StateError", "DividedByZero"] : List Str) ++ ln).map He.Fa.glo ++ (fr.map He.Fa.free ++ [He.Fa.cls "Ratio", He.Fa.mkr "Ratio", He.Fa.noat "Ratio" "_top", He.Fa.noat "Ratio" "_bottom", He.Fa.meth "Ratio" "over", He.Fa.meth "Ratio" "is_below"])
def recV (K : Fr) (r : Str × String × Nat) : He.FnW := lookA K (recA K (He.ga K "Ratio") r.1 r.2.1)
def recW (r : Str × String × Nat) : He.FnW := some (r.1, "Ratio." ++ r.1, defArgs (inR r.2.2), .stmts (defBody (inR r.2.2)), defScope (inR r.2.2), mainGlobals, [], builtinsNs)
/-! ### what is asked of the class -/
def binB (K : Fr) (m r : Str) : Bool := He.eqO (PySem.W.findIn K (.ref (He.ga K "Ratio")) m) (some (some (.ref (He.ma K (He.ga K "Ratio") m)))) && (PySem.W.isFn K (.ref (He.ma K (He.ga K "Ratio") m)) && He.eqO (PySem.W.findIn K (.ref (He.ga K "Ratio")) r) (some none))
def spcB (K : Fr) (m : Str) : Bool := He.eqO (PySem.W.findIn K (.ref (He.ga K "Ratio")) m) (some (some (.ref (He.ma K (He.ga K "Ratio") m)))) && PySem.W.isFn K (.ref (He.ma K (He.ga K "Ratio") m))
def claB (K : Fr) : Bool := He.eqO (PySem.W.findIn K (.ref (He.ga K "Ratio")) "__class__") (some (some (.builtin "object.__class__"))) && (He.eqO (PySem.W.specialIn K (.builtin "object.__class__") "__get__") (some (some (.builtin "getset_descriptor.__get__"))) &&
  (decide (PySem.W.takesIn K (.builtin "object.__class__") = some true) && (decide (PySem.W.mroIn K (He.ga K "Ratio") (.type "object") = some true) && (decide (PySem.W.kitOne K (.ref (He.ga K "Ratio")) (.type "int") = some false) && decide (PySem.W.kitOne K (.ref (He.ga K "Ratio")) (.type "bool") = some false)))))
def excB (K : Fr) : Bool := PySem.W.excIn K (He.ga K "DividedByZero") [.type "RuntimeError", .type "Exception", .type "BaseException", .type "object"] "RuntimeError.__new__" && (PySem.W.keepIn K (.ref (He.ga K "DividedByZero")) && (decide (PySem.W.subIn K (.ref (He.ga K "DividedByZero")) (.type "BaseException") = some true) && (decide (PySem.W.typeIn K (.ref (He.ga K "DividedByZero")) = some (.type "type")) && (decide (PySem.W.exmOne K (.ref (He.ga K "DividedByZero")) (.ref (He.ga K "DividedByZero")) = some true) && PySem.W.isClsIn K (He.ga K "DividedByZero")))))
def cmB (K : Fr) : Bool := PySem.W.readsIn K (He.ga K "Ratio") (.type "type") && (He.eqO (PySem.W.specialIn K (.ref (He.ga K "Ratio")) "__getattribute__") (some (some (.builtin "type.__getattribute__"))) &&
  ((match PySem.W.findCls K (.ref (He.ga K "Ratio")) (.type "type") "total" with
    | some (.get (.builtin b) (.ref p) .none (.ref c)) => b == "classmethod.__get__" && (p == He.ma K (He.ga K "Ratio") "total" && c == He.ga K "Ratio")
    | _ => false) && (match PySem.W.recIn K (He.ma K (He.ga K "Ratio") "total") "classmethod" with
    | some (.ref g :: _) => PySem.W.fnIn K g
    | _ => false)))
def eqB (a b : Option (Option Value)) : Bool := decide (a = b)
def askB (K : Fr) (C : Addr) : Bool := (PySem.W.clsIn K C).isSome && (PySem.W.hasDictIn K C && (eqB (PySem.W.findIn K (.ref C) "__getattribute__") (some (some (.builtin "BaseException.__getattribute__"))) &&
  (eqB (PySem.W.findIn K (.ref C) "__getattr__") (some none) && (decide (PySem.W.subIn K (.ref C) (.type "BaseException") = some true) && (eqB (PySem.W.findIn K (.ref C) "__class__") (some (some (.builtin "object.__class__"))) &&
  (eqB (PySem.W.specialIn K (.builtin "object.__class__") "__get__") (some (some (.builtin "getset_descriptor.__get__"))) && (decide (PySem.W.takesIn K (.builtin "object.__class__") = some true) &&
  (decide (PySem.W.mroIn K C (.type "object") = some true) && eqB (PySem.W.findIn K (.ref C) "__str__") (some (some (.builtin "BaseException.__str__")))))))))))
theorem ask_ok {K : Fr} {C : Addr} (h : askB K C = true) : Asks K C := by
  simp only [askB, eqB, Bool.and_eq_true, decide_eq_true_eq] at h
  obtain ⟨h1, h2, h3, h4, h5, h6, h7, h8, h9, h10⟩ := h
  exact ⟨h1, h2, h3, h4, h5, h6, h7, h8, h9, h10⟩
abbrev bmV : List Value := [.type "ValueError", .type "Exception", .type "BaseException", .type "object"]
def clB (K : Fr) (C : Addr) : Bool := PySem.W.excInitIn K C bmV "ValueError.__new__" && (PySem.W.excOver K C bmV && (PySem.W.hasDictIn K C && (eqB (PySem.W.findIn K (.ref C) "__setattr__") (some (some (.builtin "object.__setattr__"))) && PySem.W.keepIn K (.ref C))))
theorem cl_ok {K : Fr} {C : Addr} (h : clB K C = true) : PySem.Er.Cl K C "ValueError" "ValueError.__new__" "ValueError.__init__" bmV := by
  simp only [clB, eqB, Bool.and_eq_true, decide_eq_true_eq] at h
  obtain ⟨h1, h2, h3, h4, h5⟩ := h
  exact ⟨PySem.F.excBase_ValueError, PySem.F.store_ValueError, h1, h2, h3, h4, h5⟩
/-- of InvalidNumber, of what is asked of both errors -/
def errB (K : Fr) : Bool := askB K (He.ga K "InvalidNumber") && (askB K (He.ga K "DividedByZero") && (clB K (He.ga K "InvalidNumber") && (decide (PySem.W.typeIn K (.ref (He.ma K (He.ga K "InvalidNumber") "__init__")) = some (.type "function")) && (eqB (PySem.W.findIn K (.ref (He.ga K "InvalidNumber")) "__init__") (some (some (.ref (He.ma K (He.ga K "InvalidNumber") "__init__")))) &&
  (decide (PySem.W.takerIn K (He.ga K "InvalidNumber") "value" = some none) && (eqB (PySem.W.findIn K (.ref (He.ga K "InvalidNumber")) "value") (some none) && (decide (PySem.W.subIn K (.ref (He.ga K "InvalidNumber")) (.type "BaseException") = some true) && (decide (PySem.W.typeIn K (.ref (He.ga K "InvalidNumber")) = some (.type "type")) &&
  (decide (PySem.W.exmOne K (.ref (He.ga K "InvalidNumber")) (.ref (He.ga K "InvalidNumber")) = some true) && (decide (PySem.W.kitOne K (.ref (He.ga K "InvalidNumber")) (.ref (He.ga K "SlotsumsError")) = some true) && decide (PySem.W.kitOne K (.ref (He.ga K "DividedByZero")) (.ref (He.ga K "StateError")) = some true)))))))))))
def tys : List String := ["int", "str", "NoneType", "bool", "list", "tuple", "dict"]
def chk (K : Fr) : Bool := (K.lookup sysModules).isSome && (decide (PySem.W.nsIn K mainGlobals "gcd" = some (some (.builtin "math.gcd"))) && (PySem.W.selfFirst K (He.ga K "Ratio") && ((["top", "bottom", "sign"] : List Str).all (propB K (He.ga K "Ratio")) &&
  (binB K "__add__" "__radd__" && (binB K "__sub__" "__rsub__" && (binB K "__mul__" "__rmul__" && ((["__neg__", "__eq__", "__str__", "__repr__"] : List Str).all (spcB K) &&
  (tys.all (fun t => decide (PySem.W.subIn K (.type t) (.ref (He.ga K "Ratio")) = some false)) && (tys.all (fun t => decide (PySem.W.kitOne K (.type t) (.ref (He.ga K "Ratio")) = some false)) &&
  (decide (PySem.W.kitOne K (.ref (He.ga K "Ratio")) (.ref (He.ga K "Ratio")) = some true) && (He.eqO (PySem.W.findIn K (.ref (He.ga K "Ratio")) "__ne__") (some (some (.builtin "object.__ne__"))) && errB K && claB K && excB K && cmB K && rc.all fun r => wellA K (recA K (He.ga K "Ratio") r.1 r.2.1) ("Ratio." ++ r.1) [])))))))))))
theorem lk : ∀ (l : List (Addr × Obj)) {P a : Addr} {o : Obj}, (l.filter fun e => e.1 != P).lookup a = some o → l.lookup a = some o ∧ a ≠ P
  | [], P, a, o, h => by cases h
  | (k, v) :: t, P, a, o, h => by
    by_cases hk : k = P
    · have e : (((k, v) :: t).filter fun e => e.1 != P) = t.filter fun e => e.1 != P := by simp [hk]
      rw [e] at h
      obtain ⟨e1, n⟩ := lk t h
      refine ⟨?_, n⟩
      rw [List.lookup_cons, beq_false_of_ne (by rw [hk]; exact n)]
      exact e1
    · have e : (((k, v) :: t).filter fun e => e.1 != P) = (k, v) :: t.filter fun e => e.1 != P := by simp [hk]
      rw [e, List.lookup_cons] at h
      rw [List.lookup_cons]
      by_cases ha : a = k
      · subst ha
        rw [beq_self_eq_true] at h ⊢
        exact ⟨h, hk⟩
      · rw [beq_false_of_ne ha] at h ⊢
        exact lk t h
def frY (g : Addr → Option Obj) : Fr := He.frG g (sysModules :: cStatics :: He.asD g 5)
/-- .. without the table of operand_refused's code object -/
def frX (g : Addr → Option Obj) : Fr := match PySem.W.tabIn (frY g) "_law_operand_refused" with
  | some q => (frY g).filter fun e => e.1 != q.2
  | none => frY g
theorem frX_in {h : Heap} : (frX h.get?).In h := by
  unfold frX
  split
  · intro a o e
    exact He.frG_in a o (lk _ e).1
  · exact He.frG_in
/-! ### the Hook -/
/-- of the table of operand_refused's code object -/
def tabB (K : Fr) : Bool := match PySem.W.tabIn K "_law_operand_refused" with
  | some q => PySem.W.codeHdIn K q.1 q.2 && (K.lookup q.2).isNone
  | none => false
abbrev AlX : Type := He.AlD × List He.FnW
def obsX (K : Fr) : AlX := ((((fa.all fun f => f.ok K) && fn.all fun d => d.ok K) && (chk K && tabB K), fn.map fun d => He.fnW K d.at_), rc.map (recV K))
def valX : AlX := (He.valD fn, rc.map recW)
def Says (K : Fr) : Prop := obsX K = valX
def tabT (g : Addr → Option Obj) : Option Obj := match PySem.W.tabIn (frX g) "_law_operand_refused" with
  | some q => g q.2
  | none => none
def hk : PySem.W.Hook where
  α := AlX × Option Obj
  obs := fun s => (obsX (frX s.heap.get?), tabT s.heap.get?)
  val := fun _ => (valX, some (PySem.W.tabObj #[]))
  says := fun _ h => ∃ K : Fr, K.In h ∧ Says K ∧ ∃ c P, PySem.W.tabIn K "_law_operand_refused" = some (c, P) ∧ h.get? P = some (PySem.W.tabObj #[])
  of := fun _ s e => by
    have e1 : obsX (frX s.heap.get?) = valX := congrArg Prod.fst e
    have e2 : tabT s.heap.get? = some (PySem.W.tabObj #[]) := congrArg Prod.snd e
    unfold tabT at e2
    split at e2
    · rename_i q hq
      exact ⟨_, frX_in, e1, q.1, q.2, hq, e2⟩
    · cases e2
  keeps := fun _ _ _ ⟨K, hK, c, q, P, h1, h2⟩ k => ⟨K, PySem.W.Frag.In.keeps hK k, c, q, P, h1, k _ _ h2⟩
def ob (s : PySem.W.SharedT) : AlX × Option Obj := (obsX (frX (HandSHeadRun.getT s)), tabT (HandSHeadRun.getT s))
theorem ob_eq (s : PySem.W.SharedT) : ob s = hk.obs s.abs := by
  have e : HandSHeadRun.getT s = s.abs.heap.get? := funext (HandSHeadRun.getT_eq s)
  show (obsX (frX (HandSHeadRun.getT s)), tabT (HandSHeadRun.getT s)) = (obsX (frX s.abs.heap.get?), tabT s.abs.heap.get?)
  rw [e]
def names : List Str := ["SlotsumsError", "InvalidNumber", "StateError", "DividedByZero", "is_an_integer", "is_number", "as_ratio", "Ratio", "_law_pot", "_law_draw", "_law_pick", "_law_integer", "_law_parts", "_law_divisor", "_law_lowest", "_law_sign", "_law_same", "_law_texts_right", "_law_divided_by_zero", "_law_second_right", "_law_refused", "_law_operand_refused", "_law_total_right", "_law_right"]
abbrev R : PySem.W.OpenRow := PySem.W.OpenLaw.row PySem.Challenge.rw_slotsums_k10_ratios_two_by_two
end K10

set_option maxHeartbeats 4000000
namespace K10
open PySem PySem.Spec PyProof.Rows L2 RtL ErL
open PySem.Er (Cl In1 iA1 iB1 iS1)
abbrev RC (K : Fr) : Addr := He.ga K "Ratio"
abbrev rm (K : Fr) (m : Str) : Addr := He.ma K (RC K) m
abbrev IN (K : Fr) : Addr := He.ga K "InvalidNumber"
structure TT (K : Fr) (mg : Str → Option Value) : Prop where
  sys : ∃ o, K.lookup sysModules = some o
  gcd : mg "gcd" = some (.builtin "math.gcd")
  me : PySem.W.selfFirst K (RC K) = true
  cl : Cls K (RC K)
  mkr : Mk K (RC K) (rm K "__init__")
  nT : NoAttr K (RC K) "_top"
  nB : NoAttr K (RC K) "_bottom"
  over : Meth K (RC K) "over" (rm K "over")
  below : Meth K (RC K) "is_below" (rm K "is_below")
  prop : ∀ f ∈ (["top", "bottom", "sign"] : List Str), PropOf K (RC K) f (rm K f) (recA K (RC K) f "property")
  bin : ∀ m r : Str, (m, r) ∈ ([("__add__", "__radd__"), ("__sub__", "__rsub__"), ("__mul__", "__rmul__")] : List (Str × Str)) → OpOf K (RC K) (rm K m) m r
  spc : ∀ m ∈ (["__neg__", "__eq__", "__str__", "__repr__"] : List Str), PySem.W.findIn K (.ref (RC K)) m = some (some (.ref (rm K m))) ∧ PySem.W.isFn K (.ref (rm K m)) = true
  eq : EqOf K (RC K) (rm K "__eq__")
  kitT : ∀ t ∈ tys, PySem.W.kitOne K (.type t) (.ref (RC K)) = some false
  kitR : PySem.W.kitOne K (.ref (RC K)) (.ref (RC K)) = some true
  kitI : PySem.W.kitOne K (.ref (RC K)) (.type "int") = some false
  kitB : PySem.W.kitOne K (.ref (RC K)) (.type "bool") = some false
  ty : ∀ {H : Hp} {a dx : Addr} {fs : List (Str × V)}, H a = some (.ins (RC K) dx fs) → TyX K H (.ref a) (.ref (RC K))
  exc : PySem.W.excIn K (He.ga K "DividedByZero") [.type "RuntimeError", .type "Exception", .type "BaseException", .type "object"] "RuntimeError.__new__" = true ∧ PySem.W.keepIn K (.ref (He.ga K "DividedByZero")) = true ∧ PySem.W.subIn K (.ref (He.ga K "DividedByZero")) (.type "BaseException") = some true ∧
    PySem.W.typeIn K (.ref (He.ga K "DividedByZero")) = some (.type "type") ∧ PySem.W.exmOne K (.ref (He.ga K "DividedByZero")) (.ref (He.ga K "DividedByZero")) = some true ∧ PySem.W.isClsIn K (He.ga K "DividedByZero") = true
  nto : ∀ t ∈ tys, PySem.W.subIn K (.type t) (.ref (RC K)) = some false
  askI : Asks K (IN K)
  askD : Asks K (He.ga K "DividedByZero")
  cli : Cl K (IN K) "ValueError" "ValueError.__new__" "ValueError.__init__" bmV
  ini : PySem.W.typeIn K (.ref (He.ma K (IN K) "__init__")) = some (.type "function") ∧ PySem.W.findIn K (.ref (IN K)) "__init__" = some (some (.ref (He.ma K (IN K) "__init__"))) ∧ PySem.W.takerIn K (IN K) "value" = some none ∧ PySem.W.findIn K (.ref (IN K)) "value" = some none ∧
    PySem.W.subIn K (.ref (IN K)) (.type "BaseException") = some true ∧ PySem.W.typeIn K (.ref (IN K)) = some (.type "type") ∧ PySem.W.exmOne K (.ref (IN K)) (.ref (IN K)) = some true ∧ PySem.W.kitOne K (.ref (IN K)) (.ref (He.ga K "SlotsumsError")) = some true ∧ PySem.W.kitOne K (.ref (He.ga K "DividedByZero")) (.ref (He.ga K "StateError")) = some true
  ne : PySem.W.findIn K (.ref (RC K)) "__ne__" = some (some (.builtin "object.__ne__")) ∧ PySem.W.mroIn K (RC K) (.type "object") = some true
  cm : ClX.CRead K (RC K) (.type "type") ∧ ClX.CMet K (RC K) (.type "type") "total" (rm K "total") (recA K (RC K) "total" "classmethod")
  free : ∀ x ∈ fr, mg x = none
  dfs : ∀ d ∈ fn, ∃ fd, FunD K d.name d.qual d.params d.body d.scope (d.dvs K) (d.kws K) (He.fAd K d.at_) fd
  rcs : ∀ r ∈ rc, ∃ fd, FunD K r.1 ("Ratio." ++ r.1) (defArgs (inR r.2.2)) (defBody (inR r.2.2)) (defScope (inR r.2.2)) [] [] (recA K (RC K) r.1 r.2.1) fd
  gl : ∀ x ∈ ([ "is_an_integer", "is_number", "as_ratio", "Ratio", "SlotsumsError", "InvalidNumber", "StateError", "DividedByZero"] : List Str) ++ ln, mg x = some (.ref (He.ga K x))
theorem tt_of {K : Fr} {h : Heap} {mg : Str → Option Value} (X : K.In h) (G : h.Ns mainGlobals mg) (c : Says K) : TT K mg := by
  have c1 : (((fa.all fun f => f.ok K) && fn.all fun d => d.ok K) && (chk K && tabB K)) = true := congrArg (fun z : AlX => z.1.1) c
  have c2 : fn.map (fun d => He.fnW K d.at_) = fn.map He.DefD.val := congrArg (fun z : AlX => z.1.2) c
  have c3 : rc.map (recV K) = rc.map recW := congrArg (fun z : AlX => z.2) c
  obtain ⟨c1, k⟩ := He.ba c1
  obtain ⟨k, _⟩ := He.ba k
  obtain ⟨ca, cd⟩ := He.ba c1
  unfold chk at k
  simp only [Bool.and_eq_true] at k
  obtain ⟨k1, k2, k3, k4, k5, k6, k7, k8, k9, k10, k11, ⟨⟨⟨⟨kn, ke⟩, kc⟩, kx⟩, km⟩, k12⟩ := k
  unfold claB at kc
  unfold excB at kx
  unfold cmB at km
  unfold errB at ke
  simp only [eqB, Bool.and_eq_true, decide_eq_true_eq] at ke
  obtain ⟨q1, q2, q3, q4, q5, q6, q7, q8, q9, q10, q11, q12⟩ := ke
  simp only [Bool.and_eq_true] at kc kx km
  obtain ⟨m1, m2, m3, m4⟩ := km
  obtain ⟨a1, a2, a3, a4, a5, a6⟩ := kc
  obtain ⟨x1, x2, x3, x4, x5, x6⟩ := kx
  have fac : ∀ f ∈ fa, f.ok K = true := fun f hf => List.all_eq_true.mp ca f hf
  have lst : ∀ f ∈ [He.Fa.cls "Ratio", He.Fa.mkr "Ratio", He.Fa.noat "Ratio" "_top", He.Fa.noat "Ratio" "_bottom", He.Fa.meth "Ratio" "over", He.Fa.meth "Ratio" "is_below"], f.ok K = true := fun f hf => fac f (List.mem_append_right _ (List.mem_append_right _ hf))
  have C0 : Cls K (RC K) := He.cls_ok (lst (.cls "Ratio") (by simp))
  have nt : ∀ t ∈ tys, PySem.W.subIn K (.type t) (.ref (RC K)) = some false := fun t ht => of_decide_eq_true (List.all_eq_true.mp k9 t ht)
  have op : ∀ m r : Str, binB K m r = true → OpOf K (RC K) (rm K m) m r := fun m r h => by
    unfold binB at h
    simp only [Bool.and_eq_true] at h
    exact ⟨k3, He.eqO_ok h.1, h.2.1, He.eqO_ok h.2.2, nt "int" (by decide)⟩
  have sp : ∀ m ∈ (["__neg__", "__eq__", "__str__", "__repr__"] : List Str), PySem.W.findIn K (.ref (RC K)) m = some (some (.ref (rm K m))) ∧ PySem.W.isFn K (.ref (rm K m)) = true := fun m hm => by
    have z := List.all_eq_true.mp k8 m hm
    unfold spcB at z
    exact ⟨He.eqO_ok (He.ba z).1, (He.ba z).2⟩
  refine ⟨Option.isSome_iff_exists.mp k1, PySem.W.mg_of X G (of_decide_eq_true k2), k3, C0, He.mkr_ok (lst (.mkr "Ratio") (by simp)), He.noat_ok (lst (.noat "Ratio" "_top") (by simp)), He.noat_ok (lst (.noat "Ratio" "_bottom") (by simp)),
    He.meth_ok (lst (.meth "Ratio" "over") (by simp)), He.meth_ok (lst (.meth "Ratio" "is_below") (by simp)), fun f hf => prop_ok (List.all_eq_true.mp k4 f hf), fun m r hm => ?_, sp,
    ⟨(sp "__eq__" (by decide)).1, (sp "__eq__" (by decide)).2, fun t ht => nt t (by revert t; decide)⟩, fun t ht => of_decide_eq_true (List.all_eq_true.mp k10 t ht), of_decide_eq_true k11, of_decide_eq_true a5, of_decide_eq_true a6,
    fun ha => .base (.ins ha C0 (He.eqO_ok a1) (He.eqO_ok a2) (of_decide_eq_true a3) (of_decide_eq_true a4)), ⟨x1, x2, of_decide_eq_true x3, of_decide_eq_true x4, of_decide_eq_true x5, x6⟩, nt, ask_ok q1, ask_ok q2, cl_ok q3, ⟨q4, q5, q6, q7, q8, q9, q10, q11, q12⟩, ⟨He.eqO_ok kn, of_decide_eq_true a4⟩, ⟨⟨m1, He.eqO_ok m2⟩, ?_, ?_, ?_⟩,
    fun x hx => He.free_ok X G (fac (.free x) (List.mem_append_right _ (List.mem_append_left _ (List.mem_map.mpr ⟨x, hx, rfl⟩)))), fun d hd => ?_, fun r hr => ?_, fun x hx => He.glo_ok X G (fac (.glo x) (List.mem_append_left _ (List.mem_map.mpr ⟨x, hx, rfl⟩)))⟩
  · simp only [List.mem_cons, Prod.mk.injEq, List.not_mem_nil, or_false] at hm
    rcases hm with ⟨rfl, rfl⟩ | ⟨rfl, rfl⟩ | ⟨rfl, rfl⟩
    · exact op _ _ k5
    · exact op _ _ k6
    · exact op _ _ k7
  · split at m3
    · rename_i b p c e
      simp only [Bool.and_eq_true, beq_iff_eq] at m3
      obtain ⟨rfl, rfl, rfl⟩ := m3
      exact e
    · cases m3
  · unfold recA
    split at m4
    · rename_i g r e
      exact ⟨r, by rw [e]⟩
    · cases m4
  · unfold recA
    split at m4
    · rename_i g r e
      rw [e]
      exact m4
    · cases m4
  · obtain ⟨i, hi⟩ := List.getElem?_of_mem hd
    have e2 : (fn.map fun d => He.fnW K d.at_)[i]? = (fn.map He.DefD.val)[i]? := by rw [c2]
    rw [List.getElem?_map, List.getElem?_map, hi] at e2
    exact He.DefD.funD (Option.some.inj e2) (List.all_eq_true.mp cd d hd)
  · obtain ⟨i, hi⟩ := List.getElem?_of_mem hr
    have e2 : (rc.map (recV K))[i]? = (rc.map recW)[i]? := by rw [c3]
    rw [List.getElem?_map, List.getElem?_map, hi] at e2
    exact def_at (ds := []) (Option.some.inj e2) (List.all_eq_true.mp k12 r hr)
section
variable {K : Fr} {mg : Str → Option Value}
theorem TT.in1 (T : TT K mg) : In1 K (IN K) "value" := by
  obtain ⟨fd, F⟩ := T.dfs inD (List.mem_cons_self ..)
  obtain ⟨oc, od, dV, kV, doc, pm, an, cdv, ct, osl, rfl, lk, hcd, hD, _⟩ := F.ex
  obtain rfl : dV = Value.none := hD.elim (fun z => z.2) fun z => absurd rfl z.1
  obtain ⟨p1, p2, q1, q2, q3, q4, e1, e2, e3⟩ : ∃ p1 p2 q1 q2 q3 q4, defArgs (inClass (top 3) 0) = iA1 "value" p1 p2 ∧ defBody (inClass (top 3) 0) = iB1 "value" q1 q2 q3 q4 ∧ defScope (inClass (top 3) 0) = iS1 "value" := ⟨_, _, _, _, _, _, rfl, rfl, rfl⟩
  have lk2 : K.lookup (He.ma K (IN K) "__init__") = some ⟨oc, od, .func (PySem.W.fnOf "__init__" "InvalidNumber.__init__" (defArgs (inClass (top 3) 0)) (defBody (inClass (top 3) 0)) (defScope (inClass (top 3) 0)) .none kV doc pm an cdv ct), osl⟩ := lk
  rw [e1, e2, e3] at lk2
  exact ⟨T.ini.2.2.1, by decide, by decide, _, _, oc, od, kV, doc, pm, an, cdv, ct, osl, p1, p2, q1, q2, q3, q4, T.ini.2.1, T.ini.1, lk2, hcd⟩
end
end K10

set_option maxHeartbeats 4000000
namespace K10
open PySem PySem.Spec PyProof.Rows L2 RtL
/-! ### numbers in lowest terms -/
def sg (b : Int) (g : Nat) : Int := if b < 0 then -(g : Int) else (g : Int)
def lowS (t b : Int) : Int := sg b (t.natAbs.gcd b.natAbs)
def lowT (t b : Int) : Int := t.fdiv (lowS t b)
def lowB (t b : Int) : Int := b.fdiv (lowS t b)
abbrev Bd (n : Nat) (i : Int) : Prop := i.natAbs < 2 ^ n
theorem lowS_ne {t b : Int} (h : b ≠ 0) : lowS t b ≠ 0 := by
  have g : 0 < t.natAbs.gcd b.natAbs := Nat.gcd_pos_of_pos_right _ (Int.natAbs_pos.mpr h)
  unfold lowS sg
  split <;> omega
theorem lowS_abs {t b : Int} : (lowS t b).natAbs = t.natAbs.gcd b.natAbs := by
  unfold lowS sg
  split
  · rw [Int.natAbs_neg]
    exact Int.natAbs_natCast _
  · exact Int.natAbs_natCast _
theorem lowS_bd {t b : Int} {n : Nat} (h : b ≠ 0) (hb : Bd n b) : Bd n (lowS t b) := by
  show (lowS t b).natAbs < _
  rw [lowS_abs]
  exact Nat.lt_of_le_of_lt (Nat.gcd_le_right _ (Int.natAbs_pos.mpr h)) hb
def CDivX : Int → Int → Prop := fun _ j => j ≠ 0 ∧ j.natAbs.log2 < 9000
theorem op_fdivX {X : Cx} : OpR X (binaryOp .FloorDiv) (rI CDivX fun i j => .int (i.fdiv j)) := opI fun _ _ _ _ _ _ _ hc q => floordiv_int hc.1 q (.inl (PyProof.noPylong_of_log2 hc.2))
theorem bd_log {n : Nat} {i : Int} (h : Bd n i) (hn : n ≤ 9000) (h0 : 0 < n := by decide) : i.natAbs.log2 < 9000 := Nat.lt_of_lt_of_le (PySem.Flt.log2_lt_of h0 h) hn
/-! ### a ratio in the heap -/
def RatAt (K : Fr) (H : Hp) (a : Addr) (t b : Int) : Prop := ∃ dx, H a = some (.ins (RC K) dx [("_top", .int t), ("_bottom", .int b)])
theorem RatAt.same {K : Fr} {H H' : Hp} {a : Addr} {t b : Int} (h : RatAt K H a t b) (s : Same H H') : RatAt K H' a t b := by
  obtain ⟨dx, e⟩ := h
  exact ⟨dx, s _ _ e⟩
section
variable {P : Program} {w : World} {K : Fr} {mg : Str → Option Value} {base : Heap} {f : Addr} {fd : FuncData}
theorem TT.fre (T : TT K mg) {x : Str} (h : x ∈ fr := by decide) : mg x = none := T.free x h
abbrev FnP (K : Fr) (d : He.DefD) (f : Addr) (fd : FuncData) : Prop := FunD K d.name d.qual d.params d.body d.scope (d.dvs K) (d.kws K) f fd
/-! ### is_an_integer -/
abbrev s_isint : Stmt := top 7
theorem sc_isint : FnScope ["value"] ["value"] (defScope s_isint) := ⟨rfl, rfl, rfl, by decide +kernel, rfl, by decide +kernel, by decide +kernel⟩
def spIsint (K : Fr) : Sp := fun vs H Q _ => ∃ v, vs = [v] ∧ ((∃ i, v = .int i ∧ Q (.bl true) H) ∨ ∃ a t b, v = .ref a ∧ RatAt K H a t b ∧ Q (.bl false) H)
theorem ok_isint (F : FunD K "is_an_integer" "is_an_integer" (defArgs s_isint) (defBody s_isint) (defScope s_isint) [] [] f fd) (T : TT K mg) : FnOk P w K mg base CX0 1 f fd ["value"] (spIsint K) := by
  refine F.ok sc_isint (fun vs H Q E h => ?_) (fun cdv A outer s H vs Q E hr h => ?_)
  · obtain ⟨v, rfl, _⟩ := h
    rfl
  · obtain ⟨v, rfl, h⟩ := h
    refine ⟨_, PSs.nox (pss_one (ps_ret (pe_and (pe_callB call_isi (by rfl) T.fre (by decide +kernel) (pa_cons (pv 0) (pa_cons (pe_bltn (v := .ty "int") (u := .type "int") (by rfl) T.fre (by decide +kernel) rfl) pa_nil)))
      (pe_one (pe_not (pe_callB call_isi (by rfl) T.fre (by decide +kernel) (pa_cons (pv 0) (pa_cons (pe_bltn (v := .ty "bool") (u := .type "bool") (by rfl) T.fre (by decide +kernel) rfl) pa_nil)))))))), ?_⟩
    rcases h with ⟨i, rfl, q⟩ | ⟨a, t, b, rfl, ⟨dx, ea⟩, q⟩
    · exact ⟨_, rfl, _, _, _, _, true, rfl, .ty "int", .base (.int i), kit_ty rfl, true, rfl, iteT ⟨_, rfl, _, _, _, _, false, rfl, .ty "bool", .base (.int i), kit_ty rfl, false, rfl, q⟩⟩
    · exact ⟨_, rfl, _, _, _, _, false, rfl, .ty "int", T.ty ea, T.kitI, false, rfl, iteF q⟩
/-! ### __init__ -/
abbrev s_init : Stmt := inR 0
theorem sc_init : FnScope ["self", "top", "bottom", "shared"] ["self", "top", "bottom"] (defScope s_init) := ⟨rfl, rfl, rfl, by decide +kernel, rfl, by decide +kernel, by decide +kernel⟩
def spInit (K : Fr) : Sp := fun vs H Q _ => ∃ (a dx : Addr) (t b : Int), vs = [.ref a, .int t, .int b] ∧ b ≠ 0 ∧ Bd 3000 t ∧ Bd 3000 b ∧ H a = some (.ins (RC K) dx []) ∧ Q .non (upd H a (.ins (RC K) dx [("_top", .int (lowT t b)), ("_bottom", .int (lowB t b))]))
theorem ok_init (F : FunD K "__init__" "Ratio.__init__" (defArgs s_init) (defBody s_init) (defScope s_init) [.int 1] [] f fd) (T : TT K mg) {fI : Addr} {dI : FuncData}
    (GI : FnOk P w K mg base CX0 1 fI dI ["value"] (spIsint K)) (gI : mg "is_an_integer" = some (.ref fI)) (kI : PySem.W.keepIn K (.ref fI) = true) (bI : Binds K dI ["value"] []) : FnOk P w K mg base CX0 2 f fd ["self", "top", "bottom"] (spInit K) := by
  refine F.ok sc_init (fun vs H Q E h => ?_) (fun cdv A outer s H vs Q E hr h => ?_)
  · obtain ⟨a, dx, t, b, rfl, _⟩ := h
    rfl
  · obtain ⟨a, dx, t, b, rfl, hb, ht1, hb1, ea, q⟩ := h
    refine ⟨_, PSs.nox (pss_cons (ps_if (pt_not (pt_val (pe_call GI hr (by rfl) gI kI bI .nil pass0 (pa_cons (pv 1) pa_nil)))) (pss_one ps_never) pss_nil)
      (pss_cons (ps_if (PW.pt (pw_or (pt_not (pt_val (pe_call GI hr (by rfl) gI kI bI .nil pass0 (pa_cons (pv 2) pa_nil)))) (pw_or1 (pt_cmpR op_eq (pv 2) pe_int (nomark _))))) (pss_one ps_never) pss_nil)
      (pss_cons (ps_set (i := 3) sc_init.nd rfl (Or.inl rfl) (pe_callBfun cr_gcd (by rfl) T.gcd (pa_cons (pv 1) (pa_cons (pv 2) pa_nil))))
      (Evl.pss_cut (ps_if (pt_cmpR op_lt (pv 2) pe_int (nomark _)) (pss_one (ps_set (i := 3) sc_init.nd rfl (Or.inl rfl) (pe_un un_neg (pv 3)))) pss_nil)
      (pss_cons (ps_fld (pv 0) (pe_op op_fdivX (pv 1) (pv 3)) (by rfl)) (pss_one (ps_fld (pv 0) (pe_op op_fdivX (pv 2) (pv 3)) (by rfl)))))))), ?_⟩
    refine ⟨_, rfl, _, rfl, .inl ⟨t, rfl, true, rfl, iteF ?_⟩⟩
    refine ⟨_, rfl, _, rfl, .inl ⟨b, rfl, true, rfl, iteF ?_⟩⟩
    refine ⟨_, rfl, rfl, false, congrArg V.bl (decide_eq_false fun z => hb (by injection z)), iteF ?_⟩
    refine ⟨_, rfl, _, rfl, t, b, rfl, ?_⟩
    refine ⟨fun σ' H' => H' = H ∧ σ' = [some (.ref a), some (.int t), some (.int b), some (.int (lowS t b))], ?_, ?_⟩
    · refine ⟨_, rfl, b, 0, rfl, rfl, _, rfl, ite2 (fun h => ?_) (fun h => ?_)⟩
      · refine ⟨_, rfl, _, rfl, rfl, ?_⟩
        have z : b < 0 := of_decide_eq_true h
        rw [show lowS t b = -((t.natAbs.gcd b.natAbs : Nat) : Int) from if_pos z]
        rfl
      · have z : ¬ b < 0 := fun y => h (decide_eq_true y)
        refine ⟨rfl, ?_⟩
        rw [show lowS t b = ((t.natAbs.gcd b.natAbs : Nat) : Int) from if_neg z]
        rfl
    rintro σ' H' ⟨rfl, rfl⟩
    have hd : CDivX t (lowS t b) := ⟨lowS_ne hb, bd_log (lowS_bd hb hb1) (by decide)⟩
    refine ⟨_, rfl, _, rfl, t, lowS t b, rfl, rfl, hd, _, rfl, a, _, dx, _, rfl, ea, T.cl, T.nT, by decide, ?_⟩
    refine ⟨_, rfl, _, rfl, b, lowS t b, rfl, rfl, hd, _, rfl, a, _, dx, _, rfl, upd_same, T.cl, T.nB, by show 1 < 1000; decide, ?_⟩
    rw [upd_upd]
    exact q
end
end K10

set_option maxHeartbeats 4000000
namespace K10
open PySem PySem.Spec PyProof.Rows L2 RtL
section
variable {K : Fr} {H H1 : Hp} {Q : VK}
/-- what a Ratio that is made asks of its __init__ -/
theorem made {p q : Int} (hq : q ≠ 0) (bp : Bd 3000 p) (bq : Bd 3000 q) (c : ∀ x H', Same H1 H' → RatAt K H' x (lowT p q) (lowB p q) → H1 x = none → Q (.ref x) H') :
    ∀ x dx, H1 x = none → H1 dx = none → dx ≠ x → spInit K [.ref x, .int p, .int q] (upd (upd H1 dx (.own x)) x (.ins (RC K) dx [])) (fun v H2 => v = .non ∧ Q (.ref x) H2) E0 := fun x dx nx nd ne => by
  refine ⟨x, dx, p, q, rfl, hq, bp, bq, upd_same, rfl, ?_⟩
  rw [upd_upd]
  refine c x _ (fun b o e => ?_) ⟨dx, upd_same⟩ nx
  rw [upd_ne (ne_of_none e nx), upd_ne (ne_of_none e nd)]
  exact e
theorem low_one (i : Int) : lowT i 1 = i ∧ lowB i 1 = 1 := by
  have e : lowS i 1 = 1 := by
    unfold lowS sg
    rw [if_neg (by decide), show (1 : Int).natAbs = 1 from rfl, Nat.gcd_one_right]
    rfl
  unfold lowT lowB
  rw [e]
  exact ⟨Int.fdiv_one _, rfl⟩
end
section
variable {P : Program} {w : World} {K : Fr} {mg : Str → Option Value} {base : Heap} {f : Addr} {fd : FuncData}
/-- a def that can be called by its name, wherever -/
structure Gd (P : Program) (w : World) (K : Fr) (mg : Str → Option Value) (base : Heap) (k : Nat) (x : Str) (f : Addr) (fd : FuncData) (ps : List Str) (sp : Sp) : Prop where
  ok : FnOk P w K mg base CX0 k f fd ps sp
  gl : mg x = some (.ref f)
  kp : PySem.W.keepIn K (.ref f) = true
  bd : Binds K fd ps []
/-- a method or a getter of the class -/
structure Md (P : Program) (w : World) (K : Fr) (mg : Str → Option Value) (base : Heap) (k : Nat) (f : Addr) (fd : FuncData) (ps : List Str) (sp : Sp) : Prop where
  ok : FnOk P w K mg base CX0 k f fd ps sp
  bd : Binds K fd ps []
/-- Ratio's __init__, its arguments both given | the first alone -/
structure Id (P : Program) (w : World) (K : Fr) (mg : Str → Option Value) (base : Heap) (fd : FuncData) : Prop where
  ok : FnOk P w K mg base CX0 2 (rm K "__init__") fd ["self", "top", "bottom"] (spInit K)
  b2 : Binds K fd ["self", "top", "bottom"] []
  b1 : ∃ ds, Vals [V.int 1] ds ∧ Binds K fd ["self", "top", "bottom"] ds
section
variable {X : Cx} {k : Nat} {x : Str} {p pos : Pos} {e : Expr} {es : List Expr} {t : TA} {ps : List Str} {sp : Sp}
theorem pe_gd (C : Gd X.prog X.w X.K X.mg X.base k x f fd ps sp) (hr : Room k X.A) (hg : Gl X x) (ha : PA X (e :: es) t) (hdb : (x == ("__debug__" : Str)) = false := by decide) (he : starEach (e :: es) X.env = (false, eval e X.env) :: starEach es X.env := by rfl)
    (hpl : (backTo pos (starEach es X.env)).any (·.1) = false := by rfl) : PE X (.Call (.Name x p) (e :: es) [] pos) (tCall sp [] E0 t) := pe_call C.ok hr hg C.gl C.kp C.bd .nil pass0 ha hdb he hpl
theorem pe_rat2 (T : TT X.K X.mg) (I : Id X.prog X.w X.K X.mg X.base fd) (hr : Room 3 X.A) (hg : Gl X "Ratio") (ha : PA X (e :: es) t) (he : starEach (e :: es) X.env = (false, eval e X.env) :: starEach es X.env := by rfl)
    (hpl : (backTo pos (starEach es X.env)).any (·.1) = false := by rfl) : PE X (.Call (.Name "Ratio" p) (e :: es) [] pos) (tMake (RC X.K) (spInit X.K) [] E0 t) := pe_make T.mkr I.ok hr hg (T.gl "Ratio" (by decide)) I.b2 .nil pass0 ha (by decide) he hpl
theorem pe_rat1 (T : TT X.K X.mg) (I : Id X.prog X.w X.K X.mg X.base fd) (hr : Room 3 X.A) (hg : Gl X "Ratio") (ha : PA X [e] t) (he : starEach [e] X.env = (false, eval e X.env) :: starEach [] X.env := by rfl)
    (hpl : (backTo pos (starEach [] X.env)).any (·.1) = false := by rfl) : PE X (.Call (.Name "Ratio" p) [e] [] pos) (tMake (RC X.K) (spInit X.K) [.int 1] E0 t) := by
  obtain ⟨ds, hd, hb⟩ := I.b1
  exact pe_make T.mkr I.ok hr hg (T.gl "Ratio" (by decide)) hb hd pass0 ha (by decide) he hpl
end
/-! ### as_ratio -/
abbrev s_asr : Stmt := top 10
theorem sc_asr : FnScope ["number"] ["number"] (defScope s_asr) := ⟨rfl, rfl, rfl, by decide +kernel, rfl, by decide +kernel, by decide +kernel⟩
/-- a number: a ratio's parts, or a whole number over 1 -/
def Num (K : Fr) (H : Hp) (v : V) (t b : Int) : Prop := (∃ a, v = .ref a ∧ RatAt K H a t b) ∨ (v = .int t ∧ b = 1)
theorem Num.same {H H' : Hp} {v : V} {t b : Int} (h : Num K H v t b) (s : Same H H') : Num K H' v t b := h.imp (fun ⟨a, e, r⟩ => ⟨a, e, r.same s⟩) id
def spAsr (K : Fr) : Sp := fun vs H Q _ => ∃ v t b, vs = [v] ∧ Num K H v t b ∧ Bd 1000 t ∧ ∀ a H', Same H H' → RatAt K H' a t b → Q (.ref a) H'
theorem bd_up {n m : Nat} {i : Int} (h : Bd n i) (l : n ≤ m) : Bd m i := Nat.lt_of_lt_of_le h (Nat.pow_le_pow_right (by decide) l)
theorem bd1 {n : Nat} (h : 1 ≤ n) : Bd n 1 := bd_up (n := 1) (by decide) h
theorem ok_asr (F : FunD K "as_ratio" "as_ratio" (defArgs s_asr) (defBody s_asr) (defScope s_asr) [] [] f fd) (T : TT K mg) {dI : FuncData} (I : Id P w K mg base dI) : FnOk P w K mg base CX0 4 f fd ["number"] (spAsr K) := by
  refine F.ok sc_asr (fun vs H Q E h => ?_) (fun cdv A outer s H vs Q E hr h => ?_)
  · obtain ⟨v, t, b, rfl, _⟩ := h
    rfl
  · obtain ⟨v, t, b, rfl, hn, ht, q⟩ := h
    refine ⟨_, PSs.nox (pss_cons (ps_if (pt_val (pe_callB call_isi (by rfl) T.fre (by decide +kernel) (pa_cons (pv 0) (pa_cons (pe_glob (v := .ref (RC K)) (by rfl) (T.gl "Ratio" (by decide)) rfl) pa_nil)))) (pss_one (ps_ret (pv 0))) pss_nil)
      (pss_one (ps_ret (pe_rat1 T I hr (by rfl) (pa_cons (pv 0) pa_nil))))), ?_⟩
    rcases hn with ⟨a, rfl, dx, ea⟩ | ⟨rfl, rfl⟩
    · exact ⟨_, rfl, _, _, _, _, true, rfl, .own _, T.ty ea, T.kitR, true, rfl, iteT ⟨_, rfl, q a H (Same.refl _) ⟨dx, ea⟩⟩⟩
    · refine ⟨_, rfl, _, _, _, _, false, rfl, .own _, .base (.int t), T.kitT "int" (by decide), false, rfl, iteF ⟨_, rfl, made (p := t) (q := 1) (by decide) (bd_up ht (by decide)) (bd1 (by decide)) fun x H' s' r' _ => ?_⟩⟩
      rw [(low_one t).1, (low_one t).2] at r'
      exact q x H' s' r'
/-! ### the getters -/
theorem sc_top : FnScope ["self"] ["self"] (defScope (inR 1)) := ⟨rfl, rfl, rfl, by decide +kernel, rfl, by decide +kernel, by decide +kernel⟩
theorem sc_bot : FnScope ["self"] ["self"] (defScope (inR 2)) := ⟨rfl, rfl, rfl, by decide +kernel, rfl, by decide +kernel, by decide +kernel⟩
theorem sc_sign : FnScope ["self"] ["self"] (defScope (inR 3)) := ⟨rfl, rfl, rfl, by decide +kernel, rfl, by decide +kernel, by decide +kernel⟩
def spGet (K : Fr) (g : Int → Int → Int) : Sp := fun vs H Q _ => ∃ a t b, vs = [.ref a] ∧ RatAt K H a t b ∧ Q (.int (g t b)) H
theorem ok_top {q : Str} (F : FunD K "top" q (defArgs (inR 1)) (defBody (inR 1)) (defScope (inR 1)) [] [] f fd) (T : TT K mg) : FnOk P w K mg base CX0 1 f fd ["self"] (spGet K fun t _ => t) := by
  refine F.ok sc_top (fun vs H Q E h => ?_) (fun cdv A outer s H vs Q E hr h => ?_)
  · obtain ⟨a, t, b, rfl, _⟩ := h
    rfl
  · obtain ⟨a, t, b, rfl, ⟨dx, ea⟩, q⟩ := h
    exact ⟨_, PSs.nox (pss_one (ps_ret (pe_fld (pv 0) rfl))), _, rfl, a, _, dx, _, _, rfl, ea, T.cl, T.nT, rfl, q⟩
theorem ok_bot {q : Str} (F : FunD K "bottom" q (defArgs (inR 2)) (defBody (inR 2)) (defScope (inR 2)) [] [] f fd) (T : TT K mg) : FnOk P w K mg base CX0 1 f fd ["self"] (spGet K fun _ b => b) := by
  refine F.ok sc_bot (fun vs H Q E h => ?_) (fun cdv A outer s H vs Q E hr h => ?_)
  · obtain ⟨a, t, b, rfl, _⟩ := h
    rfl
  · obtain ⟨a, t, b, rfl, ⟨dx, ea⟩, q⟩ := h
    exact ⟨_, PSs.nox (pss_one (ps_ret (pe_fld (pv 0) rfl))), _, rfl, a, _, dx, _, _, rfl, ea, T.cl, T.nB, rfl, q⟩
def sgn (t : Int) : Int := if t = 0 then 0 else if 0 < t then 1 else -1
theorem ok_sign {q : Str} (F : FunD K "sign" q (defArgs (inR 3)) (defBody (inR 3)) (defScope (inR 3)) [] [] f fd) (T : TT K mg) : FnOk P w K mg base CX0 1 f fd ["self"] (spGet K fun t _ => sgn t) := by
  refine F.ok sc_sign (fun vs H Q E h => ?_) (fun cdv A outer s H vs Q E hr h => ?_)
  · obtain ⟨a, t, b, rfl, _⟩ := h
    rfl
  · obtain ⟨a, t, b, rfl, ⟨dx, ea⟩, q⟩ := h
    have q : Q (.int (sgn t)) H := q
    refine ⟨_, PSs.nox (pss_cons (ps_if (pt_cmpR op_eq (pe_fld (pv 0) rfl) pe_int (nomark _)) (pss_one (ps_ret pe_int)) pss_nil) (pss_one (ps_ret (pe_ifExp (pt_cmpR op_gt (pe_fld (pv 0) rfl) pe_int (nomark _)) pe_int (pe_un un_neg pe_int))))), ?_⟩
    refine ⟨_, rfl, a, _, dx, _, _, rfl, ea, T.cl, T.nT, rfl, rfl, _, rfl, ite2 (fun h => ?_) (fun h => ⟨_, rfl, a, _, dx, _, _, rfl, ea, T.cl, T.nT, rfl, t, 0, rfl, rfl, _, rfl, ite2 (fun h' => ?_) (fun h' => ?_)⟩)⟩
    · have z : t = 0 := by
        have y := of_decide_eq_true h
        injection y
      subst z
      exact q
    · have z : ¬ t = 0 := fun y => h (decide_eq_true (by rw [y]))
      have z' : 0 < t := of_decide_eq_true h'
      rw [show sgn t = 1 from (if_neg z).trans (if_pos z')] at q
      exact q
    · have z : ¬ t = 0 := fun y => h (decide_eq_true (by rw [y]))
      have z' : ¬ 0 < t := fun y => h' (decide_eq_true y)
      rw [show sgn t = -1 from (if_neg z).trans (if_neg z')] at q
      exact ⟨_, rfl, q⟩
end
end K10

set_option maxHeartbeats 4000000
namespace K10
open PySem PySem.Spec PyProof.Rows L2 RtL
theorem bd_mul {n m : Nat} {i j : Int} (h : Bd n i) (h' : Bd m j) : Bd (n + m) (i * j) := wide_lt h h'
theorem bd_add {n : Nat} {i j : Int} (h : Bd n i) (h' : Bd n j) : Bd (n + 1) (i + j) := by
  show (i + j).natAbs < 2 ^ (n + 1)
  have a : i.natAbs < 2 ^ n := h
  have b : j.natAbs < 2 ^ n := h'
  rw [Nat.pow_succ]
  omega
theorem bd_neg {n : Nat} {i : Int} (h : Bd n i) : Bd n (-i) := by
  show (-i).natAbs < 2 ^ n
  rw [Int.natAbs_neg]
  exact h
theorem bd_sub {n : Nat} {i j : Int} (h : Bd n i) (h' : Bd n j) : Bd (n + 1) (i - j) := by
  rw [Int.sub_eq_add_neg]
  exact bd_add h (bd_neg h')
theorem cm {i j : Int} (h : Bd 1000 i) (h' : Bd 1000 j) : CMulW i j := wide_mul h h' (by decide) (by decide) (by decide)
section
variable {P : Program} {w : World} {K : Fr} {mg : Str → Option Value} {base : Heap} {f : Addr} {fd : FuncData}
/-- the getters, as_ratio and __init__ -/
structure Pr (P : Program) (w : World) (K : Fr) (mg : Str → Option Value) (base : Heap) : Prop where
  t : ∃ d, Md P w K mg base 1 (recA K (RC K) "top" "property") d ["self"] (spGet K fun t _ => t)
  b : ∃ d, Md P w K mg base 1 (recA K (RC K) "bottom" "property") d ["self"] (spGet K fun _ b => b)
  r : ∃ f d, Gd P w K mg base 4 "as_ratio" f d ["number"] (spAsr K)
  i : ∃ d, Id P w K mg base d
/-- what a method of two operands does: the parts of both, what is made of them -/
def spOp (K : Fr) (n d : Int → Int → Int → Int → Int) : Sp := fun vs H Q _ => ∃ a v t b t2 b2, vs = [.ref a, v] ∧ RatAt K H a t b ∧ Num K H v t2 b2 ∧ Bd 1000 t ∧ Bd 1000 b ∧ Bd 1000 t2 ∧ Bd 1000 b2 ∧ d t b t2 b2 ≠ 0 ∧
  ∀ x H', Same H H' → RatAt K H' x (lowT (n t b t2 b2) (d t b t2 b2)) (lowB (n t b t2 b2) (d t b t2 b2)) → Q (.ref x) H'
theorem sc_add : FnScope ["self", "other", "right"] ["self", "other"] (defScope (inR 7)) := ⟨rfl, rfl, rfl, by decide +kernel, rfl, by decide +kernel, by decide +kernel⟩
theorem ok_add (F : FunD K "__add__" "Ratio.__add__" (defArgs (inR 7)) (defBody (inR 7)) (defScope (inR 7)) [] [] f fd) (T : TT K mg) (D : Pr P w K mg base) :
    FnOk P w K mg base CX0 5 f fd ["self", "other"] (spOp K (fun t b t2 b2 => t * b2 + t2 * b) fun _ b _ b2 => b * b2) := by
  obtain ⟨⟨dT, MT⟩, ⟨dB, MB⟩, ⟨fR, dR, GR⟩, ⟨dI, I⟩⟩ := D
  refine F.ok sc_add (fun vs H Q E h => ?_) (fun cdv A outer s H vs Q E hr h => ?_)
  · obtain ⟨a, v, t, b, t2, b2, rfl, _⟩ := h
    rfl
  · obtain ⟨a, v, t, b, t2, b2, rfl, ⟨dx, ea⟩, hv, ht, hb, ht2, hb2, hd, q⟩ := h
    refine ⟨_, PSs.nox (pss_cons (ps_set (i := 2) sc_add.nd rfl (Or.inl rfl) (pe_gd GR hr (by rfl) (pa_cons (pv 1) pa_nil)))
      (pss_one (ps_ret (pe_rat2 T I (hr.mono (by decide)) (by rfl) (pa_cons (pe_op op_add (pe_op op_mulW (pe_fld (pv 0) rfl) (pe_prop (pv 2) T.cl (T.prop "bottom" (by decide)) MB.ok (hr.mono (by decide)) MB.bd .nil pass0 rfl)) (pe_op op_mulW (pe_prop (pv 2) T.cl (T.prop "top" (by decide)) MT.ok (hr.mono (by decide)) MT.bd .nil pass0 rfl) (pe_fld (pv 0) rfl)))
        (pa_cons (pe_op op_mulW (pe_fld (pv 0) rfl) (pe_prop (pv 2) T.cl (T.prop "bottom" (by decide)) MB.ok (hr.mono (by decide)) MB.bd .nil pass0 rfl)) pa_nil)))))), ?_⟩
    refine ⟨_, rfl, v, t2, b2, rfl, hv, ht2, fun c H1 s1 r1 => ?_⟩
    obtain ⟨dy, ec⟩ := r1
    have ea1 := s1 _ _ ea
    refine ⟨_, rfl, a, _, dx, _, _, rfl, ea1, T.cl, T.nT, rfl, _, rfl, c, dy, _, rfl, ec, c, t2, b2, rfl, ⟨dy, ec⟩, t, b2, rfl, rfl, cm ht hb2, _, rfl, c, dy, _, rfl, ec, c, t2, b2, rfl, ⟨dy, ec⟩, _, rfl, a, _, dx, _, _, rfl, ea1, T.cl, T.nB, rfl, t2, b, rfl, rfl, cm ht2 hb, _, _, rfl, rfl, ?_⟩
    refine ⟨_, rfl, a, _, dx, _, _, rfl, ea1, T.cl, T.nB, rfl, _, rfl, c, dy, _, rfl, ec, c, t2, b2, rfl, ⟨dy, ec⟩, b, b2, rfl, rfl, cm hb hb2, ?_⟩
    exact made hd (bd_up (bd_add (bd_mul ht hb2) (bd_mul ht2 hb)) (by decide)) (bd_up (bd_mul hb hb2) (by decide)) fun x H' s' r' _ => q x H' (s1.trans s') r'
theorem sc_sub : FnScope ["self", "other", "right"] ["self", "other"] (defScope (inR 8)) := ⟨rfl, rfl, rfl, by decide +kernel, rfl, by decide +kernel, by decide +kernel⟩
theorem ok_sub (F : FunD K "__sub__" "Ratio.__sub__" (defArgs (inR 8)) (defBody (inR 8)) (defScope (inR 8)) [] [] f fd) (T : TT K mg) (D : Pr P w K mg base) :
    FnOk P w K mg base CX0 5 f fd ["self", "other"] (spOp K (fun t b t2 b2 => t * b2 - t2 * b) fun _ b _ b2 => b * b2) := by
  obtain ⟨⟨dT, MT⟩, ⟨dB, MB⟩, ⟨fR, dR, GR⟩, ⟨dI, I⟩⟩ := D
  refine F.ok sc_sub (fun vs H Q E h => ?_) (fun cdv A outer s H vs Q E hr h => ?_)
  · obtain ⟨a, v, t, b, t2, b2, rfl, _⟩ := h
    rfl
  · obtain ⟨a, v, t, b, t2, b2, rfl, ⟨dx, ea⟩, hv, ht, hb, ht2, hb2, hd, q⟩ := h
    refine ⟨_, PSs.nox (pss_cons (ps_set (i := 2) sc_sub.nd rfl (Or.inl rfl) (pe_gd GR hr (by rfl) (pa_cons (pv 1) pa_nil)))
      (pss_one (ps_ret (pe_rat2 T I (hr.mono (by decide)) (by rfl) (pa_cons (pe_op op_sub (pe_op op_mulW (pe_fld (pv 0) rfl) (pe_prop (pv 2) T.cl (T.prop "bottom" (by decide)) MB.ok (hr.mono (by decide)) MB.bd .nil pass0 rfl)) (pe_op op_mulW (pe_prop (pv 2) T.cl (T.prop "top" (by decide)) MT.ok (hr.mono (by decide)) MT.bd .nil pass0 rfl) (pe_fld (pv 0) rfl)))
        (pa_cons (pe_op op_mulW (pe_fld (pv 0) rfl) (pe_prop (pv 2) T.cl (T.prop "bottom" (by decide)) MB.ok (hr.mono (by decide)) MB.bd .nil pass0 rfl)) pa_nil)))))), ?_⟩
    refine ⟨_, rfl, v, t2, b2, rfl, hv, ht2, fun c H1 s1 r1 => ?_⟩
    obtain ⟨dy, ec⟩ := r1
    have ea1 := s1 _ _ ea
    refine ⟨_, rfl, a, _, dx, _, _, rfl, ea1, T.cl, T.nT, rfl, _, rfl, c, dy, _, rfl, ec, c, t2, b2, rfl, ⟨dy, ec⟩, t, b2, rfl, rfl, cm ht hb2, _, rfl, c, dy, _, rfl, ec, c, t2, b2, rfl, ⟨dy, ec⟩, _, rfl, a, _, dx, _, _, rfl, ea1, T.cl, T.nB, rfl, t2, b, rfl, rfl, cm ht2 hb, _, _, rfl, rfl, ?_⟩
    refine ⟨_, rfl, a, _, dx, _, _, rfl, ea1, T.cl, T.nB, rfl, _, rfl, c, dy, _, rfl, ec, c, t2, b2, rfl, ⟨dy, ec⟩, b, b2, rfl, rfl, cm hb hb2, ?_⟩
    exact made hd (bd_up (bd_sub (bd_mul ht hb2) (bd_mul ht2 hb)) (by decide)) (bd_up (bd_mul hb hb2) (by decide)) fun x H' s' r' _ => q x H' (s1.trans s') r'
theorem sc_mul : FnScope ["self", "other", "right"] ["self", "other"] (defScope (inR 9)) := ⟨rfl, rfl, rfl, by decide +kernel, rfl, by decide +kernel, by decide +kernel⟩
theorem ok_mul (F : FunD K "__mul__" "Ratio.__mul__" (defArgs (inR 9)) (defBody (inR 9)) (defScope (inR 9)) [] [] f fd) (T : TT K mg) (D : Pr P w K mg base) :
    FnOk P w K mg base CX0 5 f fd ["self", "other"] (spOp K (fun t _ t2 _ => t * t2) fun _ b _ b2 => b * b2) := by
  obtain ⟨⟨dT, MT⟩, ⟨dB, MB⟩, ⟨fR, dR, GR⟩, ⟨dI, I⟩⟩ := D
  refine F.ok sc_mul (fun vs H Q E h => ?_) (fun cdv A outer s H vs Q E hr h => ?_)
  · obtain ⟨a, v, t, b, t2, b2, rfl, _⟩ := h
    rfl
  · obtain ⟨a, v, t, b, t2, b2, rfl, ⟨dx, ea⟩, hv, ht, hb, ht2, hb2, hd, q⟩ := h
    refine ⟨_, PSs.nox (pss_cons (ps_set (i := 2) sc_mul.nd rfl (Or.inl rfl) (pe_gd GR hr (by rfl) (pa_cons (pv 1) pa_nil)))
      (pss_one (ps_ret (pe_rat2 T I (hr.mono (by decide)) (by rfl) (pa_cons (pe_op op_mulW (pe_fld (pv 0) rfl) (pe_prop (pv 2) T.cl (T.prop "top" (by decide)) MT.ok (hr.mono (by decide)) MT.bd .nil pass0 rfl))
        (pa_cons (pe_op op_mulW (pe_fld (pv 0) rfl) (pe_prop (pv 2) T.cl (T.prop "bottom" (by decide)) MB.ok (hr.mono (by decide)) MB.bd .nil pass0 rfl)) pa_nil)))))), ?_⟩
    refine ⟨_, rfl, v, t2, b2, rfl, hv, ht2, fun c H1 s1 r1 => ?_⟩
    obtain ⟨dy, ec⟩ := r1
    have ea1 := s1 _ _ ea
    refine ⟨_, rfl, a, _, dx, _, _, rfl, ea1, T.cl, T.nT, rfl, _, rfl, c, dy, _, rfl, ec, c, t2, b2, rfl, ⟨dy, ec⟩, t, t2, rfl, rfl, cm ht ht2, ?_⟩
    refine ⟨_, rfl, a, _, dx, _, _, rfl, ea1, T.cl, T.nB, rfl, _, rfl, c, dy, _, rfl, ec, c, t2, b2, rfl, ⟨dy, ec⟩, b, b2, rfl, rfl, cm hb hb2, ?_⟩
    exact made hd (bd_up (bd_mul ht ht2) (by decide)) (bd_up (bd_mul hb hb2) (by decide)) fun x H' s' r' _ => q x H' (s1.trans s') r'
theorem sc_neg : FnScope ["self"] ["self"] (defScope (inR 10)) := ⟨rfl, rfl, rfl, by decide +kernel, rfl, by decide +kernel, by decide +kernel⟩
def spNeg (K : Fr) : Sp := fun vs H Q _ => ∃ a t b, vs = [.ref a] ∧ RatAt K H a t b ∧ Bd 1000 t ∧ Bd 1000 b ∧ b ≠ 0 ∧ ∀ x H', Same H H' → RatAt K H' x (lowT (-t) b) (lowB (-t) b) → Q (.ref x) H'
theorem ok_neg (F : FunD K "__neg__" "Ratio.__neg__" (defArgs (inR 10)) (defBody (inR 10)) (defScope (inR 10)) [] [] f fd) (T : TT K mg) (D : Pr P w K mg base) : FnOk P w K mg base CX0 4 f fd ["self"] (spNeg K) := by
  obtain ⟨_, _, _, ⟨dI, I⟩⟩ := D
  refine F.ok sc_neg (fun vs H Q E h => ?_) (fun cdv A outer s H vs Q E hr h => ?_)
  · obtain ⟨a, t, b, rfl, _⟩ := h
    rfl
  · obtain ⟨a, t, b, rfl, ⟨dx, ea⟩, ht, hb, hd, q⟩ := h
    refine ⟨_, PSs.nox (pss_one (ps_ret (pe_rat2 T I hr (by rfl) (pa_cons (pe_un un_neg (pe_fld (pv 0) rfl)) (pa_cons (pe_fld (pv 0) rfl) pa_nil))))), ?_⟩
    refine ⟨_, rfl, a, _, dx, _, _, rfl, ea, T.cl, T.nT, rfl, _, rfl, _, rfl, a, _, dx, _, _, rfl, ea, T.cl, T.nB, rfl, ?_⟩
    exact made hd (bd_up (bd_neg ht) (by decide)) (bd_up hb (by decide)) fun x H' s' r' _ => q x H' s' r'
theorem sc_below : FnScope ["self", "other", "right"] ["self", "other"] (defScope (inR 6)) := ⟨rfl, rfl, rfl, by decide +kernel, rfl, by decide +kernel, by decide +kernel⟩
def spBelow (K : Fr) : Sp := fun vs H Q _ => ∃ a v t b t2 b2, vs = [.ref a, v] ∧ RatAt K H a t b ∧ Num K H v t2 b2 ∧ Bd 1000 t ∧ Bd 1000 b ∧ Bd 1000 t2 ∧ Bd 1000 b2 ∧ ∀ H', Same H H' → Q (.bl (decide (t * b2 < t2 * b))) H'
theorem ok_below (F : FunD K "is_below" "Ratio.is_below" (defArgs (inR 6)) (defBody (inR 6)) (defScope (inR 6)) [] [] f fd) (T : TT K mg) (D : Pr P w K mg base) : FnOk P w K mg base CX0 5 f fd ["self", "other"] (spBelow K) := by
  obtain ⟨⟨dT, MT⟩, ⟨dB, MB⟩, ⟨fR, dR, GR⟩, _⟩ := D
  refine F.ok sc_below (fun vs H Q E h => ?_) (fun cdv A outer s H vs Q E hr h => ?_)
  · obtain ⟨a, v, t, b, t2, b2, rfl, _⟩ := h
    rfl
  · obtain ⟨a, v, t, b, t2, b2, rfl, ⟨dx, ea⟩, hv, ht, hb, ht2, hb2, q⟩ := h
    refine ⟨_, PSs.nox (pss_cons (ps_set (i := 2) sc_below.nd rfl (Or.inl rfl) (pe_gd GR hr (by rfl) (pa_cons (pv 1) pa_nil)))
      (pss_one (ps_ret (pe_cmpR op_lt (pe_op op_mulW (pe_fld (pv 0) rfl) (pe_prop (pv 2) T.cl (T.prop "bottom" (by decide)) MB.ok (hr.mono (by decide)) MB.bd .nil pass0 rfl)) (pe_op op_mulW (pe_prop (pv 2) T.cl (T.prop "top" (by decide)) MT.ok (hr.mono (by decide)) MT.bd .nil pass0 rfl) (pe_fld (pv 0) rfl)) (nomark _))))), ?_⟩
    refine ⟨_, rfl, v, t2, b2, rfl, hv, ht2, fun c H1 s1 r1 => ?_⟩
    obtain ⟨dy, ec⟩ := r1
    have ea1 := s1 _ _ ea
    exact ⟨_, rfl, a, _, dx, _, _, rfl, ea1, T.cl, T.nT, rfl, _, rfl, c, dy, _, rfl, ec, c, t2, b2, rfl, ⟨dy, ec⟩, t, b2, rfl, rfl, cm ht hb2, _, rfl, c, dy, _, rfl, ec, c, t2, b2, rfl, ⟨dy, ec⟩, _, rfl, a, _, dx, _, _, rfl, ea1, T.cl, T.nB, rfl, t2, b, rfl, rfl, cm ht2 hb, _, _, rfl, rfl, q H1 s1⟩
theorem sc_eq : FnScope ["self", "other"] ["self", "other"] (defScope (inR 11)) := ⟨rfl, rfl, rfl, by decide +kernel, rfl, by decide +kernel, by decide +kernel⟩
def spEq (K : Fr) : Sp := fun vs H Q _ => ∃ a v t b, vs = [.ref a, v] ∧ RatAt K H a t b ∧ ((∃ c t2 b2, v = .ref c ∧ RatAt K H c t2 b2 ∧ Q (.bl (decide (t = t2) && decide (b = b2))) H) ∨ ((∃ i, v = .int i) ∨ (∃ z, v = .str z)) ∧ Q (.bl false) H)
theorem ok_eq (F : FunD K "__eq__" "Ratio.__eq__" (defArgs (inR 11)) (defBody (inR 11)) (defScope (inR 11)) [] [] f fd) (T : TT K mg) : FnOk P w K mg base CX0 1 f fd ["self", "other"] (spEq K) := by
  refine F.ok sc_eq (fun vs H Q E h => ?_) (fun cdv A outer s H vs Q E hr h => ?_)
  · obtain ⟨a, v, t, b, rfl, _⟩ := h
    rfl
  · obtain ⟨a, v, t, b, rfl, ⟨dx, ea⟩, h⟩ := h
    refine ⟨_, PSs.nox (pss_one (ps_ret (pe_and (pe_callB call_isi (by rfl) T.fre (by decide +kernel) (pa_cons (pv 1) (pa_cons (pe_glob (v := .ref (RC K)) (by rfl) (T.gl "Ratio" (by decide)) rfl) pa_nil)))
      (pe_and (pe_cmpR op_eq (pe_fld (pv 0) rfl) (pe_fld (pv 1) rfl) (nomark _)) (pe_one (pe_cmpR op_eq (pe_fld (pv 0) rfl) (pe_fld (pv 1) rfl) (nomark _))))))), ?_⟩
    rcases h with ⟨c, t2, b2, rfl, ⟨dy, ec⟩, q⟩ | ⟨h, q⟩
    · refine ⟨_, rfl, _, _, _, _, true, rfl, .own _, T.ty ec, T.kitR, true, rfl, iteT ⟨_, rfl, a, _, dx, _, _, rfl, ea, T.cl, T.nT, rfl, _, rfl, c, _, dy, _, _, rfl, ec, T.cl, T.nT, rfl, rfl, _, rfl, ite2 (fun h => ?_) (fun h => ?_)⟩⟩
      · have z : t = t2 := by
          have y := of_decide_eq_true h
          injection y
        refine ⟨_, rfl, a, _, dx, _, _, rfl, ea, T.cl, T.nB, rfl, _, rfl, c, _, dy, _, _, rfl, ec, T.cl, T.nB, rfl, rfl, ?_⟩
        have y : decide (V.int b = V.int b2) = decide (b = b2) := by simp
        rw [y]
        rw [decide_eq_true z, Bool.true_and] at q
        exact q
      · have z : ¬ t = t2 := fun y => h (decide_eq_true (by rw [y]))
        rw [decide_eq_false z, Bool.false_and] at q
        exact q
    · rcases h with ⟨i, rfl⟩ | ⟨z, rfl⟩
      · exact ⟨_, rfl, _, _, _, _, false, rfl, .own _, .base (.int i), T.kitT "int" (by decide), false, rfl, iteF q⟩
      · exact ⟨_, rfl, _, _, _, _, false, rfl, .own _, .base (.str z), T.kitT "str" (by decide), false, rfl, iteF q⟩
end
end K10

set_option maxHeartbeats 4000000
namespace K10
open PySem PySem.Spec PyProof.Rows L2 RtL
abbrev T_ (i : Int) : Str := toString i
theorem nil_app (x : Str) : Str.empty ++ x = x := by
  obtain ⟨c⟩ := x
  show (⟨#[] ++ c⟩ : Str) = ⟨c⟩
  rw [Array.empty_append]
def rtxt (t b : Int) : Str := if b = 1 then T_ t else T_ t ++ "/" ++ T_ b
def rrep (t b : Int) : Str := "Ratio(" ++ T_ t ++ ", " ++ T_ b ++ ")"
theorem t_len {i : Int} (h : Bd 1000 i) : (T_ i).length ≤ 1001 := by
  show (Str.ofString (toString i)).length ≤ _
  rw [PySem.ofString_length]
  by_cases z : i.natAbs = 0
  · exact int_text_length_le (by decide) (by rw [z]; decide)
  · exact int_text_length_le (by decide) ((Nat.log2_lt z).mpr h)
theorem log_of {i : Int} (h : Bd 1000 i) : i.natAbs.log2 < 1920 := Nat.lt_of_lt_of_le (PySem.Flt.log2_lt_of (by decide) h) (by decide)
section
variable {P : Program} {w : World} {K : Fr} {mg : Str → Option Value} {base : Heap} {f : Addr} {fd : FuncData}
def spTxt (K : Fr) (g : Int → Int → Str) : Sp := fun vs H Q _ => ∃ a t b, vs = [.ref a] ∧ RatAt K H a t b ∧ Bd 1000 t ∧ Bd 1000 b ∧ Q (.str (g t b)) H
theorem sc_str : FnScope ["self"] ["self"] (defScope (inR 12)) := ⟨rfl, rfl, rfl, by decide +kernel, rfl, by decide +kernel, by decide +kernel⟩
theorem sc_rep : FnScope ["self"] ["self"] (defScope (inR 13)) := ⟨rfl, rfl, rfl, by decide +kernel, rfl, by decide +kernel, by decide +kernel⟩
theorem ok_str (F : FunD K "__str__" "Ratio.__str__" (defArgs (inR 12)) (defBody (inR 12)) (defScope (inR 12)) [] [] f fd) (T : TT K mg) : FnOk P w K mg base CX0 1 f fd ["self"] (spTxt K rtxt) := by
  refine F.ok sc_str (fun vs H Q E h => ?_) (fun cdv A outer s H vs Q E hr h => ?_)
  · obtain ⟨a, t, b, rfl, _⟩ := h
    rfl
  · obtain ⟨a, t, b, rfl, ⟨dx, ea⟩, ht, hb, q⟩ := h
    have lt := t_len ht
    have lb := t_len hb
    refine ⟨_, PSs.nox (pss_cons (ps_if (pt_cmpR op_eq (pe_fld (pv 0) rfl) pe_int (nomark _)) (pss_one (ps_ret (pe_joined1 (pe_fmt (pe_fld (pv 0) rfl))))) pss_nil)
      (pss_one (ps_ret (pe_joined (.cons (pe_fmt (pe_fld (pv 0) rfl)) (.cons pe_str (.cons (pe_fmt (pe_fld (pv 0) rfl)) .nil))))))), ?_⟩
    refine ⟨_, rfl, a, _, dx, _, _, rfl, ea, T.cl, T.nB, rfl, rfl, _, rfl, ite2 (fun h => ?_) (fun h => ?_)⟩
    · have z : b = 1 := by
        have y := of_decide_eq_true h
        injection y
      subst z
      exact ⟨_, rfl, a, _, dx, _, _, rfl, ea, T.cl, T.nT, rfl, .inr ⟨t, rfl, log_of ht, q⟩⟩
    · have z : ¬ b = 1 := fun y => h (decide_eq_true (by rw [y]))
      refine ⟨_, rfl, a, _, dx, _, _, rfl, ea, T.cl, T.nT, rfl, .inr ⟨t, rfl, log_of ht, T_ t, rfl, ?_, "/", rfl, ?_, _, rfl, a, _, dx, _, _, rfl, ea, T.cl, T.nB, rfl, .inr ⟨b, rfl, log_of hb, T_ b, rfl, ?_, ?_⟩⟩⟩
      · rw [nil_app, sizeLine_eq]
        omega
      · rw [nil_app, strLen_append, sizeLine_eq, show ("/" : Str).length = 1 from rfl]
        omega
      · rw [nil_app, strLen_append, strLen_append, sizeLine_eq, show ("/" : Str).length = 1 from rfl]
        omega
      · rw [show rtxt t b = T_ t ++ "/" ++ T_ b from if_neg z] at q
        rw [nil_app]
        exact q
theorem ok_rep (F : FunD K "__repr__" "Ratio.__repr__" (defArgs (inR 13)) (defBody (inR 13)) (defScope (inR 13)) [] [] f fd) (T : TT K mg) : FnOk P w K mg base CX0 1 f fd ["self"] (spTxt K rrep) := by
  refine F.ok sc_rep (fun vs H Q E h => ?_) (fun cdv A outer s H vs Q E hr h => ?_)
  · obtain ⟨a, t, b, rfl, _⟩ := h
    rfl
  · obtain ⟨a, t, b, rfl, ⟨dx, ea⟩, ht, hb, q⟩ := h
    have lt := t_len ht
    have lb := t_len hb
    refine ⟨_, PSs.nox (pss_one (ps_ret (pe_joined (.cons pe_str (.cons (pe_fmt (pe_fld (pv 0) rfl)) (.cons pe_str (.cons (pe_fmt (pe_fld (pv 0) rfl)) (.cons pe_str .nil)))))))), ?_⟩
    have l1 : ("Ratio(" : Str).length = 6 := rfl
    have l2 : (", " : Str).length = 2 := rfl
    have l3 : (")" : Str).length = 1 := rfl
    refine ⟨"Ratio(", rfl, ?_, _, rfl, a, _, dx, _, _, rfl, ea, T.cl, T.nT, rfl, .inr ⟨t, rfl, log_of ht, T_ t, rfl, ?_, ", ", rfl, ?_, _, rfl, a, _, dx, _, _, rfl, ea, T.cl, T.nB, rfl, .inr ⟨b, rfl, log_of hb, T_ b, rfl, ?_, ")", rfl, ?_, ?_⟩⟩⟩
    · rw [nil_app, sizeLine_eq, l1]
      omega
    · rw [nil_app, strLen_append, sizeLine_eq, l1]
      omega
    · rw [nil_app, strLen_append, strLen_append, sizeLine_eq, l1, l2]
      omega
    · rw [nil_app, strLen_append, strLen_append, strLen_append, sizeLine_eq, l1, l2]
      omega
    · rw [nil_app, strLen_append, strLen_append, strLen_append, strLen_append, sizeLine_eq, l1, l2, l3]
      omega
    · rw [nil_app]
      exact q
end
/-! ### str(x), repr(x) -/
section
variable {X : Cx} {k : Nat} {f C : Addr} {fd : FuncData} {sp : Sp} {ps : List Str}
/-- f(x), x of the class: a method that makes a text -/
def rOwnTxt (C : Addr) (sp : Sp) : List V → Hp → VK → Prop := fun xs H Q => ∃ a dx fs, xs = [.ref a] ∧ H a = some (.ins C dx fs) ∧ sp [.ref a] H (fun v H' => (∃ z, v = .str z) ∧ Q v H') E0
theorem call_strOwn (hs : PySem.W.findIn X.K (.ref C) "__str__" = some (some (.ref f))) (hf : PySem.W.isFn X.K (.ref f) = true) (F : FnOk X.prog X.w X.K X.mg X.base CX0 k f fd ps sp) (hr : Room (k + 2) X.A) (hb : Binds X.K fd ps []) : CallR X (.type "str") (rOwnTxt C sp) := by
  intro pins s σ H xs us Q I r h
  obtain ⟨a, dx, fs, rfl, ha, q⟩ := h
  obtain ⟨u, rfl, rx⟩ := vals1 r
  cases (show u = Value.ref a from rx)
  obtain ⟨mA, oa, _⟩ := ins_get I.hok ha
  obtain ⟨od, J, _⟩ := oa.look
  have un := hr.un
  have hl : ([Value.ref a] ++ []).length = ps.length := by
    rw [← F.len _ _ _ _ q]
    rfl
  refine PySem.W.kso_call (by have := hr.in1.in1.un; omega) I.kIn J hs hf ?_
  refine wpAny_call (codeAny_mono (F.run X.A.in1.in1 X.stack s H ⟨[.ref a], []⟩ [.ref a] [.ref a] _ E0 hr.in1.in1 I.env0.in1.in1 (hb s [.ref a] I.kIn hl) (.cons rfl .nil) q) fun r s' hq => ?_)
  match r, hq with
  | .ok (.ret u), hq =>
    obtain ⟨v, H', I3, rv, ⟨z, ez⟩, q3⟩ := I.after hq
    subst ez
    obtain ⟨tk, e⟩ := rv
    subst e
    exact ⟨.str z, H', I3, ⟨tk, rfl⟩, q3⟩
  | .ok .next, hq => exact False.elim hq
  | .ok .brk, hq => exact False.elim hq
  | .ok .cont, hq => exact False.elim hq
  | .error e, hq => exact False.elim hq
theorem call_reprOwn (hs : PySem.W.findIn X.K (.ref C) "__repr__" = some (some (.ref f))) (hf : PySem.W.isFn X.K (.ref f) = true) (F : FnOk X.prog X.w X.K X.mg X.base CX0 k f fd ps sp) (hr : Room (k + 1) X.A) (hb : Binds X.K fd ps []) : CallR X (.builtin "repr") (rOwnTxt C sp) := by
  intro pins s σ H xs us Q I r h
  obtain ⟨a, dx, fs, rfl, ha, q⟩ := h
  obtain ⟨u, rfl, rx⟩ := vals1 r
  cases (show u = Value.ref a from rx)
  obtain ⟨mA, oa, _⟩ := ins_get I.hok ha
  obtain ⟨od, J, _⟩ := oa.look
  have un := hr.un
  have hl : ([Value.ref a] ++ []).length = ps.length := by
    rw [← F.len _ _ _ _ q]
    rfl
  obtain ⟨m, hF⟩ := I.fr
  refine PySem.W.repr_K (by show X.A.units + _ < cLine; omega) hF I.ok.mod.kin J hs hf ?_
  refine wpAny_call (codeAny_mono (F.run X.A.in1 X.stack s H ⟨[.ref a], []⟩ [.ref a] [.ref a] _ E0 hr.in1 I.env0.in1 (hb s [.ref a] I.kIn hl) (.cons rfl .nil) q) fun r s' hq => ?_)
  match r, hq with
  | .ok (.ret u), hq =>
    obtain ⟨v, H', I3, rv, ⟨z, ez⟩, q3⟩ := I.after hq
    subst ez
    obtain ⟨tk, e⟩ := rv
    subst e
    exact ⟨.str z, H', I3, ⟨tk, rfl⟩, q3⟩
  | .ok .next, hq => exact False.elim hq
  | .ok .brk, hq => exact False.elim hq
  | .ok .cont, hq => exact False.elim hq
  | .error e, hq => exact False.elim hq
end
end K10

set_option maxHeartbeats 4000000
namespace RtL
open PySem PySem.Spec PyProof.Rows L2
section
variable {X : Cx} {C : Addr} {bmB : List Value} {B newId initId : String}
/-- X(): an own error class without an own __init__ -/
theorem pmk_bare {x : Str} {p pos : Pos} (F : ExcBaseFacts B newId initId bmB) (q : PySem.W.excIn X.K C bmB newId = true) (gC : X.mg x = some (.ref C)) (kC : PySem.W.keepIn X.K (.ref C) = true) (r : Raises X (.ref C)) (hg : Gl X x)
    (hdb : (x == ("__debug__" : Str)) = false := by decide) : PMk X (.Call (.Name x p) [] [] pos) (fun _ H Q => Q (.ref C) none H) := by
  intro pins s σ H Q I h
  refine wpAny_Call_Name_kw (ld_glob I hg gC ?_ hdb)
  refine PySem.W.callWith_K0 I.kIn kC ?_
  obtain ⟨bm, N, nm, qn, bs, hdct, sn, sub, ab, col, dd, k0, k1, k2, k3, k5, mN, hC, hN, hni, T⟩ := exc_obj I.kIn q
  obtain ⟨hp, g, dr, tk, os⟩ := s
  show wpAny _ _ (call (.ref C) []) _ _ _
  refine wpAny_call_exc_subT F T hC hN hni (fun h' e hm => ?_) (by show 0 ≤ sizeLine; omega)
  exact mk_of I hm r h (I.hok.gone hm.new)
end
end RtL
namespace K10
open PySem PySem.Spec PyProof.Rows L2 RtL
section
variable {P : Program} {w : World} {K : Fr} {mg : Str → Option Value} {base : Heap} {f : Addr} {fd : FuncData}
abbrev DZ (K : Fr) : Addr := He.ga K "DividedByZero"
theorem sc_over : FnScope ["self", "other", "right"] ["self", "other"] (defScope (inR 5)) := ⟨rfl, rfl, rfl, by decide +kernel, rfl, by decide +kernel, by decide +kernel⟩
def spOver (K : Fr) : Sp := fun vs H Q E => ∃ a v t b t2 b2, vs = [.ref a, v] ∧ RatAt K H a t b ∧ Num K H v t2 b2 ∧ Bd 1000 t ∧ Bd 1000 b ∧ Bd 1000 t2 ∧ Bd 1000 b2 ∧ b ≠ 0 ∧
  ((t2 = 0 ∧ ∀ H', Same H H' → E (.ref (DZ K)) none H') ∨ (t2 ≠ 0 ∧ ∀ x H', Same H H' → RatAt K H' x (lowT (t * b2) (b * t2)) (lowB (t * b2) (b * t2)) → Q (.ref x) H'))
theorem ok_over (F : FunD K "over" "Ratio.over" (defArgs (inR 5)) (defBody (inR 5)) (defScope (inR 5)) [] [] f fd) (T : TT K mg) (D : Pr P w K mg base) :
    FnOk P w K mg base (L2.CX P w) 5 f fd ["self", "other"] (spOver K) := by
  obtain ⟨⟨dT, MT⟩, ⟨dB, MB⟩, ⟨fR, dR, GR⟩, ⟨dI, I⟩⟩ := D
  obtain ⟨x1, x2, x3, x4, x5, x6⟩ := T.exc
  refine F.ok sc_over (fun vs H Q E h => ?_) (fun cdv A outer s H vs Q E hr h => ?_)
  · obtain ⟨a, v, t, b, t2, b2, rfl, _⟩ := h
    rfl
  · obtain ⟨a, v, t, b, t2, b2, rfl, ⟨dx, ea⟩, hv, ht, hb, ht2, hb2, nb, h⟩ := h
    refine ⟨_, (pss_cons (ps_set (i := 2) sc_over.nd rfl (Or.inl rfl) (pe_gd GR hr (by rfl) (pa_cons (pv 1) pa_nil)))
      (pss_cons (ps_if (pt_cmpR op_eq (pe_prop (pv 2) T.cl (T.prop "top" (by decide)) MT.ok (hr.mono (by decide)) MT.bd .nil pass0 rfl) pe_int (nomark _)) (pss_one (ps_raise rfl (takes_of rfl rfl rfl rfl) (pmk_bare PySem.F.excBase_RuntimeError x1 (T.gl "DividedByZero" (by decide)) x2 (raises_own x3 x4) (by rfl)))) pss_nil)
      (pss_one (ps_ret (pe_rat2 T I (hr.mono (by decide)) (by rfl) (pa_cons (pe_op op_mulW (pe_fld (pv 0) rfl) (pe_prop (pv 2) T.cl (T.prop "bottom" (by decide)) MB.ok (hr.mono (by decide)) MB.bd .nil pass0 rfl))
        (pa_cons (pe_op op_mulW (pe_fld (pv 0) rfl) (pe_prop (pv 2) T.cl (T.prop "top" (by decide)) MT.ok (hr.mono (by decide)) MT.bd .nil pass0 rfl)) pa_nil))))))), ?_⟩
    refine ⟨_, rfl, v, t2, b2, rfl, hv, ht2, fun c H1 s1 r1 => ?_⟩
    obtain ⟨dy, ec⟩ := r1
    have ea1 := s1 _ _ ea
    refine ⟨_, rfl, c, dy, _, rfl, ec, c, t2, b2, rfl, ⟨dy, ec⟩, rfl, _, rfl, ite2 (fun z => ?_) (fun z => ?_)⟩
    · have e : t2 = 0 := by
        have y := of_decide_eq_true z
        injection y
      rcases h with ⟨_, q⟩ | ⟨n, _⟩
      · exact q H1 s1
      · exact absurd e n
    · have e : t2 ≠ 0 := fun y => z (decide_eq_true (by rw [y]))
      rcases h with ⟨n, _⟩ | ⟨_, q⟩
      · exact absurd n e
      · refine ⟨_, rfl, a, _, dx, _, _, rfl, ea1, T.cl, T.nT, rfl, _, rfl, c, dy, _, rfl, ec, c, t2, b2, rfl, ⟨dy, ec⟩, t, b2, rfl, rfl, cm ht hb2, ?_⟩
        refine ⟨_, rfl, a, _, dx, _, _, rfl, ea1, T.cl, T.nB, rfl, _, rfl, c, dy, _, rfl, ec, c, t2, b2, rfl, ⟨dy, ec⟩, b, t2, rfl, rfl, cm hb ht2, ?_⟩
        exact made (Int.mul_ne_zero nb e) (bd_up (bd_mul ht hb2) (by decide)) (bd_up (bd_mul hb ht2) (by decide)) fun x H' s' r' _ => q x H' (s1.trans s') r'
end
end K10

set_option maxHeartbeats 4000000
namespace RtL
open PySem PySem.Spec PyProof.Rows L2
section
variable {X : Cx} {CX : CXT} {k : Nat} {f C : Addr} {fd : FuncData} {ps : List Str} {sp : Sp} {E : XK} {x m : Str} {p pos apos : Pos} {e o : Expr} {es : List Expr} {tc ta : TE} {t : TA} {dvs : List V} {ds : List Value} {mc : Value} {q g : Addr} {pl : Sem Bool}
/-- x(..), x a local name that holds the class -/
theorem pe_makeL (hc : PE X (.Name x p) tc) (M : Mk X.K C f) (F : FnOk X.prog X.w X.K X.mg X.base CX k f fd ps sp) (hr : Room (k + 1) X.A) (hb : Binds X.K fd ps ds) (hd : Vals dvs ds) (hx : Passes CX X E)
    (ha : PA X (e :: es) t) (he : starEach (e :: es) X.env = (false, eval e X.env) :: starEach es X.env := by rfl) (hpl : (backTo pos (starEach es X.env)).any (·.1) = false := by rfl) :
    PE X (.Call (.Name x p) (e :: es) [] pos) (fun σ H Q => tc σ H fun c H1 => c = .ref C ∧ tMake C sp dvs E t σ H1 Q) := by
  refine ⟨fun pins s σ H Q I h => ?_⟩
  refine wpAny_Call_Name_kw (thn (hc.run pins s σ H _ I h) fun u s1 ⟨c, H1, I1, rc, ec, q⟩ => ?_)
  subst ec
  obtain rfl : u = Value.ref C := rc
  refine PySem.W.callWith_K (h₀ := X.base) I1.ok.mod.kin M.kp (thn (ha.run pos pins s1 σ H1 _ I1 q) fun us s2 ⟨vs, H2, I2, r, q2⟩ => ⟨I2.kIn, ?_⟩) he hpl
  exact run_make M F hr hb hd hx I2 r q2
/-- o.m(), o the class, m a classmethod -/
def tCMeth0 (C : Addr) (sp : Sp) (E : XK) (ta : TE) : TE := fun σ H Q => ta σ H fun x H1 => x = .ref C ∧ sp [.ref C] H1 Q E
theorem pe_cmeth0 (he : PE X o ta) (r : ClX.CRead X.K C mc) (c : ClX.CMet X.K C mc m q g) (F : FnR X.prog X.w X.K X.mg X.base CX k g sp) (hr : Room k X.A) (hx : Passes CX X E)
    (ht : eval (.Call (.Attribute o m apos) [] [] pos) X.env = (do
      let ov ← eval o X.env
      standAt apos.atName
      let (f, first) ← holding [ov] (getMethod ov m pl)
      callWith pos f first (backTo pos (starEach [] X.env)) (backToKw pos (keywordEach [] X.env))) := by rfl) :
    PE X (.Call (.Attribute o m apos) [] [] pos) (tCMeth0 C sp E ta) := by
  refine ⟨fun pins s σ H Q I h => ?_⟩
  refine PySem.W.methodCall_KW (pl := pl) (thn (he.run pins s σ H _ I h) fun u s1 ⟨x, H1, I1, rx, ex, q⟩ => ?_) ht
  subst ex
  obtain rfl : u = Value.ref C := rx
  refine ClX.getmethcm_ok I1 r c fun s2 I2 => ?_
  refine PySem.W.callWith_M0 (K := X.K) ⟨ClX.pin_at I2, I2.kIn⟩ c.fi ?_
  exact ClX.run_cm F hr hx I2 .nil q
end
end RtL
namespace K10
open PySem PySem.Spec PyProof.Rows L2 RtL
/-! ### low numbers, and sums of them -/
theorem lowS_dvd (t b : Int) : lowS t b ∣ t ∧ lowS t b ∣ b := by
  refine ⟨Int.natAbs_dvd_natAbs.mp ?_, Int.natAbs_dvd_natAbs.mp ?_⟩
  · rw [lowS_abs]
    exact Nat.gcd_dvd_left _ _
  · rw [lowS_abs]
    exact Nat.gcd_dvd_right _ _
theorem low_spec {t b : Int} (h : b ≠ 0) : t = lowS t b * lowT t b ∧ b = lowS t b * lowB t b := by
  have n := lowS_ne (t := t) h
  obtain ⟨⟨k, ek⟩, ⟨l, el⟩⟩ := lowS_dvd t b
  unfold lowT lowB
  generalize lowS t b = s at *
  subst ek el
  rw [Int.mul_fdiv_cancel_left k n, Int.mul_fdiv_cancel_left l n]
  exact ⟨rfl, rfl⟩
theorem bd_dvd {n : Nat} {s k i : Int} (e : i = s * k) (hs : s ≠ 0) (h : Bd n i) : Bd n k := by
  refine Nat.lt_of_le_of_lt ?_ h
  rw [e, Int.natAbs_mul]
  exact Nat.le_mul_of_pos_left _ (Int.natAbs_pos.mpr hs)
theorem lowT_bd {n : Nat} {t b : Int} (h : b ≠ 0) (ht : Bd n t) : Bd n (lowT t b) := bd_dvd (low_spec h).1 (lowS_ne h) ht
theorem lowB_bd {n : Nat} {t b : Int} (h : b ≠ 0) (hb : Bd n b) : Bd n (lowB t b) := bd_dvd (low_spec h).2 (lowS_ne h) hb
/-- in lowest terms, the second at least 1 -/
def Low (t b : Int) : Prop := 1 ≤ b ∧ t.natAbs.gcd b.natAbs = 1
theorem Low.ne {t b : Int} (h : Low t b) : b ≠ 0 := by have := h.1; omega
theorem lowS_of {t b : Int} (h : Low t b) : lowS t b = 1 := by
  have := h.1
  unfold lowS sg
  rw [h.2, if_neg (by omega)]
  rfl
theorem low_id {t b : Int} (h : Low t b) : lowT t b = t ∧ lowB t b = b := by
  unfold lowT lowB
  rw [lowS_of h]
  exact ⟨Int.fdiv_one _, Int.fdiv_one _⟩
theorem low_low {t b : Int} (h : b ≠ 0) : Low (lowT t b) (lowB t b) := by
  obtain ⟨e1, e2⟩ := low_spec (t := t) h
  have n := lowS_ne (t := t) h
  have ha := lowS_abs (t := t) (b := b)
  have hg : 0 < (lowS t b).natAbs := Int.natAbs_pos.mpr n
  have hsg : (b < 0 → lowS t b < 0) ∧ (¬ b < 0 → 0 < lowS t b) := by
    have g : 0 < t.natAbs.gcd b.natAbs := Nat.gcd_pos_of_pos_right _ (Int.natAbs_pos.mpr h)
    unfold lowS sg
    refine ⟨fun z => ?_, fun z => ?_⟩
    · rw [if_pos z]; omega
    · rw [if_neg z]; omega
  refine ⟨?_, ?_⟩
  · by_cases z : b < 0
    · have s := hsg.1 z
      by_cases y : 0 < lowB t b
      · exact y
      · have := Int.mul_nonneg_of_nonpos_of_nonpos (Int.le_of_lt s) (Int.not_lt.mp y)
        omega
    · have s := hsg.2 z
      by_cases y : 0 < lowB t b
      · exact y
      · have := Int.mul_nonpos_of_nonneg_of_nonpos (Int.le_of_lt s) (Int.not_lt.mp y)
        omega
  · have e : (lowS t b).natAbs * (lowT t b).natAbs.gcd (lowB t b).natAbs = (lowS t b).natAbs * 1 := by
      rw [← Nat.gcd_mul_left, ← Int.natAbs_mul, ← Int.natAbs_mul, ← e1, ← e2, ha, Nat.mul_one]
    exact Nat.eq_of_mul_eq_mul_left hg e
theorem Low.neg {t b : Int} (h : Low t b) : Low (-t) b := ⟨h.1, by rw [Int.natAbs_neg]; exact h.2⟩
theorem low_flip {t b : Int} (h : Low t b) : lowT (-t) (-b) = t ∧ lowB (-t) (-b) = b := by
  have e : lowS (-t) (-b) = -1 := by
    have := h.1
    unfold lowS sg
    rw [Int.natAbs_neg, Int.natAbs_neg, h.2, if_pos (by omega)]
    rfl
  have z := low_spec (t := -t) (b := -b) (by have := h.1; omega)
  rw [e] at z
  omega
abbrev P2 := Int × Int
def addP (p q : P2) : P2 := (lowT (p.1 * q.2 + q.1 * p.2) (p.2 * q.2), lowB (p.1 * q.2 + q.1 * p.2) (p.2 * q.2))
def sumP : P2 → List P2 → P2
  | p, [] => p
  | p, q :: qs => sumP (addP p q) qs
theorem sumP_snoc : ∀ (ps : List P2) (p q : P2), sumP p (ps ++ [q]) = addP (sumP p ps) q
  | [], _, _ => rfl
  | r :: ps, p, q => sumP_snoc ps (addP p r) q
abbrev BdP (n : Nat) (p : P2) : Prop := Bd n p.1 ∧ Bd n p.2 ∧ p.2 ≠ 0
theorem addP_bd {n m : Nat} {p q : P2} (h : BdP n p) (h' : BdP m q) : BdP (n + m + 1) (addP p q) := by
  have ne : p.2 * q.2 ≠ 0 := Int.mul_ne_zero h.2.2 h'.2.2
  refine ⟨lowT_bd ne (bd_add (bd_mul h.1 h'.2.1) ?_), lowB_bd ne (bd_up (bd_mul h.2.1 h'.2.1) (by omega)), (low_low ne).ne⟩
  rw [Nat.add_comm n m]
  exact bd_mul h'.1 h.2.1
theorem sumP_bd {m : Nat} : ∀ {ps : List P2} {n : Nat} {p : P2}, BdP n p → (∀ q ∈ ps, BdP m q) → BdP (n + ps.length * (m + 1)) (sumP p ps)
  | [], n, p, h, _ => by
    rw [List.length_nil, Nat.zero_mul, Nat.add_zero]
    exact h
  | q :: ps, n, p, h, hs => by
    have z := sumP_bd (ps := ps) (addP_bd h (hs q List.mem_cons_self)) fun r hr => hs r (List.mem_cons_of_mem _ hr)
    have e : n + m + 1 + ps.length * (m + 1) = n + (q :: ps).length * (m + 1) := by
      rw [List.length_cons, Nat.succ_mul]
      omega
    rw [e] at z
    exact z
end K10

set_option maxHeartbeats 4000000
namespace K10
open PySem PySem.Spec PyProof.Rows L2 RtL
section
variable {P : Program} {w : World} {K : Fr} {mg : Str → Option Value} {base : Heap} {f : Addr} {fd : FuncData}
/-- what total needs: __add__ and __init__ -/
structure Ad (P : Program) (w : World) (K : Fr) (mg : Str → Option Value) (base : Heap) : Prop where
  add : ∃ d, Md P w K mg base 5 (rm K "__add__") d ["self", "other"] (spOp K (fun t b t2 b2 => t * b2 + t2 * b) fun _ b _ b2 => b * b2)
  i : ∃ d, Id P w K mg base d
theorem sc_total : FnScope ["cls", "numbers", "found", "number"] ((["cls"] : List Str) ++ (["numbers"] : List Str)) (defScope (inR 4)) := ⟨rfl, rfl, rfl, by decide +kernel, rfl, by decide +kernel, by decide +kernel⟩
/-- numbers and their pairs -/
def Nums (K : Fr) (H : Hp) (vs : List V) (ps : List P2) : Prop := ps.length = vs.length ∧ ∀ (i : Nat) (v : V), vs[i]? = some v → ∃ p, ps[i]? = some p ∧ Num K H v p.1 p.2 ∧ BdP 200 p
theorem Nums.same {H H' : Hp} {vs : List V} {ps : List P2} (h : Nums K H vs ps) (s : Same H H') : Nums K H' vs ps := ⟨h.1, fun i v e => let ⟨p, a, b, c⟩ := h.2 i v e; ⟨p, a, b.same s, c⟩⟩
def spTot1 (K : Fr) : Sp := fun vs H Q _ => ∃ p items ps, vs = [.ref (RC K), .ref p] ∧ H p = some (.tup items) ∧ Nums K H items ps ∧ ps.length ≤ 4 ∧ ∀ x H', Same H H' → RatAt K H' x (sumP (0, 1) ps).1 (sumP (0, 1) ps).2 → Q (.ref x) H'
def spTot (K : Fr) : Sp := fun vs H Q _ => ∃ items ps, vs = .ref (RC K) :: items ∧ Nums K H items ps ∧ ps.length ≤ 4 ∧ ∀ x H', Same H H' → RatAt K H' x (sumP (0, 1) ps).1 (sumP (0, 1) ps).2 → Q (.ref x) H'
theorem same_new {H : Hp} {p : Addr} {o : HO} (hp : H p = none) : Same H (upd H p o) := fun b u e => by
  rw [upd_ne (ne_of_none e hp)]
  exact e
theorem made_at {K : Fr} {H1 : Hp} {R : VK} {x dx : Addr} {p q : Int} (nx : H1 x = none) (nd : H1 dx = none) (ne : dx ≠ x) (hq : q ≠ 0) (bp : Bd 3000 p) (bq : Bd 3000 q) (c : ∀ H', Same H1 H' → RatAt K H' x (lowT p q) (lowB p q) → R .non H') :
    spInit K [.ref x, .int p, .int q] (upd (upd H1 dx (.own x)) x (.ins (RC K) dx [])) R E0 := by
  refine ⟨x, dx, p, q, rfl, hq, bp, bq, upd_same, ?_⟩
  rw [upd_upd]
  refine c _ (fun b o e => ?_) ⟨dx, upd_same⟩
  rw [upd_ne (ne_of_none e nx), upd_ne (ne_of_none e nd)]
  exact e
theorem bdP01 : BdP 1 ((0, 1) : P2) := ⟨by decide, by decide, by decide⟩
theorem ok_total {q : Str} (F : FunD K "total" q (defArgs (inR 4)) (defBody (inR 4)) (defScope (inR 4)) [] [] f fd) (T : TT K mg) (D : Ad P w K mg base) : FnR P w K mg base CX0 7 f (spTot K) := by
  obtain ⟨⟨dA, MA⟩, ⟨dI, I⟩⟩ := D
  obtain ⟨d1, hd1, b1⟩ := I.b1
  obtain ⟨oc, od, dV, kV, doc, pm, an, cdv, ct, osl, rfl, lk, hcd, hdv, _⟩ := F.ex
  obtain rfl : dV = Value.none := hdv.elim (fun z => z.2) fun z => absurd rfl z.1
  have hb : ∀ us rest : List Value, us.length = (["cls"] : List Str).length → bindArgs (PySem.W.fnOf "total" q (defArgs (inR 4)) (defBody (inR 4)) (defScope (inR 4)) Value.none kV doc pm an cdv ct) ⟨us ++ rest, []⟩ = (newTuple rest >>= fun t => pure ((["cls"] : List Str).zip us ++ [(("numbers" : Str), t)])) :=
    StX.bind_star1 (B := fun vs => bindArgs (PySem.W.fnOf "total" q (defArgs (inR 4)) (defBody (inR 4)) (defScope (inR 4)) Value.none kV doc pm an cdv ct) ⟨vs, []⟩) (fun a => by rfl) (fun a r rs => by rfl)
  refine FnR.imp (StX.fn_star (P := P) (w := w) (mg := mg) (base := base) (CX := CX0) (k := 6) (sp := spTot1 K) (pv := "numbers") (ps := ["cls"]) lk hcd sc_total StX.cxUp_none hb (fun A outer s H vs Q E hr h => ?_)) (fun vs H Q E h => ?_)
  rotate_left
  · obtain ⟨items, ps, rfl, hn, hl, q⟩ := h
    refine ⟨[.ref (RC K)], items, rfl, rfl, by rw [← hn.1, sizeLine_eq]; omega, fun p hp => ⟨p, items, ps, rfl, upd_same, hn.same (same_new hp), hl, fun x H' s' r => q x H' ((same_new hp).trans s') r⟩⟩
  · obtain ⟨p, items, ps, rfl, hp, hn, hl, q⟩ := h
    refine ⟨_, PSs.nox (pss_cons (ps_set (i := 2) sc_total.nd rfl (Or.inl rfl) (pe_makeL (pv 0) T.mkr I.ok (hr.mono (by decide)) b1 hd1 pass0 (pa_cons pe_int pa_nil)))
      (pss_cons (ps_for PassesOwn.never rfl (pi_tup (pv 1)) (pg_name (i := 3) sc_total.nd rfl (Or.inl rfl)) (pss_one (ps_set (i := 2) sc_total.nd rfl (Or.inl rfl) (pe_op (op_ownBin (op := .Add) (T.bin "__add__" "__radd__" (by decide)) rfl rfl MA.ok (hr.mono (by decide)) MA.bd pass0) (pv 2) (pv 3)))))
      (pss_one (ps_ret (pv 2))))), ?_⟩
    refine ⟨_, rfl, rfl, ?_⟩
    refine fun x dx nx nd ne => made_at nx nd ne (p := 0) (q := 1) (by decide) (bd_up (n := 1) (by decide) (by decide)) (bd_up (n := 1) (by decide) (by decide)) fun H1 s1 r1 => ⟨rfl, ?_⟩
    refine ⟨_, rfl, p, rfl, ⟨_, SqT.of (s1 _ _ hp)⟩, for_tup (xs := items) (fun i σ H2 => ∃ x v, σ = [some (.ref (RC K)), some (.ref p), some (.ref x), v] ∧ Same H H2 ∧ RatAt K H2 x (sumP (0, 1) (ps.take i)).1 (sumP (0, 1) (ps.take i)).2)
      ⟨x, none, rfl, s1, r1⟩ (fun i σ H2 _ ⟨_, _, _, s2, _⟩ => SqT.of (s2 _ _ hp)) ?_ ?_⟩
    · rintro i v σ H2 hi ⟨x, v3, rfl, s2, r2⟩
      obtain ⟨pr, hpr, hnum, hbd⟩ := hn.2 i v hi
      have b0 := sumP_bd (ps := ps.take i) bdP01 (m := 200) fun r hr => by
        obtain ⟨j, hj⟩ := List.getElem?_of_mem (List.mem_of_mem_take hr)
        have hjl : j < items.length := by rw [← hn.1]; exact (List.getElem?_eq_some_iff.mp hj).1
        obtain ⟨p', hp', _, hb'⟩ := hn.2 j items[j] (by simp [hjl])
        rw [hj] at hp'
        cases hp'
        exact hb'
      have b1 : BdP 805 (sumP (0, 1) (ps.take i)) := by
        have hlen : (ps.take i).length ≤ 4 := by rw [List.length_take]; omega
        have le : 1 + (ps.take i).length * (200 + 1) ≤ 805 := by omega
        exact ⟨bd_up b0.1 le, bd_up b0.2.1 le, b0.2.2⟩
      obtain ⟨dx, er⟩ := id r2
      refine ⟨_, rfl, _, rfl, x, dx, _, rfl, er, ?_, x, v, _, _, pr.1, pr.2, rfl, r2, hnum.same s2, bd_up b1.1 (by decide), bd_up b1.2.1 (by decide), bd_up hbd.1 (by decide), bd_up hbd.2.1 (by decide), Int.mul_ne_zero b1.2.2 hbd.2.2, fun y H3 s3 r3 => ?_⟩
      · rcases hnum.same s2 with ⟨a, e, dy, ea⟩ | ⟨e, _⟩
        · exact .inr ⟨a, dy, _, e, ea⟩
        · exact .inl ⟨_, e⟩
      · refine ⟨y, some v, rfl, s2.trans s3, ?_⟩
        rw [List.take_add_one, hpr]
        show RatAt K H3 y (sumP (0, 1) (ps.take i ++ [pr])).1 (sumP (0, 1) (ps.take i ++ [pr])).2
        rw [sumP_snoc]
        exact r3
    · rintro σ H2 ⟨x, v3, rfl, s2, r2⟩
      rw [← hn.1, List.take_length] at r2
      exact ⟨_, rfl, q x H2 s2 r2⟩
end
end K10

set_option maxHeartbeats 4000000
namespace K10
open PySem PySem.Spec PyProof.Rows L2 RtL
section
variable {P : Program} {w : World} {K : Fr} {mg : Str → Option Value} {base : Heap} {f : Addr} {fd : FuncData}
/-! ### a pot -/
abbrev sPot : Stmt := top 13
theorem scPot : FnScope ["_law_script", "_law_k", "_law_cell"] ["_law_script", "_law_k"] (defScope sPot) := ⟨rfl, rfl, rfl, by decide +kernel, rfl, by decide +kernel, by decide +kernel⟩
/-- a pot at p -/
def PotAt (H : Hp) (p : Addr) : Prop := ∃ x y : Int, H p = some (.lst [.int x, .int y]) ∧ 0 ≤ x ∧ 0 ≤ y ∧ y < 2147483648
def spPot (K : Fr) : Sp := fun vs H Q _ => ∃ (a : Addr) (ns : List Int) (k : Int), vs = [.ref a, .int k] ∧ SqL K H a (ns.map V.int) ∧ ns.length ≤ 63 ∧ 0 ≤ k ∧ k < 64 ∧ ∀ p H', H p = none → Same H H' → PotAt H' p → Q (.ref p) H'
theorem ok_pot (F : FunD K "_law_pot" "_law_pot" (defArgs sPot) (defBody sPot) (defScope sPot) [] [] f fd) (T : TT K mg) : FnOk P w K mg base CX0 1 f fd ["_law_script", "_law_k"] (spPot K) := by
  refine F.ok scPot (fun vs H Q E h => ?_) (fun cdv A outer s H vs Q E hr h => ?_)
  · obtain ⟨a, ns, k, rfl, _⟩ := h
    rfl
  · obtain ⟨a, ns, k, rfl, hS, hl, k0, k63, q⟩ := h
    refine ⟨_, pss_cons (ps_set (i := 2) scPot.nd rfl (Or.inl rfl) (pe_ifExp (pt_cmpR op_lt (pv 1) (pe_callB call_len_seq (by rfl) T.fre PySem.boot_len (pa_cons (pv 0) pa_nil)) (nomark _))
        (pe_callB call_abs (by rfl) T.fre (by decide +kernel) (pa_cons (pe_ix ix_list (pv 0) (pv 1) (fun _ _ => rfl)) pa_nil)) pe_int))
      (pss_one (ps_ret (pe_lst (pa_cons (pe_callB (call_max2 rfl) (by rfl) T.fre (by decide +kernel) (pa_cons pe_int (pa_cons (pe_op op_sub (pv 2) (pe_op op_pow pe_int pe_int)) pa_nil)))
        (pa_cons (pe_op op_mod (pe_callTy call_int1 (by rfl) T.fre (by decide +kernel) (pa_cons (pe_op op_add (pe_op op_add (pe_op op_mul (pe_op op_mod (pe_callTy call_int1 (by rfl) T.fre (by decide +kernel) (pa_cons (pv 2) pa_nil)) pe_int) pe_int) (pe_op op_mul pe_int (pv 1))) pe_int) pa_nil)) pe_int) pa_nil))))), ?_⟩
    refine ⟨_, rfl, _, rfl, _, _, rfl, .inl hS, _, _, rfl, rfl, _, rfl, ite2 (fun h1 => ?_) (fun _ => ?_)⟩
    · have hk : k < (ns.length : Int) := by
        have z := of_decide_eq_true h1
        rw [List.length_map] at z
        exact z
      obtain ⟨j, rfl⟩ : ∃ j : Nat, k = (j : Int) := ⟨k.toNat, by omega⟩
      have hj : j < ns.length := by omega
      have hat : (ns.map V.int)[j]? = some (.int ns[j]) := by
        rw [List.getElem?_map, List.getElem?_eq_getElem hj]
        rfl
      refine ⟨_, rfl, _, rfl, a, _, _, _, rfl, rfl, hS, atI_nat hat, _, rfl, ?_⟩
      refine ⟨_, rfl, _, _, rfl, rfl, ⟨by decide, by decide, by decide⟩, _, _, rfl, rfl, _, _, rfl, _, rfl, .inl ⟨_, rfl, _, _, rfl, rfl, (by show (0 : Int) < 2147483579; decide), _, _, rfl, rfl, .inr ⟨by decide, by decide⟩, _, rfl, _, _, rfl, rfl, .inl ⟨by decide, by decide⟩, _, _, rfl, rfl, _, _, rfl, rfl, .inl ⟨_, rfl, _, _, rfl, rfl, (by show (0 : Int) < 2147483647; decide), (by show 2 ≤ sizeLine; decide), fun p hp => ?_⟩⟩⟩
      refine q p _ hp (fun b o e => by rw [upd_ne (ne_of_none e hp)]; exact e) ⟨_, _, upd_same, ?_, Int.emod_nonneg _ (by decide), Int.lt_trans (Int.emod_lt_of_pos _ (by decide)) (by decide)⟩
      split <;> omega
    · refine ⟨_, rfl, _, _, rfl, rfl, ⟨by decide, by decide, by decide⟩, _, _, rfl, rfl, _, _, rfl, _, rfl, .inl ⟨_, rfl, _, _, rfl, rfl, (by show (0 : Int) < 2147483579; decide), _, _, rfl, rfl, .inr ⟨by decide, by decide⟩, _, rfl, _, _, rfl, rfl, .inl ⟨by decide, by decide⟩, _, _, rfl, rfl, _, _, rfl, rfl, .inl ⟨_, rfl, _, _, rfl, rfl, (by show (0 : Int) < 2147483647; decide), (by show 2 ≤ sizeLine; decide), fun p hp => ?_⟩⟩⟩
      refine q p _ hp (fun b o e => by rw [upd_ne (ne_of_none e hp)]; exact e) ⟨_, _, upd_same, ?_, Int.emod_nonneg _ (by decide), Int.lt_trans (Int.emod_lt_of_pos _ (by decide)) (by decide)⟩
      split <;> omega
/-! ### a draw -/
abbrev sDraw : Stmt := top 14
theorem scDraw : FnScope ["_law_pot_here", "_law_many", "_law_digit"] ["_law_pot_here", "_law_many"] (defScope sDraw) := ⟨rfl, rfl, rfl, by decide +kernel, rfl, by decide +kernel, by decide +kernel⟩
def But (p : Addr) (H H' : Hp) : Prop := ∀ b o, H b = some o → b ≠ p → H' b = some o
def spDraw : Sp := fun vs H Q _ => ∃ (p : Addr) (m : Int), vs = [.ref p, .int m] ∧ PotAt H p ∧ 0 < m ∧ m < 1073741824 ∧ ∀ d H', 0 ≤ d → d < m → PotAt H' p → But p H H' → Q (.int d) H'
theorem ok_draw (F : FunD K "_law_draw" "_law_draw" (defArgs sDraw) (defBody sDraw) (defScope sDraw) [] [] f fd) (T : TT K mg) : FnOk P w K mg base CX0 1 f fd ["_law_pot_here", "_law_many"] spDraw := by
  refine F.ok scDraw (fun vs H Q E h => ?_) (fun cdv A outer s H vs Q E hr h => ?_)
  · obtain ⟨p, m, rfl, _⟩ := h
    rfl
  · obtain ⟨p, m, rfl, ⟨x, y, hp, x0, y0, y1⟩, m0, m1, q⟩ := h
    refine ⟨_, pss_cons (ps_if (pt_cmpR op_gt (pe_ix ix_list (pv 0) pe_int (fun _ _ => rfl)) pe_int (nomark _))
        (pss_cons (ps_asg (pe_callB call_divmod (by rfl) T.fre (by decide +kernel) (pa_cons (pe_ix ix_list (pv 0) pe_int (fun _ _ => rfl)) (pa_cons (pv 1) pa_nil))) (pg_tup (by rfl) (pgs_cons (pg_sub (pv 0) pe_int set_list) (pgs_cons (pg_name (i := 2) scDraw.nd rfl (.inl rfl)) pgs_nil))))
          (pss_one (ps_ret (pv 2)))) pss_nil)
      (pss_cons (ps_asg (pe_op op_mod (pe_callTy call_int1 (by rfl) T.fre (by decide +kernel) (pa_cons (pe_op op_add (pe_op op_mul (pe_ix ix_list (pv 0) pe_int (fun _ _ => rfl)) pe_int) pe_int) pa_nil)) pe_int) (pg_sub (pv 0) pe_int set_list))
      (pss_one (ps_ret (pe_op op_mod (pe_callTy call_int1 (by rfl) T.fre (by decide +kernel) (pa_cons (pe_op op_fdiv (pe_op op_mod (pe_callTy call_int1 (by rfl) T.fre (by decide +kernel) (pa_cons (pe_op op_mul (pe_ix ix_list (pv 0) pe_int (fun _ _ => rfl)) (pe_ix ix_list (pv 0) pe_int (fun _ _ => rfl))) pa_nil)) pe_int) pe_int) pa_nil)) (pv 1))))), ?_⟩
    refine ⟨_, rfl, p, _, _, _, rfl, rfl, SqL.of hp, atI_nat (j := 0) rfl, _, _, rfl, rfl, _, rfl, ite2 (fun h1 => ?_) (fun _ => ?_)⟩
    · have hx : 0 < x := of_decide_eq_true h1
      refine ⟨_, rfl, p, _, _, _, rfl, rfl, SqL.of hp, atI_nat (j := 0) rfl, _, rfl, _, _, rfl, ⟨m0, m1⟩, fun t nt => ?_⟩
      have hpt : p ≠ t := ne_of_none hp nt
      have e2 : (upd H t (.tup [.int (x / m), .int (x % m)])) p = some (.lst [.int x, .int y]) := by rw [upd_ne hpt]; exact hp
      refine ⟨t, _, rfl, SqT.of upd_same, rfl, ?_⟩
      refine ⟨_, _, rfl, _, rfl, p, _, _, 0, rfl, rfl, e2, rfl, _, _, rfl, rfl, ?_⟩
      refine ⟨_, rfl, q _ _ (Int.emod_nonneg _ (Int.ne_of_gt m0)) (Int.emod_lt_of_pos _ m0) ⟨x / m, y, upd_same, Int.ediv_nonneg x0 (Int.le_of_lt m0), y0, y1⟩ fun b o e hb => ?_⟩
      rw [upd_ne hb, upd_ne (ne_of_none e nt)]
      exact e
    · refine ⟨_, rfl, p, _, _, _, rfl, rfl, SqL.of hp, atI_nat (j := 1) rfl, _, _, rfl, rfl, .inr ⟨by decide, by decide⟩, _, _, rfl, rfl, .inl ⟨_, rfl, _, _, rfl, rfl, (by show (0 : Int) < 2147483549; decide), ?_⟩⟩
      refine ⟨_, rfl, p, _, _, 1, rfl, rfl, hp, rfl, ?_⟩
      have z0 : 0 ≤ (y * 48271 + 10007) % 2147483549 := Int.emod_nonneg _ (by decide)
      have z1 : (y * 48271 + 10007) % 2147483549 < 2147483549 := Int.emod_lt_of_pos _ (by decide)
      refine ⟨_, rfl, p, _, _, _, rfl, rfl, SqL.of upd_same, atI_nat (j := 1) rfl, _, rfl, p, _, _, _, rfl, rfl, SqL.of upd_same, atI_nat (j := 1) rfl, _, _, rfl, rfl, .inl ⟨by omega, by omega⟩, .inl ⟨_, rfl, _, _, rfl, rfl, (by show (0 : Int) < 2147483497; decide), _, _, rfl, rfl, ⟨by decide, by decide⟩, .inl ⟨_, rfl, _, rfl, _, _, rfl, rfl, m0, ?_⟩⟩⟩
      refine q _ _ (Int.emod_nonneg _ (Int.ne_of_gt m0)) (Int.emod_lt_of_pos _ m0) ⟨x, _, upd_same, x0, z0, by omega⟩ fun b o e hb => ?_
      rw [upd_ne hb]
      exact e

end
end K10

set_option maxHeartbeats 4000000
namespace K10
open PySem PySem.Spec PyProof.Rows L2 RtL
theorem But.trans {p : Addr} {H1 H2 H3 : Hp} (a : But p H1 H2) (b : But p H2 H3) : But p H1 H3 := fun c o e h => b c o (a c o e h) h
theorem But.of {p : Addr} {H1 H2 : Hp} (s : Same H1 H2) : But p H1 H2 := fun c o e _ => s c o e
theorem PotAt.same {p : Addr} {H1 H2 : Hp} (h : PotAt H1 p) (s : Same H1 H2) : PotAt H2 p := by
  obtain ⟨x, y, e, r⟩ := h
  exact ⟨x, y, s _ _ e, r⟩
theorem RatAt.but {K : Fr} {p a : Addr} {H1 H2 : Hp} {t b : Int} (h : RatAt K H1 a t b) (hp : PotAt H1 p) (s : But p H1 H2) : RatAt K H2 a t b := by
  obtain ⟨dx, e⟩ := h
  obtain ⟨x, y, e2, _⟩ := hp
  exact ⟨dx, s _ _ e (ne_of e e2 (by intro z; cases z))⟩
theorem tup_but {p a : Addr} {H1 H2 : Hp} {vs : List V} (e : H1 a = some (.tup vs)) (hp : PotAt H1 p) (s : But p H1 H2) : H2 a = some (.tup vs) := by
  obtain ⟨x, y, e2, _⟩ := hp
  exact s _ _ e (ne_of e e2 (by intro z; cases z))
section
variable {P : Program} {w : World} {K : Fr} {mg : Str → Option Value} {base : Heap} {f : Addr} {fd : FuncData}
abbrev DrawG (P : Program) (w : World) (K : Fr) (mg : Str → Option Value) (base : Heap) : Prop := ∃ f d, Gd P w K mg base 1 "_law_draw" f d ["_law_pot_here", "_law_many"] spDraw
/-! ### a pick -/
abbrev sPick : Stmt := top 15
theorem scPick : FnScope ["_law_pot_here", "_law_some"] ["_law_pot_here", "_law_some"] (defScope sPick) := ⟨rfl, rfl, rfl, by decide +kernel, rfl, by decide +kernel, by decide +kernel⟩
def spPick : Sp := fun vs H Q _ => ∃ (p l : Addr) (xs : List V), vs = [.ref p, .ref l] ∧ PotAt H p ∧ H l = some (.lst xs) ∧ l ≠ p ∧ 0 < xs.length ∧ xs.length < 1000 ∧ ∀ (i : Nat) v H', xs[i]? = some v → PotAt H' p → But p H H' → Q v H'
theorem ok_pick (F : FunD K "_law_pick" "_law_pick" (defArgs sPick) (defBody sPick) (defScope sPick) [] [] f fd) (T : TT K mg) (D : DrawG P w K mg base) : FnOk P w K mg base CX0 2 f fd ["_law_pot_here", "_law_some"] spPick := by
  obtain ⟨fD, dD, GD⟩ := D
  refine F.ok scPick (fun vs H Q E h => ?_) (fun cdv A outer s H vs Q E hr h => ?_)
  · obtain ⟨p, l, xs, rfl, _⟩ := h
    rfl
  · obtain ⟨p, l, xs, rfl, hp, hl, ne, l0, l1, q⟩ := h
    refine ⟨_, PSs.nox (pss_one (ps_ret (pe_ix ix_list (pv 1) (pe_gd GD hr (by rfl) (pa_cons (pv 0) (pa_cons (pe_callB call_len_seq (by rfl) T.fre PySem.boot_len (pa_cons (pv 1) pa_nil)) pa_nil))) (fun _ _ => rfl)))), ?_⟩
    refine ⟨_, rfl, _, rfl, _, rfl, _, _, rfl, .inl (SqL.of hl), p, _, rfl, hp, by omega, by omega, fun d H' d0 d1 hp' hb => ?_⟩
    obtain ⟨j, rfl⟩ : ∃ j : Nat, d = (j : Int) := ⟨d.toNat, by omega⟩
    have hj : j < xs.length := by omega
    exact ⟨l, _, _, _, rfl, rfl, SqL.of (hb _ _ hl ne), atI_nat (List.getElem?_eq_getElem hj), q j _ H' (List.getElem?_eq_getElem hj) hp' hb⟩
abbrev PickG (P : Program) (w : World) (K : Fr) (mg : Str → Option Value) (base : Heap) : Prop := ∃ f d, Gd P w K mg base 2 "_law_pick" f d ["_law_pot_here", "_law_some"] spPick
end
end K10

set_option maxHeartbeats 1000000
/-! an own error with one field: raised, caught, its field read -/
namespace RtL
open PySem PySem.Spec PyProof.Rows L2 ErL
open PySem.Er (Made Cl In1 In2 Shw)
section
variable {X : Cx} {B newId initId : String} {bmB : List Value} {C : Addr} {f x : Str} {p pos : Pos} {a : Expr} {ta : TA} {k : Nat}
/-- C(a), raised -/
def tMk1 (C : Addr) (f : Str) (ta : TA) : L2.St → Hp → XK → Prop := fun σ H Q => ta σ H fun vs H1 => ∃ v, vs = [v] ∧ ∀ d, H1 d = none → Q (.ref C) (some d) (upd H1 d (.xd [(f, v)]))
theorem pmk_er1 (c : Cl X.K C B newId initId bmB) (i : In1 X.K C f) (hb : Bd1 f gP1) (hr : Room k X.A) (hg : Gl X x) (hm : X.mg x = some (.ref C)) (rs : Raises X (.ref C)) (ha : PA X [a] ta)
    (hdb : (x == ("__debug__" : Str)) = false := by decide) (he : starEach [a] X.env = (false, eval a X.env) :: starEach [] X.env := by rfl) (hpl : (backTo pos (starEach [] X.env)).any (·.1) = false := by rfl) :
    PMk X (.Call (.Name x p) [a] [] pos) (tMk1 C f ta) := by
  intro pins s σ H Q I h
  refine wpAny_Call_Name_kw (ld_glob I hg hm ?_ hdb)
  refine PySem.W.callWith_K (h₀ := X.base) I.ok.mod.kin c.kC (thn (ha.run pos pins s σ H _ I h) fun us s1 hh => ?_) he hpl
  obtain ⟨vs, H1, I1, r, v, rfl, q⟩ := hh
  refine ⟨I1.kIn, ?_⟩
  obtain ⟨u, rfl, ru⟩ := vals1 r
  show wpAny _ _ (call (.ref C) [u]) _ _ _
  refine wpAny_call (PySem.Er.made1 c i (v := u) I1.kIn I1.nolimit (by have := hr.dp; omega) (by show 1 ≤ sizeLine; rw [sizeLine_eq]; omega) (fun _ ql p1 p2 q1 q2 q3 q4 kv dc pm an cv ct y => .of_eq (hb ql p1 p2 q1 q2 q3 q4 kv dc pm an cv ct y u)) fun h' tk e d t M => ?_)
  obtain ⟨hp, g, dr, tk0, os⟩ := s1
  obtain ⟨G', g1, g2⟩ := restrict h' fun b => decide (b ≠ e)
  have keepG : ∀ b, b ≠ e → G'.get? b = h'.get? b := fun b hb => g1 b (decide_eq_true hb)
  have goneG : G'.get? e = none := g2 e (by simp)
  have old : ∀ b o, hp.get? b = some o → G'.get? b = some o := fun b o z => (keepG b (Nat.ne_of_lt (Nat.lt_of_lt_of_le (Heap.lt_size z) M.be))).trans (M.keep b o z)
  have ob : ObjOk X.prog X.w (upd H1 d (.xd [(f, v)])) G' d (.xd [(f, v)]) := ⟨_, M.ns.at (fun o z => (keepG d M.de).trans z), rel1 ru⟩
  refine ⟨e, _, _, ⟨G', g, dr, tk, os⟩, _, .ref C, some d, rfl, I1.laid (t' := tk) old M.bd ob, fun b o z => ?_, goneG, M.obj, ⟨rfl, rfl⟩, rfl, rfl, ?_, rfl, I1.bare, rs, q d (I1.hok.fresh M.bd)⟩
  · by_cases hb : b = e
    · have z' : G'.get? b = some o := z
      rw [hb, goneG] at z'
      cases z'
    · exact (keepG b hb).symm.trans z
  · rw [upd_ne (Ne.symm M.de)]
    exact I1.hok.fresh M.be
/-- e.f of the error that the suite holds -/
def tBy1 (C : Addr) (f : Str) (a : Addr) (cls : Value) (d : Option Addr) (te : TE) : TE := fun σ H Q => te σ H fun x H1 => x = .ref a ∧ cls = .ref C ∧ ∃ (dd : Addr) (v : V), d = some dd ∧ H1 dd = some (.xd [(f, v)]) ∧ Q v H1
theorem pe_by1 {b : Addr} {oe : Obj} {cls : Value} {d : Option Addr} {pn : List (Addr × Obj)} {te : TE} {e : Expr} (A : Asks X.K C) (hn : PySem.W.findIn X.K (.ref C) f = some none) (hz : Zc cls d oe) (hf : ∃ vs, oe.data = .fields vs) (he : PE (X.suite b ((b, oe) :: pn)) e te)
    (hb : attributeBase e f X.env (eval e X.env) = eval e X.env := by rfl) : PE (X.suite b ((b, oe) :: pn)) (.Attribute e f pos) (tBy1 C f b cls d te) := by
  refine ⟨fun pins s σ H Q I h => ?_⟩
  refine attr_of hb (thn (he.run pins s σ H _ I h) fun u s1 hh => ?_)
  obtain ⟨y, H1, I1, ry, rfl, rfl, dd, v, rfl, ea, q⟩ := hh
  obtain rfl : u = Value.ref b := ry
  obtain ⟨hb1, _⟩ := I1.pin (b, oe) (List.mem_append_left _ List.mem_cons_self)
  obtain ⟨vs, hd⟩ := hf
  obtain ⟨mA, hns, rel⟩ := (show ObjOk X.prog X.w H1 s1.heap dd (.xd [(f, v)]) from I1.hok dd _ ea)
  obtain ⟨od, ho, hl⟩ := lookIn_ns hns
  have l : List.lookup f [(f, v)] = some v := by simp [List.lookup]
  obtain ⟨w, hw, rw'⟩ := RelO.some_of (v := v) (o := mA f) (by rw [← l]; exact rel f)
  have J : PySem.W.InstAt s1.heap b oe C (some od) := ⟨hb1, hz.1, by unfold PySem.W.notCls; rw [hd], by rw [hz.2]; exact ho⟩
  exact PySem.PX.exc_get I1.kIn J A.ga A.gg A.ex (PySem.W.findObj_own A.hd hn rfl (by rw [hl, hw])) (handed_of rw') ⟨v, H1, I1.tok _, rw', q⟩
/-- isinstance(e, c), e the error that the suite holds -/
def rIsS (K : PySem.W.Frag) (C b : Addr) (cls : Value) (d : Option Addr) : List V → Hp → VK → Prop := fun xs H Q => ∃ c cv r, xs = [.ref b, c] ∧ cls = .ref C ∧ (∀ dd, d = some dd → ∃ fs, H dd = some (.xd fs)) ∧ (∀ u, RelV c u → u = cv) ∧ PySem.W.kitOne K (.ref C) cv = some r ∧ Q (.bl r) H
theorem call_isS {b : Addr} {oe : Obj} {cls : Value} {d : Option Addr} {pn : List (Addr × Obj)} (A : Asks X.K C) (hz : Zc cls d oe) (hf : ∃ vs, oe.data = .fields vs) : CallR (X.suite b ((b, oe) :: pn)) (.builtin "isinstance") (rIsS X.K C b cls d) := by
  intro pins s σ H xs us Q I r h
  obtain ⟨c, cv, t, rfl, rfl, hd, hc, e, q⟩ := h
  obtain ⟨u, u', rfl, ru, ru'⟩ := vals2 r
  obtain rfl : u = Value.ref b := ru
  obtain rfl := hc _ ru'
  obtain ⟨hb1, _⟩ := I.pin (b, oe) (List.mem_append_left _ List.mem_cons_self)
  obtain ⟨vs, hdat⟩ := hf
  obtain ⟨od, J⟩ : ∃ od, PySem.W.InstAt s.heap b oe C od := by
    cases d with
    | none => exact ⟨none, hb1, hz.1, by unfold PySem.W.notCls; rw [hdat], by rw [hz.2]; trivial⟩
    | some dd =>
      obtain ⟨fs, ea⟩ := hd dd rfl
      obtain ⟨mA, hns, rel⟩ := (show ObjOk X.prog X.w H s.heap dd (.xd fs) from I.hok dd _ ea)
      obtain ⟨od, ho, hl⟩ := lookIn_ns hns
      exact ⟨some od, hb1, hz.1, by unfold PySem.W.notCls; rw [hdat], by rw [hz.2]; exact ho⟩
  exact PySem.W.kia_one (PySem.W.kitx_exc A.cl A.ga A.gg A.ex A.cs A.gs A.tk A.mo) I.kIn J e (fun z => nomatch z) fun tk => ⟨.bl t, H, I.kept (t' := tk) fun _ _ z => z, rfl, q⟩
end
end RtL

set_option maxHeartbeats 1000000
/-! a lambda without parameters handed to a def of two parameters; what it raises is told by the def's slots -/
namespace RtL
open PySem PySem.Spec PyProof.Rows L2 ErL LamX
section
variable {X : Cx} {pins : List (Addr × Obj)} {σ : L2.St} {H : Hp} {s : Shared}
abbrev lamO (X : Cx) (params : Arguments) (body : Expr) (scope : Scope) (pm : Value) (c' : Addr) (ctv : Value) : Obj := PySem.W.kla_obj "<lambda>" (X.env.qual ++ "<lambda>") params body scope (cloFrom X.env.cells scope.names []) pm c' ctv
theorem pe_act2 {Ng : List Str} {qg : Str} {sg : Scope} {g f c' : Addr} {cdg pm ctv : Value} {params : Arguments} {body : Expr} {scope : Scope} {k i : Nat} {a : Str} {pn : List (Addr × Obj)} {xe : Value → Shared → Prop} {W : WX} {t : XK → TE} {p1 p2 : Pos}
    (I : Inv X pins σ H s) (L : LamS X.env.scope scope) (hf : s.heap.get? f = some (lamO X params body scope pm c' ctv)) (hfn : H f = none) (hfr : f ∉ frs X.stack)
    (hbind : bindArgs (PySem.W.kla_fn "<lambda>" (X.env.qual ++ "<lambda>") params body scope (cloFrom X.env.cells scope.names []) pm (.ref c') ctv) ⟨[], []⟩ = pure [])
    (tk : Takes ((cxOf CX0 X.prog X.w X.K X.mg X.base Ng qg sg g cdg X.A X.stack s H E0).tr pn xe) W) (hr : Room (k + 1) (X.A.deeper (envOfC qg sg s.heap.objs.size g cdg)))
    (hbody : ∀ (A : Around) (outer : List Env) (s : Shared) (H : Hp) (E : XK), Room k (A.deeper (lamEnv X scope s.heap.objs.size f c')) → PE (lamCx X A outer s H E scope f c') body (t E))
    (hN : Ng[i]? = some a) (hv : Vis sg a) (hd : (a == ("__debug__" : Str)) = false) (hcd : (a == ("__classdict__" : Str)) = false) :
    PE ((cxOf CX0 X.prog X.w X.K X.mg X.base Ng qg sg g cdg X.A X.stack s H E0).tr pn xe) (.Call (.Name a p1) [] [] p2)
      (fun σZ HZ Q => σZ[i]? = some (some (.ref f)) ∧ HZ c' = some (CodeO c' (X.env.qual ++ "<lambda>")) ∧ t (WE W σZ) σ HZ Q) := by
  refine ⟨fun pinsZ sZ σZ HZ Q IZ h => ?_⟩
  obtain ⟨hs, hc, ht⟩ := h
  refine wpAny_Call_Name_kw (thn ((pe_var (pos := p1) (i := i) hN hv hd hcd).run pinsZ sZ σZ HZ (fun v H1 => v = .ref f ∧ H1 = HZ) IZ ⟨.ref f, hs, rfl, rfl⟩) fun u s1 hh => ?_)
  obtain ⟨v, H1, I1, r1, rfl, rfl⟩ := hh
  obtain rfl : u = Value.ref f := r1
  have of1 : s1.heap.get? f = some (lamO X params body scope pm c' ctv) := I1.base.keep f _ hf hfn hfr (fun z => nomatch (show f ∈ ([] : List Addr) from z))
  refine PySem.W.callWith_F0 ⟨_, _, _, _, of1⟩ ?_
  have un : Un (frs X.stack) [] H H1 s.heap s1.heap := I1.base
  obtain ⟨⟨oc, vs, tc, hoc, hdc, hvc⟩, _, _⟩ := I1.hok c' _ hc
  have rc : codeAny (model X.prog X.w) (X.A.deeper (envOfC qg sg s.heap.objs.size g cdg)) (.call (.ref f) ⟨[], []⟩) (CR (L2.CX X.prog X.w) (envOfC qg sg s.heap.objs.size g cdg :: X.stack) X.prog X.w H1 s1 Q (WE W σZ)) s1 := by
    refine PySem.W.kla_callFunE hr.depth of1 rfl L.co L.gen rfl ⟨c', oc, vs, tc, rfl, hoc, hdc, hvc⟩ ?_
    rw [hbind]
    refine wpAny_pure (wpAny_newFunctionEnv (fun y hy => (L.own y hy).2) (fun y hy => absurd hy (by simp)) (fun h₁ hns hsb => ⟨I1.nolimit.fresh _ hsb, ?_⟩) L.kind)
    show codeAny _ _ (.expr body (lamEnv X scope s1.heap.objs.size f c')) _ _
    have kp : ∀ b o, s1.heap.get? b = some o → h₁.get? b = some o := fun b o e => hsb.extBut b o (Nat.ne_of_lt (Heap.lt_size e)) (Heap.get?_push_of_some _ e)
    have J := lam_start2 (A := X.A.deeper (envOfC qg sg s.heap.objs.size g cdg)) (outer := envOfC qg sg s.heap.objs.size g cdg :: X.stack) (E := WE W σZ) (f := f) (c' := c') (tk := s1.toks + ([] : List (Str × Value)).length) I L I1.env0 hr.hd un hns kp
    refine PySem.W.kla_codeExpr (wpAny_mono ((hbody _ _ s1 H1 _ (hr.deeper _)).run [] _ _ H1 Q J ht) (fun v s' hq => ?_) fun e s' hq => hq)
    obtain ⟨w', H', J', rv, q⟩ := hq
    exact ⟨w', H', J'.os, J'.bare, J'.base, J'.hok, rv, q⟩
  have hx := passAt tk σZ
  refine wpAny_call (codeAny_mono rc fun r s' hq => ?_)
  cases r with
  | error e => exact hx pinsZ H1 s1 e s' I1 hq
  | ok fl =>
    cases fl with
    | ret u => exact I1.after hq
    | next => exact False.elim hq
    | brk => exact False.elim hq
    | cont => exact False.elim hq
end
/-- the def that calls what it got, a its name; v what it got beside -/
def Gives2 (X : Cx) (k : Nat) (Ng : List Str) (x : Str) (sg : Scope) (g : Addr) (cdg : Value) (bg : List Stmt) (a q : Str) (TT : V → (XK → Hp → VK → Prop) → Hp → VK → Prop) : Prop :=
  ∀ (f c' : Addr) (s : Shared) (H : Hp) (Q : VK) (v : V) (tl : XK → Hp → VK → Prop),
    Room (k + 1) (X.A.deeper (envOfC x sg s.heap.objs.size g cdg)) → (X.A.deeper (envOfC x sg s.heap.objs.size g cdg)).guards = some [] →
    (∀ (W : WX) (pn : List (Addr × Obj)) (xe : Value → Shared → Prop) (p1 p2 : Pos), Takes ((cxOf CX0 X.prog X.w X.K X.mg X.base Ng x sg g cdg X.A X.stack s H E0).tr pn xe) W →
      PE ((cxOf CX0 X.prog X.w X.K X.mg X.base Ng x sg g cdg X.A X.stack s H E0).tr pn xe) (.Call (.Name a p1) [] [] p2) (fun σZ HZ Q => σZ[0]? = some (some (.ref f)) ∧ HZ c' = some (CodeO c' q) ∧ tl (WE W σZ) HZ Q)) →
    H c' = some (CodeO c' q) → TT v tl H Q →
    ∃ t, PSs (cxOf CX0 X.prog X.w X.K X.mg X.base Ng x sg g cdg X.A X.stack s H E0).nox bg t ∧ t { nx := fun _ H' => Q .non H', rt := Q } (L2.start Ng [.ref f, v]) H
def tLam2 (T : List (Addr × Str)) (TT : V → (XK → Hp → VK → Prop) → Hp → VK → Prop) (t : XK → TE) (te : TE) : TE := fun σ H Q => Tabs T H ∧ ∀ H1, ExtN H H1 → Tabs T H1 → te σ H1 fun v H2 => H2 = H1 ∧ TT v (fun E H' Q' => t E σ H' Q') H1 Q
section
variable {X : Cx}
/-- x(lambda: body, e) -/
theorem pe_lamcall2 {T : List (Addr × Str)} {TT : V → (XK → Hp → VK → Prop) → Hp → VK → Prop} {x a a2 : Str} {g c P : Addr} {k : Nat} {pg : Arguments} {bg : List Stmt} {sg : Scope} {dV kV doc pm cdv ct oc : Value} {an od : Option Addr} {osl : Array (Option Value)} {Ng : List Str}
    {params : Arguments} {body e : Expr} {scope : Scope} {t : XK → TE} {te : TE} {p lpos pos : Pos} (hg : Gl X x) (hm : X.mg x = some (.ref g)) (hk : PySem.W.keepIn X.K (.ref g) = true)
    (lk : X.K.lookup g = some ⟨oc, od, .func (PySem.W.fnOf x x pg bg sg dV kV doc pm an cdv ct), osl⟩) (hcg : PySem.W.codeIn X.K cdv x = true) (hb : L2.Binds X.K (PySem.W.fnOf x x pg bg sg dV kV doc pm an cdv ct) [a, a2] []) (Sg : FnScope Ng [a, a2] sg) (hNg : Ng[0]? = some a) (hva : Vis sg a)
    (hG : Gives2 X k Ng x sg g cdv bg a (X.env.qual ++ "<lambda>") TT)
    (TB : TabB X.base X.mg c P) (hcode : X.env.code = .ref c) (hmT : (P, X.env.qual ++ "<lambda>") ∈ T) (hu : ∀ p ∈ T, p.1 = P → p.2 = X.env.qual ++ "<lambda>") (hr : Room (k + 2) X.A) (hgd : X.A.guards = some []) (hst : frs X.stack = X.env.locals :: X.fs) (L : LamS X.env.scope scope) (hdef : defaultsOf params X.env = ([], []))
    (hbind : ∀ (q : Str) (cl : List (Str × Addr)) (pm cv ctv : Value), bindArgs (PySem.W.kla_fn "<lambda>" q params body scope cl pm cv ctv) ⟨[], []⟩ = pure [])
    (hbody : ∀ (A : Around) (outer : List Env) (s : Shared) (H : Hp) (E : XK) (f c' : Addr), Room k (A.deeper (lamEnv X scope s.heap.objs.size f c')) → PE (lamCx X A outer s H E scope f c') body (t E)) (he : PE X e te)
    (hse : starEach [e] X.env = (false, eval e X.env) :: starEach [] X.env := by rfl)
    (hdb : (x == ("__debug__" : Str)) = false := by decide) (hd : (a == ("__debug__" : Str)) = false := by decide) (hcd : (a == ("__classdict__" : Str)) = false := by decide) :
    PE X (.Call (.Name x p) [.Lambda params body scope lpos, e] [] pos) (tLam2 T TT t te) := by
  refine ⟨fun pins s σ H Q I h => ?_⟩
  obtain ⟨hT, h⟩ := h
  refine wpAny_Call_Name_kw (ld_glob I hg hm ?_ hdb)
  refine PySem.W.callWith_K (h₀ := X.base) I.ok.mod.kin hk ?_ (by rfl) (by rw [hse]; rfl)
  show wpAny _ _ (spliced ((false, eval (.Lambda params body scope lpos) X.env) :: backTo pos (starEach [e] X.env))) _ _ s
  refine Calls.spliced_cons (lam_make2 I TB hcode hmT hu hT hdef (L.has I.ok) fun f c' pm' ctv H1 s' I1 eN T1 hf hfn hfr hco => ?_)
  have I2 : Inv X ((f, lamO X params body scope pm' c' ctv) :: pins) σ H1 s' := I1.pins_of fun q hq => by
    rcases List.mem_cons.mp hq with z | z
    · rw [z]
      rw [hst] at hfr
      exact ⟨hf, hfn, fun w => hfr (by rw [show f = _ from w]; exact List.mem_cons_self), fun w => hfr (List.mem_cons_of_mem _ w), fun v w => nomatch w⟩
    · exact I1.pin q (List.mem_append_right _ z)
  rw [hse]
  show wpAny _ _ (spliced ((false, eval e X.env) :: backTo pos (starEach [] X.env))) _ _ s'
  refine Calls.spliced_cons (thn (he.run _ s' σ H1 _ I2 (h H1 eN T1)) fun u s2 hh => ?_)
  obtain ⟨v, H2, I3, rv, rfl, hq⟩ := hh
  refine Calls.spliced_nil ⟨I3.kIn, ?_⟩
  have hf3 := ClX.pin_at I3
  have rc : codeAny (model X.prog X.w) X.A (.call (.ref g) ⟨[.ref f, u], []⟩) (CR CX0 X.stack X.prog X.w H2 s2 Q E0) s2 := by
    refine run_ofS (N := Ng) (ps := [a, a2]) (us := [.ref f, u]) (vs := [.ref f, v]) lk hcg Sg hr I3.env0 (hb s2 [.ref f, u] I3.kIn rfl) (.cons rfl (.cons rv .nil)) rfl fun hr' => ?_
    obtain ⟨t', ht', hq'⟩ := hG f c' s2 H2 Q v (fun E H' Q' => t E σ H' Q') hr' (guards_deeper hgd)
      (fun W pn xe p1 p2 tk => pe_act2 (i := 0) (ClX.unpin I3) L hf3 hfn hfr (hbind _ _ _ _ _) tk hr' (fun A outer s H E hr2 => hbody A outer s H E f c' hr2) hNg hva hd hcd) hco hq
    exact ⟨t', ht'.nox, hq'⟩
  refine wpAny_call (codeAny_mono rc fun r s3 hq => ?_)
  cases r with
  | error e => exact (show False from hq).elim
  | ok fl =>
    cases fl with
    | ret u => exact ClX.unpinE (I3.after hq)
    | next => exact False.elim hq
    | brk => exact False.elim hq
    | cont => exact False.elim hq
end
end RtL

set_option maxHeartbeats 1000000
/-! repr of a list whose items are shown each in its own way: data, objects of an own class, lists of these -/
namespace RtL
open PySem PySem.Spec PyProof.Rows L2 ErL
open PySem.Sem (wp)
open PySem.Builtin PySem.Builtin.List
/-- an item of the list at a, shown within the showing of that list at A -/
def ItA (X : Cx) (σ : L2.St) (H : Hp) (A : Around) (a : Addr) (v : V) (t : Str) : Prop := ∀ (rest : List Value) (pins : List (Addr × Obj)) (base : Nat) (E : Value → Shared → Prop) (s : Shared) (Q : Str → Shared → Prop) (u : Value),
  base + t.length ≤ sizeLine → RelV v u → Inv X pins σ H s → (∀ s', Inv X pins σ H s' → Q t s') → wpAny (model X.prog X.w) (A.under (.builtin "list.__repr__.loop" ⟨.ref a :: rest, []⟩)) (pyReprUnder base u) Q E s
section
variable {X : Cx} {k : Nat} {f C : Addr} {fd : FuncData} {sp : Sp} {ps : List Str} {pins : List (Addr × Obj)} {σ : L2.St} {H : Hp}
theorem loopA {A : Around} {a P : Addr} {vs : List V} {ts : List Str} {base : Nat} {R : Result → Shared → Prop} (ea : H a = some (.lst vs)) (hlen : ts.length = vs.length)
    (hT : ∀ (i : Nat) (v : V), vs[i]? = some v → ∃ t, ts[i]? = some t ∧ ItA X σ H A a v t) (hsz : base + (listText ts).length ≤ sizeLine)
    (h1 : P ∈ X.ex ∨ X.s_0.heap.objs.size ≤ P) (h2 : ∀ x c, X.env.cells.lookup x = some c → c ≠ P) (h3 : ∀ p ∈ X.pn ++ pins, p.1 ≠ P) (hR : ∀ s' u, Inv X pins σ H s' → R (.ok (.ret (.str (listText ts) u))) s') :
    ∀ (n i : Nat) (s : Shared) (acc : Array Value) (c : Nat) (done : List (Str × Tok)), vs.length - i = n → i ≤ vs.length → Inv X (pL P acc c :: pins) σ H s → acc.toList = strValues done → done.map (·.1) = ts.take i →
      codeAny (model X.prog X.w) A (.builtin "list.__repr__.loop" ⟨[.ref a, rawInt i, .ref P, rawInt ((base + piled (ts.take i) : Nat) : Int)], []⟩) R s := by
  have hX : (listText ts).length = (textFrom 0 "[" ts).length + 1 := by
    show (textFrom 0 "[" ts ++ "]").length = _
    rw [strLen_append]; rfl
  have hL := textFrom_len ts 0 "["
  have hsz1 : vs.length ≤ sizeLine := by
    have h1 := hL.1
    rw [if_neg (Nat.lt_irrefl 0)] at h1
    omega
  have hsz2 : ∀ t ∈ ts, t.length ≤ sizeLine := fun t ht => by
    have h2 := hL.2.1 t ht
    omega
  have hsz3 : (listText ts).length ≤ sizeLine := by omega
  have hp3 := piled_le_listText ts
  intro n
  induction n with
  | zero =>
    intro i s acc c done hk hi I hacc hdone
    obtain ⟨_, its, nn, rv, ho⟩ := (show ObjOk X.prog X.w H s.heap a (.lst vs) from I.hok a _ ea)
    have hin : i = its.length := by rw [← rv.length]; omega
    refine codeAny_builtin PySem.F.entry_list_repr_loop ?_
    show wpAny _ _ («list.__repr__.loop» ⟨[.ref a, .int i 0, .ref P, .int ((base + piled (ts.take i) : Nat) : Int) 0], []⟩) _ _ s
    rw [repr_loop_tree]
    refine wpAny_bind (wpAny_listItems ho rfl ?_)
    have hnone : its.toArray[(i : Int).toNat]? = none := by simp [hin]
    simp only [hnone]
    unfold reprEnd
    refine wpAny_bind (wpAny_listItems (ClX.pin_at I) rfl ?_)
    rw [hacc, repr_fold]
    refine wpAny_bind (wpAny_pure ?_)
    have hall : done.map (·.1) = ts := by rw [hdone, hin, ← rv.length, ← hlen, List.take_length]
    rw [hall]
    refine wpAny_bind (wpAny_mkStr (wpAny_pure ?_) hsz3)
    exact hR _ _ ((ClX.unpin I).tok _)
  | succ n ih =>
    intro i s acc c done hk hi I hacc hdone
    have hlt : i < vs.length := by omega
    obtain ⟨_, its, nn, rv, ho⟩ := (show ObjOk X.prog X.w H s.heap a (.lst vs) from I.hok a _ ea)
    have hlt' : i < its.length := by rw [← rv.length]; exact hlt
    obtain ⟨t, ht, hit⟩ := hT i vs[i] (by simp [hlt])
    obtain ⟨u, hu, ru⟩ := rv.get (i := i) (x := vs[i]) (by simp [hlt])
    have hp1 := piled_take_succ ht
    have hp2 := piled_take_le ts (i + 1)
    refine codeAny_builtin PySem.F.entry_list_repr_loop ?_
    show wpAny _ _ («list.__repr__.loop» ⟨[.ref a, .int i 0, .ref P, .int ((base + piled (ts.take i) : Nat) : Int) 0], []⟩) _ _ s
    rw [repr_loop_tree]
    refine wpAny_bind (wpAny_listItems ho rfl ?_)
    have hsome : its.toArray[(i : Int).toNat]? = some u := by
      rw [Int.toNat_natCast, List.getElem?_toArray]
      exact hu
    simp only [hsome]
    rw [Int.toNat_natCast]
    have go : ∀ s', Inv X (pL P acc c :: pins) σ H s' → wpAny (model X.prog X.w) (A.under (.builtin "list.__repr__.loop" ⟨[.ref a, .int i 0, .ref P, .int ((base + piled (ts.take i) : Nat) : Int) 0], []⟩)) (do
        let signs := base + piled (ts.take i) + (t.length + 2)
        let r ← mkStr t
        listUpdate (.ref P) (·.push r)
        again (.builtin "list.__repr__.loop" ⟨[.ref a, rawInt ((i : Int) + 1), .ref P, rawInt signs], []⟩))
        (fun fin s' => match fin with | .done fl => R (.ok fl) s' | .again c' => c'.quiet = true ∧ codeAny (model X.prog X.w) A c' R s') (fun e s' => R (.error e) s') s' := fun s' I' => by
      refine wpAny_bind (wpAny_mkStr ?_ (hsz2 t (List.mem_of_getElem? ht)))
      refine wpAny_bind ?_
      show wpAny _ _ (updateSeq P _) _ _ _
      have hasz : acc.size ≤ sizeLine := by
        have e1 : acc.toList.length = acc.size := by simp
        have e2 : (strValues done).length = done.length := by simp [strValues]
        have e3 : done.length = (ts.take i).length := by rw [← hdone, List.length_map]
        have e4 : (ts.take i).length ≤ i := by rw [List.length_take]; omega
        rw [hacc] at e1; omega
      refine wpAny_updateSeq (ClX.pin_at I') rfl (wpAny_pure ⟨PySem.F.quiet_list_repr_loop _, ?_⟩) hasz
      have e1 : ((i : Int) + 1) = ((i + 1 : Nat) : Int) := by omega
      have e2 : base + piled (ts.take i) + (t.length + 2) = base + piled (ts.take (i + 1)) := by omega
      rw [e1, e2]
      refine ih (i + 1) _ (acc.push (.str t s'.toks)) _ (done ++ [(t, s'.toks)]) (by omega) hlt (pin_push (I'.tok (s'.toks + 1)) h1 h2 h3 (fun b o hne e => (Heap.get?_update_other _ _ (fun h : P = b => hne h.symm)).trans e) (Heap.get?_update_self _ (ClX.pin_at I') rfl)) (by simp [hacc, strValues]) (by simp [List.take_add_one, ht, hdone])
    refine wpAny_bind (wpAny_holding (hit _ _ _ _ _ _ u (by omega) ru I fun s' I' => ?_))
    exact go s' I'
/-- what stands in such a list: a whole number, an own object, a truth value -/
def ShA (C : Addr) (sp : Sp) (H : Hp) (v : V) (t : Str) : Prop := ItT C sp H v t ∨ ∃ b : Bool, v = .bl b ∧ t = (if b = true then Str.ofString "True" else Str.ofString "False")
/-- .. or a list of these -/
def ShB (C : Addr) (sp : Sp) (H : Hp) (a : Addr) (v : V) (t : Str) : Prop := ShA C sp H v t ∨ ∃ l vs ts, v = .ref l ∧ l ≠ a ∧ H l = some (.lst vs) ∧ vs ≠ [] ∧ ts.length = vs.length ∧ (∀ (i : Nat) (w : V), vs[i]? = some w → ∃ t', ts[i]? = some t' ∧ ShA C sp H w t') ∧ t = listText ts
theorem itA_one (hs : PySem.W.findIn X.K (.ref C) "__repr__" = some (some (.ref f))) (hf : PySem.W.isFn X.K (.ref f) = true) (F : FnOk X.prog X.w X.K X.mg X.base CX0 k f fd ps sp) (hb : Binds X.K fd ps []) {A : Around} (hr : Room (k + 1) A)
    (e0 : ∀ (pins : List (Addr × Obj)) s, Inv X pins σ H s → Env0 X.prog X.w X.K X.mg X.base A X.stack s H) {a : Addr} {v : V} {t : Str} (h : ShA C sp H v t) : ItA X σ H A a v t := by
  intro rest pins base E s Q u hz ru I q
  rcases h with (⟨j, rfl, rfl, hlog⟩ | ⟨b, dx, fs, rfl, eb, hq⟩) | ⟨b, rfl, rfl⟩
  · obtain ⟨tk, rfl⟩ := (show ∃ tk, u = Value.int j tk from ru)
    exact ReprIs.int tk hlog base hz _ _ _ _ fun tk' => q _ (I.tok tk')
  · obtain rfl : u = Value.ref b := ru
    exact under_own hs hf F hb (Room.loop hr _) (Env0.loop (e0 _ s I) _) I eb hq (by omega) q
  · obtain rfl : u = Value.bool b := ru
    exact ReprIs.bool b base hz _ _ _ _ fun tk' => q _ (I.tok tk')
theorem itA_two (hs : PySem.W.findIn X.K (.ref C) "__repr__" = some (some (.ref f))) (hf : PySem.W.isFn X.K (.ref f) = true) (F : FnOk X.prog X.w X.K X.mg X.base CX0 k f fd ps sp) (hb : Binds X.K fd ps []) {A : Around} (hr : Room (k + 3) A) (hg : A.guards = some [])
    (e0 : ∀ (pins : List (Addr × Obj)) s, Inv X pins σ H s → Env0 X.prog X.w X.K X.mg X.base A X.stack s H) {a : Addr} {v : V} {t : Str} (h : ShB C sp H a v t) : ItA X σ H A a v t := by
  rcases h with h | ⟨l, vs, ts, rfl, hla, el, hne, hlen, hT, rfl⟩
  · exact itA_one hs hf F hb (hr.mono (by omega)) e0 h
  intro rest pins base E s Q u hz ru I q
  obtain rfl : u = Value.ref l := ru
  obtain ⟨_, its, nn, rv, ho⟩ := (show ObjOk X.prog X.w H s.heap l (.lst vs) from I.hok l _ el)
  have hr1 : Room (k + 2) (A.under (.builtin "list.__repr__.loop" ⟨.ref a :: rest, []⟩)) := Room.loop hr _
  have hg1 : (A.under (.builtin "list.__repr__.loop" ⟨.ref a :: rest, []⟩)).guards = some [.builtin "list.__repr__.loop" ⟨.ref a :: rest, []⟩] := guards_under_guard (isGuard_list_loop _) hg
  cases rv with
  | nil => exact absurd rfl hne
  | cons r1 r2 =>
    rename_i v vs x its
    refine wpAny_pyReprUnder_ref (by omega) ?_
    refine wpAny_pyReprObjUnder_twin (twin := "list.__repr__.under") ⟨_, ho, rfl⟩ PySem.F.slot_list_repr.toG rfl (by have := hr1.un; omega) ?_
    refine call_twin_plain PySem.F.plain_list_repr_under PySem.F.entry_list_repr_under PySem.F.check_list_repr_under ⟨_, ho, rfl⟩ PySem.F.slot_list_repr.toG (PySem.F.args_list_repr_1 _) ?_
    refine wpAny_list_repr_head hg1 (fun v' rest' kw hm => ?_) ho rfl ?_
    · cases List.mem_singleton.mp hm
      exact listSameRef_of_ne fun z => hla (Value.ref.inj z).symm
    refine wpAny_bind (m := newList []) (wpAny_newObj_type ?_)
    refine wpAny_pure ⟨PySem.F.quiet_list_repr_loop _, ?_⟩
    refine loopA (A := (A.under (.builtin "list.__repr__.loop" ⟨.ref a :: rest, []⟩))) (P := s.heap.objs.size) (base := base) el hlen (fun i w hw => ?_) (by omega) (.inr I.sz) (fun x c e z => ?_) (fun p hp z => ?_) (fun s' u I' => ?_) _ 0 _ #[] _ [] rfl (Nat.zero_le _) (ClX.pin_new I (fun b o e => Heap.get?_push_of_some _ e) (Nat.le_refl _) (Heap.get?_push_size _ rfl) (fun v z => nomatch z)) rfl (by simp)
    · obtain ⟨t', ht', hs'⟩ := hT i w hw
      exact ⟨t', ht', itA_one hs hf F hb (hr1.mono (by omega)) (fun pins s I => Env0.loop (e0 pins s I) _) hs'⟩
    · obtain ⟨v, o, hc, _⟩ := I.cell x c e
      rw [z] at hc
      exact absurd (Heap.lt_size hc) (Nat.lt_irrefl _)
    · have e := (I.pin p hp).1
      rw [z] at e
      exact absurd (Heap.lt_size e) (Nat.lt_irrefl _)
    · exact ⟨⟨_, _, rfl⟩, _, _, rfl, q s' I'⟩
/-- repr(xs), xs such a list -/
def rReprA (C : Addr) (sp : Sp) : List V → Hp → VK → Prop := fun xs H Q => ∃ a vs ts, xs = [.ref a] ∧ H a = some (.lst vs) ∧ vs ≠ [] ∧ ts.length = vs.length ∧ (∀ (i : Nat) (v : V), vs[i]? = some v → ∃ t, ts[i]? = some t ∧ ShB C sp H a v t) ∧
  (listText ts).length ≤ sizeLine ∧ Q (.str (listText ts)) H
theorem call_reprA (hs : PySem.W.findIn X.K (.ref C) "__repr__" = some (some (.ref f))) (hf : PySem.W.isFn X.K (.ref f) = true) (F : FnOk X.prog X.w X.K X.mg X.base CX0 k f fd ps sp) (hb : Binds X.K fd ps []) (hr : Room (k + 4) X.A) (hg : X.A.guards = some []) :
    CallR X (.builtin "repr") (rReprA C sp) := by
  intro pins s σ H xs us Q I r h
  obtain ⟨a, vs, ts, rfl, ea, hne, hlen, hT, hsz, q⟩ := h
  obtain ⟨u, rfl, rx⟩ := vals1 r
  cases (show u = Value.ref a from rx)
  obtain ⟨_, its, nn, rv, ho⟩ := (show ObjOk X.prog X.w H s.heap a (.lst vs) from I.hok a _ ea)
  cases rv with
  | nil => exact absurd rfl hne
  | cons r1 r2 =>
    rename_i v vs x l
    refine call_repr_slot (by have := hr.un; show X.A.units + 1 < cLine; omega) ⟨_, ho, rfl⟩ PySem.F.slot_list_repr.toG ?_
    refine wpAny_call (codeAny_call_builtin PySem.F.slot_list_repr.plain PySem.F.entry_list_repr (PySem.F.slot_list_repr.check _ _ _ _ _ _ _ _ ⟨_, ho, rfl⟩ (PySem.F.args_list_repr_1 _) ?_))
    refine wpAny_list_repr_head (g := []) hg (fun v rest kw hm => nomatch hm) ho rfl ?_
    refine wpAny_bind (m := newList []) (wpAny_newObj_type ?_)
    refine wpAny_pure ⟨PySem.F.quiet_list_repr_loop _, ?_⟩
    refine loopA (A := X.A.in1) (P := s.heap.objs.size) (base := 0) ea hlen (fun i w hw => ?_) (by omega) (.inr I.sz) (fun x c e z => ?_) (fun p hp z => ?_) (fun s' u I' => ?_) _ 0 _ #[] _ [] rfl (Nat.zero_le _) (ClX.pin_new I (fun b o e => Heap.get?_push_of_some _ e) (Nat.le_refl _) (Heap.get?_push_size _ rfl) (fun v z => nomatch z)) rfl (by simp)
    · obtain ⟨t', ht', hs'⟩ := hT i w hw
      exact ⟨t', ht', itA_two hs hf F hb hr.in1 hg (fun pins s I => I.env0.in1) hs'⟩
    · obtain ⟨v, o, hc, _⟩ := I.cell x c e
      rw [z] at hc
      exact absurd (Heap.lt_size hc) (Nat.lt_irrefl _)
    · have e := (I.pin p hp).1
      rw [z] at e
      exact absurd (Heap.lt_size e) (Nat.lt_irrefl _)
    · exact ⟨_, _, rfl, .str _, H, I', ⟨u, rfl⟩, q⟩
end
end RtL

set_option maxHeartbeats 1000000
/-! operators and == of an own class where the right operand is of another kind -/
namespace RtL
open PySem PySem.Spec PyProof.Rows L2
/-- None, a truth value, a text, a list, a tuple, a dict, and the name of its type -/
inductive OddV (H : Hp) : V → String → Prop
  | non : OddV H .non "NoneType"
  | bl (b : Bool) : OddV H (.bl b) "bool"
  | str (z : Str) : OddV H (.str z) "str"
  | lst {a : Addr} {xs : List V} (e : H a = some (.lst xs)) : OddV H (.ref a) "list"
  | tup {a : Addr} {xs : List V} (e : H a = some (.tup xs)) : OddV H (.ref a) "tuple"
  | dct {a : Addr} {kvs : List (Key × V)} (e : H a = some (.dK kvs)) : OddV H (.ref a) "dict"
def oddT : List String := ["NoneType", "bool", "str", "list", "tuple", "dict"]
theorem OddV.mem {H : Hp} {v : V} {t : String} (h : OddV H v t) : t ∈ oddT := by cases h <;> decide
theorem OddV.same {H H' : Hp} {v : V} {t : String} (h : OddV H v t) (s : Same H H') : OddV H' v t := by
  cases h with
  | non => exact .non
  | bl b => exact .bl b
  | str z => exact .str z
  | lst e => exact .lst (s _ _ e)
  | tup e => exact .tup (s _ _ e)
  | dct e => exact .dct (s _ _ e)
theorem OddV.ty {K : PySem.W.Frag} {H : Hp} {v : V} {t : String} (h : OddV H v t) : TyX K H v (.type t) := by
  cases h with
  | non => exact .base .non
  | bl b => exact .base (.bl b)
  | str z => exact .base (.str z)
  | lst e => exact .base (.lst e)
  | tup e => exact .base (.tup e)
  | dct e => exact .base (.dK e)
theorem looks_at {M : Model} {h : Heap} {a : Addr} {o : Obj} {c : Value} (e : h.get? a = some o) (hc : o.cls = c) : PySem.W.Looks M h (typeOf (.ref a)) c := fun A Q E s k q => wpAny_typeOf_ref (k _ _ e) (by rw [hc]; exact q)
theorem OddV.looks {X : Cx} {pins : List (Addr × Obj)} {σ : L2.St} {H : Hp} {s : Shared} {M : Model} {v : V} {u : Value} {t : String} (I : Inv X pins σ H s) (h : OddV H v t) (r : RelV v u) : PySem.W.Looks M s.heap (typeOf u) (.type t) := by
  cases h with
  | non => cases (show u = Value.none from r); exact PySem.W.Looks.of_pure rfl
  | bl b => cases (show u = Value.bool b from r); exact PySem.W.Looks.of_pure rfl
  | str z => obtain ⟨tk, rfl⟩ := (show ∃ tk, u = Value.str z tk from r); exact PySem.W.Looks.of_pure rfl
  | @lst a xs e =>
    cases (show u = Value.ref a from r)
    obtain ⟨_, its, n, rv, ho⟩ := (show ObjOk X.prog X.w H s.heap a (.lst xs) from I.hok a _ e)
    exact looks_at ho rfl
  | @tup a xs e =>
    cases (show u = Value.ref a from r)
    obtain ⟨_, its, rv, o, ho, hc, n, hd⟩ := (show ObjOk X.prog X.w H s.heap a (.tup xs) from I.hok a _ e)
    exact looks_at ho hc
  | @dct a kvs e =>
    cases (show u = Value.ref a from r)
    obtain ⟨_, _, vs, rv, o, es, ep, ho, hx, _⟩ := (show ObjOk X.prog X.w H s.heap a (.dK kvs) from I.hok a _ e)
    exact looks_at ho hx.1
section
variable {prog : Program} {w : World} {K : PySem.W.Frag} {A : Around} {E : Value → Shared → Prop} {s : Shared} {x f C L : Addr} {h₀ : Heap} {m : Str → Option Value} {ox : Obj} {od : Option Obj} {T : String}
open PySem.W in
/-- a binary operator by the method of the left one's class, the right one of a built-in type -/
theorem bin_L {op : Operator} {b : Value} {fo ro rc : Option Value} {Q : Value → Shared → Prop} (X : K.In s.heap) (I : InstAt s.heap x ox C od) (tb : Looks (model prog w) s.heap (typeOf b) (.type T)) (hc : selfFirst K C = true)
    (hs : findIn K (.ref C) (PySem.dunder op.info.2) = some (some (.ref f))) (hf : isFn K (.ref f) = true) (hr : findIn K (.ref C) (dunderR op.info.2) = some rc) (hp : rc = none ∨ ∃ g : Addr, rc = some (.ref g))
    (h1 : findIn K (.type T) (PySem.dunder op.info.2) = some fo) (h2 : findIn K (.type T) (dunderR op.info.2) = some ro) (hsub : subIn K (.type T) (.ref C) = some false)
    (h : wpAny (model prog w) A (call (.ref f) [.ref x, b]) (PySem.W.CmpBack Q) E s) : wpAny (model prog w) A (binaryOp op (.ref x) b) Q E s := by
  obtain ⟨cd, rest, hcd, hm⟩ := ksp_first hc
  rcases hi : op.info with ⟨sym, nn⟩
  rw [hi] at hs hr h1 h2
  dsimp only at hs hr h1 h2
  have got := ksp_try X I hs hf h
  obtain ⟨hh, g, d, tt, os⟩ := s
  have t1 : Looks (model prog w) hh (typeOf (.ref x)) (.ref C) := I.type
  have t2 : Looks (model prog w) hh (typeOf b) (.type T) := tb
  have t3 : Looks (model prog w) hh (fillsNumberSlot (.ref C) nn) true := fills_K X hcd hm hs
  have t4 : Looks (model prog w) hh (fillsNumberSlot (.type T) nn) ((fo.isSome && !isSeqSlot fo) || (ro.isSome && !isSeqSlot ro)) := ksp_fillsT X h1 h2
  have t5 : Looks (model prog w) hh (isSubtype (.type T) (.ref C)) false := looks_subIn X hsub
  have t6 : Looks (model prog w) hh (numberSlotInPython (.ref C) nn) true := ksp_inPy X hs hr hp
  have t7 : Looks (model prog w) hh (numberSlotInPython (.type T) nn) false := Looks.of_pure rfl
  have t8 : Looks (model prog w) hh (typeLookup (.type T) (dunderR nn)) ro := looks_findIn X h2
  generalize ((fo.isSome && !isSeqSlot fo) || (ro.isSome && !isSeqSlot ro)) = rt at t4
  have ne : (Value.ref C == Value.type T) = false := Bool.eq_false_iff.mpr fun q => by cases beq_iff_eq.mp q
  simp only [binaryOp, hi]
  refine wpAny_holding (wpAny_bind ?_)
  unfold binaryOp1
  refine wpAny_bind (t1.at (wpAny_bind (t2.at (wpAny_bind (t3.at ?_)))))
  simp only [ne, Bool.false_eq_true, if_false]
  cases rt <;> (
    ksp_lk
    refine wpAny_mono got (fun r s' z => ?_) fun _ _ e => e
    obtain ⟨v, rfl, hq⟩ := z
    ksp_lk
    exact hq)
end
section
variable {X : Cx} {CX : CXT} {k : Nat} {f C : Addr} {fd : FuncData} {sp : Sp} {E : XK} {ps : List Str}
/-- x op y, y one of these -/
def rOddBin (C : Addr) (sp : Sp) (E : XK) : R2 := fun x y H Q => ∃ a dx fs t, x = .ref a ∧ H a = some (.ins C dx fs) ∧ OddV H y t ∧ sp [.ref a, y] H Q E
def opB (K : PySem.W.Frag) (op : Operator) : Bool := oddT.all fun t => (PySem.W.findIn K (.type t) (PySem.dunder op.info.2)).isSome && (PySem.W.findIn K (.type t) (PySem.dunderR op.info.2)).isSome
theorem op_oddBin {op : Operator} (O : OpOf X.K C f (PySem.dunder op.info.2) (PySem.dunderR op.info.2)) (nt : ∀ t ∈ oddT, PySem.W.subIn X.K (.type t) (.ref C) = some false) (hB : opB X.K op = true)
    (F : FnOk X.prog X.w X.K X.mg X.base CX k f fd ps sp) (hr : Room k X.A) (hb : Binds X.K fd ps []) (hx : Passes CX X E) : OpR X (binaryOp op) (rOddBin C sp E) := by
  intro pins s σ H x y v u Q I rx ry h
  obtain ⟨a, dx, fs, t, rfl, ha, hy, q⟩ := h
  cases (show v = Value.ref a from rx)
  obtain ⟨mA, oa, _⟩ := ins_get I.hok ha
  obtain ⟨od, J, _⟩ := oa.look
  obtain ⟨z1, z2⟩ := He.ba (List.all_eq_true.mp hB t hy.mem)
  obtain ⟨fo, e1⟩ := Option.isSome_iff_exists.mp z1
  obtain ⟨ro, e2⟩ := Option.isSome_iff_exists.mp z2
  refine bin_L I.kIn J (hy.looks I ry) O.me O.at_ O.fn O.re (.inl rfl) e1 e2 (nt t hy.mem) ?_
  exact wpAny_mono (run_fn F hr hb .nil hx I (us := [.ref a, u]) (vs := [.ref a, y]) (.cons rfl (.cons ry .nil)) q) (fun w s' z => (by
    obtain ⟨z', H', I', rz, qz⟩ := z
    exact SlX.cmpback rz ⟨z', H', I', rz, qz⟩ : PySem.W.CmpBack (EP X pins σ Q) w s')) fun _ _ x => x
def rAllBin (C : Addr) (sp : Sp) (E : XK) : R2 := fun x y H Q => rOwnBin C sp E x y H Q ∨ rOddBin C sp E x y H Q
theorem op_allBin {op : Operator} {fo ro : Option Value} (O : OpOf X.K C f (PySem.dunder op.info.2) (PySem.dunderR op.info.2)) (h1 : PySem.W.findIn X.K (.type "int") (PySem.dunder op.info.2) = some fo) (h2 : PySem.W.findIn X.K (.type "int") (PySem.dunderR op.info.2) = some ro)
    (nt : ∀ t ∈ oddT, PySem.W.subIn X.K (.type t) (.ref C) = some false) (hB : opB X.K op = true) (F : FnOk X.prog X.w X.K X.mg X.base CX k f fd ps sp) (hr : Room k X.A) (hb : Binds X.K fd ps []) (hx : Passes CX X E) : OpR X (binaryOp op) (rAllBin C sp E) := by
  intro pins s σ H x y v u Q I rx ry h
  rcases h with h | h
  · exact op_ownBin O h1 h2 F hr hb hx pins s σ H x y v u Q I rx ry h
  · exact op_oddBin O nt hB F hr hb hx pins s σ H x y v u Q I rx ry h
/-- x == y, y one of these, a whole number, or of the same class -/
def rEqAll (C : Addr) (sp : Sp) (E : XK) : R2 := fun x y H Q => rOwnEq C sp E x y H Q ∨ ∃ a dx fs t, x = .ref a ∧ H a = some (.ins C dx fs) ∧ OddV H y t ∧ sp [.ref a, y] H Q E
theorem op_eqAll (O : EqOf X.K C f) (nt : ∀ t ∈ oddT, PySem.W.subIn X.K (.type t) (.ref C) = some false) (F : FnOk X.prog X.w X.K X.mg X.base CX k f fd ps sp) (hr : Room k X.A) (hb : Binds X.K fd ps []) (hx : Passes CX X E) : OpR X (compareOp .Eq) (rEqAll C sp E) := by
  intro pins s σ H x y v u Q I rx ry h
  rcases h with h | ⟨a, dx, fs, t, rfl, ha, hy, q⟩
  · exact op_ownEq O F hr hb hx pins s σ H x y v u Q I rx ry h
  cases (show v = Value.ref a from rx)
  obtain ⟨mA, oa, _⟩ := ins_get I.hok ha
  obtain ⟨od, J, _⟩ := oa.look
  obtain ⟨m, hF⟩ := I.fr
  show wpAny _ _ (richCompare .Eq _ _) _ _ _
  refine PySem.W.cmp_K (op := .Eq) (tb := .type t) hr.units0 hF I.ok.mod.kin J (hy.looks I ry) (by unfold PySem.W.notFirst; rw [nt t hy.mem]; simp) O.at_ O.fn ?_
  exact wpAny_mono (run_fn F hr hb .nil hx I (us := [.ref a, u]) (vs := [.ref a, y]) (.cons rfl (.cons ry .nil)) q) (fun w s' z => (by
    obtain ⟨z', H', I', rz, qz⟩ := z
    exact SlX.cmpback rz ⟨z', H', I', rz, qz⟩ : PySem.W.CmpBack (EP X pins σ Q) w s')) fun _ _ x => x
end
end RtL

set_option maxHeartbeats 4000000
namespace RtL
open PySem PySem.Spec PyProof.Rows L2
section
variable {X : Cx} {CX : CXT} {k : Nat} {f C : Addr} {fd : FuncData} {ps : List Str} {sp : Sp} {E : L2.St → XK} {m : Str} {pos apos : Pos} {e o : Expr} {es : List Expr} {ta : TE} {t : TA} {pl : Sem Bool}
/-- o.m(..) of an instance, where what it raises is told by the slots -/
def tMex (C : Addr) (m : Str) (sp : Sp) (E : L2.St → XK) (ta : TE) (t : TA) : TE := fun σ H Q => ta σ H fun y H1 => ∃ b dy gs, y = .ref b ∧ H1 b = some (.ins C dy gs) ∧ gs.lookup m = none ∧ t σ H1 fun ws H2 => sp (.ref b :: ws) H2 Q (E σ)
theorem pe_mex (he : PE X o ta) (c : Cls X.K C) (hm : Meth X.K C m f) (F : FnOk X.prog X.w X.K X.mg X.base CX k f fd ps sp) (hr : Room k X.A) (hb : Binds X.K fd ps []) (hx : ∀ σ, PassesAt CX X σ (E σ)) (ha : PA X (e :: es) t)
    (hst : starEach (e :: es) X.env = (false, eval e X.env) :: starEach es X.env := by rfl) (hpl : (backTo pos (starEach es X.env)).any (·.1) = false := by rfl)
    (ht : eval (.Call (.Attribute o m apos) (e :: es) [] pos) X.env = (do
      let ov ← eval o X.env
      standAt apos.atName
      let (g, first) ← holding [ov] (getMethod ov m pl)
      callWith pos g first (backTo pos (starEach (e :: es) X.env)) (backToKw pos (keywordEach [] X.env))) := by rfl) :
    PE X (.Call (.Attribute o m apos) (e :: es) [] pos) (tMex C m sp E ta t) := by
  refine ⟨fun pins s σ H Q I h => ?_⟩
  refine PySem.W.methodCall_KW (pl := pl) (thn (he.run pins s σ H _ I h) fun u s1 hh => ?_) ht
  obtain ⟨y, H1, I1, ry, b, dy, gs, rfl, eb, l, q⟩ := hh
  obtain rfl : u = Value.ref b := ry
  refine getmeth_ok I1 eb c hm l ?_
  refine PySem.W.callWith_K (first := [.ref b]) (h₀ := X.base) I.ok.mod.kin hm.kp (thn (ha.run pos pins s1 σ H1 _ I1 q) fun us s2 hh2 => ?_) hst hpl
  obtain ⟨ws, H2, I2, r, q2⟩ := hh2
  exact ⟨I2.kIn, run_fnS (us := .ref b :: us) (vs := .ref b :: ws) F hr hb (hx σ) I2 (.cons rfl r) q2⟩
end
end RtL

set_option maxHeartbeats 4000000
namespace K10
open PySem PySem.Spec PyProof.Rows L2 RtL ErL
section
variable {P : Program} {w : World} {K : Fr} {mg : Str → Option Value} {base : Heap} {f : Addr} {fd : FuncData}
/-- what is no number -/
def Odd (K : Fr) (H : Hp) (v : V) : Prop := ∃ t, OddV H v t
/-- what a refusal tells -/
def Ref (K : Fr) (H : Hp) (v : V) (E : XK) : Prop := ∀ d H', Same H H' → H' d = some (.xd [("value", v)]) → E (.ref (IN K)) (some d) H'
theorem Ref.same {H H1 : Hp} {v : V} {E : XK} (r : Ref K H v E) (s : Same H H1) : Ref K H1 v E := fun d H' s' e => r d H' (s.trans s') e
def spIsintO (K : Fr) : Sp := fun vs H Q _ => ∃ v, vs = [v] ∧ Odd K H v ∧ Q (.bl false) H
theorem ok_isintO (F : FunD K "is_an_integer" "is_an_integer" (defArgs s_isint) (defBody s_isint) (defScope s_isint) [] [] f fd) (T : TT K mg) : FnOk P w K mg base CX0 1 f fd ["value"] (spIsintO K) := by
  refine F.ok sc_isint (fun vs H Q E h => ?_) (fun cdv A outer s H vs Q E hr h => ?_)
  · obtain ⟨v, rfl, _⟩ := h
    rfl
  · obtain ⟨v, rfl, ⟨t, od⟩, q⟩ := h
    have ty := od.ty (K := K)
    have ht := od.mem
    refine ⟨_, PSs.nox (pss_one (ps_ret (pe_and (pe_callB call_isi (by rfl) T.fre (by decide +kernel) (pa_cons (pv 0) (pa_cons (pe_bltn (v := .ty "int") (u := .type "int") (by rfl) T.fre (by decide +kernel) rfl) pa_nil)))
      (pe_one (pe_not (pe_callB call_isi (by rfl) T.fre (by decide +kernel) (pa_cons (pv 0) (pa_cons (pe_bltn (v := .ty "bool") (u := .type "bool") (by rfl) T.fre (by decide +kernel) rfl) pa_nil)))))))), ?_⟩
    simp only [RtL.oddT, List.mem_cons, List.not_mem_nil, or_false] at ht
    rcases ht with rfl | rfl | rfl | rfl | rfl | rfl
    · exact ⟨_, rfl, _, _, _, _, false, rfl, .ty "int", ty, kit_ty rfl, false, rfl, iteF q⟩
    · exact ⟨_, rfl, _, _, _, _, true, rfl, .ty "int", ty, kit_ty rfl, true, rfl, iteT ⟨_, rfl, _, _, _, _, true, rfl, .ty "bool", ty, kit_ty rfl, true, rfl, q⟩⟩
    · exact ⟨_, rfl, _, _, _, _, false, rfl, .ty "int", ty, kit_ty rfl, false, rfl, iteF q⟩
    · exact ⟨_, rfl, _, _, _, _, false, rfl, .ty "int", ty, kit_ty rfl, false, rfl, iteF q⟩
    · exact ⟨_, rfl, _, _, _, _, false, rfl, .ty "int", ty, kit_ty rfl, false, rfl, iteF q⟩
    · exact ⟨_, rfl, _, _, _, _, false, rfl, .ty "int", ty, kit_ty rfl, false, rfl, iteF q⟩
abbrev IsintO (P : Program) (w : World) (K : Fr) (mg : Str → Option Value) (base : Heap) : Prop := ∃ f d, Gd P w K mg base 1 "is_an_integer" f d ["value"] (spIsintO K)
/-! ### __init__, refused -/
def spInitX (K : Fr) : Sp := fun vs H Q E => ∃ (a dx : Addr) (v : V), vs = [.ref a, v, .int 1] ∧ Odd K H v ∧ H a = some (.ins (RC K) dx []) ∧ Ref K H v E
theorem ok_initX (F : FunD K "__init__" "Ratio.__init__" (defArgs s_init) (defBody s_init) (defScope s_init) [.int 1] [] f fd) (T : TT K mg) (D : IsintO P w K mg base) : FnOk P w K mg base (L2.CX P w) 2 f fd ["self", "top", "bottom"] (spInitX K) := by
  obtain ⟨fI, dI, GI⟩ := D
  obtain ⟨i1, i2, i3, i4, i5, i6, i7, i8, i9⟩ := T.ini
  refine F.ok sc_init (fun vs H Q E h => ?_) (fun cdv A outer s H vs Q E hr h => ?_)
  · obtain ⟨a, dx, v, rfl, _⟩ := h
    rfl
  · obtain ⟨a, dx, v, rfl, ho, ea, r⟩ := h
    refine ⟨_, (pss_cons (ps_if (pt_not (pt_val (pe_gd GI hr (by rfl) (pa_cons (pv 1) pa_nil)))) (pss_one (ps_raise rfl (takes_of rfl rfl rfl rfl) (pmk_er1 T.cli T.in1 bd1_value hr (by rfl) (T.gl "InvalidNumber" (by decide)) (raises_own i5 i6) (pa_cons (pv 1) pa_nil)))) pss_nil)
      (pss_cons (ps_if (PW.pt (pw_or (pt_not (pt_val (pe_gd GI hr (by rfl) (pa_cons (pv 2) pa_nil)))) (pw_or1 (pt_cmpR op_eq (pv 2) pe_int (nomark _))))) (pss_one (ps_raise rfl (takes_of rfl rfl rfl rfl) (pmk_er1 T.cli T.in1 bd1_value hr (by rfl) (T.gl "InvalidNumber" (by decide)) (raises_own i5 i6) (pa_cons (pv 2) pa_nil)))) pss_nil)
      (pss_cons (ps_set (i := 3) sc_init.nd rfl (Or.inl rfl) (pe_callBfun cr_gcd (by rfl) T.gcd (pa_cons (pv 1) (pa_cons (pv 2) pa_nil))))
      (Evl.pss_cut (ps_if (pt_cmpR op_lt (pv 2) pe_int (nomark _)) (pss_one (ps_set (i := 3) sc_init.nd rfl (Or.inl rfl) (pe_un un_neg (pv 3)))) pss_nil)
      (pss_cons (ps_fld (pv 0) (pe_op op_fdivX (pv 1) (pv 3)) (by rfl)) (pss_one (ps_fld (pv 0) (pe_op op_fdivX (pv 2) (pv 3)) (by rfl)))))))), ?_⟩
    exact ⟨_, rfl, v, rfl, ho, false, rfl, iteT ⟨_, rfl, v, rfl, fun d nd => r d _ (same_new nd) upd_same⟩⟩
/-- Ratio's __init__, refused -/
structure IdX (P : Program) (w : World) (K : Fr) (mg : Str → Option Value) (base : Heap) (fd : FuncData) : Prop where
  ok : FnOk P w K mg base (L2.CX P w) 2 (rm K "__init__") fd ["self", "top", "bottom"] (spInitX K)
  b1 : ∃ ds, Vals [V.int 1] ds ∧ Binds K fd ["self", "top", "bottom"] ds
def spAsrX (K : Fr) : Sp := fun vs H Q E => ∃ v, vs = [v] ∧ Odd K H v ∧ Ref K H v E
theorem Odd.same {H H' : Hp} {v : V} (h : Odd K H v) (s : Same H H') : Odd K H' v := by
  obtain ⟨t, o⟩ := h
  exact ⟨t, o.same s⟩
theorem odd_sub (T : TT K mg) : ∀ t ∈ RtL.oddT, PySem.W.subIn K (.type t) (.ref (RC K)) = some false := fun t ht => T.nto t (by revert t; decide)
theorem odd_ty (T : TT K mg) {t : String} (h : t ∈ RtL.oddT) : PySem.W.kitOne K (.type t) (.ref (RC K)) = some false := T.kitT t (by revert t; decide)
theorem ok_asrX (F : FunD K "as_ratio" "as_ratio" (defArgs s_asr) (defBody s_asr) (defScope s_asr) [] [] f fd) (T : TT K mg) {dI : FuncData} (I : IdX P w K mg base dI) : FnOk P w K mg base (L2.CX P w) 4 f fd ["number"] (spAsrX K) := by
  obtain ⟨ds, hds, hbs⟩ := I.b1
  refine F.ok sc_asr (fun vs H Q E h => ?_) (fun cdv A outer s H vs Q E hr h => ?_)
  · obtain ⟨v, rfl, _⟩ := h
    rfl
  · obtain ⟨v, rfl, ho, r⟩ := h
    refine ⟨_, (pss_cons (ps_if (pt_val (pe_callB call_isi (by rfl) T.fre (by decide +kernel) (pa_cons (pv 0) (pa_cons (pe_glob (v := .ref (RC K)) (by rfl) (T.gl "Ratio" (by decide)) rfl) pa_nil)))) (pss_one (ps_ret (pv 0))) pss_nil)
      (pss_one (ps_ret (pe_make T.mkr I.ok hr (by rfl) (T.gl "Ratio" (by decide)) hbs hds (passes_call (takes_of rfl rfl rfl rfl) fun _ _ _ _ z => z) (pa_cons (pv 0) pa_nil))))), ?_⟩
    obtain ⟨t, od⟩ := id ho
    have ty := od.ty (K := K)
    have ht := od.mem
    refine ⟨_, rfl, _, _, _, _, false, rfl, .own _, ty, odd_ty T ht, false, rfl, iteF ⟨_, rfl, fun x dx nx nd ne => ?_⟩⟩
    have s1 : Same H (upd (upd H dx (.own x)) x (.ins (RC K) dx [])) := fun b o e => by
      rw [upd_ne (ne_of_none e nx), upd_ne (ne_of_none e nd)]
      exact e
    exact ⟨x, dx, v, rfl, ho.same s1, upd_same, r.same s1⟩
abbrev AsrX (P : Program) (w : World) (K : Fr) (mg : Str → Option Value) (base : Heap) : Prop := ∃ f d, FnOk P w K mg base (L2.CX P w) 4 f d ["number"] (spAsrX K) ∧ mg "as_ratio" = some (.ref f) ∧ PySem.W.keepIn K (.ref f) = true ∧ Binds K d ["number"] []
/-! ### the operators, refused -/
def spOpX (K : Fr) : Sp := fun vs H Q E => ∃ a v t b, vs = [.ref a, v] ∧ RatAt K H a t b ∧ Odd K H v ∧ Ref K H v E
theorem ok_addX (F : FunD K "__add__" "Ratio.__add__" (defArgs (inR 7)) (defBody (inR 7)) (defScope (inR 7)) [] [] f fd) (T : TT K mg) (D : Pr P w K mg base) (B : AsrX P w K mg base) :
    FnOk P w K mg base (L2.CX P w) 5 f fd ["self", "other"] (spOpX K) := by
  obtain ⟨⟨dT, MT⟩, ⟨dB, MB⟩, ⟨fR, dR, GR⟩, ⟨dI, I⟩⟩ := D
  obtain ⟨fX, dX, GX, gX, kX, bX⟩ := B
  obtain ⟨x1, x2, x3, x4, x5, x6⟩ := T.exc
  refine F.ok sc_add (fun vs H Q E h => ?_) (fun cdv A outer s H vs Q E hr h => ?_)
  · obtain ⟨a, v, t, b, rfl, _⟩ := h
    rfl
  · obtain ⟨a, v, t, b, rfl, ra, ho, r⟩ := h
    refine ⟨_, (pss_cons (ps_set (i := 2) sc_add.nd rfl (Or.inl rfl) (pe_call GX hr (by rfl) gX kX bX .nil (passes_call (takes_of rfl rfl rfl rfl) fun _ _ _ _ z => z) (pa_cons (pv 1) pa_nil)))
      (pss_one (ps_ret (pe_rat2 T I (hr.mono (by decide)) (by rfl) (pa_cons (pe_op op_add (pe_op op_mulW (pe_fld (pv 0) rfl) (pe_prop (pv 2) T.cl (T.prop "bottom" (by decide)) MB.ok (hr.mono (by decide)) MB.bd .nil pass0 rfl)) (pe_op op_mulW (pe_prop (pv 2) T.cl (T.prop "top" (by decide)) MT.ok (hr.mono (by decide)) MT.bd .nil pass0 rfl) (pe_fld (pv 0) rfl))) (pa_cons (pe_op op_mulW (pe_fld (pv 0) rfl) (pe_prop (pv 2) T.cl (T.prop "bottom" (by decide)) MB.ok (hr.mono (by decide)) MB.bd .nil pass0 rfl)) pa_nil)))))), ?_⟩
    exact ⟨_, rfl, v, rfl, ho, r⟩
theorem ok_subX (F : FunD K "__sub__" "Ratio.__sub__" (defArgs (inR 8)) (defBody (inR 8)) (defScope (inR 8)) [] [] f fd) (T : TT K mg) (D : Pr P w K mg base) (B : AsrX P w K mg base) :
    FnOk P w K mg base (L2.CX P w) 5 f fd ["self", "other"] (spOpX K) := by
  obtain ⟨⟨dT, MT⟩, ⟨dB, MB⟩, ⟨fR, dR, GR⟩, ⟨dI, I⟩⟩ := D
  obtain ⟨fX, dX, GX, gX, kX, bX⟩ := B
  obtain ⟨x1, x2, x3, x4, x5, x6⟩ := T.exc
  refine F.ok sc_sub (fun vs H Q E h => ?_) (fun cdv A outer s H vs Q E hr h => ?_)
  · obtain ⟨a, v, t, b, rfl, _⟩ := h
    rfl
  · obtain ⟨a, v, t, b, rfl, ra, ho, r⟩ := h
    refine ⟨_, (pss_cons (ps_set (i := 2) sc_sub.nd rfl (Or.inl rfl) (pe_call GX hr (by rfl) gX kX bX .nil (passes_call (takes_of rfl rfl rfl rfl) fun _ _ _ _ z => z) (pa_cons (pv 1) pa_nil)))
      (pss_one (ps_ret (pe_rat2 T I (hr.mono (by decide)) (by rfl) (pa_cons (pe_op op_sub (pe_op op_mulW (pe_fld (pv 0) rfl) (pe_prop (pv 2) T.cl (T.prop "bottom" (by decide)) MB.ok (hr.mono (by decide)) MB.bd .nil pass0 rfl)) (pe_op op_mulW (pe_prop (pv 2) T.cl (T.prop "top" (by decide)) MT.ok (hr.mono (by decide)) MT.bd .nil pass0 rfl) (pe_fld (pv 0) rfl))) (pa_cons (pe_op op_mulW (pe_fld (pv 0) rfl) (pe_prop (pv 2) T.cl (T.prop "bottom" (by decide)) MB.ok (hr.mono (by decide)) MB.bd .nil pass0 rfl)) pa_nil)))))), ?_⟩
    exact ⟨_, rfl, v, rfl, ho, r⟩
theorem ok_mulX (F : FunD K "__mul__" "Ratio.__mul__" (defArgs (inR 9)) (defBody (inR 9)) (defScope (inR 9)) [] [] f fd) (T : TT K mg) (D : Pr P w K mg base) (B : AsrX P w K mg base) :
    FnOk P w K mg base (L2.CX P w) 5 f fd ["self", "other"] (spOpX K) := by
  obtain ⟨⟨dT, MT⟩, ⟨dB, MB⟩, ⟨fR, dR, GR⟩, ⟨dI, I⟩⟩ := D
  obtain ⟨fX, dX, GX, gX, kX, bX⟩ := B
  obtain ⟨x1, x2, x3, x4, x5, x6⟩ := T.exc
  refine F.ok sc_mul (fun vs H Q E h => ?_) (fun cdv A outer s H vs Q E hr h => ?_)
  · obtain ⟨a, v, t, b, rfl, _⟩ := h
    rfl
  · obtain ⟨a, v, t, b, rfl, ra, ho, r⟩ := h
    refine ⟨_, (pss_cons (ps_set (i := 2) sc_mul.nd rfl (Or.inl rfl) (pe_call GX hr (by rfl) gX kX bX .nil (passes_call (takes_of rfl rfl rfl rfl) fun _ _ _ _ z => z) (pa_cons (pv 1) pa_nil)))
      (pss_one (ps_ret (pe_rat2 T I (hr.mono (by decide)) (by rfl) (pa_cons (pe_op op_mulW (pe_fld (pv 0) rfl) (pe_prop (pv 2) T.cl (T.prop "top" (by decide)) MT.ok (hr.mono (by decide)) MT.bd .nil pass0 rfl)) (pa_cons (pe_op op_mulW (pe_fld (pv 0) rfl) (pe_prop (pv 2) T.cl (T.prop "bottom" (by decide)) MB.ok (hr.mono (by decide)) MB.bd .nil pass0 rfl)) pa_nil)))))), ?_⟩
    exact ⟨_, rfl, v, rfl, ho, r⟩
theorem ok_belowX (F : FunD K "is_below" "Ratio.is_below" (defArgs (inR 6)) (defBody (inR 6)) (defScope (inR 6)) [] [] f fd) (T : TT K mg) (D : Pr P w K mg base) (B : AsrX P w K mg base) :
    FnOk P w K mg base (L2.CX P w) 5 f fd ["self", "other"] (spOpX K) := by
  obtain ⟨⟨dT, MT⟩, ⟨dB, MB⟩, ⟨fR, dR, GR⟩, ⟨dI, I⟩⟩ := D
  obtain ⟨fX, dX, GX, gX, kX, bX⟩ := B
  obtain ⟨x1, x2, x3, x4, x5, x6⟩ := T.exc
  refine F.ok sc_below (fun vs H Q E h => ?_) (fun cdv A outer s H vs Q E hr h => ?_)
  · obtain ⟨a, v, t, b, rfl, _⟩ := h
    rfl
  · obtain ⟨a, v, t, b, rfl, ra, ho, r⟩ := h
    refine ⟨_, (pss_cons (ps_set (i := 2) sc_below.nd rfl (Or.inl rfl) (pe_call GX hr (by rfl) gX kX bX .nil (passes_call (takes_of rfl rfl rfl rfl) fun _ _ _ _ z => z) (pa_cons (pv 1) pa_nil)))
      (pss_one (ps_ret (pe_cmpR op_lt (pe_op op_mulW (pe_fld (pv 0) rfl) (pe_prop (pv 2) T.cl (T.prop "bottom" (by decide)) MB.ok (hr.mono (by decide)) MB.bd .nil pass0 rfl)) (pe_op op_mulW (pe_prop (pv 2) T.cl (T.prop "top" (by decide)) MT.ok (hr.mono (by decide)) MT.bd .nil pass0 rfl) (pe_fld (pv 0) rfl)) (nomark _))))), ?_⟩
    exact ⟨_, rfl, v, rfl, ho, r⟩
theorem ok_overX (F : FunD K "over" "Ratio.over" (defArgs (inR 5)) (defBody (inR 5)) (defScope (inR 5)) [] [] f fd) (T : TT K mg) (D : Pr P w K mg base) (B : AsrX P w K mg base) :
    FnOk P w K mg base (L2.CX P w) 5 f fd ["self", "other"] (spOpX K) := by
  obtain ⟨⟨dT, MT⟩, ⟨dB, MB⟩, ⟨fR, dR, GR⟩, ⟨dI, I⟩⟩ := D
  obtain ⟨fX, dX, GX, gX, kX, bX⟩ := B
  obtain ⟨x1, x2, x3, x4, x5, x6⟩ := T.exc
  refine F.ok sc_over (fun vs H Q E h => ?_) (fun cdv A outer s H vs Q E hr h => ?_)
  · obtain ⟨a, v, t, b, rfl, _⟩ := h
    rfl
  · obtain ⟨a, v, t, b, rfl, ra, ho, r⟩ := h
    refine ⟨_, (pss_cons (ps_set (i := 2) sc_over.nd rfl (Or.inl rfl) (pe_call GX hr (by rfl) gX kX bX .nil (passes_call (takes_of rfl rfl rfl rfl) fun _ _ _ _ z => z) (pa_cons (pv 1) pa_nil)))
      (pss_cons (ps_if (pt_cmpR op_eq (pe_prop (pv 2) T.cl (T.prop "top" (by decide)) MT.ok (hr.mono (by decide)) MT.bd .nil pass0 rfl) pe_int (nomark _)) (pss_one (ps_raise rfl (takes_of rfl rfl rfl rfl) (pmk_bare PySem.F.excBase_RuntimeError x1 (T.gl "DividedByZero" (by decide)) x2 (raises_own x3 x4) (by rfl)))) pss_nil) (pss_one (ps_ret (pe_rat2 T I (hr.mono (by decide)) (by rfl) (pa_cons (pe_op op_mulW (pe_fld (pv 0) rfl) (pe_prop (pv 2) T.cl (T.prop "bottom" (by decide)) MB.ok (hr.mono (by decide)) MB.bd .nil pass0 rfl)) (pa_cons (pe_op op_mulW (pe_fld (pv 0) rfl) (pe_prop (pv 2) T.cl (T.prop "top" (by decide)) MT.ok (hr.mono (by decide)) MT.bd .nil pass0 rfl)) pa_nil))))))), ?_⟩
    exact ⟨_, rfl, v, rfl, ho, r⟩
/-! ### total, refused -/
theorem fnOk_or {k : Nat} {ps : List Str} {sp1 sp2 : Sp} (F1 : FnOk P w K mg base CX0 k f fd ps sp1) (F2 : FnOk P w K mg base (L2.CX P w) k f fd ps sp2) : FnOk P w K mg base (L2.CX P w) k f fd ps (fun vs H Q E => sp1 vs H Q E ∨ sp2 vs H Q E) := by
  refine ⟨fun vs H Q E h => h.elim (F1.len vs H Q E) (F2.len vs H Q E), fun A outer s H args us vs Q E hr e0 hb r h => ?_⟩
  rcases h with h | h
  · refine codeAny_mono (F1.run A outer s H args us vs Q E hr e0 hb r h) fun r' s' hq => ?_
    match r', hq with
    | .ok (.ret u), hq => exact hq
    | .ok .next, hq => exact False.elim hq
    | .ok .brk, hq => exact False.elim hq
    | .ok .cont, hq => exact False.elim hq
    | .error e, hq => exact False.elim hq
  · exact F2.run A outer s H args us vs Q E hr e0 hb r h
def spTotX1 (K : Fr) : Sp := fun vs H _ E => ∃ p n a v t b, vs = [.ref (RC K), .ref p] ∧ H p = some (.tup [.int n, .ref a, v, .non]) ∧ RatAt K H a t b ∧ BdP 200 (n, 1) ∧ BdP 200 (t, b) ∧ Odd K H v ∧ Ref K H v E
def spTotX (K : Fr) : Sp := fun vs H _ E => ∃ n a v t b, vs = [.ref (RC K), .int n, .ref a, v, .non] ∧ RatAt K H a t b ∧ BdP 200 (n, 1) ∧ BdP 200 (t, b) ∧ Odd K H v ∧ Ref K H v E
abbrev spAddO (K : Fr) : Sp := fun vs H Q E => spOp K (fun t b t2 b2 => t * b2 + t2 * b) (fun _ b _ b2 => b * b2) vs H Q E ∨ spOpX K vs H Q E
theorem ok_totX {q : Str} (F : FunD K "total" q (defArgs (inR 4)) (defBody (inR 4)) (defScope (inR 4)) [] [] f fd) (T : TT K mg) (D : Ad P w K mg base) (B : ∃ d, FnOk P w K mg base (L2.CX P w) 5 (rm K "__add__") d ["self", "other"] (spAddO K) ∧ Binds K d ["self", "other"] []) : FnR P w K mg base (L2.CX P w) 7 f (spTotX K) := by
  obtain ⟨_, ⟨dI, I⟩⟩ := D
  obtain ⟨dA, GA, bA⟩ := B
  obtain ⟨d1, hd1, b1⟩ := I.b1
  obtain ⟨oc, od, dV, kV, doc, pm, an, cdv, ct, osl, rfl, lk, hcd, hdv, _⟩ := F.ex
  obtain rfl : dV = Value.none := hdv.elim (fun z => z.2) fun z => absurd rfl z.1
  have hb : ∀ us rest : List Value, us.length = (["cls"] : List Str).length → bindArgs (PySem.W.fnOf "total" q (defArgs (inR 4)) (defBody (inR 4)) (defScope (inR 4)) Value.none kV doc pm an cdv ct) ⟨us ++ rest, []⟩ = (newTuple rest >>= fun t => pure ((["cls"] : List Str).zip us ++ [(("numbers" : Str), t)])) :=
    StX.bind_star1 (B := fun vs => bindArgs (PySem.W.fnOf "total" q (defArgs (inR 4)) (defBody (inR 4)) (defScope (inR 4)) Value.none kV doc pm an cdv ct) ⟨vs, []⟩) (fun a => by rfl) (fun a r rs => by rfl)
  refine FnR.imp (StX.fn_star (P := P) (w := w) (mg := mg) (base := base) (CX := L2.CX P w) (k := 6) (sp := spTotX1 K) (pv := "numbers") (ps := ["cls"]) lk hcd sc_total StX.cxUp hb (fun A outer s H vs Q E hr h => ?_)) (fun vs H Q E h => ?_)
  rotate_left
  · obtain ⟨n, a, v, t, b, rfl, ra, bn, bt, ho, r⟩ := h
    refine ⟨[.ref (RC K)], [.int n, .ref a, v, .non], rfl, rfl, by show 4 ≤ sizeLine; rw [sizeLine_eq]; decide, fun p hp => ⟨p, n, a, v, t, b, rfl, upd_same, ra.same (same_new hp), bn, bt, ho.same (same_new hp), r.same (same_new hp)⟩⟩
  · obtain ⟨p, n, a, v, t, b, rfl, hp, ra, bn, bt, ho, r⟩ := h
    refine ⟨_, (pss_cons (ps_set (i := 2) sc_total.nd rfl (Or.inl rfl) (pe_makeL (pv 0) T.mkr I.ok (hr.mono (by decide)) b1 hd1 pass0 (pa_cons pe_int pa_nil)))
      (pss_cons (ps_for (passes_of rfl) rfl (pi_tup (pv 1)) (pg_name (i := 3) sc_total.nd rfl (Or.inl rfl)) (pss_one (ps_set (i := 2) sc_total.nd rfl (Or.inl rfl) (pe_op (op_allBin (op := .Add) (T.bin "__add__" "__radd__" (by decide)) rfl rfl (odd_sub T) rfl GA (hr.mono (by decide)) bA (passes_call (takes_of rfl rfl rfl rfl) fun _ _ _ _ z => z)) (pv 2) (pv 3)))))
      (pss_one (ps_ret (pv 2))))), ?_⟩
    refine ⟨_, rfl, rfl, ?_⟩
    refine fun x dx nx nd ne => made_at nx nd ne (p := 0) (q := 1) (by decide) (bd_up (n := 1) (by decide) (by decide)) (bd_up (n := 1) (by decide) (by decide)) fun H1 s1 r1 => ⟨rfl, ?_⟩
    have bds : ∀ i : Nat, BdP 604 (sumP (0, 1) (([(n, 1), (t, b)] : List P2).take i)) := fun i => by
      have b0 := sumP_bd (ps := ([(n, 1), (t, b)] : List P2).take i) bdP01 (m := 200) fun r hr => by
        rcases List.mem_cons.mp (List.mem_of_mem_take hr) with z | z
        · rw [z]; exact bn
        · rw [List.mem_singleton.mp z]; exact bt
      have hlen : (([(n, 1), (t, b)] : List P2).take i).length ≤ 2 := by rw [List.length_take]; exact Nat.min_le_right _ _
      have le : 1 + (([(n, 1), (t, b)] : List P2).take i).length * (200 + 1) ≤ 604 := by omega
      exact ⟨bd_up b0.1 le, bd_up b0.2.1 le, b0.2.2⟩
    refine ⟨_, rfl, p, rfl, ⟨_, SqT.of (s1 _ _ hp)⟩, for_tup (xs := [.int n, .ref a, v, .non]) (fun i σ H2 => i ≤ 2 ∧ Same H H2 ∧ ∃ x v, σ = [some (.ref (RC K)), some (.ref p), some (.ref x), v] ∧ RatAt K H2 x (sumP (0, 1) (([(n, 1), (t, b)] : List P2).take i)).1 (sumP (0, 1) (([(n, 1), (t, b)] : List P2).take i)).2)
      ⟨by decide, s1, x, none, rfl, r1⟩ (fun i σ H2 _ ⟨_, s2, _⟩ => SqT.of (s2 _ _ hp)) ?_ (fun σ H2 ⟨h4, _⟩ => absurd (show 4 ≤ 2 from h4) (by decide))⟩
    rintro i v' σ H2 hi ⟨i2, s2, x, v3, rfl, r2⟩
    obtain ⟨dx, er⟩ := id r2
    have bi := bds i
    match i, i2, hi, r2, er, bi with
    | 0, _, hi, r2, er, bi =>
      cases (Option.some.inj hi)
      refine ⟨_, rfl, _, rfl, .inl ⟨x, dx, _, rfl, er, .inl ⟨_, rfl⟩, .inl ⟨x, _, _, _, n, 1, rfl, r2, .inr ⟨rfl, rfl⟩, bd_up bi.1 (by decide), bd_up bi.2.1 (by decide), bd_up bn.1 (by decide), bd_up bn.2.1 (by decide), Int.mul_ne_zero bi.2.2 (by decide), fun y H3 s3 r3 => ?_⟩⟩⟩
      exact ⟨by decide, s2.trans s3, y, _, rfl, r3⟩
    | 1, _, hi, r2, er, bi =>
      cases (Option.some.inj hi)
      obtain ⟨da, ea⟩ := ra.same s2
      refine ⟨_, rfl, _, rfl, .inl ⟨x, dx, _, rfl, er, .inr ⟨a, da, _, rfl, ea⟩, .inl ⟨x, _, _, _, t, b, rfl, r2, .inl ⟨a, rfl, da, ea⟩, bd_up bi.1 (by decide), bd_up bi.2.1 (by decide), bd_up bt.1 (by decide), bd_up bt.2.1 (by decide), Int.mul_ne_zero bi.2.2 bt.2.2, fun y H3 s3 r3 => ?_⟩⟩⟩
      exact ⟨by decide, s2.trans s3, y, _, rfl, r3⟩
    | 2, _, hi, r2, er, bi =>
      cases (Option.some.inj hi)
      obtain ⟨t', od⟩ := ho.same s2
      exact ⟨_, rfl, _, rfl, .inr ⟨x, dx, _, t', rfl, er, od, .inr ⟨x, _, _, _, rfl, r2, ⟨t', od⟩, r.same s2⟩⟩⟩
    | k + 3, i2, _, _, _, _ => exact absurd i2 (by omega)
end
end K10

set_option maxHeartbeats 4000000
namespace K10
open PySem PySem.Spec PyProof.Rows L2 RtL ErL
/-! ### pairs that say the same number -/
theorem cross_low {n dd N D : Int} (h : dd ≠ 0) (e : n * D = N * dd) : lowT n dd * D = N * lowB n dd := by
  obtain ⟨e1, e2⟩ := low_spec (t := n) h
  have hs := lowS_ne (t := n) h
  generalize lowT n dd = x at *
  generalize lowB n dd = y at *
  generalize lowS n dd = s at *
  refine Int.eq_of_mul_eq_mul_left hs ?_
  subst e1 e2
  grind
theorem low_uniq {p q t b : Int} (h : Low p q) (hb : b ≠ 0) (e : p * b = t * q) : lowT t b = p ∧ lowB t b = q := by
  obtain ⟨e1, e2⟩ := low_spec (t := t) hb
  have hs := lowS_ne (t := t) hb
  have hl := low_low (t := t) hb
  generalize lowT t b = x at *
  generalize lowB t b = y at *
  generalize lowS t b = s at *
  have c : p * y = x * q := by
    refine Int.eq_of_mul_eq_mul_left hs ?_
    subst e1 e2
    grind
  have cn : p.natAbs * y.natAbs = x.natAbs * q.natAbs := by rw [← Int.natAbs_mul, ← Int.natAbs_mul, c]
  have d1 : q.natAbs ∣ y.natAbs := by
    have z : q.natAbs ∣ p.natAbs * y.natAbs := by rw [cn]; exact Nat.dvd_mul_left _ _
    exact (Nat.Coprime.symm (show Nat.Coprime p.natAbs q.natAbs from h.2)).dvd_of_dvd_mul_left z
  have d2 : y.natAbs ∣ q.natAbs := by
    have z : y.natAbs ∣ x.natAbs * q.natAbs := by rw [← cn]; exact Nat.dvd_mul_left _ _
    exact (Nat.Coprime.symm (show Nat.Coprime x.natAbs y.natAbs from hl.2)).dvd_of_dvd_mul_left z
  have eq : y.natAbs = q.natAbs := Nat.dvd_antisymm d2 d1
  have hy := hl.1
  have hq := h.1
  have eyq : y = q := by omega
  subst eyq
  refine ⟨?_, rfl⟩
  have hy0 : y ≠ 0 := by omega
  exact (Int.eq_of_mul_eq_mul_right hy0 c).symm
theorem sgn_low {t b : Int} (hb : b ≠ 0) : sgn (lowT t b) = sgn (t * b) := by
  obtain ⟨e1, e2⟩ := low_spec (t := t) hb
  have hs := lowS_ne (t := t) hb
  have hl := (low_low (t := t) hb).1
  generalize lowT t b = x at *
  generalize lowB t b = y at *
  generalize lowS t b = s at *
  have e : t * b = (s * s) * (x * y) := by
    rw [e1, e2]
    grind
  have ss : 0 < s * s := by
    rcases Int.lt_trichotomy s 0 with z | z | z
    · exact Int.mul_pos_of_neg_of_neg z z
    · exact absurd z hs
    · exact Int.mul_pos z z
  rw [e]
  unfold sgn
  rcases Int.lt_trichotomy x 0 with z | z | z
  · have h1 : x * y < 0 := Int.mul_neg_of_neg_of_pos z (by omega)
    have h2 : s * s * (x * y) < 0 := Int.mul_neg_of_pos_of_neg ss h1
    rw [if_neg (by omega), if_neg (by omega), if_neg (by omega), if_neg (by omega)]
  · subst z
    simp
  · have h1 : 0 < x * y := Int.mul_pos z (by omega)
    have h2 : 0 < s * s * (x * y) := Int.mul_pos ss h1
    rw [if_neg (by omega), if_pos (by omega), if_neg (by omega), if_pos (by omega)]
/-- a ratio that says a over b -/
def Rt (K : Fr) (H : Hp) (x : Addr) (a b : Int) : Prop := ∃ p q, RatAt K H x p q ∧ Low p q ∧ p * b = a * q ∧ Bd 200 p ∧ Bd 200 q
/-- a number that says a over b -/
def Nr (K : Fr) (H : Hp) (v : V) (a b : Int) : Prop := ∃ p q, Num K H v p q ∧ Low p q ∧ p * b = a * q ∧ Bd 200 p ∧ Bd 200 q
theorem Rt.same {K : Fr} {H H' : Hp} {x : Addr} {a b : Int} (h : Rt K H x a b) (s : Same H H') : Rt K H' x a b := by
  obtain ⟨p, q, r, z⟩ := h
  exact ⟨p, q, r.same s, z⟩
theorem Nr.same {K : Fr} {H H' : Hp} {x : V} {a b : Int} (h : Nr K H x a b) (s : Same H H') : Nr K H' x a b := by
  obtain ⟨p, q, r, z⟩ := h
  exact ⟨p, q, r.same s, z⟩
theorem Rt.nr {K : Fr} {H : Hp} {x : Addr} {a b : Int} (h : Rt K H x a b) : Nr K H (.ref x) a b := by
  obtain ⟨p, q, r, z⟩ := h
  exact ⟨p, q, .inl ⟨x, rfl, r⟩, z⟩
theorem nr_int {K : Fr} {H : Hp} {n : Int} (h : Bd 200 n) : Nr K H (.int n) n 1 := ⟨n, 1, .inr ⟨rfl, rfl⟩, ⟨by decide, by rw [show (1 : Int).natAbs = 1 from rfl, Nat.gcd_one_right]⟩, rfl, h, bd1 (by decide)⟩
section
variable {P : Program} {w : World} {K : Fr} {mg : Str → Option Value} {base : Heap} {f : Addr} {fd : FuncData}
/-! ### whole numbers -/
abbrev sInt : Stmt := top 16
theorem scInt : FnScope ["_law_pot_here", "_law_found", "_law_turn", "_law_small"] ["_law_pot_here"] (defScope sInt) := ⟨rfl, rfl, rfl, by decide +kernel, rfl, by decide +kernel, by decide +kernel⟩
def spInt (K : Fr) : Sp := fun vs H Q _ => ∃ (p : Addr), vs = [.ref p] ∧ PotAt H p ∧ ∀ n H', Bd 160 n → PotAt H' p → But p H H' → Q (.int n) H'
theorem ok_int (F : FunD K "_law_integer" "_law_integer" (defArgs sInt) (defBody sInt) (defScope sInt) [] [] f fd) (T : TT K mg) (D : DrawG P w K mg base) (C : PickG P w K mg base) : FnOk P w K mg base CX0 3 f fd ["_law_pot_here"] (spInt K) := by
  obtain ⟨fD, dD, GD⟩ := D
  obtain ⟨fP, dP, GP⟩ := C
  refine F.ok scInt (fun vs H Q E h => ?_) (fun cdv A outer s H vs Q E hr h => ?_)
  · obtain ⟨p, rfl, _⟩ := h
    rfl
  · obtain ⟨p, rfl, hp, q⟩ := h
    refine ⟨_, PSs.nox (pss_cons (ps_set (i := 1) scInt.nd rfl (Or.inl rfl) pe_int)
      (pss_cons (ps_for PassesOwn.never rfl (pi_range1 (by rfl) T.fre (pa_cons (pe_gd GP hr (by rfl) (pa_cons (pv 0) (pa_cons (pe_lst (pa_cons pe_int (pa_cons pe_int (pa_cons pe_int (pa_cons pe_int (pa_cons pe_int (pa_cons pe_int pa_nil))))))) pa_nil))) pa_nil)) (pg_name (i := 2) scInt.nd rfl (Or.inl rfl))
        (pss_one (ps_set (i := 1) scInt.nd rfl (Or.inl rfl) (pe_op op_add (pe_op op_mulW pe_int (pv 1)) (pe_gd GD (hr.mono (by decide)) (by rfl) (pa_cons (pv 0) (pa_cons pe_int pa_nil)))))))
      (pss_cons (ps_set (i := 3) scInt.nd rfl (Or.inl rfl) (pe_gd GD (hr.mono (by decide)) (by rfl) (pa_cons (pv 0) (pa_cons pe_int pa_nil))))
      (pss_one (ps_ret (pe_gd GP hr (by rfl) (pa_cons (pv 0) (pa_cons (pe_lst (pa_cons (pv 1) (pa_cons (pv 3) (pa_cons (pv 3) (pa_cons (pe_un un_neg (pv 1)) (pa_cons (pe_un un_neg (pv 3)) pa_nil)))))) pa_nil)))))))), ?_⟩
    have pl : ∀ {H' : Hp} {l : Addr}, PotAt H' p → H' l = none → l ≠ p := fun h n z => by
      obtain ⟨_, _, e, _⟩ := h
      rw [← z, n] at e
      cases e
    refine ⟨_, rfl, (by show 6 ≤ sizeLine; rw [sizeLine_eq]; decide), fun l nl => ?_⟩
    refine ⟨p, l, _, rfl, hp.same (same_new nl), upd_same, pl hp nl, by show 0 < 6; decide, by show 6 < 1000; decide, fun i v H1 hv hp1 b1 => ?_⟩
    have b1' := (But.of (p := p) (same_new (o := .lst [.int 0, .int 1, .int 1, .int 2, .int 6, .int 16]) nl)).trans b1
    obtain ⟨n, rfl, hn⟩ : ∃ n : Nat, v = .int (n : Int) ∧ n ≤ 16 := by
      match i, hv with
      | 0, hv => exact ⟨0, (Option.some.inj hv).symm, by decide⟩
      | 1, hv => exact ⟨1, (Option.some.inj hv).symm, by decide⟩
      | 2, hv => exact ⟨1, (Option.some.inj hv).symm, by decide⟩
      | 3, hv => exact ⟨2, (Option.some.inj hv).symm, by decide⟩
      | 4, hv => exact ⟨6, (Option.some.inj hv).symm, by decide⟩
      | 5, hv => exact ⟨16, (Option.some.inj hv).symm, by decide⟩
      | _ + 6, hv => cases hv
    have big : ∀ {i : Nat} {z : Int}, i ≤ 16 → 0 ≤ z → z < ((1000 ^ i : Nat) : Int) → z < 1000000000000000000000000000000000000000000000000 := fun {i z} hi h0 h => by
      have m : (1000 : Nat) ^ i ≤ 1000 ^ 16 := Nat.pow_le_pow_right (by decide) hi
      have e : (1000 : Nat) ^ 16 = 1000000000000000000000000000000000000000000000000 := by decide
      rw [e] at m
      omega
    have bdz : ∀ {z : Int}, -1000000000000000000000000000000000000000000000000 < z → z < 1000000000000000000000000000000000000000000000000 → Bd 160 z := fun {z} h1 h2 => by
      have e : (1000000000000000000000000000000000000000000000000 : Nat) < 2 ^ 160 := by decide
      have a : z.natAbs < 1000000000000000000000000000000000000000000000000 := by omega
      exact Nat.lt_trans a e
    refine ⟨(n : Int), rfl, by omega, by omega, for_range (lo := 0) (n := (n : Int).toNat) (fun i σ H2 => ∃ (z : Int) (v2 : Option V), σ = [some (.ref p), some (.int z), v2, none] ∧ PotAt H2 p ∧ But p H H2 ∧ 0 ≤ z ∧ z < ((1000 ^ i : Nat) : Int))
      ⟨0, none, rfl, hp1, b1', by decide, by decide⟩ ?_ ?_⟩
    · rintro i σ H2 hi ⟨z, v2, rfl, hp2, b2, z0, z1⟩
      have hz := big (by omega) z0 z1
      refine ⟨_, rfl, _, z, rfl, rfl, cm (show (1000 : Int).natAbs < 2 ^ 1000 from Nat.lt_of_lt_of_le (show (1000 : Int).natAbs < 2 ^ 10 by decide) (Nat.pow_le_pow_right (by decide) (by decide))) (bd_up (bdz (by omega) hz) (by decide)), _, rfl, p, _, rfl, hp2, by decide, by decide, fun d H3 d0 d1 hp3 b3 => ?_⟩
      refine ⟨_, _, rfl, rfl, _, _, rfl, hp3, b2.trans b3, by omega, ?_⟩
      rw [Nat.pow_succ]
      omega
    · rintro σ H2 ⟨z, v2, rfl, hp2, b2, z0, z1⟩
      have hz := big (by omega) z0 z1
      refine ⟨_, rfl, p, _, rfl, hp2, by decide, by decide, fun d H3 d0 d1 hp3 b3 => ?_⟩
      have d1 : d < 12 := d1
      refine ⟨_, rfl, _, rfl, _, rfl, _, rfl, _, rfl, _, rfl, _, rfl, _, rfl, (by show 5 ≤ sizeLine; rw [sizeLine_eq]; decide), fun l nl => ?_⟩
      refine ⟨p, l, _, rfl, hp3.same (same_new nl), upd_same, pl hp3 nl, by show 0 < 5; decide, by show 5 < 1000; decide, fun i v H' hv hp' hb => ?_⟩
      have bf : But p H H' := ((b2.trans b3).trans (But.of (same_new nl))).trans hb
      match i, hv with
      | 0, hv => cases (Option.some.inj hv); exact q _ H' (bdz (by omega) (by omega)) hp' bf
      | 1, hv => cases (Option.some.inj hv); exact q _ H' (bdz (by omega) (by omega)) hp' bf
      | 2, hv => cases (Option.some.inj hv); exact q _ H' (bdz (by omega) (by omega)) hp' bf
      | 3, hv => cases (Option.some.inj hv); exact q _ H' (bdz (by omega) (by omega)) hp' bf
      | 4, hv => cases (Option.some.inj hv); exact q _ H' (bdz (by omega) (by omega)) hp' bf
      | _ + 5, hv => cases hv
abbrev IntG (P : Program) (w : World) (K : Fr) (mg : Str → Option Value) (base : Heap) : Prop := ∃ f d, Gd P w K mg base 3 "_law_integer" f d ["_law_pot_here"] (spInt K)
end
end K10

set_option maxHeartbeats 4000000
set_option exponentiation.threshold 2000
namespace K10
open PySem PySem.Spec PyProof.Rows L2 RtL ErL
section
variable {P : Program} {w : World} {K : Fr} {mg : Str → Option Value} {base : Heap} {f : Addr} {fd : FuncData}
theorem pot_ne {H : Hp} {p l : Addr} (h : PotAt H p) (n : H l = none) : l ≠ p := fun z => by
  obtain ⟨_, _, e, _⟩ := h
  rw [← z, n] at e
  cases e
/-! ### the parts of a ratio -/
abbrev sParts : Stmt := top 17
theorem scParts : FnScope ["_law_pot_here", "_law_top", "_law_bottom", "_law_share"] ["_law_pot_here"] (defScope sParts) := ⟨rfl, rfl, rfl, by decide +kernel, rfl, by decide +kernel, by decide +kernel⟩
def spParts : Sp := fun vs H Q _ => ∃ (p : Addr), vs = [.ref p] ∧ PotAt H p ∧ ∀ t a b H', b ≠ 0 → Bd 190 a → Bd 190 b → PotAt H' p → But p H H' → H' t = some (.tup [.int a, .int b]) → Q (.ref t) H'
theorem ok_parts (F : FunD K "_law_parts" "_law_parts" (defArgs sParts) (defBody sParts) (defScope sParts) [] [] f fd) (T : TT K mg) (D : DrawG P w K mg base) (C : PickG P w K mg base) (B : IntG P w K mg base) : FnOk P w K mg base CX0 4 f fd ["_law_pot_here"] spParts := by
  obtain ⟨fD, dD, GD⟩ := D
  obtain ⟨fP, dP, GP⟩ := C
  obtain ⟨fI, dI, GI⟩ := B
  refine F.ok scParts (fun vs H Q E h => ?_) (fun cdv A outer s H vs Q E hr h => ?_)
  · obtain ⟨p, rfl, _⟩ := h
    rfl
  · obtain ⟨p, rfl, hp, q⟩ := h
    refine ⟨_, PSs.nox (pss_cons (ps_par (i := 1) (j := 2) rfl scParts.nd rfl rfl (by decide) rfl rfl (pa_cons (pe_gd GI hr (by rfl) (pa_cons (pv 0) pa_nil)) (pa_cons (pe_gd GI hr (by rfl) (pa_cons (pv 0) pa_nil)) pa_nil)) (by rfl))
      (pss_cons (ps_set (i := 3) scParts.nd rfl (Or.inl rfl) (pe_gd GP (hr.mono (by decide)) (by rfl) (pa_cons (pv 0) (pa_cons (pe_lst (pa_cons pe_int (pa_cons pe_int (pa_cons (pe_op op_add pe_int (pe_gd GD (hr.mono (by decide)) (by rfl) (pa_cons (pv 0) (pa_cons (pe_op op_pow pe_int pe_int) pa_nil))))
        (pa_cons (pe_op op_sub (pe_un un_neg pe_int) (pe_gd GD (hr.mono (by decide)) (by rfl) (pa_cons (pv 0) (pa_cons pe_int pa_nil)))) pa_nil))))) pa_nil))))
      (Evl.pss_cut (ps_if (pt_cmpR op_eq (pv 2) pe_int (nomark _)) (pss_one (ps_set (i := 2) scParts.nd rfl (Or.inl rfl) (pe_gd GP (hr.mono (by decide)) (by rfl) (pa_cons (pv 0) (pa_cons (pe_lst (pa_cons pe_int (pa_cons (pe_un un_neg pe_int) (pa_cons pe_int pa_nil)))) pa_nil))))) pss_nil)
      (pss_one (ps_ret (pe_tup (pa_cons (pe_op op_mulW (pv 1) (pv 3)) (pa_cons (pe_op op_mulW (pv 2) (pv 3)) pa_nil)))))))), ?_⟩
    refine ⟨_, rfl, p, rfl, hp, fun a H1 ba hp1 b1 => ⟨_, rfl, p, rfl, hp1, fun b H2 bb hp2 b2 => ⟨_, _, rfl, ?_⟩⟩⟩
    refine ⟨_, rfl, _, rfl, _, _, rfl, rfl, ⟨by decide, by decide, by decide⟩, p, _, rfl, hp2, by decide, by decide, fun d1 H3 c0 c1 hp3 b3 => ?_⟩
    have c1 : d1 < 1000000000 := c1
    refine ⟨_, _, rfl, rfl, _, rfl, _, rfl, p, _, rfl, hp3, by decide, by decide, fun d2 H4 e0 e1 hp4 b4 => ?_⟩
    have e1 : d2 < 30 := e1
    refine ⟨_, _, rfl, rfl, (by show 4 ≤ sizeLine; rw [sizeLine_eq]; decide), fun l nl => ?_⟩
    refine ⟨p, l, _, rfl, hp4.same (same_new nl), upd_same, pot_ne hp4 nl, by show 0 < 4; decide, by show 4 < 1000; decide, fun i v H5 hv hp5 b5 => ?_⟩
    have b5' := (((b1.trans b2).trans (b3.trans b4)).trans (But.of (same_new nl))).trans b5
    obtain ⟨z, rfl, z0, zb⟩ : ∃ z : Int, v = .int z ∧ z ≠ 0 ∧ z.natAbs < 1073741824 := by
      match i, hv with
      | 0, hv => exact ⟨1, (Option.some.inj hv).symm, by decide, by decide⟩
      | 1, hv => exact ⟨1, (Option.some.inj hv).symm, by decide, by decide⟩
      | 2, hv => exact ⟨1 + d1, (Option.some.inj hv).symm, by omega, by omega⟩
      | 3, hv => exact ⟨-1 - d2, (Option.some.inj hv).symm, by omega, by omega⟩
      | _ + 4, hv => cases hv
    have zb : Bd 30 z := zb
    refine ⟨fun σ' H' => ∃ b' : Int, σ' = [some (.ref p), some (.int a), some (.int b'), some (.int z)] ∧ b' ≠ 0 ∧ Bd 160 b' ∧ PotAt H' p ∧ But p H H', ?_, ?_⟩
    · refine ⟨_, rfl, rfl, _, rfl, ite2 (fun h => ?_) (fun h => ?_)⟩
      · refine ⟨_, rfl, _, rfl, (by show 3 ≤ sizeLine; rw [sizeLine_eq]; decide), fun l nl => ?_⟩
        refine ⟨p, l, _, rfl, hp5.same (same_new nl), upd_same, pot_ne hp5 nl, by show 0 < 3; decide, by show 3 < 1000; decide, fun i v H6 hv hp6 b6 => ?_⟩
        have b6' := (b5'.trans (But.of (same_new nl))).trans b6
        match i, hv with
        | 0, hv => cases (Option.some.inj hv); exact ⟨1, rfl, by decide, bd1 (by decide), hp6, b6'⟩
        | 1, hv => cases (Option.some.inj hv); exact ⟨-1, rfl, by decide, bd_neg (bd1 (by decide)), hp6, b6'⟩
        | 2, hv => cases (Option.some.inj hv); exact ⟨7, rfl, by decide, bd_up (n := 3) (by decide) (by decide), hp6, b6'⟩
        | _ + 3, hv => cases hv
      · have hb : b ≠ 0 := fun y => h (decide_eq_true (by rw [y]))
        exact ⟨b, rfl, hb, bb, hp5, b5'⟩
    · rintro σ' H6 ⟨b', rfl, hb', bb', hp6, b6⟩
      have B : ∀ {i : Int}, Bd 160 i → Bd 1000 i := fun h => bd_up h (by decide)
      have Bz : Bd 1000 z := bd_up zb (by decide)
      refine ⟨_, rfl, _, rfl, a, z, rfl, rfl, cm (B ba) Bz, _, rfl, _, rfl, b', z, rfl, rfl, cm (B bb') Bz, (by show 2 ≤ sizeLine; rw [sizeLine_eq]; decide), fun t nt => ?_⟩
      have s7 := same_new (o := .tup [.int (a * z), .int (b' * z)]) nt
      exact q t _ _ _ (Int.mul_ne_zero hb' z0) (bd_mul ba zb) (bd_mul bb' zb) (hp6.same s7) (b6.trans (But.of s7)) upd_same
abbrev PartsG (P : Program) (w : World) (K : Fr) (mg : Str → Option Value) (base : Heap) : Prop := ∃ f d, Gd P w K mg base 4 "_law_parts" f d ["_law_pot_here"] spParts
/-! ### the divisor -/
abbrev sDiv : Stmt := top 18
theorem scDiv : FnScope ["_law_one", "_law_other", "_law_low", "_law_high"] ["_law_one", "_law_other"] (defScope sDiv) := ⟨rfl, rfl, rfl, by decide +kernel, rfl, by decide +kernel, by decide +kernel⟩
def spDivr : Sp := fun vs H Q _ => ∃ a b : Int, vs = [.int a, .int b] ∧ Q (.int ((a.natAbs.gcd b.natAbs : Nat) : Int)) H
theorem abs_nat (i : Int) : (if i < 0 then -i else i) = (i.natAbs : Int) := by split <;> omega
theorem ok_divr (F : FunD K "_law_divisor" "_law_divisor" (defArgs sDiv) (defBody sDiv) (defScope sDiv) [] [] f fd) (T : TT K mg) : FnOk P w K mg base CX0 1 f fd ["_law_one", "_law_other"] spDivr := by
  refine F.ok scDiv (fun vs H Q E h => ?_) (fun cdv A outer s H vs Q E hr h => ?_)
  · obtain ⟨a, b, rfl, _⟩ := h
    rfl
  · obtain ⟨a, b, rfl, q⟩ := h
    refine ⟨_, PSs.nox (pss_cons (ps_par (i := 2) (j := 3) rfl scDiv.nd rfl rfl (by decide) rfl rfl (pa_cons (pe_callB call_abs (by rfl) T.fre (by decide +kernel) (pa_cons (pv 0) pa_nil)) (pa_cons (pe_callB call_abs (by rfl) T.fre (by decide +kernel) (pa_cons (pv 1) pa_nil)) pa_nil)) (by rfl))
      (pss_cons (ps_while PassesOwn.never (pt_cmpR op_gt (pv 2) pe_int (nomark _)) (pss_one (ps_par (i := 2) (j := 3) rfl scDiv.nd rfl rfl (by decide) rfl rfl (pa_cons (pe_op op_mod (pe_callTy call_int1 (by rfl) T.fre (by decide +kernel) (pa_cons (pv 3) pa_nil)) (pv 2)) (pa_cons (pv 2) pa_nil)) (by rfl))))
      (pss_one (ps_ret (pv 3))))), ?_⟩
    refine ⟨_, rfl, _, rfl, _, rfl, _, rfl, _, _, rfl, ?_⟩
    rw [abs_nat, abs_nat]
    refine while_by (Pv := fun σ H2 => H2 = H ∧ ∃ m n : Nat, σ = [some (.int a), some (.int b), some (.int (m : Int)), some (.int (n : Int))] ∧ m.gcd n = a.natAbs.gcd b.natAbs)
      (μ := fun σ _ => match σ with
        | [_, _, some (.int n), _] => n.toNat
        | _ => 0) ⟨rfl, _, _, rfl, rfl⟩ ?_ ?_
    · rintro σ H2 ⟨rfl, m, n, rfl, hg⟩
      refine ⟨_, rfl, m, 0, rfl, rfl, _, rfl, ite2 (fun h => ?_) (fun h => ?_)⟩
      · have m0 : 0 < m := by
          have z : (0 : Int) < (m : Int) := of_decide_eq_true h
          omega
        refine ⟨_, rfl, .inl ⟨_, rfl, _, rfl, n, m, rfl, rfl, (by omega), _, rfl, _, _, rfl, ⟨rfl, n % m, m, rfl, ?_⟩, ?_⟩⟩
        · rw [← hg, Nat.gcd_rec m n]
        · show ((n : Int) % (m : Int)).toNat < ((m : Int)).toNat
          have := Int.emod_lt_of_pos (n : Int) (b := (m : Int)) (by omega)
          omega
      · have m0 : m = 0 := by
          have z : ¬ (0 : Int) < (m : Int) := fun y => h (decide_eq_true y)
          omega
        subst m0
        rw [Nat.gcd_zero_left] at hg
        rw [hg]
        exact ⟨_, rfl, q⟩
    · rintro σ H2 Q1 Q2 hq h
      obtain ⟨v, e, i, j, e1, e2, c, ec, h⟩ := h
      exact ⟨v, e, i, j, e1, e2, c, ec, hq _ _ h⟩
/-! ### in lowest terms -/
abbrev sLow : Stmt := top 19
theorem scLow : FnScope ["_law_top", "_law_bottom", "_law_share"] ["_law_top", "_law_bottom"] (defScope sLow) := ⟨rfl, rfl, rfl, by decide +kernel, rfl, by decide +kernel, by decide +kernel⟩
def spLow : Sp := fun vs H Q _ => ∃ a b : Int, vs = [.int a, .int b] ∧ b ≠ 0 ∧ Bd 1500 b ∧ ∀ t H', Same H H' → H' t = some (.tup [.int (lowT a b), .int (lowB a b)]) → Q (.ref t) H'
abbrev DivG (P : Program) (w : World) (K : Fr) (mg : Str → Option Value) (base : Heap) : Prop := ∃ f d, Gd P w K mg base 1 "_law_divisor" f d ["_law_one", "_law_other"] spDivr
theorem ok_low (F : FunD K "_law_lowest" "_law_lowest" (defArgs sLow) (defBody sLow) (defScope sLow) [] [] f fd) (D : DivG P w K mg base) : FnOk P w K mg base CX0 2 f fd ["_law_top", "_law_bottom"] spLow := by
  obtain ⟨fD, dD, GD⟩ := D
  refine F.ok scLow (fun vs H Q E h => ?_) (fun cdv A outer s H vs Q E hr h => ?_)
  · obtain ⟨a, b, rfl, _⟩ := h
    rfl
  · obtain ⟨a, b, rfl, hb, bb, q⟩ := h
    refine ⟨_, PSs.nox (pss_cons (ps_set (i := 2) scLow.nd rfl (Or.inl rfl) (pe_gd GD hr (by rfl) (pa_cons (pv 0) (pa_cons (pv 1) pa_nil))))
      (Evl.pss_cut (ps_if (pt_cmpR op_lt (pv 1) pe_int (nomark _)) (pss_one (ps_set (i := 2) scLow.nd rfl (Or.inl rfl) (pe_un un_neg (pv 2)))) pss_nil)
      (pss_one (ps_ret (pe_tup (pa_cons (pe_op op_fdivX (pv 0) (pv 2)) (pa_cons (pe_op op_fdivX (pv 1) (pv 2)) pa_nil))))))), ?_⟩
    refine ⟨_, rfl, _, rfl, a, b, rfl, ?_⟩
    refine ⟨fun σ' H' => H' = H ∧ σ' = [some (.int a), some (.int b), some (.int (lowS a b))], ?_, ?_⟩
    · refine ⟨_, rfl, b, 0, rfl, rfl, _, rfl, ite2 (fun h => ?_) (fun h => ?_)⟩
      · refine ⟨_, rfl, _, rfl, rfl, ?_⟩
        have z : b < 0 := of_decide_eq_true h
        rw [show lowS a b = -((a.natAbs.gcd b.natAbs : Nat) : Int) from if_pos z]
        rfl
      · have z : ¬ b < 0 := fun y => h (decide_eq_true y)
        refine ⟨rfl, ?_⟩
        rw [show lowS a b = ((a.natAbs.gcd b.natAbs : Nat) : Int) from if_neg z]
        rfl
    · rintro σ' H' ⟨rfl, rfl⟩
      have hd : CDivX a (lowS a b) := ⟨lowS_ne hb, bd_log (lowS_bd hb bb) (by decide)⟩
      refine ⟨_, rfl, _, rfl, a, _, rfl, rfl, hd, _, rfl, _, rfl, b, _, rfl, rfl, hd, (by show 2 ≤ sizeLine; rw [sizeLine_eq]; decide), fun t nt => ?_⟩
      exact q t _ (same_new nt) upd_same
abbrev LowG (P : Program) (w : World) (K : Fr) (mg : Str → Option Value) (base : Heap) : Prop := ∃ f d, Gd P w K mg base 2 "_law_lowest" f d ["_law_top", "_law_bottom"] spLow
/-! ### the sign -/
abbrev sSign : Stmt := top 20
theorem scSign : FnScope ["_law_top", "_law_bottom"] ["_law_top", "_law_bottom"] (defScope sSign) := ⟨rfl, rfl, rfl, by decide +kernel, rfl, by decide +kernel, by decide +kernel⟩
def spSign : Sp := fun vs H Q _ => ∃ a b : Int, vs = [.int a, .int b] ∧ Bd 1000 a ∧ Bd 1000 b ∧ Q (.int (sgn (a * b))) H
theorem ok_sgn (F : FunD K "_law_sign" "_law_sign" (defArgs sSign) (defBody sSign) (defScope sSign) [] [] f fd) (T : TT K mg) : FnOk P w K mg base CX0 1 f fd ["_law_top", "_law_bottom"] spSign := by
  refine F.ok scSign (fun vs H Q E h => ?_) (fun cdv A outer s H vs Q E hr h => ?_)
  · obtain ⟨a, b, rfl, _⟩ := h
    rfl
  · obtain ⟨a, b, rfl, ba, bb, q⟩ := h
    refine ⟨_, PSs.nox (pss_one (ps_ret (pe_op op_sub (pe_callTy call_int1 (by rfl) T.fre (by decide +kernel) (pa_cons (pe_cmpR op_gt (pe_op op_mulW (pv 0) (pv 1)) pe_int (nomark _)) pa_nil)) (pe_callTy call_int1 (by rfl) T.fre (by decide +kernel) (pa_cons (pe_cmpR op_lt (pe_op op_mulW (pv 0) (pv 1)) pe_int (nomark _)) pa_nil))))), ?_⟩
    refine ⟨_, rfl, _, rfl, a, b, rfl, rfl, cm ba bb, _, _, rfl, rfl, .inr ⟨_, rfl, ?_⟩⟩
    refine ⟨_, rfl, _, rfl, a, b, rfl, rfl, cm ba bb, _, _, rfl, rfl, .inr ⟨_, rfl, _, _, rfl, rfl, ?_⟩⟩
    have e : sgn (a * b) = b2i (decide (a * b > 0)) - b2i (decide (a * b < 0)) := by
      unfold sgn
      rcases Int.lt_trichotomy (a * b) 0 with z | z | z
      · rw [if_neg (by omega), if_neg (by omega), decide_eq_false (by omega), decide_eq_true z]
        rfl
      · rw [if_pos z, z]
        rfl
      · rw [if_neg (by omega), if_pos z, decide_eq_true z, decide_eq_false (by omega)]
        rfl
    rw [e] at q
    exact q
abbrev SignG (P : Program) (w : World) (K : Fr) (mg : Str → Option Value) (base : Heap) : Prop := ∃ f d, Gd P w K mg base 1 "_law_sign" f d ["_law_top", "_law_bottom"] spSign
end
end K10

set_option maxHeartbeats 4000000
set_option exponentiation.threshold 2000
namespace RtL
open PySem PySem.Spec PyProof.Rows L2 ErL
section
variable {P : Program} {w : World} {K : PySem.W.Frag} {mg : Str → Option Value} {base : Heap} {k : Nat} {f : Addr} {ps N : List Str} {sp : SpG}
/-- a def's promise that holds where nothing is being shown, from its record -/
theorem fnG_D {x qual : Str} {params : Arguments} {body : List Stmt} {scope : Scope} {fd : FuncData} (F : FunD K x qual params body scope [] [] f fd) (S : FnScope N ps scope) (len : ∀ vs H Q, sp vs H Q → vs.length = ps.length)
    (hbody : ∀ (cdv : Value) (A : Around) (outer : List Env) (s : Shared) (H : Hp) (vs : List V) (Q : VK), Room k (A.deeper (envOfC qual scope s.heap.objs.size f cdv)) →
      (A.deeper (envOfC qual scope s.heap.objs.size f cdv)).guards = some [] → sp vs H Q →
      ∃ t, PSs (cxOf CX0 P w K mg base N qual scope f cdv A outer s H E0).nox body t ∧ t { nx := fun _ H' => Q .non H', rt := Q } (start N vs) H) :
    FnG P w K mg base (k + 1) f fd ps sp := by
  obtain ⟨oc, od, dV, kV, doc, pm, an, cdv, ct, osl, rfl, lk, hcd, _, _⟩ := F.ex
  refine ⟨len, fun A outer s H args us vs Q hr hg e0 hb r hsp => ?_⟩
  exact LamX.run_ofS (N := N) lk hcd S hr e0 hb r (len _ _ _ hsp) fun hr' => by
    obtain ⟨t, ht, hq⟩ := hbody cdv A outer s H vs Q hr' (guards_deeper hg) hsp
    exact ⟨t, ht.nox, hq⟩
end
end RtL
namespace K10
open PySem PySem.Spec PyProof.Rows L2 RtL ErL
structure GdG (P : Program) (w : World) (K : Fr) (mg : Str → Option Value) (base : Heap) (k : Nat) (x : Str) (f : Addr) (fd : FuncData) (ps : List Str) (sp : SpG) : Prop where
  ok : FnG P w K mg base k f fd ps sp
  gl : mg x = some (.ref f)
  kp : PySem.W.keepIn K (.ref f) = true
  bd : Binds K fd ps []
section
variable {X : Cx} {k : Nat} {x : Str} {p pos : Pos} {e : Expr} {es : List Expr} {t : TA} {f : Addr} {fd : FuncData} {ps : List Str} {sp : SpG}
theorem pe_gg (C : GdG X.prog X.w X.K X.mg X.base k x f fd ps sp) (hr : Room k X.A) (hG : X.A.guards = some []) (hg : Gl X x) (ha : PA X (e :: es) t) (hdb : (x == ("__debug__" : Str)) = false := by decide)
    (he : starEach (e :: es) X.env = (false, eval e X.env) :: starEach es X.env := by rfl) (hpl : (backTo pos (starEach es X.env)).any (·.1) = false := by rfl) : PE X (.Call (.Name x p) (e :: es) [] pos) (tCallG sp t) :=
  pe_callG C.ok hr hG hg C.gl C.kp C.bd ha hdb he hpl
end
section
variable {P : Program} {w : World} {K : Fr} {mg : Str → Option Value} {base : Heap} {f : Addr} {fd : FuncData}
structure Gt (P : Program) (w : World) (K : Fr) (mg : Str → Option Value) (base : Heap) : Prop where
  t : ∃ d, Md P w K mg base 1 (recA K (RC K) "top" "property") d ["self"] (spGet K fun t _ => t)
  b : ∃ d, Md P w K mg base 1 (recA K (RC K) "bottom" "property") d ["self"] (spGet K fun _ b => b)
  s : ∃ d, Md P w K mg base 1 (recA K (RC K) "sign" "property") d ["self"] (spGet K fun t _ => sgn t)
  st : ∃ d, Md P w K mg base 1 (rm K "__str__") d ["self"] (spTxt K rtxt)
  rp : ∃ d, Md P w K mg base 1 (rm K "__repr__") d ["self"] (spTxt K rrep)
def i3 (a b c : Int) : PyData := .list [.int a, .int b, .int c]
theorem shown_int {i : Int} (h : Bd 700 i) : (PyData.int i).showable = true ∧ (PyData.int i).shown.length ≤ 701 := by
  refine ⟨decide_eq_true (Nat.lt_of_lt_of_le (PySem.Flt.log2_lt_of (by decide) h) (by decide)), ?_⟩
  show (Str.ofString (toString i)).length ≤ 701
  rw [PySem.ofString_length]
  by_cases z : i.natAbs = 0
  · exact int_text_length_le (by decide) (by rw [z]; decide)
  · exact int_text_length_le (by decide) ((Nat.log2_lt z).mpr h)
theorem ok_i3 {a b c : Int} (h1 : Bd 700 a) (h2 : Bd 700 b) (h3 : Bd 700 c) : Ok (i3 a b c) := by
  obtain ⟨a1, a2⟩ := shown_int h1
  obtain ⟨b1, b2⟩ := shown_int h2
  obtain ⟨c1, c2⟩ := shown_int h3
  refine ⟨?_, Nat.le_of_ble_eq_true rfl, ?_⟩
  · show ((PyData.int a).showable && ((PyData.int b).showable && ((PyData.int c).showable && true))) = true
    rw [a1, b1, c1]
    rfl
  · have l := listText_len_le [(PyData.int a).shown, (PyData.int b).shown, (PyData.int c).shown]
    show (listText [(PyData.int a).shown, (PyData.int b).shown, (PyData.int c).shown]).length ≤ _
    simp only [List.map_cons, List.map_nil, List.sum_cons, List.sum_nil, List.length_cons, List.length_nil] at l
    omega
theorem dq_i3 {H : Hp} {l : Addr} {a b c : Int} (h : H l = some (.lst [.int a, .int b, .int c])) : Dq H (.ref l) (i3 a b c) := .lst h (.cons (.int a) (.cons (.int b) (.cons (.int c) .nil)))
theorem sgn_bd (a : Int) : Bd 700 (sgn a) := by
  unfold sgn
  refine bd_up (n := 1) ?_ (by decide)
  split
  · decide
  · split <;> decide
/-! ### same -/
abbrev sSame : Stmt := top 21
theorem scSame : FnScope ["_law_found", "_law_top", "_law_bottom", "_law_low"] ["_law_found", "_law_top", "_law_bottom"] (defScope sSame) := ⟨rfl, rfl, rfl, by decide +kernel, rfl, by decide +kernel, by decide +kernel⟩
def spSame (K : Fr) : SpG := fun vs H Q => ∃ x t b p q, vs = [.ref x, .int t, .int b] ∧ RatAt K H x p q ∧ Low p q ∧ p * b = t * q ∧ b ≠ 0 ∧ Bd 700 t ∧ Bd 700 b ∧ ∀ H', Same H H' → Q (.bl true) H'
theorem ok_same (F : FunD K "_law_same" "_law_same" (defArgs sSame) (defBody sSame) (defScope sSame) [] [] f fd) (T : TT K mg) (D : LowG P w K mg base) (C : SignG P w K mg base) (G : Gt P w K mg base) : FnG P w K mg base 3 f fd ["_law_found", "_law_top", "_law_bottom"] (spSame K) := by
  obtain ⟨fL, dL, GL⟩ := D
  obtain ⟨fS, dS, GS⟩ := C
  obtain ⟨⟨dT, MT⟩, ⟨dB, MB⟩, ⟨dSg, MS⟩, _, _⟩ := G
  refine fnG_D F scSame (fun vs H Q h => ?_) (fun cdv A outer s H vs Q hr hG h => ?_)
  · obtain ⟨x, t, b, p, q, rfl, _⟩ := h
    rfl
  · obtain ⟨x, t, b, p, q', rfl, hx, lo, cr, hb, bt, bb, q⟩ := h
    have hu : (A.deeper (envOfC "_law_same" (defScope sSame) s.heap.objs.size f cdv)).units + 70 < cLine := by have := hr.un; omega
    have three : 3 ≤ sizeLine := by rw [sizeLine_eq]; decide
    refine ⟨_, PSs.nox (pss_cons (ps_set (i := 3) scSame.nd rfl (Or.inl rfl) (pe_gd GL hr (by rfl) (pa_cons (pv 1) (pa_cons (pv 2) pa_nil))))
      (pss_cons (ps_if (pt_not (pt_val (pe_callB call_isi (by rfl) T.fre (by decide +kernel) (pa_cons (pv 0) (pa_cons (pe_glob (v := .ref (RC K)) (by rfl) (T.gl "Ratio" (by decide)) rfl) pa_nil))))) (pss_one (ps_ret pe_bl)) pss_nil)
      (pss_one (ps_ret (pe_cmpR op_eq (pe_callB (call_reprD hu hG T.sys) (by rfl) T.fre (by decide +kernel) (pa_cons (pe_lst (pa_cons (pe_prop (pv 0) T.cl (T.prop "top" (by decide)) MT.ok (hr.mono (by decide)) MT.bd .nil pass0 rfl) (pa_cons (pe_prop (pv 0) T.cl (T.prop "bottom" (by decide)) MB.ok (hr.mono (by decide)) MB.bd .nil pass0 rfl)
          (pa_cons (pe_prop (pv 0) T.cl (T.prop "sign" (by decide)) MS.ok (hr.mono (by decide)) MS.bd .nil pass0 rfl) pa_nil)))) pa_nil))
        (pe_callB (call_reprD hu hG T.sys) (by rfl) T.fre (by decide +kernel) (pa_cons (pe_lst (pa_cons (pe_ix ix_tup (pv 3) pe_int (fun _ _ => rfl)) (pa_cons (pe_ix ix_tup (pv 3) pe_int (fun _ _ => rfl)) (pa_cons (pe_gd GS (hr.mono (by decide)) (by rfl) (pa_cons (pv 1) (pa_cons (pv 2) pa_nil))) pa_nil)))) pa_nil)) (nomark _)))))), ?_⟩
    obtain ⟨u1, u2⟩ := low_uniq lo hb cr
    have bp : Bd 700 p := by rw [← u1]; exact lowT_bd hb bt
    have bq : Bd 700 q' := by rw [← u2]; exact lowB_bd hb bb
    have sg : sgn (t * b) = sgn p := by rw [← u1]; exact (sgn_low hb).symm
    refine ⟨_, rfl, _, rfl, t, b, rfl, hb, bd_up bb (by decide), fun tl H1 s1 e1 => ?_⟩
    rw [u1, u2] at e1
    obtain ⟨dx, ex⟩ := hx.same s1
    refine ⟨_, rfl, _, _, _, _, true, rfl, .own _, T.ty ex, T.kitR, true, rfl, iteF ?_⟩
    have hx1 := hx.same s1
    refine ⟨_, rfl, x, dx, _, rfl, ex, x, p, q', rfl, hx1, _, rfl, x, dx, _, rfl, ex, x, p, q', rfl, hx1, _, rfl, x, dx, _, rfl, ex, x, p, q', rfl, hx1, three, fun l1' n1' => ?_⟩
    have s2 := same_new (o := .lst [.int p, .int q', .int (sgn p)]) n1'
    refine ⟨l1', _, rfl, dq_i3 upd_same, ok_i3 bp bq (sgn_bd p), ?_⟩
    have e2 := s2 _ _ e1
    refine ⟨_, rfl, tl, _, _, _, rfl, rfl, SqT.of e2, atI_nat (j := 0) rfl, _, rfl, tl, _, _, _, rfl, rfl, SqT.of e2, atI_nat (j := 1) rfl, _, rfl, _, rfl, t, b, rfl, bd_up bt (by decide), bd_up bb (by decide), ?_⟩
    rw [sg]
    refine ⟨three, fun l2' n2' => ?_⟩
    have s3 := same_new (o := .lst [.int p, .int q', .int (sgn p)]) n2'
    refine ⟨l2', _, rfl, dq_i3 upd_same, ok_i3 bp bq (sgn_bd p), rfl, ?_⟩
    rw [decide_eq_true (show V.str (i3 p q' (sgn p)).shown = V.str (i3 p q' (sgn p)).shown from rfl)]
    exact q _ ((s1.trans s2).trans s3)
abbrev SameG (P : Program) (w : World) (K : Fr) (mg : Str → Option Value) (base : Heap) : Prop := ∃ f d, GdG P w K mg base 3 "_law_same" f d ["_law_found", "_law_top", "_law_bottom"] (spSame K)
end
end K10

set_option maxHeartbeats 4000000
set_option exponentiation.threshold 2000
namespace K10
open PySem PySem.Spec PyProof.Rows L2 RtL ErL
section
variable {P : Program} {w : World} {K : Fr} {mg : Str → Option Value} {base : Heap} {f : Addr} {fd : FuncData}
/-! ### texts -/
abbrev sTx : Stmt := top 22
theorem scTx : FnScope ["_law_one", "_law_top", "_law_bottom", "_law_low", "_law_due"] ["_law_one", "_law_top", "_law_bottom"] (defScope sTx) := ⟨rfl, rfl, rfl, by decide +kernel, rfl, by decide +kernel, by decide +kernel⟩
def spTx (K : Fr) : Sp := fun vs H Q _ => ∃ x t b p q, vs = [.ref x, .int t, .int b] ∧ RatAt K H x p q ∧ Low p q ∧ p * b = t * q ∧ b ≠ 0 ∧ Bd 700 t ∧ Bd 700 b ∧ ∀ H', Same H H' → Q (.bl true) H'
theorem ok_tx (F : FunD K "_law_texts_right" "_law_texts_right" (defArgs sTx) (defBody sTx) (defScope sTx) [] [] f fd) (T : TT K mg) (D : LowG P w K mg base) (G : Gt P w K mg base) : FnOk P w K mg base CX0 4 f fd ["_law_one", "_law_top", "_law_bottom"] (spTx K) := by
  obtain ⟨fL, dL, GL⟩ := D
  obtain ⟨_, _, _, ⟨dStr, MStr⟩, ⟨dRp, MRp⟩⟩ := G
  refine F.ok scTx (fun vs H Q E h => ?_) (fun cdv A outer s H vs Q E hr h => ?_)
  · obtain ⟨x, t, b, p, q, rfl, _⟩ := h
    rfl
  · obtain ⟨x, t, b, a, b', rfl, hx, lo, cr, hb, bt, bb, q⟩ := h
    obtain ⟨u1, u2⟩ := low_uniq lo hb cr
    have ba : Bd 700 a := by rw [← u1]; exact lowT_bd hb bt
    have bb' : Bd 700 b' := by rw [← u2]; exact lowB_bd hb bb
    have log : ∀ {i : Int}, Bd 700 i → i.natAbs.log2 < 1920 := fun h => Nat.lt_of_lt_of_le (PySem.Flt.log2_lt_of (by decide) h) (by decide)
    have lA : (T_ a).length ≤ 701 := (shown_int ba).2
    have lB : (T_ b').length ≤ 701 := (shown_int bb').2
    have l1 : ("/" : Str).length = 1 := rfl
    have l2 : ("Ratio(" : Str).length = 6 := rfl
    have l3 : (", " : Str).length = 2 := rfl
    have l4 : (")" : Str).length = 1 := rfl
    refine ⟨_, PSs.nox (pss_cons (ps_set (i := 3) scTx.nd rfl (Or.inl rfl) (pe_gd GL (hr.mono (by decide)) (by rfl) (pa_cons (pv 1) (pa_cons (pv 2) pa_nil))))
      (Evl.pss_cut (ps_set (i := 4) scTx.nd rfl (Or.inl rfl) (pe_ifExp (pt_cmpR op_eq (pe_ix ix_tup (pv 3) pe_int (fun _ _ => rfl)) pe_int (nomark _)) (pe_callTy call_str_int (by rfl) T.fre (by decide +kernel) (pa_cons (pe_ix ix_tup (pv 3) pe_int (fun _ _ => rfl)) pa_nil))
        (pe_op op_add_str (pe_op op_add_str (pe_callTy call_str_int (by rfl) T.fre (by decide +kernel) (pa_cons (pe_ix ix_tup (pv 3) pe_int (fun _ _ => rfl)) pa_nil)) pe_str) (pe_callTy call_str_int (by rfl) T.fre (by decide +kernel) (pa_cons (pe_ix ix_tup (pv 3) pe_int (fun _ _ => rfl)) pa_nil)))))
      (pss_one (ps_ret (pe_and (pe_cmpR op_eq (pe_callTy (call_strOwn (T.spc "__str__" (by decide)).1 (T.spc "__str__" (by decide)).2 MStr.ok hr MStr.bd) (by rfl) T.fre (by decide +kernel) (pa_cons (pv 0) pa_nil)) (pv 4) (nomark _))
        (pe_one (pe_cmpR op_eq (pe_callB (call_reprOwn (T.spc "__repr__" (by decide)).1 (T.spc "__repr__" (by decide)).2 MRp.ok (hr.mono (by decide)) MRp.bd) (by rfl) T.fre (by decide +kernel) (pa_cons (pv 0) pa_nil))
          (pe_op op_add_str (pe_op op_add_str (pe_op op_add_str (pe_op op_add_str pe_str (pe_callTy call_str_int (by rfl) T.fre (by decide +kernel) (pa_cons (pe_ix ix_tup (pv 3) pe_int (fun _ _ => rfl)) pa_nil))) pe_str) (pe_callTy call_str_int (by rfl) T.fre (by decide +kernel) (pa_cons (pe_ix ix_tup (pv 3) pe_int (fun _ _ => rfl)) pa_nil))) pe_str) (nomark _)))))))), ?_⟩
    refine ⟨_, rfl, _, rfl, t, b, rfl, hb, bd_up bb (by decide), fun tl H1 s1 e1 => ?_⟩
    rw [u1, u2] at e1
    have hx1 := hx.same s1
    refine ⟨fun σ' H' => H' = H1 ∧ σ' = [some (.ref x), some (.int t), some (.int b), some (.ref tl), some (.str (rtxt a b'))], ?_, ?_⟩
    · refine ⟨_, rfl, tl, _, _, _, rfl, rfl, SqT.of e1, atI_nat (j := 1) rfl, rfl, _, rfl, ite2 (fun h => ?_) (fun h => ?_)⟩
      · have z : b' = 1 := by
          have y := of_decide_eq_true h
          injection y
        subst z
        exact ⟨_, rfl, tl, _, _, _, rfl, rfl, SqT.of e1, atI_nat (j := 0) rfl, a, rfl, log ba, rfl, rfl⟩
      · have z : ¬ b' = 1 := fun y => h (decide_eq_true (by rw [y]))
        refine ⟨_, rfl, tl, _, _, _, rfl, rfl, SqT.of e1, atI_nat (j := 0) rfl, a, rfl, log ba, _, _, rfl, rfl, ?_, _, rfl, tl, _, _, _, rfl, rfl, SqT.of e1, atI_nat (j := 1) rfl, b', rfl, log bb', _, _, rfl, rfl, ?_, rfl, ?_⟩
        · show (T_ a).length + ("/" : Str).length ≤ sizeLine
          rw [sizeLine_eq]
          omega
        · show (T_ a ++ "/").length + (T_ b').length ≤ sizeLine
          rw [strLen_append, sizeLine_eq]
          omega
        · rw [show rtxt a b' = T_ a ++ "/" ++ T_ b' from if_neg z]
          rfl
    rintro σ' H2 ⟨rfl, rfl⟩
    obtain ⟨dx2, ex2⟩ := id hx1
    refine ⟨_, rfl, x, dx2, _, rfl, ex2, x, a, b', rfl, hx1, bd_up ba (by decide), bd_up bb' (by decide), ⟨_, rfl⟩, _, rfl, rfl, _, rfl, ite2 (fun _ => ?_) (fun h => ?_)⟩
    · refine ⟨_, rfl, x, dx2, _, rfl, ex2, x, a, b', rfl, hx1, bd_up ba (by decide), bd_up bb' (by decide), ⟨_, rfl⟩, _, rfl, tl, _, _, _, rfl, rfl, SqT.of e1, atI_nat (j := 0) rfl, a, rfl, log ba, _, _, rfl, rfl, ?_, _, _, rfl, rfl, ?_, _, rfl, tl, _, _, _, rfl, rfl, SqT.of e1, atI_nat (j := 1) rfl, b', rfl, log bb', _, _, rfl, rfl, ?_, _, _, rfl, rfl, ?_, rfl, ?_⟩
      · show ("Ratio(" : Str).length + (T_ a).length ≤ sizeLine
        rw [sizeLine_eq]
        omega
      · show ("Ratio(" ++ T_ a).length + (", " : Str).length ≤ sizeLine
        rw [strLen_append, sizeLine_eq]
        omega
      · show ("Ratio(" ++ T_ a ++ ", ").length + (T_ b').length ≤ sizeLine
        rw [strLen_append, strLen_append, sizeLine_eq]
        omega
      · show ("Ratio(" ++ T_ a ++ ", " ++ T_ b').length + (")" : Str).length ≤ sizeLine
        rw [strLen_append, strLen_append, strLen_append, sizeLine_eq]
        omega
      · rw [decide_eq_true (show V.str (rrep a b') = V.str ("Ratio(" ++ T_ a ++ ", " ++ T_ b' ++ ")") from rfl)]
        exact q _ s1
    · exact absurd (decide_eq_true rfl) h
abbrev TxG (P : Program) (w : World) (K : Fr) (mg : Str → Option Value) (base : Heap) : Prop := ∃ f d, Gd P w K mg base 4 "_law_texts_right" f d ["_law_one", "_law_top", "_law_bottom"] (spTx K)
/-! ### a division by 0 -/
theorem q_dec {Q : VK} {H : Hp} {p : Prop} {i : Decidable p} (hp : p) (q : Q (.bl true) H) : Q (.bl (@decide p i)) H := by rw [decide_eq_true hp]; exact q
theorem bd0 : Bd 1000 0 := by decide +kernel
abbrev OverG (P : Program) (w : World) (K : Fr) (mg : Str → Option Value) (base : Heap) : Prop := ∃ d, FnOk P w K mg base (L2.CX P w) 5 (rm K "over") d ["self", "other"] (spOver K) ∧ Binds K d ["self", "other"] []
abbrev sDbz : Stmt := top 23
theorem scDbz : FnScope ["_law_one", "_law_zero", "_law_told", "e"] ["_law_one", "_law_zero"] (defScope sDbz) := ⟨rfl, rfl, rfl, by decide +kernel, rfl, by decide +kernel, by decide +kernel⟩
def spDbz (K : Fr) : Sp := fun vs H Q _ => ∃ a v t b b2, vs = [.ref a, v] ∧ RatAt K H a t b ∧ Num K H v 0 b2 ∧ Bd 1000 t ∧ Bd 1000 b ∧ Bd 1000 b2 ∧ b ≠ 0 ∧ ∀ H', Same H H' → Q (.bl true) H'
theorem ok_dbz (F : FunD K "_law_divided_by_zero" "_law_divided_by_zero" (defArgs sDbz) (defBody sDbz) (defScope sDbz) [] [] f fd) (T : TT K mg) (D : OverG P w K mg base) : FnOk P w K mg base CX0 6 f fd ["_law_one", "_law_zero"] (spDbz K) := by
  obtain ⟨dO, GO, bO⟩ := D
  obtain ⟨x1, x2, x3, x4, x5, x6⟩ := T.exc
  have gP := T.gl "DividedByZero" (by decide)
  have kst := T.ini.2.2.2.2.2.2.2.2
  refine F.ok scDbz (fun vs H Q E h => ?_) (fun cdv A outer s H vs Q E hr h => ?_)
  · obtain ⟨a, v, t, b, b2, rfl, _⟩ := h
    rfl
  · obtain ⟨a, v, t, b, b2, rfl, ra, hv, ht, hb, hb2, nb, q⟩ := h
    refine ⟨_, PSs.nox (pss_cons (ps_set (i := 2) scDbz.nd rfl (Or.inl rfl) pe_str)
      (pss_cons (ps_try_as (i := 3) (tb := fun W => tDrop (tMex (RC K) "over" (spOver K) (WE W) (tVar 0) (tCons (tVar 1) tNil)))
          (ts := fun a cls d => tAsg (tCB (fun xs H Q => ∃ b, xs = [.bl b] ∧ Q (.str (if b then "True" else "False")) H) (tCons (tCB (rIsS K (He.ga K "DividedByZero") a cls d) (tCons (tVar 3) (tCons (tC (.ref (He.ga K "StateError"))) tNil))) tNil)) (gName 2)) (Wout := fun _ _ _ _ => False) rfl rfl scDbz.nd rfl rfl ⟨rfl, by decide, .inl gP⟩ takes0
        (fun W pn xe tk _ => pss_one (ps_expr (pe_mex (pv 0) T.cl T.over GO hr bO (fun σ => passAt tk σ) (pa_cons (pv 1) pa_nil))))
        (fun a oe cls d pn hz hf => pss_one (ps_set (i := 2) scDbz.nd rfl (Or.inl rfl) (pe_callB call_reprB (by rfl) T.fre (by decide +kernel) (pa_cons (pe_callB (call_isS T.askD hz hf) (by rfl) T.fre (by decide +kernel) (pa_cons (pv 3) (pa_cons (pe_glob (v := .ref (He.ga K "StateError")) (by rfl) (T.gl "StateError" (by decide)) rfl) pa_nil))) pa_nil)))))
      (pss_one (ps_ret (pe_cmpR op_eq (pv 2) pe_str (nomark _)))))), ?_⟩
    obtain ⟨dx, ea⟩ := id ra
    refine ⟨_, rfl, a, dx, _, rfl, ea, rfl, _, rfl, a, v, t, b, 0, b2, rfl, ra, hv, ht, hb, bd0, hb2, nb, .inl ⟨rfl, fun H' s1 => ?_⟩⟩
    refine ⟨true, x5, fun bb c hc => ⟨_, rfl, _, _, _, rfl, rfl, (fun dd h => nomatch h), fun u h => h, kst, _, rfl, ?_⟩, fun z => nomatch z⟩
    exact ⟨_, rfl, rfl, q_dec (Q := Q) (H := H') rfl (q _ s1)⟩
abbrev DbzG (P : Program) (w : World) (K : Fr) (mg : Str → Option Value) (base : Heap) : Prop := ∃ f d, Gd P w K mg base 6 "_law_divided_by_zero" f d ["_law_one", "_law_zero"] (spDbz K)
end
end K10

set_option maxHeartbeats 4000000
set_option exponentiation.threshold 2000
namespace K10
open PySem PySem.Spec PyProof.Rows L2 RtL ErL
theorem passF {X : Cx} : Passes (L2.CX X.prog X.w) X (fun _ _ _ => False) := fun _ _ _ _ _ _ _ c => by
  obtain ⟨_, _, _, _, _, _, _, _, _, _, _, _, h⟩ := c
  exact h.elim
theorem sgn_neg (x : Int) : sgn x < 0 ↔ x < 0 := by
  unfold sgn
  split
  · omega
  · split <;> omega
/-- which of two is below, told by the parts that were drawn -/
theorem below_iff {p q r s a b c d : Int} (hq : 0 < q) (hs : 0 < s) (hb : b ≠ 0) (hd : d ≠ 0) (e1 : p * b = a * q) (e2 : r * d = c * s) : (p * s < r * q) ↔ (sgn ((a * d - c * b) * (b * d)) < 0) := by
  rw [sgn_neg]
  have e : (p * s - r * q) * ((b * d) * (b * d)) = ((a * d - c * b) * (b * d)) * (q * s) := by
    have x1 : p * b * d = a * q * d := by rw [e1]
    grind
  have hbd : b * d ≠ 0 := Int.mul_ne_zero hb hd
  have sq : 0 < (b * d) * (b * d) := by
    rcases Int.lt_trichotomy (b * d) 0 with z | z | z
    · exact Int.mul_pos_of_neg_of_neg z z
    · exact absurd z hbd
    · exact Int.mul_pos z z
  have qs : 0 < q * s := Int.mul_pos hq hs
  generalize (b * d) * (b * d) = S at e sq
  generalize (a * d - c * b) * (b * d) = L at e ⊢
  generalize q * s = W at e qs
  have k : (p * s < r * q) ↔ p * s - r * q < 0 := by omega
  rw [k]
  generalize p * s - r * q = N at e ⊢
  constructor
  · intro h
    have z : N * S < 0 := Int.mul_neg_of_neg_of_pos h sq
    rw [e] at z
    refine Int.not_le.mp fun h0 => ?_
    have := Int.mul_nonneg h0 (Int.le_of_lt qs)
    omega
  · intro h
    have z : L * W < 0 := Int.mul_neg_of_neg_of_pos h qs
    rw [← e] at z
    refine Int.not_le.mp fun h0 => ?_
    have := Int.mul_nonneg h0 (Int.le_of_lt sq)
    omega
section
variable {P : Program} {w : World} {K : Fr} {mg : Str → Option Value} {base : Heap} {f : Addr} {fd : FuncData}
/-- what is handed to same: a ratio made of n and dd, and a pair that says the same -/
theorem same_by {H : Hp} {Q : VK} {y : Addr} {n dd N D : Int} (r : RatAt K H y (lowT n dd) (lowB n dd)) (hd : dd ≠ 0) (e : n * D = N * dd) (hD : D ≠ 0) (bN : Bd 700 N) (bD : Bd 700 D) (q : ∀ H', Same H H' → Q (.bl true) H') : spSame K [.ref y, .int N, .int D] H Q :=
  ⟨y, N, D, _, _, rfl, r, low_low hd, cross_low hd e, hD, bN, bD, q⟩
structure Ops (P : Program) (w : World) (K : Fr) (mg : Str → Option Value) (base : Heap) : Prop where
  add : ∃ d, Md P w K mg base 5 (rm K "__add__") d ["self", "other"] (spOp K (fun t b t2 b2 => t * b2 + t2 * b) fun _ b _ b2 => b * b2)
  sub : ∃ d, Md P w K mg base 5 (rm K "__sub__") d ["self", "other"] (spOp K (fun t b t2 b2 => t * b2 - t2 * b) fun _ b _ b2 => b * b2)
  mul : ∃ d, Md P w K mg base 5 (rm K "__mul__") d ["self", "other"] (spOp K (fun t _ t2 _ => t * t2) fun _ b _ b2 => b * b2)
  over : OverG P w K mg base
  below : ∃ d, Md P w K mg base 5 (rm K "is_below") d ["self", "other"] (spBelow K)
def bb (c : Bool) : PyData := .list [.bool c, .bool c]
theorem dq_bb {H : Hp} {l : Addr} {c : Bool} (h : H l = some (.lst [.bl c, .bl c])) : Dq H (.ref l) (bb c) := .lst h (.cons (.bl c) (.cons (.bl c) .nil))
theorem ok_bb (c : Bool) : Ok (bb c) := by
  cases c <;> exact ⟨rfl, Nat.le_of_ble_eq_true rfl, Nat.le_of_ble_eq_true rfl⟩
theorem num_kind {H : Hp} {v : V} {p q : Int} (h : Num K H v p q) : (∃ i, v = .int i) ∨ ∃ b dy gs, v = .ref b ∧ H b = some (.ins (RC K) dy gs) := by
  rcases h with ⟨b, rfl, dy, e⟩ | ⟨rfl, _⟩
  · exact .inr ⟨b, dy, _, rfl, e⟩
  · exact .inl ⟨_, rfl⟩
/-! ### a second number -/
abbrev sSec : Stmt := top 24
abbrev NS : List Str := ["_law_one", "_law_a", "_law_b", "_law_second", "_law_c", "_law_d", "_law_below"]
theorem scSec : FnScope NS ["_law_one", "_law_a", "_law_b", "_law_second", "_law_c", "_law_d"] (defScope sSec) := ⟨rfl, rfl, rfl, by decide +kernel, rfl, by decide +kernel, by decide +kernel⟩
def spSec (K : Fr) : SpG := fun vs H Q => ∃ x v a b c d, vs = [.ref x, .int a, .int b, v, .int c, .int d] ∧ Rt K H x a b ∧ Nr K H v c d ∧ b ≠ 0 ∧ d ≠ 0 ∧ Bd 191 a ∧ Bd 191 b ∧ Bd 191 c ∧ Bd 191 d ∧ ∀ H', Same H H' → Q (.bl true) H'
theorem ok_sec (F : FunD K "_law_second_right" "_law_second_right" (defArgs sSec) (defBody sSec) (defScope sSec) [] [] f fd) (T : TT K mg) (O : Ops P w K mg base) (S : SameG P w K mg base) (Z : DbzG P w K mg base) (C : SignG P w K mg base) : FnG P w K mg base 7 f fd ["_law_one", "_law_a", "_law_b", "_law_second", "_law_c", "_law_d"] (spSec K) := by
  obtain ⟨⟨dA, MA⟩, ⟨dS, MS⟩, ⟨dM, MM⟩, ⟨dO, GO, bO⟩, ⟨dL, ML⟩⟩ := O
  obtain ⟨fS, dS', GS⟩ := S
  obtain ⟨fZ, dZ, GZ⟩ := Z
  obtain ⟨fG, dG, GG⟩ := C
  refine fnG_D F scSec (fun vs H Q h => ?_) (fun cdv A outer s H vs Q hr hG h => ?_)
  · obtain ⟨x, v, a, b, c, d, rfl, _⟩ := h
    rfl
  · obtain ⟨x, v, a, b, c, d, rfl, hx, hv, hb, hd, ba, bb', bc, bd, q⟩ := h
    have hu : (A.deeper (envOfC "_law_second_right" (defScope sSec) s.heap.objs.size f cdv)).units + 70 < cLine := by have := hr.un; omega
    have two : 2 ≤ sizeLine := by rw [sizeLine_eq]; decide
    refine ⟨_, PSs.nox (pss_cons (ps_if (PW.pt (pw_or
        (pt_not (pt_val (pe_gg GS (hr.mono (by decide)) hG (by rfl) (pa_cons (pe_op (op_ownBin (op := .Add) (T.bin "__add__" "__radd__" (by decide)) rfl rfl MA.ok (hr.mono (by decide)) MA.bd pass0) (pv 0) (pv 3)) (pa_cons (pe_op op_add (pe_op op_mulW (pv 1) (pv 5)) (pe_op op_mulW (pv 4) (pv 2))) (pa_cons (pe_op op_mulW (pv 2) (pv 5)) pa_nil))))))
        (pw_or1 (pt_not (pt_val (pe_gg GS (hr.mono (by decide)) hG (by rfl) (pa_cons (pe_op (op_ownBin (op := .Sub) (T.bin "__sub__" "__rsub__" (by decide)) rfl rfl MS.ok (hr.mono (by decide)) MS.bd pass0) (pv 0) (pv 3)) (pa_cons (pe_op op_sub (pe_op op_mulW (pv 1) (pv 5)) (pe_op op_mulW (pv 4) (pv 2))) (pa_cons (pe_op op_mulW (pv 2) (pv 5)) pa_nil))))))))) (pss_one (ps_ret pe_bl)) pss_nil)
      (pss_cons (ps_if (pt_not (pt_val (pe_gg GS (hr.mono (by decide)) hG (by rfl) (pa_cons (pe_op (op_ownBin (op := .Mult) (T.bin "__mul__" "__rmul__" (by decide)) rfl rfl MM.ok (hr.mono (by decide)) MM.bd pass0) (pv 0) (pv 3)) (pa_cons (pe_op op_mulW (pv 1) (pv 4)) (pa_cons (pe_op op_mulW (pv 2) (pv 5)) pa_nil)))))) (pss_one (ps_ret pe_bl)) pss_nil)
      (Evl.pss_cut (ps_if (PW.pt (pw_and (pt_cmpR op_eq (pv 4) pe_int (nomark _)) (pw_and1 (pt_not (pt_val (pe_gd GZ hr (by rfl) (pa_cons (pv 0) (pa_cons (pv 3) pa_nil)))))))) (pss_one (ps_ret pe_bl)) pss_nil)
      (Evl.pss_cut (ps_if (PW.pt (pw_and (pt_cmpR op_ne (pv 4) pe_int (nomark _)) (pw_and1 (pt_not (pt_val (pe_gg GS (hr.mono (by decide)) hG (by rfl) (pa_cons (pe_meth (pv 0) T.cl T.over GO (hr.mono (by decide)) bO .nil passF (pa_cons (pv 3) pa_nil)) (pa_cons (pe_op op_mulW (pv 1) (pv 5)) (pa_cons (pe_op op_mulW (pv 2) (pv 4)) pa_nil))))))))) (pss_one (ps_ret pe_bl)) pss_nil)
      (pss_cons (ps_set (i := 6) scSec.nd rfl (Or.inl rfl) (pe_cmpR op_lt (pe_gd GG (hr.mono (by decide)) (by rfl) (pa_cons (pe_op op_sub (pe_op op_mulW (pv 1) (pv 5)) (pe_op op_mulW (pv 4) (pv 2))) (pa_cons (pe_op op_mulW (pv 2) (pv 5)) pa_nil))) pe_int (nomark _)))
      (pss_one (ps_ret (pe_cmpR op_eq (pe_callB (call_reprD hu hG T.sys) (by rfl) T.fre (by decide +kernel) (pa_cons (pe_lst (pa_cons (pe_meth (pv 0) T.cl T.below ML.ok (hr.mono (by decide)) ML.bd .nil pass0 (pa_cons (pv 3) pa_nil)) (pa_cons (pe_meth (pv 0) T.cl T.below ML.ok (hr.mono (by decide)) ML.bd .nil pass0 (pa_cons (pv 3) pa_nil)) pa_nil))) pa_nil))
        (pe_callB (call_reprD hu hG T.sys) (by rfl) T.fre (by decide +kernel) (pa_cons (pe_lst (pa_cons (pv 6) (pa_cons (pv 6) pa_nil))) pa_nil)) (nomark _))))))))), ?_⟩
    obtain ⟨p, q1, rx, lo, cr, bp, bq⟩ := hx
    obtain ⟨r, s1, nv, lo2, cr2, br, bs⟩ := hv
    have q0 : 0 < q1 := by have := lo.1; omega
    have s0 : 0 < s1 := by have := lo2.1; omega
    have up : ∀ {i : Int}, Bd 191 i → Bd 1000 i := fun h => bd_up h (by decide)
    have up2 : ∀ {i : Int}, Bd 200 i → Bd 1000 i := fun h => bd_up h (by decide)
    have hqs : q1 * s1 ≠ 0 := Int.mul_ne_zero (by omega) (by omega)
    have hbd : b * d ≠ 0 := Int.mul_ne_zero hb hd
    have bad : Bd 382 (a * d) := bd_mul ba bd
    have bcb : Bd 382 (c * b) := bd_mul bc bb'
    have bbd : Bd 382 (b * d) := bd_mul bb' bd
    have bsum : Bd 700 (a * d + c * b) := bd_up (bd_add bad bcb) (by decide)
    have bdif : Bd 700 (a * d - c * b) := bd_up (bd_sub bad bcb) (by decide)
    have bD : Bd 700 (b * d) := bd_up bbd (by decide)
    have esum : (p * s1 + r * q1) * (b * d) = (a * d + c * b) * (q1 * s1) := by grind
    have edif : (p * s1 - r * q1) * (b * d) = (a * d - c * b) * (q1 * s1) := by grind
    have emul : (p * r) * (b * d) = (a * c) * (q1 * s1) := by grind
    have eover : (p * s1) * (b * c) = (a * d) * (q1 * r) := by grind
    have czero : c = 0 ↔ r = 0 := by
      constructor
      · intro h
        rw [h, Int.zero_mul] at cr2
        exact (Int.mul_eq_zero.mp cr2).resolve_right hd
      · intro h
        rw [h, Int.zero_mul] at cr2
        exact (Int.mul_eq_zero.mp cr2.symm).resolve_right (by omega)
    obtain ⟨dx, ex⟩ := id rx
    refine ⟨_, rfl, _, rfl, x, dx, _, rfl, ex, num_kind nv, x, v, p, q1, r, s1, rfl, rx, nv, up2 bp, up2 bq, up2 br, up2 bs, hqs, fun y1 H1 e1 r1 => ?_⟩
    refine ⟨_, rfl, _, rfl, a, d, rfl, rfl, cm (up ba) (up bd), _, rfl, _, rfl, c, b, rfl, rfl, cm (up bc) (up bb'), _, _, rfl, rfl, _, rfl, _, rfl, b, d, rfl, rfl, cm (up bb') (up bd), y1, _, _, _, _, rfl, r1, low_low hqs, cross_low hqs esum, hbd, bsum, bD, fun H2 e2 => ⟨true, rfl, iteF ?_⟩⟩
    have h2 := e1.trans e2
    have rx2 := rx.same h2
    obtain ⟨dx2, ex2⟩ := id rx2
    refine ⟨_, rfl, _, rfl, x, dx2, _, rfl, ex2, num_kind (nv.same h2), x, v, p, q1, r, s1, rfl, rx2, nv.same h2, up2 bp, up2 bq, up2 br, up2 bs, hqs, fun y3 H3 e3 r3 => ?_⟩
    refine ⟨_, rfl, _, rfl, a, d, rfl, rfl, cm (up ba) (up bd), _, rfl, _, rfl, c, b, rfl, rfl, cm (up bc) (up bb'), _, _, rfl, rfl, _, rfl, _, rfl, b, d, rfl, rfl, cm (up bb') (up bd), y3, _, _, _, _, rfl, r3, low_low hqs, cross_low hqs edif, hbd, bdif, bD, fun H4 e4 => ⟨true, rfl, iteF ?_⟩⟩
    have h4 := (h2.trans e3).trans e4
    have rx4 := rx.same h4
    obtain ⟨dx4, ex4⟩ := id rx4
    refine ⟨_, rfl, _, rfl, x, dx4, _, rfl, ex4, num_kind (nv.same h4), x, v, p, q1, r, s1, rfl, rx4, nv.same h4, up2 bp, up2 bq, up2 br, up2 bs, hqs, fun y5 H5 e5 r5 => ?_⟩
    refine ⟨_, rfl, _, rfl, a, c, rfl, rfl, cm (up ba) (up bc), _, rfl, _, rfl, b, d, rfl, rfl, cm (up bb') (up bd), y5, _, _, _, _, rfl, r5, low_low hqs, cross_low hqs emul, hbd, bd_up (bd_mul ba bc) (by decide), bD, fun H6 e6 => ⟨true, rfl, iteF ?_⟩⟩
    have h6 := (h4.trans e5).trans e6
    have rx6 := rx.same h6
    refine ⟨fun σ' H' => Same H H' ∧ σ' = [some (.ref x), some (.int a), some (.int b), some v, some (.int c), some (.int d), none], ?_, ?_⟩
    · refine ⟨_, rfl, rfl, _, rfl, ite2 (fun h => ?_) (fun _ => iteF ⟨h6, rfl⟩)⟩
      have c0 : c = 0 := by
        have y := of_decide_eq_true h
        injection y
      have r0 : r = 0 := czero.mp c0
      subst r0
      exact ⟨_, rfl, _, rfl, x, v, p, q1, s1, rfl, rx6, nv.same h6, up2 bp, up2 bq, up2 bs, by omega, fun H7 e7 => ⟨true, rfl, iteF ⟨h6.trans e7, rfl⟩⟩⟩
    rintro σ' H7 ⟨h7, rfl⟩
    have rx7 := rx.same h7
    obtain ⟨dx7, ex7⟩ := id rx7
    refine ⟨fun σ' H' => Same H H' ∧ σ' = [some (.ref x), some (.int a), some (.int b), some v, some (.int c), some (.int d), none], ?_, ?_⟩
    · refine ⟨_, rfl, rfl, _, rfl, ite2 (fun h => ?_) (fun _ => iteF ⟨h7, rfl⟩)⟩
      have c0 : ¬ c = 0 := fun z => by
        subst z
        exact absurd h (by decide)
      have r0 : r ≠ 0 := fun z => c0 (czero.mpr z)
      have hqr : q1 * r ≠ 0 := Int.mul_ne_zero (by omega) r0
      have hbc : b * c ≠ 0 := Int.mul_ne_zero hb c0
      refine ⟨_, rfl, x, dx7, _, rfl, ex7, rfl, _, rfl, x, v, p, q1, r, s1, rfl, rx7, nv.same h7, up2 bp, up2 bq, up2 br, up2 bs, by omega, .inr ⟨r0, fun y8 H8 e8 r8 => ?_⟩⟩
      refine ⟨_, rfl, _, rfl, a, d, rfl, rfl, cm (up ba) (up bd), _, rfl, _, rfl, b, c, rfl, rfl, cm (up bb') (up bc), y8, _, _, _, _, rfl, r8, low_low hqr, cross_low hqr eover, hbc, bd_up bad (by decide), bd_up (bd_mul bb' bc) (by decide), fun H9 e9 => ⟨true, rfl, iteF ⟨(h7.trans e8).trans e9, rfl⟩⟩⟩
    rintro σ' H8 ⟨h8, rfl⟩
    have rx8 := rx.same h8
    obtain ⟨dx8, ex8⟩ := id rx8
    refine ⟨_, rfl, _, rfl, a, d, rfl, rfl, cm (up ba) (up bd), _, rfl, _, rfl, c, b, rfl, rfl, cm (up bc) (up bb'), _, _, rfl, rfl, _, rfl, _, rfl, b, d, rfl, rfl, cm (up bb') (up bd), _, _, rfl, bd_up bdif (by decide), bd_up bD (by decide), _, _, rfl, rfl, ?_⟩
    have eB : decide (p * s1 < r * q1) = decide (sgn ((a * d - c * b) * (b * d)) < 0) := decide_eq_decide.mpr (below_iff q0 s0 hb hd cr cr2)
    refine ⟨_, rfl, x, dx8, _, rfl, ex8, rfl, _, rfl, x, v, p, q1, r, s1, rfl, rx8, nv.same h8, up2 bp, up2 bq, up2 br, up2 bs, fun H9 e9 => ?_⟩
    have h9 := h8.trans e9
    have rx9 := rx.same h9
    obtain ⟨dx9, ex9⟩ := id rx9
    refine ⟨_, rfl, x, dx9, _, rfl, ex9, rfl, _, rfl, x, v, p, q1, r, s1, rfl, rx9, nv.same h9, up2 bp, up2 bq, up2 br, up2 bs, fun H10 e10 => ⟨two, fun l1 n1 => ?_⟩⟩
    refine ⟨l1, _, rfl, dq_bb upd_same, ok_bb _, _, rfl, _, rfl, two, fun l2 n2 => ⟨l2, _, rfl, dq_bb upd_same, ok_bb _, rfl, q_dec (Q := Q) (by rw [eB]) (q _ (((h9.trans e10).trans (same_new n1)).trans (same_new n2)))⟩⟩
abbrev SecG (P : Program) (w : World) (K : Fr) (mg : Str → Option Value) (base : Heap) : Prop := ∃ f d, GdG P w K mg base 7 "_law_second_right" f d ["_law_one", "_law_a", "_law_b", "_law_second", "_law_c", "_law_d"] (spSec K)
end
end K10

set_option maxHeartbeats 4000000
set_option exponentiation.threshold 2000
namespace K10
open PySem PySem.Spec PyProof.Rows L2 RtL ErL
/-- what a sum says -/
theorem addP_says {p q : P2} {N D N2 D2 M E : Int} (h : p.2 ≠ 0) (h' : q.2 ≠ 0) (e : (p.1 * q.2 + q.1 * p.2) * E = M * (p.2 * q.2)) : (addP p q).1 * E = M * (addP p q).2 :=
  cross_low (Int.mul_ne_zero h h') e
theorem addP_ne {p q : P2} (h : p.2 ≠ 0) (h' : q.2 ≠ 0) : (addP p q).2 ≠ 0 := (low_low (Int.mul_ne_zero h h')).ne
theorem addP_low {p q : P2} (h : p.2 ≠ 0) (h' : q.2 ≠ 0) : Low (addP p q).1 (addP p q).2 := low_low (Int.mul_ne_zero h h')
theorem sum_one {r : P2} {a b : Int} (hr : r.2 ≠ 0) (e : r.1 * b = a * r.2) : (addP (0, 1) r).1 * b = a * (addP (0, 1) r).2 := by
  refine cross_low (Int.mul_ne_zero (by decide) hr) ?_
  show (0 * r.2 + r.1 * 1) * b = a * (1 * r.2)
  grind
theorem sum_step {p r : P2} {N D a b : Int} (hp : p.2 ≠ 0) (hr : r.2 ≠ 0) (e1 : p.1 * D = N * p.2) (e2 : r.1 * b = a * r.2) : (addP p r).1 * (D * b) = (N * b + a * D) * (addP p r).2 := by
  refine cross_low (Int.mul_ne_zero hp hr) ?_
  generalize p.1 = p1 at *
  generalize p.2 = p2 at *
  generalize r.1 = r1 at *
  generalize r.2 = r2 at *
  grind
theorem bd0' : Bd 1 0 := by decide
theorem low01 : Low 0 1 := ⟨by decide, by decide⟩
section
variable {P : Program} {w : World} {K : Fr} {mg : Str → Option Value} {base : Heap} {f : Addr} {fd : FuncData}
theorem nums_nil {H : Hp} : Nums K H [] [] := ⟨rfl, fun i v h => by cases h⟩
theorem nums_cons {H : Hp} {v : V} {vs : List V} {p : P2} {ps : List P2} (h : Num K H v p.1 p.2) (b : BdP 200 p) (t : Nums K H vs ps) : Nums K H (v :: vs) (p :: ps) := by
  refine ⟨by rw [List.length_cons, List.length_cons, t.1], fun i w hw => ?_⟩
  match i, hw with
  | 0, hw =>
    cases Option.some.inj hw
    exact ⟨p, rfl, h, b⟩
  | i + 1, hw => exact t.2 i w hw
abbrev TotG (P : Program) (w : World) (K : Fr) (mg : Str → Option Value) (base : Heap) : Prop := FnR P w K mg base CX0 7 (recA K (RC K) "total" "classmethod") (spTot K)
abbrev sTot : Stmt := top 27
abbrev NT : List Str := ["_law_one", "_law_two", "_law_a", "_law_b", "_law_c", "_law_d", "_law_number"]
theorem scTot : FnScope NT ["_law_one", "_law_two", "_law_a", "_law_b", "_law_c", "_law_d", "_law_number"] (defScope sTot) := ⟨rfl, rfl, rfl, by decide +kernel, rfl, by decide +kernel, by decide +kernel⟩
def spTotR (K : Fr) : SpG := fun vs H Q => ∃ x y a b c d n, vs = [.ref x, .ref y, .int a, .int b, .int c, .int d, .int n] ∧ Rt K H x a b ∧ Rt K H y c d ∧ b ≠ 0 ∧ d ≠ 0 ∧ Bd 191 a ∧ Bd 191 b ∧ Bd 191 c ∧ Bd 191 d ∧ Bd 191 n ∧ ∀ H', Same H H' → Q (.bl true) H'
theorem ok_totR (F : FunD K "_law_total_right" "_law_total_right" (defArgs sTot) (defBody sTot) (defScope sTot) [] [] f fd) (T : TT K mg) (D : TotG P w K mg base) (S : SameG P w K mg base) : FnG P w K mg base 8 f fd ["_law_one", "_law_two", "_law_a", "_law_b", "_law_c", "_law_d", "_law_number"] (spTotR K) := by
  obtain ⟨fS, dS, GS⟩ := S
  refine fnG_D F scTot (fun vs H Q h => ?_) (fun cdv A outer s H vs Q hr hG h => ?_)
  · obtain ⟨x, y, a, b, c, d, n, rfl, _⟩ := h
    rfl
  · obtain ⟨x, y, a, b, c, d, n, rfl, hx, hy, hb, hd, ba, bb', bc, bd, bn, q⟩ := h
    refine ⟨_, PSs.nox (pss_cons (ps_if (PW.pt (pw_or
        (pt_not (pt_val (pe_gg GS (hr.mono (by decide)) hG (by rfl) (pa_cons (pe_cmeth0 (pe_glob (v := .ref (RC K)) (by rfl) (T.gl "Ratio" (by decide)) rfl) T.cm.1 T.cm.2 D hr pass0) (pa_cons pe_int (pa_cons pe_int pa_nil))))))
        (pw_or1 (pt_not (pt_val (pe_gg GS (hr.mono (by decide)) hG (by rfl) (pa_cons (ClX.pe_cmeth (pe_glob (v := .ref (RC K)) (by rfl) (T.gl "Ratio" (by decide)) rfl) T.cm.1 T.cm.2 D hr pass0 (pa_cons (pv 6) pa_nil)) (pa_cons (pv 6) (pa_cons pe_int pa_nil))))))))) (pss_one (ps_ret pe_bl)) pss_nil)
      (pss_cons (ps_if (pt_not (pt_val (pe_gg GS (hr.mono (by decide)) hG (by rfl) (pa_cons (ClX.pe_cmeth (pe_glob (v := .ref (RC K)) (by rfl) (T.gl "Ratio" (by decide)) rfl) T.cm.1 T.cm.2 D hr pass0 (pa_cons (pv 0) (pa_cons (pv 1) pa_nil))) (pa_cons (pe_op op_add (pe_op op_mulW (pv 2) (pv 5)) (pe_op op_mulW (pv 4) (pv 3))) (pa_cons (pe_op op_mulW (pv 3) (pv 5)) pa_nil)))))) (pss_one (ps_ret pe_bl)) pss_nil)
      (pss_one (ps_ret (pe_gg GS (hr.mono (by decide)) hG (by rfl) (pa_cons (ClX.pe_cmeth (pe_glob (v := .ref (RC K)) (by rfl) (T.gl "Ratio" (by decide)) rfl) T.cm.1 T.cm.2 D hr pass0 (pa_cons (pv 1) (pa_cons (pv 6) (pa_cons (pv 0) (pa_cons (pv 1) pa_nil)))))
        (pa_cons (pe_op op_add (pe_op op_add (pe_op op_mulW (pv 2) (pv 5)) (pe_op op_mulW (pe_op op_mulW pe_int (pv 4)) (pv 3))) (pe_op op_mulW (pe_op op_mulW (pv 6) (pv 3)) (pv 5))) (pa_cons (pe_op op_mulW (pv 3) (pv 5)) pa_nil)))))))), ?_⟩
    obtain ⟨p, q1, rx, lo, cr, bp, bq⟩ := hx
    obtain ⟨r, s1, ry, lo2, cr2, br, bs⟩ := hy
    have q0 : q1 ≠ 0 := by have := lo.1; omega
    have s0 : s1 ≠ 0 := by have := lo2.1; omega
    have up : ∀ {i : Int}, Bd 191 i → Bd 1000 i := fun h => bd_up h (by decide)
    have hbd : b * d ≠ 0 := Int.mul_ne_zero hb hd
    have bad : Bd 382 (a * d) := bd_mul ba bd
    have bcb : Bd 382 (c * b) := bd_mul bc bb'
    have bbd : Bd 382 (b * d) := bd_mul bb' bd
    have b2c : Bd 193 (2 * c) := bd_mul (n := 2) (by decide) bc
    have b2cb : Bd 384 (2 * c * b) := bd_mul b2c bb'
    have bnb : Bd 382 (n * b) := bd_mul bn bb'
    have bnbd : Bd 573 (n * b * d) := bd_mul bnb bd
    have bsum : Bd 700 (a * d + c * b) := bd_up (bd_add bad bcb) (by decide)
    have bD : Bd 700 (b * d) := bd_up bbd (by decide)
    have bN3 : Bd 700 (a * d + 2 * c * b + n * b * d) := bd_up (bd_add (bd_up (bd_add (bd_up bad (by decide)) b2cb) (by decide)) bnbd) (by decide)
    have b0 : Bd 700 0 := bd_up bd0' (by decide)
    have b1 : Bd 700 1 := bd_up (n := 1) (by decide) (by decide)
    refine ⟨rfl, [], [], rfl, nums_nil, by decide, fun t1 H1 e1 r1 => ⟨t1, 0, 1, _, _, rfl, r1, low01, rfl, by decide, b0, b1, fun H2 e2 => ⟨true, rfl, iteF ?_⟩⟩⟩
    have o0 : (1 : Int) ≠ 0 := by decide
    have b20 : ∀ {i : Int}, Bd 191 i → Bd 200 i := fun h => bd_up h (by decide)
    have b21 : Bd 200 1 := bd_up (n := 1) (by decide) (by decide)
    refine ⟨rfl, _, rfl, [.int n], [(n, 1)], rfl, nums_cons (.inr ⟨rfl, rfl⟩) ⟨b20 bn, b21, o0⟩ nums_nil, Nat.le_of_ble_eq_true rfl, fun t3 H3 e3 r3 => ⟨_, rfl, t3, n, 1, _, _, rfl, r3, addP_low o0 o0, sum_one (r := (n, 1)) (a := n) (b := 1) o0 rfl, o0, bd_up bn (by decide), b1, fun H4 e4 => ⟨true, rfl, iteF ?_⟩⟩⟩
    have h4 := ((e1.trans e2).trans e3).trans e4
    have NX : ∀ {H' : Hp}, Same H H' → Num K H' (.ref x) p q1 := fun e => .inl ⟨x, rfl, rx.same e⟩
    have NY : ∀ {H' : Hp}, Same H H' → Num K H' (.ref y) r s1 := fun e => .inl ⟨y, rfl, ry.same e⟩
    have BX : BdP 200 (p, q1) := ⟨bp, bq, q0⟩
    have BY : BdP 200 (r, s1) := ⟨br, bs, s0⟩
    have u1 := sum_one (r := (p, q1)) q0 cr
    have n1 := addP_ne (p := (0, 1)) (q := (p, q1)) o0 q0
    refine ⟨rfl, _, rfl, _, rfl, _, [(p, q1), (r, s1)], rfl, nums_cons (NX h4) BX (nums_cons (NY h4) BY nums_nil), Nat.le_of_ble_eq_true rfl, fun t5 H5 e5 r5 => ?_⟩
    refine ⟨_, rfl, _, rfl, a, d, rfl, rfl, cm (up ba) (up bd), _, rfl, _, rfl, c, b, rfl, rfl, cm (up bc) (up bb'), _, _, rfl, rfl, _, rfl, _, rfl, b, d, rfl, rfl, cm (up bb') (up bd), t5, _, _, _, _, rfl, r5, addP_low n1 s0, sum_step (r := (r, s1)) n1 s0 u1 cr2, hbd, bsum, bD, fun H6 e6 => ⟨true, rfl, iteF ?_⟩⟩
    have h6 := (h4.trans e5).trans e6
    have v1 := sum_one (r := (r, s1)) s0 cr2
    have m1 := addP_ne (p := (0, 1)) (q := (r, s1)) o0 s0
    have v2 := sum_step (r := (n, 1)) (a := n) (b := 1) m1 o0 v1 rfl
    have m2 := addP_ne (q := (n, 1)) m1 o0
    have v3 := sum_step (r := (p, q1)) m2 q0 v2 cr
    have m3 := addP_ne (q := (p, q1)) m2 q0
    have v4 : (addP (addP (addP (addP (0, 1) (r, s1)) (n, 1)) (p, q1)) (r, s1)).1 * (b * d) = (a * d + 2 * c * b + n * b * d) * (addP (addP (addP (addP (0, 1) (r, s1)) (n, 1)) (p, q1)) (r, s1)).2 := by
      refine cross_low (Int.mul_ne_zero m3 s0) ?_
      show ((addP (addP (addP (0, 1) (r, s1)) (n, 1)) (p, q1)).1 * s1 + r * (addP (addP (addP (0, 1) (r, s1)) (n, 1)) (p, q1)).2) * (b * d) = (a * d + 2 * c * b + n * b * d) * ((addP (addP (addP (0, 1) (r, s1)) (n, 1)) (p, q1)).2 * s1)
      generalize (addP (addP (addP (0, 1) (r, s1)) (n, 1)) (p, q1)).1 = p3 at *
      generalize (addP (addP (addP (0, 1) (r, s1)) (n, 1)) (p, q1)).2 = q3 at *
      clear v1 v2 u1 r1 r3 r5
      grind
    refine ⟨rfl, _, rfl, _, rfl, _, rfl, _, rfl, _, [(r, s1), (n, 1), (p, q1), (r, s1)], rfl, nums_cons (NY h6) BY (nums_cons (.inr ⟨rfl, rfl⟩) ⟨b20 bn, b21, o0⟩ (nums_cons (NX h6) BX (nums_cons (NY h6) BY nums_nil))), Nat.le_of_ble_eq_true rfl, fun t7 H7 e7 r7 => ?_⟩
    refine ⟨_, rfl, _, rfl, a, d, rfl, rfl, cm (up ba) (up bd), _, rfl, 2, c, rfl, rfl, cm (bd_up (n := 2) (by decide) (by decide)) (up bc), _, rfl, _, b, rfl, rfl, cm (bd_up b2c (by decide)) (up bb'), _, _, rfl, rfl, _, rfl, _, rfl, n, b, rfl, rfl, cm (up bn) (up bb'), _, rfl, _, d, rfl, rfl, cm (bd_up bnb (by decide)) (up bd), _, _, rfl, rfl, _, rfl, _, rfl, b, d, rfl, rfl, cm (up bb') (up bd),
      t7, _, _, _, _, rfl, r7, addP_low m3 s0, v4, hbd, bN3, bD, fun H8 e8 => q _ ((h6.trans e7).trans e8)⟩
abbrev TotRG (P : Program) (w : World) (K : Fr) (mg : Str → Option Value) (base : Heap) : Prop := ∃ f d, GdG P w K mg base 8 "_law_total_right" f d ["_law_one", "_law_two", "_law_a", "_law_b", "_law_c", "_law_d", "_law_number"] (spTotR K)
end
end K10

set_option maxHeartbeats 4000000
set_option exponentiation.threshold 2000
namespace K10
open PySem PySem.Spec PyProof.Rows L2 RtL ErL LamX
theorem call_or {X : Cx} {f : Value} {R1 R2 : List V → Hp → VK → Prop} (h1 : CallR X f R1) (h2 : CallR X f R2) : CallR X f (fun xs H Q => R1 xs H Q ∨ R2 xs H Q) := by
  intro pins s σ H xs us Q I r h
  rcases h with h | h
  · exact h1 pins s σ H xs us Q I r h
  · exact h2 pins s σ H xs us Q I r h
section
variable {P : Program} {w : World} {K : Fr} {mg : Str → Option Value} {base : Heap} {f : Addr} {fd : FuncData}
/-- what can be shown in a list: data, or a list of a ratio -/
def Shw (K : Fr) (H : Hp) (v : V) : Prop := (∃ d, Dq H v d ∧ Ok (.list [d, .bool true])) ∨ ∃ l x p q, v = .ref l ∧ H l = some (.lst [.ref x]) ∧ RatAt K H x p q ∧ Bd 200 p ∧ Bd 200 q
theorem Shw.same {H H' : Hp} {v : V} (h : Shw K H v) (s : Same H H') : Shw K H' v := by
  rcases h with ⟨d, dq, ok⟩ | ⟨l, x, p, q, rfl, e, r, b⟩
  · exact .inl ⟨d, dq.same s, ok⟩
  · exact .inr ⟨l, x, p, q, rfl, s _ _ e, r.same s, b⟩
abbrev rRepU (K : Fr) : List V → Hp → VK → Prop := fun xs H Q => rReprD xs H Q ∨ rReprA (RC K) (spTxt K rrep) xs H Q
theorem shw_text {H : Hp} {v : V} (h : Shw K H v) : ∃ z : Str, ∀ (H' : Hp) (L : Addr) (Q : VK), Same H H' → H' L = some (.lst [v, .bl true]) → Q (.str z) H' → rRepU K [.ref L] H' Q := by
  rcases h with ⟨d, dq, ok⟩ | ⟨l, x, p, q, rfl, e, r, bp, bq⟩
  · exact ⟨_, fun H' L Q s hL hq => .inl ⟨L, .list [d, .bool true], rfl, .lst hL (.cons (dq.same s) (.cons (.bl true) .nil)), ok, hq⟩⟩
  · refine ⟨listText [listText [rrep p q], Str.ofString "True"], fun H' L Q s hL hq => .inr ⟨L, [.ref l, .bl true], _, rfl, hL, by simp, by rfl, fun i u hi => ?_, ?_, hq⟩⟩
    · match i, hi with
      | 0, hi =>
        cases Option.some.inj hi
        refine ⟨_, rfl, .inr ⟨l, [.ref x], [rrep p q], rfl, fun z => ?_, s _ _ e, by simp, rfl, fun j u hj => ?_, rfl⟩⟩
        · have e1 := s _ _ e
          rw [z, hL] at e1
          injection e1 with e1
          injection e1 with e1
          injection e1 with e1 e2
          cases e2
        · match j, hj with
          | 0, hj =>
            cases Option.some.inj hj
            obtain ⟨dx, ex⟩ := r.same s
            exact ⟨_, rfl, .inl (.inr ⟨x, dx, _, rfl, ex, fun Q hq => ⟨x, p, q, rfl, ⟨dx, ex⟩, bd_up bp (by decide), bd_up bq (by decide), hq⟩⟩)⟩
          | _ + 1, hj => cases hj
      | 1, hi =>
        cases Option.some.inj hi
        exact ⟨_, rfl, .inl (.inr ⟨true, rfl, rfl⟩)⟩
      | _ + 2, hi => cases hi
    · have lp : (T_ p).length ≤ 701 := (shown_int (bd_up bp (by decide))).2
      have lq : (T_ q).length ≤ 701 := (shown_int (bd_up bq (by decide))).2
      have l2 : ("Ratio(" : Str).length = 6 := rfl
      have l3 : (", " : Str).length = 2 := rfl
      have l4 : (")" : Str).length = 1 := rfl
      have l5 : (Str.ofString "True").length = 4 := rfl
      have lr : (rrep p q).length ≤ 1411 := by
        show ("Ratio(" ++ T_ p ++ ", " ++ T_ q ++ ")" : Str).length ≤ _
        rw [strLen_append, strLen_append, strLen_append, strLen_append]
        omega
      have a1 := listText_len_le [rrep p q]
      have a2 := listText_len_le [listText [rrep p q], Str.ofString "True"]
      simp only [List.map_cons, List.map_nil, List.sum_cons, List.sum_nil, List.length_cons, List.length_nil] at a1 a2
      rw [sizeLine_eq]
      omega
/-! ### refused -/
abbrev sRef : Stmt := top 25
abbrev NR : List Str := ["_law_call", "_law_value", "_law_told", "e"]
theorem scRef : FnScope NR ["_law_call", "_law_value"] (defScope sRef) := ⟨rfl, rfl, rfl, by decide +kernel, rfl, by decide +kernel, by decide +kernel⟩
def TTr (K : Fr) : V → (XK → Hp → VK → Prop) → Hp → VK → Prop := fun v tl H Q => Shw K H v ∧ (∀ H0 E R, Same H H0 → Ref K H0 v E → tl E H0 R) ∧ ∀ H', Same H H' → Q (.bl true) H'
theorem gives_ref {X : Cx} (hP : X.prog = P) (hw : X.w = w) (hK : X.K = K) (hmg : X.mg = mg) (hbase : X.base = base) {g : Addr} {cdg : Value} {qn : Str} (T : TT K mg) (G : Gt P w K mg base) : Gives2 X 7 NR "_law_refused" (defScope sRef) g cdg (defBody sRef) "_law_call" qn (TTr K) := by
  subst hP hw hK hmg hbase
  intro f c' s H Q v tl hr hG call hc' h
  obtain ⟨hS, hT, q⟩ := h
  obtain ⟨_, _, _, _, ⟨dRp, MRp⟩⟩ := G
  have gI := T.gl "InvalidNumber" (by decide)
  obtain ⟨i1, i2, i3, i4, i5, i6, i7, i8, i9⟩ := T.ini
  have hu : (X.A.deeper (envOfC "_law_refused" (defScope sRef) s.heap.objs.size g cdg)).units + 70 < cLine := by have := hr.un; omega
  have two : 2 ≤ sizeLine := by rw [sizeLine_eq]; decide
  have CU : CallR (cxOf CX0 X.prog X.w X.K X.mg X.base NR "_law_refused" (defScope sRef) g cdg X.A X.stack s H E0).nox (.builtin "repr") (rRepU X.K) :=
    call_or (call_reprD hu hG T.sys) (call_reprA (T.spc "__repr__" (by decide)).1 (T.spc "__repr__" (by decide)).2 MRp.ok MRp.bd (hr.mono (by decide)) hG)
  refine ⟨_, PSs.nox (pss_cons (ps_set (i := 2) scRef.nd rfl (Or.inl rfl) (pe_lst pa_nil))
      (pss_cons (ps_try_as (i := 3) (tb := fun W => tDrop (fun σZ HZ Q => σZ[0]? = some (some (.ref f)) ∧ HZ c' = some (CodeO c' qn) ∧ tl (WE W σZ) HZ Q))
          (ts := fun a cls d => tAsg (tLst (tCons (tBy1 (IN X.K) "value" a cls d (tVar 3)) (tCons (tCB (rIsS X.K (IN X.K) a cls d) (tCons (tVar 3) (tCons (tC (.ref (He.ga X.K "SlotsumsError"))) tNil))) tNil))) (gName 2)) (Wout := fun _ _ _ _ => False) rfl rfl scRef.nd rfl rfl ⟨rfl, by decide, .inl gI⟩ L2.takes0
        (fun W pn xe tk _ => pss_one (ps_expr (call W pn xe _ _ tk)))
        (fun a oe cls d pn hz hf => pss_one (ps_set (i := 2) scRef.nd rfl (Or.inl rfl) (pe_lst (pa_cons (pe_by1 T.askI i4 hz hf (pv 3)) (pa_cons (pe_callB (call_isS T.askI hz hf) (by rfl) T.fre (by decide +kernel) (pa_cons (pv 3) (pa_cons (pe_glob (v := .ref (He.ga X.K "SlotsumsError")) (by rfl) (T.gl "SlotsumsError" (by decide)) rfl) pa_nil))) pa_nil))))))
      (pss_one (ps_ret (pe_cmpR op_eq (pe_callB CU (by rfl) T.fre (by decide +kernel) (pa_cons (pv 2) pa_nil)) (pe_callB CU (by rfl) T.fre (by decide +kernel) (pa_cons (pe_lst (pa_cons (pv 1) (pa_cons pe_bl pa_nil))) pa_nil)) (nomark _)))))), ?_⟩
  obtain ⟨z, fz⟩ := shw_text hS
  refine ⟨Nat.zero_le _, fun l n => ?_⟩
  have s0 : Same H (upd H l (.lst [])) := same_new n
  refine ⟨rfl, s0 _ _ hc', hT _ _ _ s0 fun d H1 s1 ed => ⟨true, i7, fun _ c hc => ?_, fun z => nomatch z⟩⟩
  have h1 := s0.trans s1
  refine ⟨_, rfl, rfl, rfl, d, v, rfl, ed, _, rfl, _, _, _, rfl, rfl, (fun dd h => by cases h; exact ⟨_, ed⟩), fun u h => h, i8, two, fun l2 n2 => ?_⟩
  have h2 := h1.trans (same_new (o := .lst [v, .bl true]) n2)
  refine ⟨_, rfl, fz _ l2 _ h2 upd_same ?_⟩
  refine ⟨_, rfl, two, fun l3 n3 => ?_⟩
  have h3 := h2.trans (same_new (o := .lst [v, .bl true]) n3)
  exact fz _ l3 _ h3 upd_same ⟨rfl, q_dec (Q := Q) rfl (q _ h3)⟩
end
end K10

set_option maxHeartbeats 4000000
set_option exponentiation.threshold 2000
namespace RtL
open PySem PySem.Spec PyProof.Rows L2 ErL LamX
mutual
theorem Dq.ext {H H' : Hp} (s : ExtN H H') : ∀ {v : V} {d : PyData}, Dq H v d → Dq H' v d
  | _, _, .non => .non
  | _, _, .bl b => .bl b
  | _, _, .int i => .int i
  | _, _, .str x => .str x
  | _, _, .lst e a => .lst (s _ _ e (fun _ z => nomatch z)) (DqAll.ext s a)
  | _, _, .tup e a => .tup (s _ _ e (fun _ z => nomatch z)) (DqAll.ext s a)
  | _, _, .dct e a => .dct (s _ _ e (fun _ z => nomatch z)) (DqKv.ext s a)
theorem DqAll.ext {H H' : Hp} (s : ExtN H H') : ∀ {vs : List V} {ds : List PyData}, DqAll H vs ds → DqAll H' vs ds
  | _, _, .nil => .nil
  | _, _, .cons a b => .cons (Dq.ext s a) (DqAll.ext s b)
theorem DqKv.ext {H H' : Hp} (s : ExtN H H') : ∀ {kvs : List (Key × V)} {ps : List (PyData × PyData)}, DqKv H kvs ps → DqKv H' kvs ps
  | _, _, .nil => .nil
  | _, _, .cons a b => .cons (Dq.ext s a) (DqKv.ext s b)
end
end RtL
namespace K10
open PySem PySem.Spec PyProof.Rows L2 RtL ErL LamX
section
variable {P : Program} {w : World} {K : Fr} {mg : Str → Option Value} {base : Heap} {f : Addr} {fd : FuncData}
theorem RatAt.ext {H H' : Hp} {a : Addr} {t b : Int} (h : RatAt K H a t b) (s : ExtN H H') : RatAt K H' a t b := by
  obtain ⟨dx, e⟩ := h
  exact ⟨dx, s _ _ e (fun _ z => nomatch z)⟩
theorem Odd.ext {H H' : Hp} {v : V} (h : Odd K H v) (s : ExtN H H') : Odd K H' v := by
  obtain ⟨t, o⟩ := h
  refine ⟨t, ?_⟩
  cases o with
  | non => exact .non
  | bl b => exact .bl b
  | str z => exact .str z
  | lst e => exact .lst (s _ _ e (fun _ z => nomatch z))
  | tup e => exact .tup (s _ _ e (fun _ z => nomatch z))
  | dct e => exact .dct (s _ _ e (fun _ z => nomatch z))
theorem Shw.ext {H H' : Hp} {v : V} (h : Shw K H v) (s : ExtN H H') : Shw K H' v := by
  rcases h with ⟨d, dq, ok⟩ | ⟨l, x, p, q, rfl, e, r, b⟩
  · exact .inl ⟨d, RtL.Dq.ext s dq, ok⟩
  · exact .inr ⟨l, x, p, q, rfl, s _ _ e (fun _ z => nomatch z), RatAt.ext r s, b⟩
/-- the def refused -/
structure RefD (K : Fr) (mg : Str → Option Value) : Prop where
  ex : ∃ g fd, FunD K "_law_refused" "_law_refused" (defArgs sRef) (defBody sRef) (defScope sRef) [] [] g fd ∧ mg "_law_refused" = some (.ref g) ∧ Binds K fd ["_law_call", "_law_value"] []
/-- the operators, where the second operand is no number -/
structure OpsX (P : Program) (w : World) (K : Fr) (mg : Str → Option Value) (base : Heap) : Prop where
  add : ∃ d, FnOk P w K mg base (L2.CX P w) 5 (rm K "__add__") d ["self", "other"] (spOpX K) ∧ Binds K d ["self", "other"] []
  sub : ∃ d, FnOk P w K mg base (L2.CX P w) 5 (rm K "__sub__") d ["self", "other"] (spOpX K) ∧ Binds K d ["self", "other"] []
  mul : ∃ d, FnOk P w K mg base (L2.CX P w) 5 (rm K "__mul__") d ["self", "other"] (spOpX K) ∧ Binds K d ["self", "other"] []
  over : ∃ d, FnOk P w K mg base (L2.CX P w) 5 (rm K "over") d ["self", "other"] (spOpX K) ∧ Binds K d ["self", "other"] []
  below : ∃ d, FnOk P w K mg base (L2.CX P w) 5 (rm K "is_below") d ["self", "other"] (spOpX K) ∧ Binds K d ["self", "other"] []
  tot : FnR P w K mg base (L2.CX P w) 7 (recA K (RC K) "total" "classmethod") (spTotX K)
abbrev sOpR : Stmt := top 26
abbrev NO : List Str := ["_law_one", "_law_odd", "_law_rows"]
theorem scOpR : FnScope NO ["_law_one", "_law_odd"] (defScope sOpR) := ⟨rfl, rfl, rfl, by decide +kernel, rfl, by decide +kernel, by decide +kernel⟩
abbrev lamQ : Str := "_law_operand_refused" ++ ".<locals>." ++ "<lambda>"
abbrev opX (P : Program) (w : World) (K : Fr) (mg : Str → Option Value) (base : Heap) (f c : Addr) (A : Around) (outer : List Env) (s : Shared) (H : Hp) : Cx := (cxOf CX0 P w K mg base NO "_law_operand_refused" (defScope sOpR) f (.ref c) A outer s H E0).nox
theorem pe_refused {c Pt : Addr} {A : Around} {outer : List Env} {s : Shared} {H : Hp} {params : Arguments} {body : Expr} {scope : Scope} {lpos p p3 pos : Pos} {t : XK → TE} (T : TT K mg) (G : Gt P w K mg base) (R : RefD K mg) (TB : TabB base mg c Pt)
    (hr : Room 9 (A.deeper (envOfC "_law_operand_refused" (defScope sOpR) s.heap.objs.size f (.ref c)))) (hG : (A.deeper (envOfC "_law_operand_refused" (defScope sOpR) s.heap.objs.size f (.ref c))).guards = some [])
    (L : LamS (defScope sOpR) scope) (hdef : defaultsOf params (opX P w K mg base f c A outer s H).env = ([], []))
    (hbind : ∀ (q : Str) (cl : List (Str × Addr)) (pm cv ctv : Value), bindArgs (PySem.W.kla_fn "<lambda>" q params body scope cl pm cv ctv) ⟨[], []⟩ = pure [])
    (hbody : ∀ (A1 : Around) (outer1 : List Env) (s1 : Shared) (H1 : Hp) (E : XK) (f1 c1 : Addr), Room 7 (A1.deeper (lamEnv (opX P w K mg base f c A outer s H) scope s1.heap.objs.size f1 c1)) → PE (lamCx (opX P w K mg base f c A outer s H) A1 outer1 s1 H1 E scope f1 c1) body (t E)) :
    PE (opX P w K mg base f c A outer s H) (.Call (.Name "_law_refused" p) [.Lambda params body scope lpos, .Name "_law_odd" p3] [] pos) (tLam2 [(Pt, lamQ)] (TTr K) t (tVar 1)) := by
  obtain ⟨g, fdR, FR, gR, bR⟩ := R.ex
  obtain ⟨oc, od, dV, kV, doc, pm, an, cdv, ct, osl, rfl, lk, hcd, _, _⟩ := FR.ex
  exact pe_lamcall2 (X := opX P w K mg base f c A outer s H) (by rfl) gR FR.kp lk hcd bR scRef rfl (.inl rfl) (gives_ref (X := opX P w K mg base f c A outer s H) rfl rfl rfl rfl rfl T G) TB rfl (List.mem_singleton.mpr rfl) (fun p hp _ => by rw [List.mem_singleton.mp hp]; rfl) hr hG rfl L hdef hbind hbody (pv 1)
end
end K10

set_option maxHeartbeats 8000000
set_option exponentiation.threshold 2000
namespace K10
open PySem PySem.Spec PyProof.Rows L2 RtL ErL LamX
section
variable {P : Program} {w : World} {K : Fr} {mg : Str → Option Value} {base : Heap} {f : Addr} {fd : FuncData}
/-- the code object of a def -/
def codeIs (K : Fr) (f c : Addr) : Prop := ∃ oc od fd osl, K.lookup f = some ⟨oc, od, .func fd, osl⟩ ∧ fd.code = .ref c
theorem fnG_Dc {k : Nat} {ps N : List Str} {sp : SpG} {x qual : Str} {params : Arguments} {body : List Stmt} {scope : Scope} {c : Addr} (F : FunD K x qual params body scope [] [] f fd) (hc : codeIs K f c) (S : FnScope N ps scope) (len : ∀ vs H Q, sp vs H Q → vs.length = ps.length)
    (hbody : ∀ (A : Around) (outer : List Env) (s : Shared) (H : Hp) (vs : List V) (Q : VK), Room k (A.deeper (envOfC qual scope s.heap.objs.size f (.ref c))) →
      (A.deeper (envOfC qual scope s.heap.objs.size f (.ref c))).guards = some [] → sp vs H Q →
      ∃ t, PSs (cxOf CX0 P w K mg base N qual scope f (.ref c) A outer s H E0).nox body t ∧ t { nx := fun _ H' => Q .non H', rt := Q } (start N vs) H) :
    FnG P w K mg base (k + 1) f fd ps sp := by
  obtain ⟨oc, od, dV, kV, doc, pm, an, cdv, ct, osl, rfl, lk, hcd, _, _⟩ := F.ex
  obtain ⟨oc', od', fd', osl', lk', hcc⟩ := hc
  rw [lk] at lk'
  obtain rfl : cdv = .ref c := by
    injection lk' with e
    injection e with e1 e2 e3 e4
    injection e3 with e3
    rw [← hcc, ← e3]
  refine ⟨len, fun A outer s H args us vs Q hr hg e0 hb r hsp => ?_⟩
  exact LamX.run_ofS (N := N) lk hcd S hr e0 hb r (len _ _ _ hsp) fun hr' => by
    obtain ⟨t, ht, hq⟩ := hbody A outer s H vs Q hr' (guards_deeper hg) hsp
    exact ⟨t, ht.nox, hq⟩
theorem tabs_lst {T : List (Addr × Str)} {H : Hp} {l : Addr} {xs ys : List V} (t : Tabs T H) (h : H l = some (.lst xs)) : Tabs T (upd H l (.lst ys)) := by
  intro pr hp
  obtain ⟨ps, e, tr, c⟩ := t pr hp
  refine ⟨ps, ?_, tr, fun pos cv hc => ?_⟩
  · rw [upd_ne (fun z => by rw [z, h] at e; cases e)]
    exact e
  · obtain ⟨c1, e1, e2⟩ := c pos cv hc
    refine ⟨c1, e1, ?_⟩
    rw [upd_ne (fun z => by rw [z, h] at e2; cases e2)]
    exact e2
def spOpR (K : Fr) (Pt : Addr) : SpG := fun vs H Q => ∃ x v p q, vs = [.ref x, v] ∧ Tabs [(Pt, lamQ)] H ∧ RatAt K H x p q ∧ Bd 200 p ∧ Bd 200 q ∧ q ≠ 0 ∧ Odd K H v ∧ Shw K H v ∧ ∀ H', ExtN H H' → Tabs [(Pt, lamQ)] H' → Q (.bl true) H'
theorem ok_opR {c Pt : Addr} (F : FunD K "_law_operand_refused" "_law_operand_refused" (defArgs sOpR) (defBody sOpR) (defScope sOpR) [] [] f fd) (hc : codeIs K f c) (TB : TabB base mg c Pt) (T : TT K mg) (G : Gt P w K mg base) (R : RefD K mg) (O : OpsX P w K mg base) : FnG P w K mg base 10 f fd ["_law_one", "_law_odd"] (spOpR K Pt) := by
  obtain ⟨⟨dA, GA, bA⟩, ⟨dS, GS, bS⟩, ⟨dM, GM, bM⟩, ⟨dO, GO, bO⟩, ⟨dL, GL, bL⟩, GT⟩ := O
  refine fnG_Dc F hc scOpR (fun vs H Q h => ?_) (fun A outer s H vs Q hr hG h => ?_)
  · obtain ⟨x, v, p, q, rfl, _⟩ := h
    rfl
  · obtain ⟨x, v, p, q, rfl, hT, hx, bp, bq, q0, ho, hs, k⟩ := h
    have PX : ∀ {A1 : Around} {outer1 : List Env} {s1 : Shared} {H1 : Hp} {E : XK} {scope : Scope} {f1 c1 : Addr}, Passes (L2.CX P w) (lamCx (opX P w K mg base f c A outer s H) A1 outer1 s1 H1 E scope f1 c1) E := fun {_ _ _ _ _ _ _ _} => passes_call (takes_of rfl rfl rfl rfl) fun _ _ _ _ z => z
    refine ⟨_, PSs.nox (pss_cons (ps_set (i := 2) scOpR.nd rfl (Or.inl rfl) (pe_lst (pa_cons (pe_refused T G R TB hr hG (lamS_by (by decide +kernel)) rfl (fun _ _ _ _ _ => rfl)
        (t := fun E => tOp (rOddBin (RC K) (spOpX K) E) (tVar 0) (tVar 1)) (fun _ _ _ _ _ _ _ hr1 => pe_op (op_oddBin (op := .Add) (T.bin "__add__" "__radd__" (by decide)) (odd_sub T) rfl GA (hr1.mono (by decide)) bA PX) (pv 0) (pv 1))) pa_nil)))
      (pss_cons (ps_expr (pe_bm PySem.F.plainAttrs_list PySem.F.slot_list_append PySem.F.type_list_append mt_append (pv 2) (pa_cons (pe_refused T G R TB hr hG (lamS_by (by decide +kernel)) rfl (fun _ _ _ _ _ => rfl)
        (t := fun E => tOp (rOddBin (RC K) (spOpX K) E) (tVar 0) (tVar 1)) (fun _ _ _ _ _ _ _ hr1 => pe_op (op_oddBin (op := .Sub) (T.bin "__sub__" "__rsub__" (by decide)) (odd_sub T) rfl GS (hr1.mono (by decide)) bS PX) (pv 0) (pv 1))) pa_nil)))
      (pss_cons (ps_expr (pe_bm PySem.F.plainAttrs_list PySem.F.slot_list_append PySem.F.type_list_append mt_append (pv 2) (pa_cons (pe_refused T G R TB hr hG (lamS_by (by decide +kernel)) rfl (fun _ _ _ _ _ => rfl)
        (t := fun E => tOp (rOddBin (RC K) (spOpX K) E) (tVar 0) (tVar 1)) (fun _ _ _ _ _ _ _ hr1 => pe_op (op_oddBin (op := .Mult) (T.bin "__mul__" "__rmul__" (by decide)) (odd_sub T) rfl GM (hr1.mono (by decide)) bM PX) (pv 0) (pv 1))) pa_nil)))
      (pss_cons (ps_expr (pe_bm PySem.F.plainAttrs_list PySem.F.slot_list_append PySem.F.type_list_append mt_append (pv 2) (pa_cons (pe_refused T G R TB hr hG (lamS_by (by decide +kernel)) rfl (fun _ _ _ _ _ => rfl)
        (t := fun E => tMeth (RC K) "over" (spOpX K) [] E (tVar 0) (tCons (tVar 1) tNil)) (fun _ _ _ _ _ _ _ hr1 => pe_meth (pv 0) T.cl T.over GO (hr1.mono (by decide)) bO .nil PX (pa_cons (pv 1) pa_nil))) pa_nil)))
      (pss_cons (ps_expr (pe_bm PySem.F.plainAttrs_list PySem.F.slot_list_append PySem.F.type_list_append mt_append (pv 2) (pa_cons (pe_refused T G R TB hr hG (lamS_by (by decide +kernel)) rfl (fun _ _ _ _ _ => rfl)
        (t := fun E => tMeth (RC K) "is_below" (spOpX K) [] E (tVar 0) (tCons (tVar 1) tNil)) (fun _ _ _ _ _ _ _ hr1 => pe_meth (pv 0) T.cl T.below GL (hr1.mono (by decide)) bL .nil PX (pa_cons (pv 1) pa_nil))) pa_nil)))
      (pss_cons (ps_expr (pe_bm PySem.F.plainAttrs_list PySem.F.slot_list_append PySem.F.type_list_append mt_append (pv 2) (pa_cons (pe_refused T G R TB hr hG (lamS_by (by decide +kernel)) rfl (fun _ _ _ _ _ => rfl)
        (t := fun E => ClX.tCMeth (RC K) (spTotX K) E (tC (.ref (RC K))) (tCons (tC (.int 1)) (tCons (tVar 0) (tCons (tVar 1) (tCons (tC .non) tNil))))) (fun _ _ _ _ _ _ _ hr1 => ClX.pe_cmeth (pe_glob (v := .ref (RC K)) (by rfl) (T.gl "Ratio" (by decide)) rfl) T.cm.1 T.cm.2 GT hr1 PX (pa_cons pe_int (pa_cons (pv 0) (pa_cons (pv 1) (pa_cons pe_non pa_nil)))))) pa_nil)))
      (pss_one (ps_ret (pe_callB (cr_all (by rfl)) (by rfl) T.fre (by decide +kernel) (pa_cons (pv 2) pa_nil)))))))))), ?_⟩
    have three : ∀ {n : Nat}, n ≤ 6 → n ≤ sizeLine := fun h => by rw [sizeLine_eq]; omega
    have cast_ : ∀ {H' : Hp}, ExtN H H' → ∃ dx, H' x = some (.ins (RC K) dx [("_top", .int p), ("_bottom", .int q)]) := fun e => RatAt.ext hx e
    have b21 : Bd 200 1 := bd_up (n := 1) (by decide) (by decide)
    refine ⟨hT, fun H1 e1 T1 => ⟨_, rfl, rfl, hs.ext e1, fun H0 E R s0 r => ?_, fun H2 s2 => ⟨three (by decide), fun l n2 => ?_⟩⟩⟩
    · obtain ⟨dx, ex⟩ := cast_ (e1.trans (ExtN.of s0))
      obtain ⟨t, od⟩ := (Odd.ext ho e1).same s0
      exact ⟨_, rfl, _, rfl, x, dx, _, t, rfl, ex, od, x, v, p, q, rfl, ⟨dx, ex⟩, ⟨t, od⟩, r⟩
    have g1 : ExtN H H2 := e1.trans (ExtN.of s2)
    have hl : ∀ b o, H b = some o → (∀ ps, o ≠ .tbl ps) → b ≠ l := fun b o e n z => by
      have y := g1 b o e n
      rw [z, n2] at y
      cases y
    have f1 : ExtN H (upd H2 l (.lst [.bl true])) := g1.trans (ExtN.of (same_new n2))
    have U1 : Tabs [(Pt, lamQ)] (upd H2 l (.lst [.bl true])) := (T1.ext s2).ext (same_new n2)
    have L1 : (upd H2 l (.lst [.bl true])) l = some (.lst [.bl true]) := upd_same
    refine ⟨_, rfl, .inl ⟨rfl, _, SqL.of L1⟩, U1, fun I2 e2 T2 => ⟨_, rfl, rfl, hs.ext (f1.trans e2), fun H0 E R s0 r => ?_, fun G2 s2 => ⟨l, _, _, rfl, rfl, s2 _ _ (e2 _ _ L1 (fun _ z => nomatch z)), three (Nat.le_of_ble_eq_true rfl), ?_⟩⟩⟩
    · obtain ⟨dx, ex⟩ := cast_ ((f1.trans e2).trans (ExtN.of s0))
      obtain ⟨t, od⟩ := (Odd.ext ho (f1.trans e2)).same s0
      exact ⟨_, rfl, _, rfl, x, dx, _, t, rfl, ex, od, x, v, p, q, rfl, ⟨dx, ex⟩, ⟨t, od⟩, r⟩
    have f2 : ExtN H (upd G2 l (.lst [.bl true, .bl true])) := fun b o e n => by
      rw [upd_ne (hl b o e n)]
      exact s2 _ _ (e2 _ _ (f1 _ _ e n) n)
    have U2 : Tabs [(Pt, lamQ)] (upd G2 l (.lst [.bl true, .bl true])) := tabs_lst (T2.ext s2) (s2 _ _ (e2 _ _ L1 (fun _ z => nomatch z)))
    have L2 : (upd G2 l (.lst [.bl true, .bl true])) l = some (.lst [.bl true, .bl true]) := upd_same
    refine ⟨_, rfl, .inl ⟨rfl, _, SqL.of L2⟩, U2, fun I3 e3 T3 => ⟨_, rfl, rfl, hs.ext (f2.trans e3), fun H0 E R s0 r => ?_, fun G3 s3 => ⟨l, _, _, rfl, rfl, s3 _ _ (e3 _ _ L2 (fun _ z => nomatch z)), three (Nat.le_of_ble_eq_true rfl), ?_⟩⟩⟩
    · obtain ⟨dx, ex⟩ := cast_ ((f2.trans e3).trans (ExtN.of s0))
      obtain ⟨t, od⟩ := (Odd.ext ho (f2.trans e3)).same s0
      exact ⟨_, rfl, _, rfl, x, dx, _, t, rfl, ex, od, x, v, p, q, rfl, ⟨dx, ex⟩, ⟨t, od⟩, r⟩
    have f3 : ExtN H (upd G3 l (.lst [.bl true, .bl true, .bl true])) := fun b o e n => by
      rw [upd_ne (hl b o e n)]
      exact s3 _ _ (e3 _ _ (f2 _ _ e n) n)
    have U3 : Tabs [(Pt, lamQ)] (upd G3 l (.lst [.bl true, .bl true, .bl true])) := tabs_lst (T3.ext s3) (s3 _ _ (e3 _ _ L2 (fun _ z => nomatch z)))
    have L3 : (upd G3 l (.lst [.bl true, .bl true, .bl true])) l = some (.lst [.bl true, .bl true, .bl true]) := upd_same
    refine ⟨_, rfl, .inl ⟨rfl, _, SqL.of L3⟩, U3, fun I4 e4 T4 => ⟨_, rfl, rfl, hs.ext (f3.trans e4), fun H0 E R s0 r => ?_, fun G4 s4 => ⟨l, _, _, rfl, rfl, s4 _ _ (e4 _ _ L3 (fun _ z => nomatch z)), three (Nat.le_of_ble_eq_true rfl), ?_⟩⟩⟩
    · obtain ⟨dx, ex⟩ := cast_ ((f3.trans e4).trans (ExtN.of s0))
      obtain ⟨t, od⟩ := (Odd.ext ho (f3.trans e4)).same s0
      exact ⟨_, rfl, x, dx, _, rfl, ex, rfl, _, rfl, x, v, p, q, rfl, ⟨dx, ex⟩, ⟨t, od⟩, r⟩
    have f4 : ExtN H (upd G4 l (.lst [.bl true, .bl true, .bl true, .bl true])) := fun b o e n => by
      rw [upd_ne (hl b o e n)]
      exact s4 _ _ (e4 _ _ (f3 _ _ e n) n)
    have U4 : Tabs [(Pt, lamQ)] (upd G4 l (.lst [.bl true, .bl true, .bl true, .bl true])) := tabs_lst (T4.ext s4) (s4 _ _ (e4 _ _ L3 (fun _ z => nomatch z)))
    have L4 : (upd G4 l (.lst [.bl true, .bl true, .bl true, .bl true])) l = some (.lst [.bl true, .bl true, .bl true, .bl true]) := upd_same
    refine ⟨_, rfl, .inl ⟨rfl, _, SqL.of L4⟩, U4, fun I5 e5 T5 => ⟨_, rfl, rfl, hs.ext (f4.trans e5), fun H0 E R s0 r => ?_, fun G5 s5 => ⟨l, _, _, rfl, rfl, s5 _ _ (e5 _ _ L4 (fun _ z => nomatch z)), three (Nat.le_of_ble_eq_true rfl), ?_⟩⟩⟩
    · obtain ⟨dx, ex⟩ := cast_ ((f4.trans e5).trans (ExtN.of s0))
      obtain ⟨t, od⟩ := (Odd.ext ho (f4.trans e5)).same s0
      exact ⟨_, rfl, x, dx, _, rfl, ex, rfl, _, rfl, x, v, p, q, rfl, ⟨dx, ex⟩, ⟨t, od⟩, r⟩
    have f5 : ExtN H (upd G5 l (.lst [.bl true, .bl true, .bl true, .bl true, .bl true])) := fun b o e n => by
      rw [upd_ne (hl b o e n)]
      exact s5 _ _ (e5 _ _ (f4 _ _ e n) n)
    have U5 : Tabs [(Pt, lamQ)] (upd G5 l (.lst [.bl true, .bl true, .bl true, .bl true, .bl true])) := tabs_lst (T5.ext s5) (s5 _ _ (e5 _ _ L4 (fun _ z => nomatch z)))
    have L5 : (upd G5 l (.lst [.bl true, .bl true, .bl true, .bl true, .bl true])) l = some (.lst [.bl true, .bl true, .bl true, .bl true, .bl true]) := upd_same
    refine ⟨_, rfl, .inl ⟨rfl, _, SqL.of L5⟩, U5, fun I6 e6 T6 => ⟨_, rfl, rfl, hs.ext (f5.trans e6), fun H0 E R s0 r => ?_, fun G6 s6 => ⟨l, _, _, rfl, rfl, s6 _ _ (e6 _ _ L5 (fun _ z => nomatch z)), three (Nat.le_of_ble_eq_true rfl), ?_⟩⟩⟩
    · obtain ⟨dx, ex⟩ := cast_ ((f5.trans e6).trans (ExtN.of s0))
      obtain ⟨t, od⟩ := (Odd.ext ho (f5.trans e6)).same s0
      exact ⟨rfl, _, rfl, _, rfl, 1, x, v, p, q, rfl, ⟨dx, ex⟩, ⟨b21, b21, by decide⟩, ⟨bp, bq, q0⟩, ⟨t, od⟩, r⟩
    have f6 : ExtN H (upd G6 l (.lst [.bl true, .bl true, .bl true, .bl true, .bl true, .bl true])) := fun b o e n => by
      rw [upd_ne (hl b o e n)]
      exact s6 _ _ (e6 _ _ (f5 _ _ e n) n)
    have U6 : Tabs [(Pt, lamQ)] (upd G6 l (.lst [.bl true, .bl true, .bl true, .bl true, .bl true, .bl true])) := tabs_lst (T6.ext s6) (s6 _ _ (e6 _ _ L5 (fun _ z => nomatch z)))
    have L6 : (upd G6 l (.lst [.bl true, .bl true, .bl true, .bl true, .bl true, .bl true])) l = some (.lst [.bl true, .bl true, .bl true, .bl true, .bl true, .bl true]) := upd_same
    exact ⟨_, rfl, l, [true, true, true, true, true, true], rfl, SqL.of L6, k _ f6 U6⟩
end
end K10

set_option maxHeartbeats 8000000
set_option exponentiation.threshold 2000
namespace K10
open PySem PySem.Spec PyProof.Rows L2 RtL ErL LamX
section
variable {P : Program} {w : World} {K : Fr} {mg : Str → Option Value} {base : Heap} {f : Addr} {fd : FuncData}
theorem fnOk_or0 {k : Nat} {ps : List Str} {sp1 sp2 : Sp} (F1 : FnOk P w K mg base CX0 k f fd ps sp1) (F2 : FnOk P w K mg base CX0 k f fd ps sp2) : FnOk P w K mg base CX0 k f fd ps (fun vs H Q E => sp1 vs H Q E ∨ sp2 vs H Q E) :=
  ⟨fun vs H Q E h => h.elim (F1.len vs H Q E) (F2.len vs H Q E), fun A outer s H args us vs Q E hr e0 hb r h => h.elim (F1.run A outer s H args us vs Q E hr e0 hb r) (F2.run A outer s H args us vs Q E hr e0 hb r)⟩
/-! ### == with what is no number -/
def spEqO (K : Fr) : Sp := fun vs H Q _ => ∃ a v t b, vs = [.ref a, v] ∧ RatAt K H a t b ∧ Odd K H v ∧ Q (.bl false) H
theorem ok_eqO (F : FunD K "__eq__" "Ratio.__eq__" (defArgs (inR 11)) (defBody (inR 11)) (defScope (inR 11)) [] [] f fd) (T : TT K mg) : FnOk P w K mg base CX0 1 f fd ["self", "other"] (spEqO K) := by
  refine F.ok sc_eq (fun vs H Q E h => ?_) (fun cdv A outer s H vs Q E hr h => ?_)
  · obtain ⟨a, v, t, b, rfl, _⟩ := h
    rfl
  · obtain ⟨a, v, t, b, rfl, ⟨dx, ea⟩, ⟨tt, od⟩, q⟩ := h
    have ty := od.ty (K := K)
    have ht := od.mem
    refine ⟨_, PSs.nox (pss_one (ps_ret (pe_and (pe_callB call_isi (by rfl) T.fre (by decide +kernel) (pa_cons (pv 1) (pa_cons (pe_glob (v := .ref (RC K)) (by rfl) (T.gl "Ratio" (by decide)) rfl) pa_nil)))
      (pe_and (pe_cmpR op_eq (pe_fld (pv 0) rfl) (pe_fld (pv 1) rfl) (nomark _)) (pe_one (pe_cmpR op_eq (pe_fld (pv 0) rfl) (pe_fld (pv 1) rfl) (nomark _))))))), ?_⟩
    exact ⟨_, rfl, _, _, _, _, false, rfl, .own _, ty, odd_ty T ht, false, rfl, iteF q⟩
abbrev spEqA (K : Fr) : Sp := fun vs H Q E => spEq K vs H Q E ∨ spEqO K vs H Q E
/-! ### is_number -/
abbrev sIsnum : Stmt := top 9
theorem scIsnum : FnScope ["value"] ["value"] (defScope sIsnum) := ⟨rfl, rfl, rfl, by decide +kernel, rfl, by decide +kernel, by decide +kernel⟩
def spIsnum (K : Fr) : Sp := fun vs H Q _ => (∃ a t b, vs = [.ref a] ∧ RatAt K H a t b ∧ Q (.bl true) H) ∨ (∃ i, vs = [.int i] ∧ Q (.bl true) H) ∨ ∃ v, vs = [v] ∧ Odd K H v ∧ Q (.bl false) H
abbrev IsintA (P : Program) (w : World) (K : Fr) (mg : Str → Option Value) (base : Heap) : Prop := ∃ f d, Gd P w K mg base 1 "is_an_integer" f d ["value"] (fun vs H Q E => spIsint K vs H Q E ∨ spIsintO K vs H Q E)
theorem ok_isnum (F : FunD K "is_number" "is_number" (defArgs sIsnum) (defBody sIsnum) (defScope sIsnum) [] [] f fd) (T : TT K mg) (D : IsintA P w K mg base) : FnOk P w K mg base CX0 2 f fd ["value"] (spIsnum K) := by
  obtain ⟨fI, dI, GI⟩ := D
  refine F.ok scIsnum (fun vs H Q E h => ?_) (fun cdv A outer s H vs Q E hr h => ?_)
  · rcases h with ⟨a, t, b, rfl, _⟩ | ⟨i, rfl, _⟩ | ⟨v, rfl, _⟩ <;> rfl
  · refine ⟨_, PSs.nox (pss_one (ps_ret (pe_or (pe_gd GI hr (by rfl) (pa_cons (pv 0) pa_nil)) (pe_one (pe_callB call_isi (by rfl) T.fre (by decide +kernel) (pa_cons (pv 0) (pa_cons (pe_glob (v := .ref (RC K)) (by rfl) (T.gl "Ratio" (by decide)) rfl) pa_nil))))))), ?_⟩
    rcases h with ⟨a, t, b, rfl, ra, q⟩ | ⟨i, rfl, q⟩ | ⟨v, rfl, ⟨tt, od⟩, q⟩
    · obtain ⟨dx, ea⟩ := id ra
      exact ⟨_, rfl, .inl ⟨_, rfl, .inr ⟨a, t, b, rfl, ra, false, rfl, iteF ⟨_, rfl, _, _, _, _, true, rfl, .own _, T.ty ea, T.kitR, q⟩⟩⟩⟩
    · exact ⟨_, rfl, .inl ⟨_, rfl, .inl ⟨i, rfl, true, rfl, iteT q⟩⟩⟩
    · exact ⟨_, rfl, .inr ⟨v, rfl, ⟨tt, od⟩, false, rfl, iteF ⟨_, rfl, _, _, _, _, false, rfl, .own _, od.ty (K := K), odd_ty T od.mem, q⟩⟩⟩
abbrev IsnumG (P : Program) (w : World) (K : Fr) (mg : Str → Option Value) (base : Heap) : Prop := ∃ f d, Gd P w K mg base 2 "is_number" f d ["value"] (spIsnum K)
end
end K10

set_option maxHeartbeats 16000000
set_option exponentiation.threshold 2000
namespace K10
open PySem PySem.Spec PyProof.Rows L2 RtL ErL LamX
section
variable {P : Program} {w : World} {K : Fr} {mg : Str → Option Value} {base : Heap} {f : Addr} {fd : FuncData}
theorem rrep_len {p q : Int} (bp : Bd 200 p) (bq : Bd 200 q) : (rrep p q).length ≤ 1411 := by
  have lp : (T_ p).length ≤ 701 := (shown_int (bd_up bp (by decide))).2
  have lq : (T_ q).length ≤ 701 := (shown_int (bd_up bq (by decide))).2
  have l2 : ("Ratio(" : Str).length = 6 := rfl
  have l3 : (", " : Str).length = 2 := rfl
  have l4 : (")" : Str).length = 1 := rfl
  show ("Ratio(" ++ T_ p ++ ", " ++ T_ q ++ ")" : Str).length ≤ _
  rw [strLen_append, strLen_append, strLen_append, strLen_append]
  omega
theorem ok_b3 (A B C : Bool) : Ok (.list [.bool A, .bool B, .bool C]) := by
  cases A <;> cases B <;> cases C <;> exact ⟨rfl, Nat.le_of_ble_eq_true rfl, Nat.le_of_ble_eq_true rfl⟩
abbrev OpRG (P : Program) (w : World) (K : Fr) (mg : Str → Option Value) (base : Heap) (Pt : Addr) : Prop := ∃ f d, GdG P w K mg base 10 "_law_operand_refused" f d ["_law_one", "_law_odd"] (spOpR K Pt)
abbrev sRight : Stmt := top 28
abbrev NN : List Str := ["_law_pot_here", "_law_a", "_law_b", "_law_c", "_law_d", "_law_number", "_law_one", "_law_two", "_law_kept", "_law_alike", "_law_others", "_law_odd", "_law_told", "_law_thing"]
theorem scRight : FnScope NN ["_law_pot_here"] (defScope sRight) := ⟨rfl, rfl, rfl, by decide +kernel, rfl, by decide +kernel, by decide +kernel⟩
def ExtP (p : Addr) (H H' : Hp) : Prop := ∀ b o, H b = some o → b ≠ p → (∀ ps, o ≠ .tbl ps) → H' b = some o
def spRight (Pt : Addr) : SpG := fun vs H Q => ∃ p : Addr, vs = [.ref p] ∧ PotAt H p ∧ Tabs [(Pt, lamQ)] H ∧ ∀ H', ExtP p H H' → Tabs [(Pt, lamQ)] H' → Q (.bl true) H'
theorem tabs_but {T : List (Addr × Str)} {H H' : Hp} {p : Addr} (t : Tabs T H) (hp : PotAt H p) (b : But p H H') : Tabs T H' := by
  intro pr hpr
  obtain ⟨ps, e, tr, c⟩ := t pr hpr
  obtain ⟨_, _, ep, _⟩ := hp
  refine ⟨ps, b _ _ e (fun z => by rw [z, ep] at e; cases e), tr, fun pos cv hc => ?_⟩
  obtain ⟨c1, e1, e2⟩ := c pos cv hc
  exact ⟨c1, e1, b _ _ e2 (fun z => by rw [z, ep] at e2; cases e2)⟩
theorem ok_right {Pt : Addr} (F : FunD K "_law_right" "_law_right" (defArgs sRight) (defBody sRight) (defScope sRight) [] [] f fd) (T : TT K mg) (PA : PartsG P w K mg base) (PI : PickG P w K mg base) (IN' : IntG P w K mg base) (S : SameG P w K mg base) (SE : SecG P w K mg base) (TX : TxG P w K mg base) (TR : TotRG P w K mg base) (OP : OpRG P w K mg base Pt) (NU : IsnumG P w K mg base)
    (G : Gt P w K mg base) {dI : FuncData} (I : Id P w K mg base dI) (EQ : ∃ d, FnOk P w K mg base CX0 1 (rm K "__eq__") d ["self", "other"] (spEqA K) ∧ Binds K d ["self", "other"] []) (NG : ∃ d, Md P w K mg base 4 (rm K "__neg__") d ["self"] (spNeg K)) : FnG P w K mg base 11 f fd ["_law_pot_here"] (spRight Pt) := by
  obtain ⟨fPa, dPa, GPa⟩ := PA
  obtain ⟨fPi, dPi, GPi⟩ := PI
  obtain ⟨fIn, dIn, GIn⟩ := IN'
  obtain ⟨fS, dS, GS⟩ := S
  obtain ⟨fSe, dSe, GSe⟩ := SE
  obtain ⟨fTx, dTx, GTx⟩ := TX
  obtain ⟨fTr, dTr, GTr⟩ := TR
  obtain ⟨fOp, dOp, GOp⟩ := OP
  obtain ⟨fNu, dNu, GNu⟩ := NU
  obtain ⟨⟨dT, MT⟩, ⟨dB, MB⟩, _, ⟨dSt, MSt⟩, ⟨dRp, MRp⟩⟩ := G
  obtain ⟨dE, GE, bE⟩ := EQ
  obtain ⟨dN, MN⟩ := NG
  have NE : NeOf K (RC K) (rm K "__eq__") := ⟨T.ne.1, T.ne.2⟩
  have S1 := (T.spc "__repr__" (by decide)).1
  have S2 := (T.spc "__repr__" (by decide)).2
  refine fnG_D F scRight (fun vs H Q h => ?_) (fun cdv A outer s H vs Q hr hG h => ?_)
  · obtain ⟨p, rfl, _⟩ := h
    rfl
  · obtain ⟨p, rfl, hp, hT, q⟩ := h
    have hu : (A.deeper (envOfC "_law_right" (defScope sRight) s.heap.objs.size f cdv)).units + 70 < cLine := by have := hr.un; omega
    refine ⟨_, PSs.nox (pss_cons (ps_asg (pe_gd GPa (hr.mono (by decide)) (by rfl) (pa_cons (pv 0) pa_nil)) (pg_tup (by rfl) (pgs_cons (pg_name (i := 1) scRight.nd rfl (.inl rfl)) (pgs_cons (pg_name (i := 2) scRight.nd rfl (.inl rfl)) pgs_nil))))
      (pss_cons (ps_asg (pe_gd GPi (hr.mono (by decide)) (by rfl) (pa_cons (pv 0) (pa_cons (pe_lst (pa_cons (pe_gd GPa (hr.mono (by decide)) (by rfl) (pa_cons (pv 0) pa_nil)) (pa_cons (pe_tup (pa_cons (pv 1) (pa_cons (pv 2) pa_nil))) (pa_cons (pe_tup (pa_cons (pe_un un_neg (pv 1)) (pa_cons (pv 2) pa_nil))) (pa_cons (pe_tup (pa_cons (pe_op op_add (pv 1) pe_int) (pa_cons (pv 2) pa_nil))) (pa_cons (pe_tup (pa_cons pe_int (pa_cons pe_int pa_nil))) pa_nil)))))) pa_nil)))
          (pg_tup (by rfl) (pgs_cons (pg_name (i := 3) scRight.nd rfl (.inl rfl)) (pgs_cons (pg_name (i := 4) scRight.nd rfl (.inl rfl)) pgs_nil))))
      (pss_cons (ps_set (i := 5) scRight.nd rfl (Or.inl rfl) (pe_gd GIn (hr.mono (by decide)) (by rfl) (pa_cons (pv 0) pa_nil)))
      (Evl.pss_cut (ps_asg (pe_tup (pa_cons (pe_rat2 T I (hr.mono (by decide)) (by rfl) (pa_cons (pv 1) (pa_cons (pv 2) pa_nil))) (pa_cons (pe_rat2 T I (hr.mono (by decide)) (by rfl) (pa_cons (pv 3) (pa_cons (pv 4) pa_nil))) pa_nil))) (pg_tup (by rfl) (pgs_cons (pg_name (i := 6) scRight.nd rfl (.inr rfl)) (pgs_cons (pg_name (i := 7) scRight.nd rfl (.inl rfl)) pgs_nil))))
      (pss_cons (ps_set (i := 8) scRight.nd rfl (Or.inl rfl) (pe_callB (call_reprL S1 S2 MRp.ok MRp.bd (hr.mono (by decide)) hG) (by rfl) T.fre (by decide +kernel) (pa_cons (pe_lst (pa_cons (pv 6) (pa_cons (pv 7) pa_nil))) pa_nil)))
      (Evl.pss_cut (ps_if (PW.pt (pw_or (pt_not (pt_val (pe_gg GS (hr.mono (by decide)) hG (by rfl) (pa_cons (pv 6) (pa_cons (pv 1) (pa_cons (pv 2) pa_nil))))))
          (pw_or (pt_not (pt_val (pe_gg GS (hr.mono (by decide)) hG (by rfl) (pa_cons (pe_un (un_own (T.spc "__neg__" (by decide)).1 (T.spc "__neg__" (by decide)).2 MN.ok (hr.mono (by decide)) MN.bd pass0) (pv 6)) (pa_cons (pe_un un_neg (pv 1)) (pa_cons (pv 2) pa_nil))))))
          (pw_or1 (pt_not (pt_val (pe_gg GS (hr.mono (by decide)) hG (by rfl) (pa_cons (pe_rat1 T I (hr.mono (by decide)) (by rfl) (pa_cons (pv 5) pa_nil)) (pa_cons (pv 5) (pa_cons pe_int pa_nil)))))))))) (pss_one (ps_ret pe_bl)) pss_nil)
      (Evl.pss_cut (ps_if (PW.pt (pw_or (pt_not (pt_val (pe_gg GSe (hr.mono (by decide)) hG (by rfl) (pa_cons (pv 6) (pa_cons (pv 1) (pa_cons (pv 2) (pa_cons (pv 7) (pa_cons (pv 3) (pa_cons (pv 4) pa_nil)))))))))
          (pw_or1 (pt_not (pt_val (pe_gg GSe (hr.mono (by decide)) hG (by rfl) (pa_cons (pv 6) (pa_cons (pv 1) (pa_cons (pv 2) (pa_cons (pv 5) (pa_cons (pv 5) (pa_cons pe_int pa_nil)))))))))))) (pss_one (ps_ret pe_bl)) pss_nil)
      (Evl.pss_cut (ps_if (PW.pt (pw_or (pt_not (pt_val (pe_gd GTx (hr.mono (by decide)) (by rfl) (pa_cons (pv 6) (pa_cons (pv 1) (pa_cons (pv 2) pa_nil))))))
          (pw_or1 (pt_not (pt_val (pe_gg GTr (hr.mono (by decide)) hG (by rfl) (pa_cons (pv 6) (pa_cons (pv 7) (pa_cons (pv 1) (pa_cons (pv 2) (pa_cons (pv 3) (pa_cons (pv 4) (pa_cons (pv 5) pa_nil))))))))))))) (pss_one (ps_ret pe_bl)) pss_nil)
      (pss_cons (ps_set (i := 9) scRight.nd rfl (Or.inl rfl) (pe_cmpR op_eq (pe_op op_mulW (pv 1) (pv 4)) (pe_op op_mulW (pv 3) (pv 2)) (nomark _)))
      (Evl.pss_cut (ps_if (pt_cmpR op_ne (pe_callB (call_reprD hu hG T.sys) (by rfl) T.fre (by decide +kernel) (pa_cons (pe_lst (pa_cons (pe_cmpR (op_ownEq T.eq GE (hr.mono (by decide)) bE pass0) (pv 6) (pv 7) (nomark _)) (pa_cons (pe_cmpR (op_ownNe T.eq NE GE (hr.mono (by decide)) bE pass0) (pv 6) (pv 7) (nomark _))
            (pa_cons (pe_cmpR (op_ownEq T.eq GE (hr.mono (by decide)) bE pass0) (pv 6) (pe_rat2 T I (hr.mono (by decide)) (by rfl) (pa_cons (pe_op op_mulW pe_int (pv 1)) (pa_cons (pe_op op_mulW pe_int (pv 2)) pa_nil))) (nomark _)) pa_nil)))) pa_nil))
          (pe_callB (call_reprD hu hG T.sys) (by rfl) T.fre (by decide +kernel) (pa_cons (pe_lst (pa_cons (pv 9) (pa_cons (pe_not (pv 9)) (pa_cons pe_bl pa_nil)))) pa_nil)) (nomark _)) (pss_one (ps_ret pe_bl)) pss_nil)
      (pss_cons (ps_set (i := 10) scRight.nd rfl (Or.inl rfl) (pe_lst (pa_cons pe_non (pa_cons (pv 5) (pa_cons (pe_op op_fdivX (pv 1) (pv 2)) (pa_cons (pe_callTy (call_strOwn (T.spc "__str__" (by decide)).1 (T.spc "__str__" (by decide)).2 MSt.ok (hr.mono (by decide)) MSt.bd) (by rfl) T.fre (by decide +kernel) (pa_cons (pv 6) pa_nil))
          (pa_cons (pe_lst (pa_cons (pv 6) pa_nil)) (pa_cons (pe_tup (pa_cons (pe_prop (pv 6) T.cl (T.prop "top" (by decide)) MT.ok (hr.mono (by decide)) MT.bd .nil pass0 rfl) (pa_cons (pe_prop (pv 6) T.cl (T.prop "bottom" (by decide)) MB.ok (hr.mono (by decide)) MB.bd .nil pass0 rfl) pa_nil))) (pa_cons pe_bl pa_nil)))))))))
      (Evl.pss_cut (ps_if (pt_val (pe_callB (cr_any (by rfl)) (by rfl) T.fre (by decide +kernel) (pa_cons (pe_lc (own := [("_law_thing", 13)]) (g := gName 13) (tt := tYes) (by rfl) scRight.nd (pi_list (pv 10)) (blkOk_by (N := NN) (sc := defScope sRight) (by decide +kernel)) (fun _ _ _ _ _ => pg_name (i := 13) scRight.nd rfl (Or.inl rfl)) (fun _ _ _ _ _ => pts_nil)
          (fun _ _ _ _ _ => pe_cmpR (op_eqAll T.eq (odd_sub T) GE (hr.mono (by decide)) bE pass0) (pv 6) (pv 13) (nomark _))) pa_nil))) (pss_one (ps_ret pe_bl)) pss_nil)
      (pss_cons (ps_set (i := 11) scRight.nd rfl (Or.inl rfl) (pe_gd GPi (hr.mono (by decide)) (by rfl) (pa_cons (pv 0) (pa_cons (pe_lst (pa_cons pe_non (pa_cons pe_bl (pa_cons pe_bl (pa_cons pe_str (pa_cons pe_str (pa_cons (pe_lst pa_nil) (pa_cons (pe_tup (pa_cons pe_int (pa_cons pe_int pa_nil))) (pa_cons pe_dnewK (pa_cons (pe_lst (pa_cons (pv 6) pa_nil)) pa_nil)))))))))) pa_nil))))
      (pss_cons (ps_set (i := 12) scRight.nd rfl (Or.inl rfl) (pe_lst (pa_cons (pe_gd GNu (hr.mono (by decide)) (by rfl) (pa_cons (pv 6) pa_nil)) (pa_cons (pe_gd GNu (hr.mono (by decide)) (by rfl) (pa_cons (pv 5) pa_nil)) (pa_cons (pe_gd GNu (hr.mono (by decide)) (by rfl) (pa_cons (pv 11) pa_nil)) (pa_cons (pe_gd GNu (hr.mono (by decide)) (by rfl) (pa_cons pe_non pa_nil)) (pa_cons (pe_gd GNu (hr.mono (by decide)) (by rfl) (pa_cons pe_bl pa_nil)) pa_nil)))))))
      (Evl.pss_cut (ps_if (PW.pt (pw_or (pt_cmpR op_ne (pe_callB (call_reprD hu hG T.sys) (by rfl) T.fre (by decide +kernel) (pa_cons (pv 12) pa_nil)) (pe_callB (call_reprD hu hG T.sys) (by rfl) T.fre (by decide +kernel) (pa_cons (pe_lst (pa_cons pe_bl (pa_cons pe_bl (pa_cons pe_bl (pa_cons pe_bl (pa_cons pe_bl pa_nil)))))) pa_nil)) (nomark _))
          (pw_or1 (pt_not (pt_val (pe_gg GOp hr hG (by rfl) (pa_cons (pv 6) (pa_cons (pv 11) pa_nil)))))))) (pss_one (ps_ret pe_bl)) pss_nil)
      (pss_one (ps_ret (pe_cmpR op_eq (pe_callB (call_reprL S1 S2 MRp.ok MRp.bd (hr.mono (by decide)) hG) (by rfl) T.fre (by decide +kernel) (pa_cons (pe_lst (pa_cons (pv 6) (pa_cons (pv 7) pa_nil))) pa_nil)) (pv 8) (nomark _))))))))))))))))))), ?_⟩
    have five : ∀ {n : Nat}, n ≤ 9 → n ≤ sizeLine := fun h => by rw [sizeLine_eq]; omega
    refine ⟨_, rfl, p, rfl, hp, fun t1 a b H1 nb ba bb hp1 b1 e1 => ⟨_, _, rfl, SqT.of e1, rfl, _, _, rfl, _, _, rfl, rfl, ?_⟩⟩
    refine ⟨_, rfl, _, rfl, p, rfl, hp1, fun t2 a2 c2 H2 nb2 ba2 bb2 hp2 b2 e2 => ?_⟩
    refine ⟨_, rfl, _, rfl, five (Nat.le_of_ble_eq_true rfl), fun t3 n3 => ⟨_, rfl, _, rfl, _, rfl, five (Nat.le_of_ble_eq_true rfl), fun t4 n4 => ?_⟩⟩
    refine ⟨_, rfl, _, _, rfl, rfl, _, rfl, five (Nat.le_of_ble_eq_true rfl), fun t5 n5 => ⟨five (Nat.le_of_ble_eq_true rfl), fun t6 n6 => ⟨five (Nat.le_of_ble_eq_true rfl), fun l nl => ?_⟩⟩⟩
    have pne : ∀ {H' : Hp} {l : Addr}, PotAt H' p → H' l = none → l ≠ p := fun h n z => by
      obtain ⟨_, _, e, _⟩ := h
      rw [← z, n] at e
      cases e
    have m3 := same_new (o := .tup [.int a, .int b]) n3
    have m4 := same_new (o := .tup [.int (-a), .int b]) n4
    have m5 := same_new (o := .tup [.int (a + 1), .int b]) n5
    have m6 := same_new (o := .tup [.int 0, .int 1]) n6
    have ml := same_new (o := .lst [.ref t2, .ref t3, .ref t4, .ref t5, .ref t6]) nl
    have hpl := ((((hp2.same m3).same m4).same m5).same m6)
    refine ⟨p, l, _, rfl, hpl.same ml, upd_same, pne hpl nl, Nat.le_of_ble_eq_true rfl, Nat.le_of_ble_eq_true rfl, fun i v H3 hv hp3 b3 => ?_⟩
    have B3 : But p H H3 := ((b1.trans b2).trans (But.of ((((m3.trans m4).trans m5).trans m6).trans ml))).trans b3
    obtain ⟨c, d, t, rfl, et, nd, bc, bd⟩ : ∃ (c d : Int) (t : Addr), v = .ref t ∧ H3 t = some (.tup [.int c, .int d]) ∧ d ≠ 0 ∧ Bd 191 c ∧ Bd 191 d := by
      have tne : ∀ {H' : Hp} {t : Addr} {xs : List V}, PotAt H' p → H' t = some (.tup xs) → t ≠ p := fun h e z => by
        obtain ⟨_, _, e', _⟩ := h
        rw [← z, e] at e'
        cases e'
      have go : ∀ {t : Addr} {xs : List V}, (upd (upd (upd (upd (upd H2 t3 (.tup [.int a, .int b])) t4 (.tup [.int (-a), .int b])) t5 (.tup [.int (a + 1), .int b])) t6 (.tup [.int 0, .int 1])) l (.lst [.ref t2, .ref t3, .ref t4, .ref t5, .ref t6])) t = some (.tup xs) → H3 t = some (.tup xs) := fun h => b3 _ _ h (tne (hpl.same ml) h)
      match i, hv with
      | 0, hv => exact ⟨a2, c2, t2, (Option.some.inj hv).symm, go (ml _ _ (m6 _ _ (m5 _ _ (m4 _ _ (m3 _ _ e2))))), nb2, bd_up ba2 (by decide), bd_up bb2 (by decide)⟩
      | 1, hv => exact ⟨a, b, t3, (Option.some.inj hv).symm, go (ml _ _ (m6 _ _ (m5 _ _ (m4 _ _ upd_same)))), nb, bd_up ba (by decide), bd_up bb (by decide)⟩
      | 2, hv => exact ⟨-a, b, t4, (Option.some.inj hv).symm, go (ml _ _ (m6 _ _ (m5 _ _ upd_same))), nb, bd_up (bd_neg ba) (by decide), bd_up bb (by decide)⟩
      | 3, hv => exact ⟨a + 1, b, t5, (Option.some.inj hv).symm, go (ml _ _ (m6 _ _ upd_same)), nb, bd_add ba (bd_up (n := 1) (by decide) (by decide)), bd_up bb (by decide)⟩
      | 4, hv => exact ⟨0, 1, t6, (Option.some.inj hv).symm, go (ml _ _ upd_same), by decide, bd_up (n := 1) (by decide) (by decide), bd_up (n := 1) (by decide) (by decide)⟩
      | _ + 5, hv => cases hv
    have ba1 : Bd 191 a := bd_up ba (by decide)
    have bb1 : Bd 191 b := bd_up bb (by decide)
    refine ⟨_, _, rfl, SqT.of et, rfl, _, _, rfl, _, _, rfl, rfl, ?_⟩
    refine ⟨_, rfl, p, rfl, hp3, fun n H4 bn hp4 b4 => ?_⟩
    have B4 := B3.trans b4
    have bn1 : Bd 191 n := bd_up bn (by decide)
    refine ⟨fun σ' H' => ∃ x y, σ' = [some (.ref p), some (.int a), some (.int b), some (.int c), some (.int d), some (.int n), some (.ref x), some (.ref y), none, none, none, none, none, none] ∧ Same H4 H' ∧ RatAt K H' x (lowT a b) (lowB a b) ∧ RatAt K H' y (lowT c d) (lowB c d), ?_, ?_⟩
    · refine ⟨_, rfl, _, rfl, fun x dx nx nd' ne => made_at nx nd' ne nb (bd_up ba1 (by decide)) (bd_up bb1 (by decide)) fun H5 s5 rx => ⟨rfl, ?_⟩⟩
      refine ⟨_, rfl, _, rfl, fun y dy ny nd2 ne2 => made_at ny nd2 ne2 nd (bd_up bc (by decide)) (bd_up bd (by decide)) fun H6 s6 ry => ⟨rfl, ?_⟩⟩
      refine ⟨five (Nat.le_of_ble_eq_true rfl), fun tt nt => ⟨_, _, rfl, SqT.of upd_same, rfl, _, _, rfl, _, _, rfl, rfl, x, y, rfl, ?_, ?_, ?_⟩⟩
      · exact (s5.trans s6).trans (same_new nt)
      · exact (rx.same s6).same (same_new nt)
      · exact ry.same (same_new nt)
    rintro σ' H5 ⟨x, y, rfl, s5, rx, ry⟩
    have lo1 : Low (lowT a b) (lowB a b) := low_low nb
    have lo2 : Low (lowT c d) (lowB c d) := low_low nd
    have cr1 : lowT a b * b = a * lowB a b := cross_low nb rfl
    have cr2 : lowT c d * d = c * lowB c d := cross_low nd rfl
    have bp1 : Bd 200 (lowT a b) := bd_up (lowT_bd nb ba1) (by decide)
    have bq1 : Bd 200 (lowB a b) := bd_up (lowB_bd nb bb1) (by decide)
    have bp2 : Bd 200 (lowT c d) := bd_up (lowT_bd nd bc) (by decide)
    have bq2 : Bd 200 (lowB c d) := bd_up (lowB_bd nd bd) (by decide)
    have uq1 : ∀ {t b' : Int}, b' ≠ 0 → lowT a b * b' = t * lowB a b → lowT t b' = lowT a b ∧ lowB t b' = lowB a b := fun h e => low_uniq lo1 h e
    have uq2 : (lowT a b = lowT c d ∧ lowB a b = lowB c d) ↔ a * d = c * b := by
      constructor
      · rintro ⟨e1, e2⟩
        rw [e1, e2] at cr1
        have z : lowB c d ≠ 0 := by have := lo2.1; omega
        refine Int.eq_of_mul_eq_mul_left z ?_
        generalize lowT c d = P2 at *
        generalize lowB c d = Q2 at *
        grind
      · intro e
        refine low_uniq lo2 nb ?_
        refine Int.eq_of_mul_eq_mul_left nd ?_
        generalize lowT c d = P2 at *
        generalize lowB c d = Q2 at *
        grind
    generalize lowT a b = p1 at *
    generalize lowB a b = q1 at *
    generalize lowT c d = p2 at *
    generalize lowB c d = q2 at *
    have q10 : q1 ≠ 0 := by have := lo1.1; omega
    have q20 : q2 ≠ 0 := by have := lo2.1; omega
    have b10 : ∀ {n : Nat} {i : Int}, Bd n i → n ≤ 1000 → Bd 1000 i := fun h l => bd_up h l
    have b70 : ∀ {n : Nat} {i : Int}, Bd n i → n ≤ 700 → Bd 700 i := fun h l => bd_up h l
    have one0 : (1 : Int) ≠ 0 := by decide
    have bI1 : Bd 191 1 := bd_up (n := 1) (by decide) (by decide)
    have items : ∀ {H' : Hp}, RatAt K H' x p1 q1 → RatAt K H' y p2 q2 → ∀ (i : Nat) (v : V), ([.ref x, .ref y] : List V)[i]? = some v → ∃ t, [rrep p1 q1, rrep p2 q2][i]? = some t ∧ ItT (RC K) (spTxt K rrep) H' v t := by
      intro H' r1 r2 i v hi
      match i, hi with
      | 0, hi =>
        cases Option.some.inj hi
        obtain ⟨dx, ex⟩ := id r1
        exact ⟨_, rfl, .inr ⟨x, dx, _, rfl, ex, fun Q hq => ⟨x, p1, q1, rfl, r1, b10 bp1 (by decide), b10 bq1 (by decide), hq⟩⟩⟩
      | 1, hi =>
        cases Option.some.inj hi
        obtain ⟨dx, ex⟩ := id r2
        exact ⟨_, rfl, .inr ⟨y, dx, _, rfl, ex, fun Q hq => ⟨y, p2, q2, rfl, r2, b10 bp2 (by decide), b10 bq2 (by decide), hq⟩⟩⟩
      | _ + 2, hi => cases hi
    have hsz : (listText [rrep p1 q1, rrep p2 q2]).length ≤ sizeLine := by
      have lr := rrep_len bp1 bq1
      have lr' := rrep_len bp2 bq2
      have a1 := listText_len_le [rrep p1 q1, rrep p2 q2]
      simp only [List.map_cons, List.map_nil, List.sum_cons, List.sum_nil, List.length_cons, List.length_nil] at a1
      rw [sizeLine_eq]
      omega
    refine ⟨_, rfl, _, rfl, five (Nat.le_of_ble_eq_true rfl), fun l1 n1 => ⟨l1, [.ref x, .ref y], _, rfl, upd_same, (fun z => nomatch z), rfl, items (rx.same (same_new n1)) (ry.same (same_new n1)), hsz, ?_⟩⟩
    have s6 := same_new (o := .lst [.ref x, .ref y]) n1
    have rx6 := rx.same s6
    have ry6 := ry.same s6
    have C6 : But p H (upd H5 l1 (.lst [.ref x, .ref y])) := (B4.trans (But.of s5)).trans (But.of s6)
    have hp6 : PotAt (upd H5 l1 (.lst [.ref x, .ref y])) p := (hp4.same s5).same s6
    clear rx ry n1 s6 s5
    generalize upd H5 l1 (.lst [.ref x, .ref y]) = H6 at *
    have one1 : Bd 1000 (1 : Int) := bd_up (n := 1) (by decide) (by decide)
    have cm1 : ∀ {i j : Int}, Bd 191 i → Bd 191 j → CMulW i j := fun h h' => cm (b10 h (by decide)) (b10 h' (by decide))
    refine ⟨fun σ' H' => Same H6 H' ∧ σ' = [some (.ref p), some (.int a), some (.int b), some (.int c), some (.int d), some (.int n), some (.ref x), some (.ref y), some (.str (listText [rrep p1 q1, rrep p2 q2])), none, none, none, none, none], ?_, ?_⟩
    · obtain ⟨dx, ex⟩ := id rx6
      refine ⟨_, rfl, _, rfl, _, rfl, x, a, b, p1, q1, rfl, rx6, lo1, cr1, nb, b70 ba1 (by decide), b70 bb1 (by decide), fun H7 s7 => ⟨true, rfl, iteF ?_⟩⟩
      have rx7 := rx6.same s7
      obtain ⟨dx7, ex7⟩ := id rx7
      refine ⟨_, rfl, x, dx7, _, rfl, ex7, x, p1, q1, rfl, rx7, b10 bp1 (by decide), b10 bq1 (by decide), q10, fun x8 H8 s8 r8 => ?_⟩
      refine ⟨_, rfl, _, rfl, _, rfl, x8, -a, b, _, _, rfl, r8, low_low q10, cross_low q10 (by grind), nb, b70 (bd_neg ba1) (by decide), b70 bb1 (by decide), fun H9 s9 => ⟨true, rfl, iteF ?_⟩⟩
      refine ⟨_, rfl, fun u du nu ndu neu => made_at nu ndu neu one0 (bd_up bn1 (by decide)) (bd_up (n := 1) (by decide) (by decide)) fun Ha sa ra => ⟨rfl, ?_⟩⟩
      exact ⟨_, rfl, u, n, 1, _, _, rfl, ra, low_low one0, cross_low one0 rfl, one0, b70 bn1 (by decide), b70 bI1 (by decide), fun Hb sb => ⟨true, rfl, iteF ⟨(((s7.trans s8).trans s9).trans sa).trans sb, rfl⟩⟩⟩
    rintro σ' H7 ⟨s7, rfl⟩
    refine ⟨fun σ' H' => Same H6 H' ∧ σ' = [some (.ref p), some (.int a), some (.int b), some (.int c), some (.int d), some (.int n), some (.ref x), some (.ref y), some (.str (listText [rrep p1 q1, rrep p2 q2])), none, none, none, none, none], ?_, ?_⟩
    · have RX : ∀ {H' : Hp}, Same H6 H' → Rt K H' x a b := fun s => ⟨p1, q1, rx6.same s, lo1, cr1, bp1, bq1⟩
      have RY : ∀ {H' : Hp}, Same H6 H' → Rt K H' y c d := fun s => ⟨p2, q2, ry6.same s, lo2, cr2, bp2, bq2⟩
      refine ⟨_, rfl, _, rfl, _, rfl, _, rfl, _, rfl, _, rfl, x, .ref y, a, b, c, d, rfl, RX s7, (RY s7).nr, nb, nd, ba1, bb1, bc, bd, fun H8 s8 => ⟨true, rfl, iteF ?_⟩⟩
      exact ⟨_, rfl, _, rfl, _, rfl, _, rfl, _, rfl, x, .int n, a, b, n, 1, rfl, RX (s7.trans s8), nr_int (bd_up bn1 (by decide)), nb, one0, ba1, bb1, bn1, bI1, fun H9 s9 => ⟨true, rfl, iteF ⟨(s7.trans s8).trans s9, rfl⟩⟩⟩
    rintro σ' H8 ⟨s8, rfl⟩
    refine ⟨fun σ' H' => Same H6 H' ∧ σ' = [some (.ref p), some (.int a), some (.int b), some (.int c), some (.int d), some (.int n), some (.ref x), some (.ref y), some (.str (listText [rrep p1 q1, rrep p2 q2])), none, none, none, none, none], ?_, ?_⟩
    · have RX : ∀ {H' : Hp}, Same H6 H' → Rt K H' x a b := fun s => ⟨p1, q1, rx6.same s, lo1, cr1, bp1, bq1⟩
      have RY : ∀ {H' : Hp}, Same H6 H' → Rt K H' y c d := fun s => ⟨p2, q2, ry6.same s, lo2, cr2, bp2, bq2⟩
      refine ⟨_, rfl, _, rfl, _, rfl, x, a, b, p1, q1, rfl, rx6.same s8, lo1, cr1, nb, b70 ba1 (by decide), b70 bb1 (by decide), fun H9 s9 => ⟨true, rfl, iteF ?_⟩⟩
      exact ⟨_, rfl, _, rfl, _, rfl, _, rfl, _, rfl, _, rfl, _, rfl, x, y, a, b, c, d, n, rfl, RX (s8.trans s9), RY (s8.trans s9), nb, nd, ba1, bb1, bc, bd, bn1, fun Ha sa => ⟨true, rfl, iteF ⟨(s8.trans s9).trans sa, rfl⟩⟩⟩
    rintro σ' H9 ⟨s9, rfl⟩
    refine ⟨_, rfl, _, rfl, a, d, rfl, rfl, cm1 ba1 bd, _, rfl, _, rfl, c, b, rfl, rfl, cm1 bc bb1, rfl, ?_⟩
    refine ⟨fun σ' H' => Same H6 H' ∧ σ' = [some (.ref p), some (.int a), some (.int b), some (.int c), some (.int d), some (.int n), some (.ref x), some (.ref y), some (.str (listText [rrep p1 q1, rrep p2 q2])), some (.bl (decide (V.int (a * d) = V.int (c * b)))), none, none, none, none], ?_, ?_⟩
    · have rx9 := rx6.same s9
      have ry9 := ry6.same s9
      obtain ⟨dx, ex⟩ := id rx9
      obtain ⟨dy, ey⟩ := id ry9
      have eqA : (decide (p1 = p2) && decide (q1 = q2)) = decide (V.int (a * d) = V.int (c * b)) := by
        rw [← Bool.decide_and]
        exact decide_eq_decide.mpr (uq2.trans ⟨fun h => by rw [h], fun h => by injection h⟩)
      have b3 : Bd 191 3 := bd_up (n := 2) (by decide) (by decide)
      have h3b : 3 * b ≠ 0 := Int.mul_ne_zero (by decide) nb
      have u3 := uq1 h3b (show p1 * (3 * b) = 3 * a * q1 by grind)
      refine ⟨_, rfl, _, rfl, x, dx, _, rfl, ex, .inl ⟨y, dy, _, rfl, ey⟩, .inl ⟨x, .ref y, p1, q1, rfl, rx9, .inl ⟨y, p2, q2, rfl, ry9, ?_⟩⟩⟩
      refine ⟨_, rfl, _, rfl, x, dx, _, rfl, ex, .inl ⟨y, dy, _, rfl, ey⟩, .inl ⟨x, .ref y, p1, q1, rfl, rx9, .inl ⟨y, p2, q2, rfl, ry9, _, rfl, ?_⟩⟩⟩
      refine ⟨_, rfl, _, rfl, 3, a, rfl, rfl, cm1 b3 ba1, _, rfl, 3, b, rfl, rfl, cm1 b3 bb1, fun u du nu ndu neu => made_at nu ndu neu h3b (bd_up (bd_mul b3 ba1) (by decide)) (bd_up (bd_mul b3 bb1) (by decide)) fun Ha sa ra => ⟨rfl, ?_⟩⟩
      rw [u3.1, u3.2] at ra
      obtain ⟨dxa, exa⟩ := rx9.same sa
      obtain ⟨du', eu⟩ := id ra
      refine ⟨x, dxa, _, rfl, exa, .inl ⟨u, du', _, rfl, eu⟩, .inl ⟨x, .ref u, p1, q1, rfl, ⟨dxa, exa⟩, .inl ⟨u, p1, q1, rfl, ra, ?_⟩⟩⟩
      refine ⟨five (Nat.le_of_ble_eq_true rfl), fun l2 n2 => ⟨l2, .list [.bool (decide (p1 = p2) && decide (q1 = q2)), .bool (!(decide (p1 = p2) && decide (q1 = q2))), .bool (decide (p1 = p1) && decide (q1 = q1))], rfl, .lst upd_same (.cons (.bl _) (.cons (.bl _) (.cons (.bl _) .nil))), ok_b3 _ _ _, ?_⟩⟩
      refine ⟨_, rfl, _, rfl, _, rfl, five (Nat.le_of_ble_eq_true rfl), fun l3 n3 => ⟨l3, .list [.bool (decide (V.int (a * d) = V.int (c * b))), .bool (!decide (V.int (a * d) = V.int (c * b))), .bool true], rfl, .lst upd_same (.cons (.bl _) (.cons (.bl _) (.cons (.bl _) .nil))), ok_b3 _ _ _, rfl, _, rfl, ite2 (fun h => ?_) (fun _ => ⟨((s9.trans sa).trans (same_new n2)).trans (same_new n3), rfl⟩)⟩⟩
      have e3 : (decide (p1 = p1) && decide (q1 = q1)) = true := by simp
      rw [eqA, e3] at h
      simp at h
    rintro σ' Ha ⟨sa, rfl⟩
    have rxa := rx6.same sa
    obtain ⟨dxa, exa⟩ := id rxa
    refine ⟨_, rfl, _, rfl, _, rfl, a, b, rfl, rfl, ⟨nb, bd_log bb1 (by decide)⟩, _, rfl, x, dxa, _, rfl, exa, x, p1, q1, rfl, rxa, b10 bp1 (by decide), b10 bq1 (by decide), ⟨_, rfl⟩, _, rfl, five (Nat.le_of_ble_eq_true rfl), fun l4 n4 => ?_⟩
    have rxb := rxa.same (same_new (o := .lst [.ref x]) n4)
    obtain ⟨dxb, exb⟩ := id rxb
    refine ⟨_, rfl, x, dxb, _, rfl, exb, x, p1, q1, rfl, rxb, _, rfl, x, dxb, _, rfl, exb, x, p1, q1, rfl, rxb, five (Nat.le_of_ble_eq_true rfl), fun t5 n5 => ⟨five (Nat.le_of_ble_eq_true rfl), fun lo nlo => ?_⟩⟩
    have s4 := same_new (o := .lst [.ref x]) n4
    have s5 := same_new (o := .tup [.int p1, .int q1]) n5
    have so := same_new (o := .lst [.non, .int n, .int (a.fdiv b), .str (rtxt p1 q1), .ref l4, .ref t5, .bl true]) nlo
    have eL : (upd (upd (upd Ha l4 (.lst [.ref x])) t5 (.tup [.int p1, .int q1])) lo (.lst [.non, .int n, .int (a.fdiv b), .str (rtxt p1 q1), .ref l4, .ref t5, .bl true])) lo = some (.lst [.non, .int n, .int (a.fdiv b), .str (rtxt p1 q1), .ref l4, .ref t5, .bl true]) := upd_same
    have e4 : (upd (upd (upd Ha l4 (.lst [.ref x])) t5 (.tup [.int p1, .int q1])) lo (.lst [.non, .int n, .int (a.fdiv b), .str (rtxt p1 q1), .ref l4, .ref t5, .bl true])) l4 = some (.lst [.ref x]) := so _ _ (s5 _ _ upd_same)
    have e5 : (upd (upd (upd Ha l4 (.lst [.ref x])) t5 (.tup [.int p1, .int q1])) lo (.lst [.non, .int n, .int (a.fdiv b), .str (rtxt p1 q1), .ref l4, .ref t5, .bl true])) t5 = some (.tup [.int p1, .int q1]) := so _ _ upd_same
    have sB : Same H6 (upd (upd (upd Ha l4 (.lst [.ref x])) t5 (.tup [.int p1, .int q1])) lo (.lst [.non, .int n, .int (a.fdiv b), .str (rtxt p1 q1), .ref l4, .ref t5, .bl true])) := sa.trans ((s4.trans s5).trans so)
    refine ⟨fun σ' H' => Same H6 H' ∧ σ' = [some (.ref p), some (.int a), some (.int b), some (.int c), some (.int d), some (.int n), some (.ref x), some (.ref y), some (.str (listText [rrep p1 q1, rrep p2 q2])), some (.bl (decide (V.int (a * d) = V.int (c * b)))), some (.ref lo), none, none, none], ?_, ?_⟩
    · refine ⟨_, rfl, lo, rfl, ⟨_, SqL.of eL⟩, fun D hD => ?_⟩
      refine lc_list (fun i H' => Same (upd (upd (upd Ha l4 (.lst [.ref x])) t5 (.tup [.int p1, .int q1])) lo (.lst [.non, .int n, .int (a.fdiv b), .str (rtxt p1 q1), .ref l4, .ref t5, .bl true])) H' ∧ H' D = some (.lst ((List.replicate i false).map V.bl))) ⟨same_new hD, upd_same⟩ (fun i H' _ pv => SqL.of (pv.1 _ _ eL)) (fun i v H' hv pv => ?_) (fun H' pv => ?_)
      · obtain ⟨sS, eD⟩ := pv
        have rx' := rx6.same (sB.trans sS)
        obtain ⟨dx', ex'⟩ := id rx'
        have fin : i < 7 → ∃ acc, H' D = some (.lst acc) ∧ acc.length < sizeLine ∧ (Same (upd (upd (upd Ha l4 (.lst [.ref x])) t5 (.tup [.int p1, .int q1])) lo (.lst [.non, .int n, .int (a.fdiv b), .str (rtxt p1 q1), .ref l4, .ref t5, .bl true])) (upd H' D (.lst (acc ++ [.bl false]))) ∧ (upd H' D (.lst (acc ++ [.bl false]))) D = some (.lst ((List.replicate (i + 1) false).map V.bl))) := fun hi => by
          refine ⟨_, eD, ?_, fun b' o e => ?_, ?_⟩
          · rw [List.length_map, List.length_replicate, sizeLine_eq]
            omega
          · rw [upd_ne (ne_of_none e hD)]
            exact sS _ _ e
          · rw [upd_same, List.replicate_succ', List.map_append]
            rfl
        match i, hv, fin with
        | 0, hv, fin =>
          cases Option.some.inj hv
          exact ⟨rfl, _, rfl, _, rfl, .inr ⟨x, dx', _, _, rfl, ex', .non, .inr ⟨x, .non, p1, q1, rfl, rx', ⟨_, .non⟩, fin (by decide)⟩⟩⟩
        | 1, hv, fin =>
          cases Option.some.inj hv
          exact ⟨rfl, _, rfl, _, rfl, .inl ⟨x, dx', _, rfl, ex', .inr (.inl ⟨n, rfl⟩), .inl ⟨x, .int n, p1, q1, rfl, rx', .inr ⟨.inl ⟨n, rfl⟩, fin (by decide)⟩⟩⟩⟩
        | 2, hv, fin =>
          cases Option.some.inj hv
          exact ⟨rfl, _, rfl, _, rfl, .inl ⟨x, dx', _, rfl, ex', .inr (.inl ⟨_, rfl⟩), .inl ⟨x, .int _, p1, q1, rfl, rx', .inr ⟨.inl ⟨_, rfl⟩, fin (by decide)⟩⟩⟩⟩
        | 3, hv, fin =>
          cases Option.some.inj hv
          exact ⟨rfl, _, rfl, _, rfl, .inr ⟨x, dx', _, _, rfl, ex', .str _, .inr ⟨x, .str _, p1, q1, rfl, rx', ⟨_, .str _⟩, fin (by decide)⟩⟩⟩
        | 4, hv, fin =>
          cases Option.some.inj hv
          exact ⟨rfl, _, rfl, _, rfl, .inr ⟨x, dx', _, _, rfl, ex', .lst (sS _ _ e4), .inr ⟨x, .ref l4, p1, q1, rfl, rx', ⟨_, .lst (sS _ _ e4)⟩, fin (by decide)⟩⟩⟩
        | 5, hv, fin =>
          cases Option.some.inj hv
          exact ⟨rfl, _, rfl, _, rfl, .inr ⟨x, dx', _, _, rfl, ex', .tup (sS _ _ e5), .inr ⟨x, .ref t5, p1, q1, rfl, rx', ⟨_, .tup (sS _ _ e5)⟩, fin (by decide)⟩⟩⟩
        | 6, hv, fin =>
          cases Option.some.inj hv
          exact ⟨rfl, _, rfl, _, rfl, .inr ⟨x, dx', _, _, rfl, ex', .bl true, .inr ⟨x, .bl true, p1, q1, rfl, rx', ⟨_, .bl true⟩, fin (by decide)⟩⟩⟩
        | _ + 7, hv, _ => cases hv
      · exact ⟨D, List.replicate 7 false, rfl, SqL.of pv.2, false, rfl, iteF ⟨sB.trans pv.1, rfl⟩⟩
    rintro σ' Hb ⟨sb, rfl⟩
    have cB := C6.trans (But.of sb)
    have hpb := hp6.same sb
    refine ⟨_, rfl, five (Nat.zero_le _), fun m1 n1 => ⟨five (Nat.le_of_ble_eq_true rfl), fun m2 n2 => fun m3 n3 => ⟨_, rfl, five (Nat.le_of_ble_eq_true rfl), fun m4 n4' => ⟨five (Nat.le_of_ble_eq_true rfl), fun lp np => ?_⟩⟩⟩⟩
    have r1 := same_new (o := .lst []) n1
    have r2 := same_new (o := .tup [.int 1, .int 2]) n2
    have r3 := same_new (o := .dK []) n3
    have r4 := same_new (o := .lst [.ref x]) n4'
    have rp := same_new (o := .lst [.non, .bl true, .bl false, .str "1", .str "", .ref m1, .ref m2, .ref m3, .ref m4]) np
    have hpz := ((((hpb.same r1).same r2).same r3).same r4)
    have rz := (((r1.trans r2).trans r3).trans r4).trans rp
    have ez1 := rp _ _ (r4 _ _ (r3 _ _ (r2 _ _ (upd_same (H := Hb) (a := m1) (o := .lst [])))))
    have ez2 := rp _ _ (r4 _ _ (r3 _ _ (upd_same (H := upd Hb m1 (.lst [])) (a := m2) (o := .tup [.int 1, .int 2]))))
    have ez3 := rp _ _ (r4 _ _ (upd_same (H := upd (upd Hb m1 (.lst [])) m2 (.tup [.int 1, .int 2])) (a := m3) (o := .dK [])))
    have ez4 := rp _ _ (upd_same (H := upd (upd (upd Hb m1 (.lst [])) m2 (.tup [.int 1, .int 2])) m3 (.dK [])) (a := m4) (o := .lst [.ref x]))
    have w1 := pne hpb n1
    have w2 := pne (hpb.same r1) n2
    have w3 := pne ((hpb.same r1).same r2) n3
    have w4 := pne (((hpb.same r1).same r2).same r3) n4'
    refine ⟨p, lp, _, rfl, hpz.same rp, upd_same, pne hpz np, Nat.le_of_ble_eq_true rfl, Nat.le_of_ble_eq_true rfl, fun i v Hc hv hpc bc' => ?_⟩
    have xp : x ≠ p := fun z => by
      obtain ⟨_, ex⟩ := rx6
      obtain ⟨_, _, e, _⟩ := hp6
      rw [z, e] at ex
      cases ex
    have yp : y ≠ p := fun z => by
      obtain ⟨_, ey⟩ := ry6
      obtain ⟨_, _, e, _⟩ := hp6
      rw [z, e] at ey
      cases ey
    have rxc : RatAt K Hc x p1 q1 := by
      obtain ⟨dx, ex⟩ := rx6
      exact ⟨dx, bc' _ _ (rz _ _ (sb _ _ ex)) xp⟩
    have ryc : RatAt K Hc y p2 q2 := by
      obtain ⟨dy, ey⟩ := ry6
      exact ⟨dy, bc' _ _ (rz _ _ (sb _ _ ey)) yp⟩
    have cC : But p H Hc := (cB.trans (But.of rz)).trans bc'
    obtain ⟨ho, hs⟩ : Odd K Hc v ∧ Shw K Hc v := by
      match i, hv with
      | 0, hv => cases Option.some.inj hv; exact ⟨⟨_, .non⟩, .inl ⟨_, .non, rfl, Nat.le_of_ble_eq_true rfl, Nat.le_of_ble_eq_true rfl⟩⟩
      | 1, hv => cases Option.some.inj hv; exact ⟨⟨_, .bl _⟩, .inl ⟨_, .bl _, rfl, Nat.le_of_ble_eq_true rfl, Nat.le_of_ble_eq_true rfl⟩⟩
      | 2, hv => cases Option.some.inj hv; exact ⟨⟨_, .bl _⟩, .inl ⟨_, .bl _, rfl, Nat.le_of_ble_eq_true rfl, Nat.le_of_ble_eq_true rfl⟩⟩
      | 3, hv => cases Option.some.inj hv; exact ⟨⟨_, .str _⟩, .inl ⟨_, .str _, by decide +kernel, Nat.le_of_ble_eq_true rfl, by decide +kernel⟩⟩
      | 4, hv => cases Option.some.inj hv; exact ⟨⟨_, .str _⟩, .inl ⟨_, .str _, by decide +kernel, Nat.le_of_ble_eq_true rfl, by decide +kernel⟩⟩
      | 5, hv => cases Option.some.inj hv; exact ⟨⟨_, .lst (bc' _ _ ez1 w1)⟩, .inl ⟨_, .lst (bc' _ _ ez1 w1) .nil, rfl, Nat.le_of_ble_eq_true rfl, Nat.le_of_ble_eq_true rfl⟩⟩
      | 6, hv => cases Option.some.inj hv; exact ⟨⟨_, .tup (bc' _ _ ez2 w2)⟩, .inl ⟨_, .tup (bc' _ _ ez2 w2) (.cons (.int 1) (.cons (.int 2) .nil)), by decide +kernel, Nat.le_of_ble_eq_true rfl, by decide +kernel⟩⟩
      | 7, hv => cases Option.some.inj hv; exact ⟨⟨_, .dct (bc' _ _ ez3 w3)⟩, .inl ⟨_, .dct (bc' _ _ ez3 w3) .nil, rfl, Nat.le_of_ble_eq_true rfl, Nat.le_of_ble_eq_true rfl⟩⟩
      | 8, hv => cases Option.some.inj hv; exact ⟨⟨_, .lst (bc' _ _ ez4 w4)⟩, .inr ⟨m4, x, p1, q1, rfl, bc' _ _ ez4 w4, rxc, bp1, bq1⟩⟩
      | _ + 9, hv => cases hv
    have hTc : Tabs [(Pt, lamQ)] Hc := tabs_but hT hp cC
    refine ⟨_, rfl, .inl ⟨x, p1, q1, rfl, rxc, ?_⟩⟩
    refine ⟨_, rfl, .inr (.inl ⟨n, rfl, ?_⟩)⟩
    refine ⟨_, rfl, .inr (.inr ⟨v, rfl, ho, ?_⟩)⟩
    refine .inr (.inr ⟨.non, rfl, ⟨_, .non⟩, ?_⟩)
    refine .inr (.inr ⟨.bl true, rfl, ⟨_, .bl true⟩, ?_⟩)
    refine ⟨five (Nat.le_of_ble_eq_true rfl), fun lt nt => ?_⟩
    refine ⟨fun σ' H' => ExtN Hc H' ∧ Tabs [(Pt, lamQ)] H' ∧ σ' = [some (.ref p), some (.int a), some (.int b), some (.int c), some (.int d), some (.int n), some (.ref x), some (.ref y), some (.str (listText [rrep p1 q1, rrep p2 q2])), some (.bl (decide (V.int (a * d) = V.int (c * b)))), some (.ref lo), some v, some (.ref lt), none], ?_, ?_⟩
    · refine ⟨_, rfl, lt, .list [.bool true, .bool true, .bool false, .bool false, .bool false], rfl, .lst upd_same (.cons (.bl _) (.cons (.bl _) (.cons (.bl _) (.cons (.bl _) (.cons (.bl _) .nil))))), ⟨rfl, Nat.le_of_ble_eq_true rfl, Nat.le_of_ble_eq_true rfl⟩, ?_⟩
      refine ⟨five (Nat.le_of_ble_eq_true rfl), fun lu nu => ⟨lu, .list [.bool true, .bool true, .bool false, .bool false, .bool false], rfl, .lst upd_same (.cons (.bl _) (.cons (.bl _) (.cons (.bl _) (.cons (.bl _) (.cons (.bl _) .nil))))), ⟨rfl, Nat.le_of_ble_eq_true rfl, Nat.le_of_ble_eq_true rfl⟩, rfl, _, rfl, ite2 (fun h => ?_) (fun _ => ?_)⟩⟩
      · simp at h
      have su := (same_new (o := .lst [.bl true, .bl true, .bl false, .bl false, .bl false]) nt).trans (same_new (o := .lst [.bl true, .bl true, .bl false, .bl false, .bl false]) nu)
      exact ⟨_, rfl, _, rfl, x, v, p1, q1, rfl, hTc.ext su, rxc.same su, bp1, bq1, q10, ho.same su, hs.same su, fun Hd ed Td => ⟨true, rfl, iteF ⟨(ExtN.of su).trans ed, Td, rfl⟩⟩⟩
    rintro σ' Hd ⟨ed, Td, rfl⟩
    have rxd := RatAt.ext rxc ed
    have ryd := RatAt.ext ryc ed
    refine ⟨_, rfl, _, rfl, five (Nat.le_of_ble_eq_true rfl), fun l9 n9 => ⟨l9, [.ref x, .ref y], _, rfl, upd_same, (fun z => nomatch z), rfl, items (rxd.same (same_new n9)) (ryd.same (same_new n9)), hsz, _, rfl, rfl, q_dec (Q := Q) rfl (q _ ?_ (Td.ext (same_new n9)))⟩⟩
    intro b' o e ne nt'
    exact same_new n9 _ _ (ed _ _ (cC _ _ e ne) nt')
abbrev RightG (P : Program) (w : World) (K : Fr) (mg : Str → Option Value) (base : Heap) (Pt : Addr) : Prop := ∃ f d, GdG P w K mg base 11 "_law_right" f d ["_law_pot_here"] (spRight Pt)
end
end K10

set_option maxHeartbeats 4000000
namespace K10
open PySem PySem.Spec PyProof.Rows L2 RtL ErL LamX
theorem sq_keepN {K : Fr} {H H' : Hp} {a : Addr} {xs : List V} (h : SqL K H a xs) (k : ∀ o, H a = some o → (∀ ps, o ≠ .tbl ps) → H' a = some o) : SqL K H' a xs := by
  rcases h with h | h
  · rcases h with h | ⟨o, h⟩
    · exact .inl (.inl (k _ h (fun _ z => nomatch z)))
    · exact .inl (.inr ⟨o, k _ h (fun _ z => nomatch z)⟩)
  · exact .inr h
section
variable {P : Program} {w : World} {K : Fr} {mg : Str → Option Value} {base : Heap} {f : Addr} {fd : FuncData}
abbrev PotG (P : Program) (w : World) (K : Fr) (mg : Str → Option Value) (base : Heap) : Prop := ∃ f d, Gd P w K mg base 1 "_law_pot" f d ["_law_script", "_law_k"] (spPot K)
abbrev sLaw : Stmt := top 29
abbrev NL : List Str := ["_law_script", "_law_k"]
theorem scLaw : FnScope NL ["_law_script"] (defScope sLaw) := ⟨rfl, rfl, rfl, by decide +kernel, rfl, by decide +kernel, by decide +kernel⟩
def spLaw (K : Fr) (Pt : Addr) : SpG := fun vs H Q => ∃ (a : Addr) (ns : List Int), vs = [.ref a] ∧ SqL K H a (ns.map V.int) ∧ ns.length ≤ 63 ∧ Tabs [(Pt, lamQ)] H ∧ ∀ H', Q (.bl true) H'
theorem ok_law {Pt : Addr} (F : FunD K "law" "law" (defArgs sLaw) (defBody sLaw) (defScope sLaw) [] [] f fd) (T : TT K mg) (CR : RightG P w K mg base Pt) (CP : PotG P w K mg base) : FnG P w K mg base 12 f fd ["_law_script"] (spLaw K Pt) := by
  obtain ⟨fR, dR, GR⟩ := CR
  obtain ⟨fP, dP, GP⟩ := CP
  refine fnG_D F scLaw (fun vs H Q h => ?_) (fun cdv A outer s H vs Q hr hG h => ?_)
  · obtain ⟨a, ns, rfl, _⟩ := h
    rfl
  · obtain ⟨a, ns, rfl, hS, hl, hT, q⟩ := h
    refine ⟨_, PSs.nox (pss_one (ps_ret (pe_callB (cr_all (by rfl)) (by rfl) T.fre (by decide +kernel) (pa_cons (pe_lc (own := [("_law_k", 1)]) (g := gName 1) (tt := tYes) (by rfl) scLaw.nd
      (pi_range1 (by rfl) T.fre (pa_cons (pe_callB (call_max2 rfl) (by rfl) T.fre (by decide +kernel) (pa_cons pe_int (pa_cons (pe_callB (call_min2 rfl) (by rfl) T.fre (by decide +kernel) (pa_cons (pe_callB call_len_seq (by rfl) T.fre PySem.boot_len (pa_cons (pv 0) pa_nil)) (pa_cons pe_int pa_nil))) pa_nil))) pa_nil))
      (blkOk_by (N := NL) (sc := defScope sLaw) (by decide +kernel)) (fun _ _ _ _ _ => pg_name (i := 1) scLaw.nd rfl (Or.inl rfl)) (fun _ _ _ _ _ => pts_nil)
      (fun _ _ _ _ _ => pe_gg GR hr hG (by rfl) (pa_cons (pe_gd GP (hr.mono (by decide)) (by rfl) (pa_cons (pv 0) (pa_cons (pv 1) pa_nil))) pa_nil))) pa_nil)))), ?_⟩
    refine ⟨_, rfl, a, _, rfl, .inl hS, ?_⟩
    refine ⟨_, _, rfl, _, _, rfl, ?_⟩
    obtain ⟨j, hj, j0, j3⟩ : ∃ j : Int, (if (if (4 : Int) < ((ns.map V.int).length : Int) then (4 : Int) else ((ns.map V.int).length : Int)) > 1 then (if (4 : Int) < ((ns.map V.int).length : Int) then (4 : Int) else ((ns.map V.int).length : Int)) else (1 : Int)) = j ∧ 0 ≤ j ∧ j ≤ 4 := ⟨_, rfl, by split <;> split <;> omega, by split <;> split <;> omega⟩
    rw [hj]
    refine ⟨j, rfl, by omega, by omega, fun D hD => ?_⟩
    refine lc_range (lo := 0) (n := j.toNat) (fun i H' => (∀ o, H a = some o → (∀ ps, o ≠ .tbl ps) → H' a = some o) ∧ Tabs [(Pt, lamQ)] H' ∧ H' D = some (.lst ((List.replicate i true).map V.bl))) ⟨fun o e _ => same_new hD _ _ e, hT.ext (same_new hD), upd_same⟩ (fun i H' hi pv => ?_) (fun H' pv => ?_)
    · obtain ⟨kS, kT, eD⟩ := pv
      refine ⟨rfl, _, rfl, _, rfl, a, ns, (0 : Int) + (i : Nat), rfl, sq_keepN hS kS, hl, by omega, by omega, fun p H1 np s1 hp => ⟨p, rfl, hp, kT.ext s1, fun H2 b2 T2 => ?_⟩⟩
      have eD2 : H2 D = some (.lst ((List.replicate i true).map V.bl)) := b2 _ _ (s1 _ _ eD) (ne_of_none eD np) (fun _ z => nomatch z)
      refine ⟨_, eD2, ?_, fun o e nt => ?_, tabs_lst T2 eD2, ?_⟩
      · rw [List.length_map, List.length_replicate, sizeLine_eq]
        omega
      · rw [upd_ne (ne_of_none e hD)]
        exact b2 _ _ (s1 _ _ (kS o e nt)) (ne_of_none (kS o e nt) np) nt
      · rw [upd_same, List.replicate_succ', List.map_append]
        rfl
    · exact ⟨D, List.replicate j.toNat true, rfl, SqL.of pv.2.2, by rw [show (List.replicate j.toNat true).all id = true by simp]; exact q _⟩
end
end K10

set_option maxHeartbeats 4000000
namespace K10
open PySem PySem.Spec PyProof.Rows L2 RtL ErL LamX
/-- the script as an object of the heap; an empty table of code objects -/
abbrev scO (us : List Value) : Obj := { cls := .type "list", data := .seq us.toArray }
abbrev tbO : Obj := { cls := .none, data := .fields #[] }
/-- a def of one parameter, called on a script where nothing is being shown; one table of code objects is empty and written while it runs -/
theorem lawGT {P : Program} {w : World} {K : Fr} {mg mb : Str → Option Value} {k : Nat} {fl sc c Pt : Addr} {fd : FuncData} {x : Str} {sp : SpG} {st : Shared} {us : List Value} {zs : List Int}
    (kin : K.In st.heap) (n1 : st.heap.Ns mainGlobals mg) (n2 : st.heap.Ns builtinsNs mb) (n3 : ∀ y : Str, y ≠ "__name__" → mb y = bootBuiltins y) (nl : st.heap.NoLimit) (ng : st.gens = #[])
    (tb : st.heap.get? Pt = some tbO) (tk : K.lookup Pt = none) (ch : PySem.W.CodeHd st.heap c Pt)
    (bm : ∃ (m : Addr) (o : Obj), mg "__builtins__" = some (.ref m) ∧ m ≠ builtinsNs ∧ st.heap.get? m = some o ∧ o.cls = .type "module" ∧ o.dict = some builtinsNs ∧ o.data = .plain)
    (here : st.heap.get? sc = some (scO us)) (iz : IntsAre us zs) (lz : zs.length ≤ sizeLine) (rm : Room k callerA) (F : ∀ b : Heap, K.In b → b.Ns mainGlobals mg → TabB b mg c Pt → FnG P w K mg b k fl fd [x] sp) (bd : Binds K fd [x] [])
    (pr : ∀ H : Hp, H Pt = some (.tbl #[]) → SqL K H sc (zs.map V.int) → sp [.ref sc] H (fun v _ => v = .bl true)) :
    codeAny (model P w) callerA (.call (.ref fl) ⟨[.ref sc], []⟩) (fun r s' => r = .ok (.ret (.bool true)) ∧ OldK st.heap s'.heap ∧ s'.os = st.os ∧ AllBare s'.gens) st := by
  have vz := vals_ints iz
  have lu : (zs.map V.int).length ≤ sizeLine := by
    rw [List.length_map]
    exact lz
  have ap : sc ≠ Pt := fun z => by
    rw [← z, here] at tb
    have e : Data.seq us.toArray _ = Data.fields #[] := congrArg Obj.data (Option.some.inj tb)
    cases e
  -- tracked: the table, and the script if it is no object of the written part
  obtain ⟨H, on, hP, sq⟩ : ∃ H : Hp, (∀ b y, H b = some y → (b = Pt ∧ y = .tbl #[]) ∨ (b = sc ∧ K.lookup sc = none ∧ y = .frz (scO us) (.lst (zs.map V.int)))) ∧ H Pt = some (.tbl #[]) ∧ SqL K H sc (zs.map V.int) := by
    cases own : K.lookup sc with
    | some y =>
      have e := kin sc y own
      rw [here] at e
      cases e
      refine ⟨upd (fun _ => none) Pt (.tbl #[]), fun b y z => ?_, upd_same, .inr ⟨_, us.toArray, _, own, rfl, rfl, rfl, ?_, by simpa using vz⟩⟩
      · by_cases hb : b = Pt
        · subst hb
          rw [upd_same] at z
          exact .inl ⟨rfl, (Option.some.inj z).symm⟩
        · rw [upd_ne hb] at z
          cases z
      · rw [List.size_toArray, iz.length]
        exact lz
    | none =>
      refine ⟨upd (upd (fun _ => none) sc (.frz (scO us) (.lst (zs.map V.int)))) Pt (.tbl #[]), fun b y z => ?_, upd_same, .inl (.inr ⟨scO us, ?_⟩)⟩
      · by_cases hb : b = Pt
        · subst hb
          rw [upd_same] at z
          exact .inl ⟨rfl, (Option.some.inj z).symm⟩
        · rw [upd_ne hb] at z
          by_cases hs : b = sc
          · subst hs
            rw [upd_same] at z
            exact .inr ⟨rfl, rfl, (Option.some.inj z).symm⟩
          · rw [upd_ne hs] at z
            cases z
      · rw [upd_ne ap, upd_same]
  have ok : HOk P w H st.heap := fun b y z => by
    rcases on b y z with ⟨rfl, rfl⟩ | ⟨rfl, _, rfl⟩
    · exact tb
    · exact ⟨here, lu, us, _, vz, here⟩
  -- what is neither a list nor an empty row of fields is not tracked
  have out : ∀ {b : Addr} {o : Obj}, st.heap.get? b = some o → (∀ xs n, o.data ≠ .seq xs n) → o.data ≠ .fields #[] → H b = none := fun {b o} e d1 d2 => by
    cases q : H b with
    | none => rfl
    | some y =>
      rcases on b y q with ⟨rfl, _⟩ | ⟨rfl, _, _⟩
      · rw [tb] at e
        cases e
        exact absurd rfl d2
      · rw [here] at e
        cases e
        exact absurd rfl (d1 _ _)
  have keep : ∀ {b : Addr} {o : Obj}, st.heap.get? b = some o → (∀ xs n, o.data ≠ .seq xs n) → o.data ≠ .fields #[] → (hidT st.heap H).get? b = some o := fun e d1 d2 => hidT_get e (out e d1 d2)
  have ns : ∀ {b : Addr} {m : Str → Option Value}, st.heap.Ns b m → (hidT st.heap H).Ns b m := by
    rintro b m ⟨o, es, ep, e, d, r⟩
    exact ⟨o, es, ep, keep e (fun xs n z => by rw [d] at z; cases z) (fun z => by rw [d] at z; cases z), d, r⟩
  have kb : K.In (hidT st.heap H) := fun b o e => hidT_get (kin b o e) (by
    cases q : H b with
    | none => rfl
    | some y =>
      rcases on b y q with ⟨rfl, _⟩ | ⟨rfl, z, _⟩
      · rw [tk] at e
        cases e
      · rw [z] at e
        cases e)
  have notG : mainGlobals ≠ Pt := fun z => by
    obtain ⟨o, es, ep, e, d, _⟩ := n1
    rw [z, tb] at e
    cases e
    cases d
  have TB : TabB (hidT st.heap H) mg c Pt := by
    refine ⟨?_, ?_, notG⟩
    · obtain ⟨o, u, g1, g2, g3, g4, g5, g6, g7, e, h1, h2, h3, rest⟩ := ch
      exact ⟨o, u, g1, g2, g3, g4, g5, g6, g7, keep e (fun xs n z => by rw [h2] at z; cases z) (fun z => by rw [h2] at z; cases z; simp at h3), h1, h2, h3, rest⟩
    · obtain ⟨m, o, h1, h2, h3, h4, h5, h6⟩ := bm
      have a1 : m ≠ mainGlobals := fun z => by
        obtain ⟨o', es, ep, e, d, _⟩ := n1
        rw [← z, h3] at e
        cases e
        rw [h6] at d
        cases d
      have a2 : m ≠ Pt := fun z => by
        rw [z, tb] at h3
        cases h3
        cases h6
      exact ⟨m, o, h1, h2, a1, a2, keep h3 (fun xs n z => by rw [h6] at z; cases z) (fun z => by rw [h6] at z; cases z), h4, h5, h6⟩
  obtain ⟨ml, l1, l2⟩ := nl
  have env : Env0 P w K mg (hidT st.heap H) callerA [] st H :=
    { frames := rfl, mod := { kin := kb, glob := ns n1, blt := ⟨mb, ns n2, n3⟩, nolimit := ⟨ml, ns l1, l2⟩ }, bs := fun b o e => of_hidT e, bsz := Nat.le_of_eq (hidT_size _ _), funs := trivial, frf := fun b hb => (nomatch (show b ∈ ([] : List Addr) from hb)), hok := ok, bare := .of_eq ng }
  refine codeAny_mono ((F _ kb (ns n1) TB).run callerA [] st H ⟨[.ref sc], []⟩ [.ref sc] [.ref sc] _ rm rfl env (bd st [.ref sc] kin rfl) (.cons rfl .nil) (pr H hP sq)) ?_
  intro r s' h
  match r, h with
  | .ok (.ret u), h =>
    obtain ⟨v, H', os, ba, un, ok', rv, q⟩ := h
    cases (show v = .bl true from q)
    cases (show u = Value.bool true from rv)
    obtain ⟨more, hm⟩ := un.tbls Pt #[] hP
    have tb' : s'.heap.get? Pt = some { cls := .none, data := .fields (#[] ++ more) } := ok' Pt _ hm
    have old : ∀ b o, b ≠ Pt → st.heap.get? b = some o → s'.heap.get? b = some o := fun b o hb e => by
      cases q : H b with
      | none => exact un.keep b o e q (fun z => (nomatch (show b ∈ ([] : List Addr) from z))) (by simp)
      | some y =>
        rcases on b y q with ⟨z, _⟩ | ⟨rfl, _, rfl⟩
        · exact absurd z hb
        · rw [here] at e
          cases e
          exact (ok' _ _ (un.frzs _ _ _ q)).1
    refine ⟨rfl, ⟨fun b o e => ?_, fun b o e => ?_⟩, os, ba⟩
    · by_cases hb : b = Pt
      · subst hb
        rw [tb] at e
        cases e
        exact .inr (.inl ⟨(ch.tab tb).isCodeTable, rfl, #[], more, rfl, tb'⟩)
      · exact .inl (old b o hb e)
    · by_cases hb : b = Pt
      · subst hb
        exact ⟨_, tb'⟩
      · exact ⟨o, old b o hb e⟩
  | .ok .next, h => exact False.elim h
  | .ok .brk, h => exact False.elim h
  | .ok .cont, h => exact False.elim h
  | .error e, h => exact False.elim h
end K10

set_option maxHeartbeats 4000000
namespace K10
open PySem PySem.Spec PyProof.Rows L2 RtL ErL LamX
section
variable {P : Program} {w : World} {K : Fr} {mg : Str → Option Value}
theorem TT.df (T : TT K mg) (i : Nat) (h : i < fn.length := by decide) : ∃ fd, FunD K fn[i].name fn[i].qual fn[i].params fn[i].body fn[i].scope (fn[i].dvs K) (fn[i].kws K) (He.fAd K fn[i].at_) fd := T.dfs _ (List.getElem_mem h)
theorem TT.rd (T : TT K mg) (i : Nat) (h : i < rc.length := by decide) : ∃ fd, FunD K rc[i].1 ("Ratio." ++ rc[i].1) (defArgs (inR rc[i].2.2)) (defBody (inR rc[i].2.2)) (defScope (inR rc[i].2.2)) [] [] (recA K (RC K) rc[i].1 rc[i].2.1) fd := T.rcs _ (List.getElem_mem h)
structure Pack (P : Program) (w : World) (K : Fr) (mg : Str → Option Value) (base : Heap) : Prop where
  nu : IsnumG P w K mg base
  ini : ∃ d, Id P w K mg base d
  ops : Ops P w K mg base
  opx : OpsX P w K mg base
  gt : Gt P w K mg base
  eq : ∃ d, FnOk P w K mg base CX0 1 (rm K "__eq__") d ["self", "other"] (spEqA K) ∧ Binds K d ["self", "other"] []
  neg : ∃ d, Md P w K mg base 4 (rm K "__neg__") d ["self"] (spNeg K)
  tot : TotG P w K mg base
/-- the package's defs together -/
theorem pk (T : TT K mg) (base : Heap) : Pack P w K mg base := by
  obtain ⟨d0, F0⟩ := T.df 1
  obtain ⟨d1, F1⟩ := T.df 2
  obtain ⟨d2, F2⟩ := T.df 3
  obtain ⟨d3, F3⟩ := T.df 4
  obtain ⟨d4, F4⟩ := T.df 5
  obtain ⟨d5, F5⟩ := T.df 6
  obtain ⟨d6, F6⟩ := T.df 7
  obtain ⟨d7, F7⟩ := T.df 8
  obtain ⟨d8, F8⟩ := T.df 9
  obtain ⟨d9, F9⟩ := T.df 10
  obtain ⟨d10, F10⟩ := T.df 11
  obtain ⟨d11, F11⟩ := T.df 12
  obtain ⟨d12, F12⟩ := T.df 13
  obtain ⟨e0, G0⟩ := T.rd 0
  obtain ⟨e1, G1⟩ := T.rd 1
  obtain ⟨e2, G2⟩ := T.rd 2
  obtain ⟨e3, G3⟩ := T.rd 3
  have b1 : ∀ {x q : Str} {ar : Arguments} {bd : List Stmt} {sc : Scope} {f : Addr} {fd : FuncData} {p : Str}, FunD K x q ar bd sc [] [] f fd → (∀ (kV doc pm : Value) (an : Option Addr) (cdv ct a : Value), bindArgs (PySem.W.fnOf x q ar bd sc .none kV doc pm an cdv ct) ⟨[a], []⟩ = pure [(p, a)]) → Binds K fd [p] [] :=
    fun F h => F.bindsN fun kV doc pm an cdv ct us hl => match us, hl with | [a], _ => h kV doc pm an cdv ct a
  have b2 : ∀ {x q : Str} {ar : Arguments} {bd : List Stmt} {sc : Scope} {f : Addr} {fd : FuncData} {p p' : Str}, FunD K x q ar bd sc [] [] f fd → (∀ (kV doc pm : Value) (an : Option Addr) (cdv ct a b : Value), bindArgs (PySem.W.fnOf x q ar bd sc .none kV doc pm an cdv ct) ⟨[a, b], []⟩ = pure [(p, a), (p', b)]) → Binds K fd [p, p'] [] :=
    fun F h => F.bindsN fun kV doc pm an cdv ct us hl => match us, hl with | [a, b], _ => h kV doc pm an cdv ct a b
  have GI : Gd P w K mg base 1 "is_an_integer" _ d0 ["value"] (spIsint K) := ⟨ok_isint F0 T, T.gl "is_an_integer" (by decide), F0.kp, b1 F0 fun _ _ _ _ _ _ _ => rfl⟩
  have GO : IsintO P w K mg base := ⟨_, d0, ok_isintO F0 T, T.gl "is_an_integer" (by decide), F0.kp, b1 F0 fun _ _ _ _ _ _ _ => rfl⟩
  have GA : IsintA P w K mg base := ⟨_, d0, fnOk_or0 (ok_isint F0 T) (ok_isintO F0 T), T.gl "is_an_integer" (by decide), F0.kp, b1 F0 fun _ _ _ _ _ _ _ => rfl⟩
  have one : ∃ ds, Vals [V.int 1] ds ∧ Binds K d3 ["self", "top", "bottom"] ds := FunD.binds1 (ps := ["self", "top", "bottom"]) F3 2 0 (by intro z; cases z) rfl fun T kV doc pm an cdv ct us its h1 h2 => match us, its, h1, h2 with | [a, b], [d], _, _ => ⟨_, rfl, rfl⟩
  have ini : Id P w K mg base d3 := by
    refine ⟨ok_init F3 T GI.ok GI.gl GI.kp GI.bd, ?_, one⟩
    obtain ⟨ds, hv, hb⟩ := FunD.binds1 (ps := ["self", "top", "bottom"]) F3 3 1 (by intro z; cases z) rfl fun T kV doc pm an cdv ct us its h1 h2 => match us, its, h1, h2 with | [a, b, c], [d], _, _ => ⟨_, rfl, rfl⟩
    cases hv
    exact hb
  have inix : IdX P w K mg base d3 := ⟨ok_initX F3 T GO, one⟩
  have GR : Gd P w K mg base 4 "as_ratio" _ d2 ["number"] (spAsr K) := ⟨ok_asr F2 T ini, T.gl "as_ratio" (by decide), F2.kp, b1 F2 fun _ _ _ _ _ _ _ => rfl⟩
  have ax : AsrX P w K mg base := ⟨_, d2, ok_asrX F2 T inix, T.gl "as_ratio" (by decide), F2.kp, b1 F2 fun _ _ _ _ _ _ _ => rfl⟩
  have pr : Pr P w K mg base := ⟨⟨e0, ok_top G0 T, b1 G0 fun _ _ _ _ _ _ _ => rfl⟩, ⟨e1, ok_bot G1 T, b1 G1 fun _ _ _ _ _ _ _ => rfl⟩, ⟨_, d2, GR⟩, ⟨d3, ini⟩⟩
  have bAdd : Binds K d6 ["self", "other"] [] := b2 F6 fun _ _ _ _ _ _ _ _ => rfl
  have add : Md P w K mg base 5 (rm K "__add__") d6 ["self", "other"] (spOp K (fun t b t2 b2 => t * b2 + t2 * b) fun _ b _ b2 => b * b2) := ⟨ok_add F6 T pr, bAdd⟩
  have bOv : Binds K d4 ["self", "other"] [] := b2 F4 fun _ _ _ _ _ _ _ _ => rfl
  have bBe : Binds K d5 ["self", "other"] [] := b2 F5 fun _ _ _ _ _ _ _ _ => rfl
  have bSu : Binds K d7 ["self", "other"] [] := b2 F7 fun _ _ _ _ _ _ _ _ => rfl
  have bMu : Binds K d8 ["self", "other"] [] := b2 F8 fun _ _ _ _ _ _ _ _ => rfl
  have bEq : Binds K d10 ["self", "other"] [] := b2 F10 fun _ _ _ _ _ _ _ _ => rfl
  exact {
    nu := ⟨_, d1, ok_isnum F1 T GA, T.gl "is_number" (by decide), F1.kp, b1 F1 fun _ _ _ _ _ _ _ => rfl⟩
    ini := ⟨d3, ini⟩
    ops := ⟨⟨d6, add⟩, ⟨d7, ok_sub F7 T pr, bSu⟩, ⟨d8, ok_mul F8 T pr, bMu⟩, ⟨d4, ok_over F4 T pr, bOv⟩, ⟨d5, ok_below F5 T pr, bBe⟩⟩
    opx := ⟨⟨d6, ok_addX F6 T pr ax, bAdd⟩, ⟨d7, ok_subX F7 T pr ax, bSu⟩, ⟨d8, ok_mulX F8 T pr ax, bMu⟩, ⟨d4, ok_overX F4 T pr ax, bOv⟩, ⟨d5, ok_belowX F5 T pr ax, bBe⟩, ok_totX G3 T ⟨⟨d6, add⟩, ⟨d3, ini⟩⟩ ⟨d6, fnOk_or (ok_add F6 T pr) (ok_addX F6 T pr ax), bAdd⟩⟩
    gt := ⟨⟨e0, ok_top G0 T, b1 G0 fun _ _ _ _ _ _ _ => rfl⟩, ⟨e1, ok_bot G1 T, b1 G1 fun _ _ _ _ _ _ _ => rfl⟩, ⟨e2, ok_sign G2 T, b1 G2 fun _ _ _ _ _ _ _ => rfl⟩, ⟨d11, ok_str F11 T, b1 F11 fun _ _ _ _ _ _ _ => rfl⟩, ⟨d12, ok_rep F12 T, b1 F12 fun _ _ _ _ _ _ _ => rfl⟩⟩
    eq := ⟨d10, fnOk_or0 (ok_eq F10 T) (ok_eqO F10 T), bEq⟩
    neg := ⟨d9, ok_neg F9 T pr, b1 F9 fun _ _ _ _ _ _ _ => rfl⟩
    tot := ok_total G3 T ⟨⟨d6, add⟩, ⟨d3, ini⟩⟩ }
/-- all defs together -/
theorem law_G {c Pt : Addr} (T : TT K mg) (hc : codeIs K (He.ga K "_law_operand_refused") c) : ∃ fd, Binds K fd ["_law_script"] [] ∧ ∀ base : Heap, TabB base mg c Pt → FnG P w K mg base 12 (He.ga K "law") fd ["_law_script"] (spLaw K Pt) := by
  obtain ⟨d13, F13⟩ := T.df 14
  obtain ⟨d14, F14⟩ := T.df 15
  obtain ⟨d15, F15⟩ := T.df 16
  obtain ⟨d16, F16⟩ := T.df 17
  obtain ⟨d17, F17⟩ := T.df 18
  obtain ⟨d18, F18⟩ := T.df 19
  obtain ⟨d19, F19⟩ := T.df 20
  obtain ⟨d20, F20⟩ := T.df 21
  obtain ⟨d21, F21⟩ := T.df 22
  obtain ⟨d22, F22⟩ := T.df 23
  obtain ⟨d23, F23⟩ := T.df 24
  obtain ⟨d24, F24⟩ := T.df 25
  obtain ⟨d25, F25⟩ := T.df 26
  obtain ⟨d26, F26⟩ := T.df 27
  obtain ⟨d27, F27⟩ := T.df 28
  obtain ⟨d28, F28⟩ := T.df 29
  obtain ⟨d29, F29⟩ := T.df 30
  have bN : ∀ {x q : Str} {ar : Arguments} {bd : List Stmt} {sc : Scope} {f : Addr} {fd : FuncData} {ps : List Str}, FunD K x q ar bd sc [] [] f fd →
      (∀ (kV doc pm : Value) (an : Option Addr) (cdv ct : Value) (us : List Value), us.length = ps.length → bindArgs (PySem.W.fnOf x q ar bd sc .none kV doc pm an cdv ct) ⟨us, []⟩ = pure (ps.zip us)) → Binds K fd ps [] := fun F h => F.bindsN h
  refine ⟨d29, bN F29 fun _ _ _ _ _ _ us hl => match us, hl with | [_], _ => rfl, fun base TB => ?_⟩
  obtain ⟨gN, ⟨dI, ini⟩, ops, opx, gt, eq, neg, tot⟩ := pk (P := P) (w := w) T base
  have gPot : PotG P w K mg base := ⟨_, d13, ok_pot F13 T, T.gl "_law_pot" (by decide), F13.kp, bN F13 fun _ _ _ _ _ _ us hl => match us, hl with | [_, _], _ => rfl⟩
  have gDraw : DrawG P w K mg base := ⟨_, d14, ok_draw F14 T, T.gl "_law_draw" (by decide), F14.kp, bN F14 fun _ _ _ _ _ _ us hl => match us, hl with | [_, _], _ => rfl⟩
  have gPick : PickG P w K mg base := ⟨_, d15, ok_pick F15 T gDraw, T.gl "_law_pick" (by decide), F15.kp, bN F15 fun _ _ _ _ _ _ us hl => match us, hl with | [_, _], _ => rfl⟩
  have gInt : IntG P w K mg base := ⟨_, d16, ok_int F16 T gDraw gPick, T.gl "_law_integer" (by decide), F16.kp, bN F16 fun _ _ _ _ _ _ us hl => match us, hl with | [_], _ => rfl⟩
  have gParts : PartsG P w K mg base := ⟨_, d17, ok_parts F17 T gDraw gPick gInt, T.gl "_law_parts" (by decide), F17.kp, bN F17 fun _ _ _ _ _ _ us hl => match us, hl with | [_], _ => rfl⟩
  have gDiv : DivG P w K mg base := ⟨_, d18, ok_divr F18 T, T.gl "_law_divisor" (by decide), F18.kp, bN F18 fun _ _ _ _ _ _ us hl => match us, hl with | [_, _], _ => rfl⟩
  have gLow : LowG P w K mg base := ⟨_, d19, ok_low F19 gDiv, T.gl "_law_lowest" (by decide), F19.kp, bN F19 fun _ _ _ _ _ _ us hl => match us, hl with | [_, _], _ => rfl⟩
  have gSign : SignG P w K mg base := ⟨_, d20, ok_sgn F20 T, T.gl "_law_sign" (by decide), F20.kp, bN F20 fun _ _ _ _ _ _ us hl => match us, hl with | [_, _], _ => rfl⟩
  have gSame : SameG P w K mg base := ⟨_, d21, ok_same F21 T gLow gSign gt, T.gl "_law_same" (by decide), F21.kp, bN F21 fun _ _ _ _ _ _ us hl => match us, hl with | [_, _, _], _ => rfl⟩
  have gTx : TxG P w K mg base := ⟨_, d22, ok_tx F22 T gLow gt, T.gl "_law_texts_right" (by decide), F22.kp, bN F22 fun _ _ _ _ _ _ us hl => match us, hl with | [_, _, _], _ => rfl⟩
  have gDbz : DbzG P w K mg base := ⟨_, d23, ok_dbz F23 T ops.over, T.gl "_law_divided_by_zero" (by decide), F23.kp, bN F23 fun _ _ _ _ _ _ us hl => match us, hl with | [_, _], _ => rfl⟩
  have gSec : SecG P w K mg base := ⟨_, d24, ok_sec F24 T ops gSame gDbz gSign, T.gl "_law_second_right" (by decide), F24.kp, bN F24 fun _ _ _ _ _ _ us hl => match us, hl with | [_, _, _, _, _, _], _ => rfl⟩
  have rd : RefD K mg := ⟨_, d25, F25, T.gl "_law_refused" (by decide), bN F25 fun _ _ _ _ _ _ us hl => match us, hl with | [_, _], _ => rfl⟩
  have gOp : OpRG P w K mg base Pt := ⟨_, d26, ok_opR F26 hc TB T gt rd opx, T.gl "_law_operand_refused" (by decide), F26.kp, bN F26 fun _ _ _ _ _ _ us hl => match us, hl with | [_, _], _ => rfl⟩
  have gTot : TotRG P w K mg base := ⟨_, d27, ok_totR F27 T tot gSame, T.gl "_law_total_right" (by decide), F27.kp, bN F27 fun _ _ _ _ _ _ us hl => match us, hl with | [_, _, _, _, _, _, _], _ => rfl⟩
  have gRight : RightG P w K mg base Pt := ⟨_, d28, ok_right F28 T gParts gPick gInt gSame gSec gTx gTot gOp gN gt ini eq neg, T.gl "_law_right" (by decide), F28.kp, bN F28 fun _ _ _ _ _ _ us hl => match us, hl with | [_], _ => rfl⟩
  exact ok_law F29 T gRight gPot
/-- the table of operand_refused's code object -/
theorem tab_K {h : Heap} {c Pt : Addr} (X : K.In h) (G : h.Ns mainGlobals mg) (T : TT K mg) (s : Says K) (e : PySem.W.tabIn K "_law_operand_refused" = some (c, Pt)) : codeIs K (He.ga K "_law_operand_refused") c ∧ PySem.W.CodeHd h c Pt ∧ K.lookup Pt = none := by
  have c1 : (((fa.all fun f => f.ok K) && fn.all fun d => d.ok K) && (chk K && tabB K)) = true := congrArg (fun z : AlX => z.1.1) s
  have k := (He.ba (He.ba c1).2).2
  unfold tabB at k
  rw [e] at k
  obtain ⟨k1, k2⟩ := He.ba k
  refine ⟨?_, PySem.W.codeHd_of_K X k1, by simpa using k2⟩
  unfold PySem.W.tabIn at e
  split at e
  · rename_i f hf
    have e1 := PySem.W.mg_of X G hf
    rw [T.gl "_law_operand_refused" (by decide)] at e1
    cases e1
    split at e
    · rename_i oc od fd osl hfo
      split at e
      · rename_i c2 hcd
        split at e
        · split at e
          · cases e
            exact ⟨_, _, _, _, hfo, hcd⟩
          · cases e
        · cases e
      · cases e
    · cases e
  · cases e
end
end K10

set_option maxHeartbeats 0
namespace K10
open PySem PySem.Spec PyProof.Rows L2 HandSHeadRun PySem.W
theorem run_obs (w : World) : (wholeF (fun p => stepQ (denQ tabQ) p w) fenceQ 20000 R.prog).map (fun x => ob x.2) = some (valX, some (PySem.W.tabObj #[])) := by
  kernel_rfl
end K10

set_option maxHeartbeats 0
namespace K10
open PySem PySem.Spec PyProof.Rows L2 HandSHeadRun PySem.W
theorem run_look (w : World) : (wholeF (fun p => stepQ (denQ tabQ) p w) fenceQ 20000 R.prog).map (fun x => (looksF R.prog x.1.heap x.2.abs, seenQ (view R.prog [0, 29]) names (importedModules R.prog.main.body) (fun s => xlAt (view R.prog [0, 29]) [] s && recOk R.toRowW.records s) x.2.abs)) = some (true, openGood (view R.prog [0, 29]) names) := by
  kernel_rfl
end K10

set_option maxHeartbeats 0
namespace K10
open PySem PySem.Spec PyProof.Rows L2 RtL ErL HandSHeadRun PySem.W
theorem run (w : World) : RunEqI R (view R.prog [0, 29]) hk ob 20000 names w := by
  have a := run_look w
  have b := run_obs w
  unfold RunEqI
  cases e : wholeF (fun p => stepQ (denQ tabQ) p w) fenceQ 20000 R.prog with
  | none =>
    rw [e] at a
    cases a
  | some x =>
    rw [e] at a b
    have a' := Option.some.inj a
    have b' : ob x.2 = (valX, some (PySem.W.tabObj #[])) := Option.some.inj b
    show some (_, _, ob x.2) = some (true, openGood (view R.prog [0, 29]) names, (valX, some (PySem.W.tabObj #[])))
    rw [b']
    have a1 := congrArg Prod.fst a'
    have a2 := congrArg Prod.snd a'
    exact congrArg some (Prod.ext a1 (Prod.ext a2 rfl))
end K10
open PySem PySem.W PySem.Calls PyProof.Rows
theorem PySem.Challenge.cw_slotsums_k10_ratios_two_by_two_holds : PySem.Challenge.rw_slotsums_k10_ratios_two_by_two.Holds := by
  w_on; o_law
  refine HandSHeadRun.head_imp (r := K10.R) (q := view K10.R.prog [0, 29]) (H := K10.hk) (ob := K10.ob) (M := 20000) (loose := K10.names) (d := HandSHeadRun.topDef K10.R.prog 29) (kwd := []) K10.ob_eq
    K10.run (by kernel_rfl) (by kernel_rfl) (by kernel_rfl) (by rfl) (by first | assumption | decide +kernel) (by decide +kernel) ⟨rfl, rfl, rfl, rfl, rfl, by decide +kernel⟩ ?hw ?hc
  case hw => w_witness2
  case hc =>
    refine Att.attach_call (l := PySem.Challenge.rw_slotsums_k10_ratios_two_by_two) (n := 63) rfl (by kernel_rfl) fun w s0 st mg mb fl o pm cd doc sc us zs G Y ho hd hcd hmg here iz lz ng => ?_
    obtain ⟨K, kin, cK, c, Pt, tI, tO⟩ := Y
    have T := K10.tt_of kin G.T.g cK
    obtain ⟨hc, ch, tk⟩ := K10.tab_K kin G.T.g T cK tI
    obtain ⟨fd, bd, F⟩ := K10.law_G (P := (PySem.Challenge.rw_slotsums_k10_ratios_two_by_two).prog) (w := w) (Pt := Pt) T hc
    have e1 : (HandSHeadRun.topDef K10.R.prog 29).name = ("law" : PySem.Str) := by kernel_rfl
    have e2 := (T.gl "law" (by decide)).symm.trans ((congrArg mg e1).symm.trans hmg)
    cases e2
    exact K10.lawGT kin G.T.g G.T.b G.T.builtins G.T.nolimit ng tO tk ch G.T.bmain here iz (Nat.le_trans lz (by decide)) ⟨rfl, by decide, by decide⟩ (fun b _ _ TB => F b TB) bd fun H hP q => ⟨sc, zs, rfl, q, lz, fun p hp => by rw [List.mem_singleton.mp hp]; exact LamX.TabS.nil hP, fun _ => rfl⟩


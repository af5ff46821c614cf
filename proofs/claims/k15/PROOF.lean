import PyProof.Rows.All
import Wide.All
import OpenK.AllK
import Wide.FinOn
import PyProof.EqAt
import PyProof.EqKinds
import PyProof.TupleCall
import KE.KExcInit
import KE.KExcStr
import HandS.ForMost
import HandS.Exc
import HandS.Defaults
import HandS.Head0
import HandS.Head1
import HandS.Head2
import HandS.HeadEnd
import HandS.HeadHook1
import HandS.HeadHook2
import KE.KExcIs
import HandS.IsInst
import HandS.ExcOwn
import KE.KOpsOwn
import HandS.SlotsOwn
import HandS.Property
import HandS.ClsMeth
import HandS.Gcd
import HandS.FStr
import HandS.Head3
import HandS.Evl
import HandS.Wide
import HandS.ForExc
import HandS.TryOnly
import PyProof.ReprNest
import PyProof.ReprRoads
import HandS.Star
import PyProof.ReprLen
import HandS.TupLe
import HandS.Zip
import HandS.Walk
import PySem.Challenge.RW_slotsums_k15_whole_ratios_in_chains
set_option Elab.async false
set_option linter.all false
set_option maxRecDepth 100000
set_option maxHeartbeats 4000000
namespace PySem
namespace Er
open PySem.W PySem.Calls PyProof.Rows PySem.HandSPX
section
variable {M : Model} {A : Around} {E : Value → Shared → Prop} {h : Heap} {g : Array GenState} {d : Drawn} {t : Nat} {os : OsState}
variable {nm q : Str} {C N : Addr} {bs bm bmB : List Value} {hdct : Bool} {sn : List Str} {sub : List Value} {ab : Bool} {col : Option Bool}
variable {dd : Option Addr} {k0 k1 k2 k3 k5 : Option Value} {B newId initId : String}
variable {prog : Program} {w : World} {R : Result → Shared → Prop}

theorem check_newK (FB : ExcBaseFacts B newId initId bmB) (hT : ∀ T : String, bm.contains (.type T) = bmB.contains (.type T)) {rest : List Value}
    {kw : List (Str × Value)} {Q : Unit → Shared → Prop}
    (hC : h.get? C = some (excClassObj nm q C N bs bm hdct sn sub ab col dd k0 k1 k2 k3 k5 newId))
    (hq : Q () ⟨h, g, d, t, os⟩) : wpAny M A (checkBuiltinCall newId ⟨.ref C :: rest, kw⟩) Q E ⟨h, g, d, t, os⟩ := by
  have hcont : (Value.ref C :: bm).contains (.type B) = true := by
    rw [List.contains_cons, hT, FB.hasB, Bool.or_true]
  have hstar := FB.noStar
  simp only [checkBuiltinCall, FB.newKind, FB.newSplit, FB.newRow]
  repeat (first
    | refine wpAny_loadPart_at hC ?_
    | (refine wpAny_isSubtype_exc hC ?_; rw [hcont])
    | refine wpAny_staticBase_exc hC ?_
    | refine wpAny_madeBy_exc hC ?_
    | simp only [bne_self_eq_false, Bool.false_eq_true, if_false]
    | wp_step)
  exact hq

theorem newK (FB : ExcBaseFacts B newId initId bmB) (hT : ∀ T : String, bm.contains (.type T) = bmB.contains (.type T)) {rest : List Value} {kw : List (Str × Value)}
    (hC : h.get? C = some (excClassObj nm q C N bs bm hdct sn sub ab col dd k0 k1 k2 k3 k5 newId))
    (hq : R (.ok (.ret (.ref (h.objs.size + 1)))) ⟨(h.push (kdv_tup rest)).push (excO C h.objs.size), g, d, t, os⟩) (hrest : rest.length ≤ sizeLine) :
    codeAny (model prog w) A (.builtin newId ⟨.ref C :: rest, kw⟩) R ⟨h, g, d, t, os⟩ := by
  have hends := FB.ends
  have hcB : (Value.ref C :: bm).contains (.type B) = true := by
    rw [List.contains_cons, hT, FB.hasB, Bool.or_true]
  have hcA : (Value.ref C :: bm).contains (.type "AttributeError") = false := by
    rw [List.contains_cons, hT, FB.noAttr]
    rfl
  have hcN : (Value.ref C :: bm).contains (.type "NameError") = false := by
    rw [List.contains_cons, hT, FB.noName]
    rfl
  refine codeAny_builtinAt FB.entry ?_
  unfold Builtin.«BaseException.__new__»
  refine wpAt_bind ?_
  show wpAt _ _ _ (stack >>= _) _ _ _
  refine wpAt_bind (wpAt_stack fun p below => wpAt_of_wpAny ?_)
  wp_walk
  refine wpAt_of_wpAny ?_
  rw [FB.owner]
  repeat (first
    | with_reducible refine wpAny_madeHere_exc FB.canon hC ?_
    | with_reducible refine wpAny_loadPart_at hC ?_
    | (with_reducible refine wpAny_isSubtype_exc hC ?_; first | rw [hcB] | rw [hcA] | rw [hcN])
    | wp_step)
  show R _ _
  rw [Heap.size_push]
  exact hq

theorem type_callK (FB : ExcBaseFacts B newId initId bmB) (hT : ∀ T : String, bm.contains (.type T) = bmB.contains (.type T)) {rest : List Value} {kw : List (Str × Value)} {fI : Addr} {Q : Fin → Shared → Prop}
    (hC : h.get? C = some (excClassObj nm q C N bs bm hdct sn sub ab col dd k0 k1 k2 k3 k5 newId))
    (hi : W.Looks (model prog w) h (typeLookup (.ref C) "__init__") (some (.ref fI)))
    (hb : ∀ self, W.Looks (model prog w) h (bindSpecial (.ref fI) self) (.ref fI, [self])) (hrest : rest.length ≤ sizeLine)
    (hq : codeAny (model prog w) A (.call (.ref fI) ⟨.ref (h.objs.size + 1) :: rest, kw⟩)
      (fun r s' => match r with | .ok (.ret v) => v = .none ∧ Q (.done (.ret (.ref (h.objs.size + 1)))) s' | .ok _ => False | .error e => E e s')
      ⟨(h.push (kdv_tup rest)).push (excO C h.objs.size), g, d, t, os⟩) :
    wpAny (model prog w) A (Builtin.«type.__call__» ⟨.ref C :: rest, kw⟩) Q E ⟨h, g, d, t, os⟩ := by
  repeat (first
    | with_reducible refine wpAny_loadPart_at hC ?_
    | with_reducible refine wpAny_madeBy_exc hC ?_
    | wp_step)
  refine codeAny_call_builtin_code (Code.quiet_builtin _ FB.quiet) (check_newK FB hT hC ?_)
  refine newK FB hT hC ?_ hrest
  show wpAny _ _ _ _ _ _
  have k : ∀ b o, h.get? b = some o → ((h.push (kdv_tup rest)).push (excO C h.objs.size)).get? b = some o :=
    fun b o e => Heap.get?_push_of_some _ (Heap.get?_push_of_some _ e)
  have hC1 := k _ _ hC
  have hget : ((h.push (kdv_tup rest)).push (excO C h.objs.size)).get? (h.objs.size + 1) = some (excO C h.objs.size) := by heap_get
  have hcC : (Value.ref C :: bm).contains (.ref C) = true := by simp
  have i1 := hi.keeps k
  have b1 := (hb (.ref (h.objs.size + 1))).keeps k
  unfold isInstance
  repeat (first
    | with_reducible refine wpAny_loadPart_at hget ?_
    | (with_reducible refine wpAny_isSubtype_exc hC1 ?_; rw [hcC])
    | wp_step)
  show wpAny _ _ (typeLookup (.ref C) _) _ _ _
  refine i1.at ?_
  refine wpAny_holding (wpAny_bind (b1.at ?_))
  refine wpAny_bind (wpAny_call (codeAny_mono hq fun r s' z => ?_))
  rcases r with e | (v | _ | _ | _) <;> first | exact z | exact z.elim | skip
  obtain ⟨rfl, z⟩ := z
  first
    | exact wpAny_pure (wpAny_pure z)
    | (wp_walk; exact z)

theorem call_ownK (FB : ExcBaseFacts B newId initId bmB) (hT : ∀ T : String, bm.contains (.type T) = bmB.contains (.type T)) {rest : List Value} {kw : List (Str × Value)} {fI : Addr}
    (hC : h.get? C = some (excClassObj nm q C N bs bm hdct sn sub ab col dd k0 k1 k2 k3 k5 newId))
    (hi : W.Looks (model prog w) h (typeLookup (.ref C) "__init__") (some (.ref fI)))
    (hb : ∀ self, W.Looks (model prog w) h (bindSpecial (.ref fI) self) (.ref fI, [self])) (hrest : rest.length ≤ sizeLine)
    (hq : codeAny (model prog w) (A.under (.builtin "type.__call__" ⟨.ref C :: rest, kw⟩)) (.call (.ref fI) ⟨.ref (h.objs.size + 1) :: rest, kw⟩)
      (W.InitBack (h.objs.size + 1) R) ⟨(h.push (kdv_tup rest)).push (excO C h.objs.size), g, d, t, os⟩) :
    codeAny (model prog w) A (.call (.ref C) ⟨rest, kw⟩) R ⟨h, g, d, t, os⟩ := by
  have f1 := tc_lookup
  have f2 := tc_bind (.ref C)
  have hTy : (⟨h, g, d, t, os⟩ : Shared).TypeIs (.ref C) "type" := ⟨_, hC, rfl⟩
  refine codeAny_of_tree ?_
  show wpAny _ _ (callAny (.ref C) _) _ _ _
  repeat (any_goals (first
    | assumption
    | with_reducible refine wpAny_loadPart_at hC ?_
    | wp_step))
  refine ⟨rfl, ?_⟩
  refine codeAny_call_builtin_at (Code.quiet_builtin _ (by decide +kernel)) entry_typeCall (wpAny_check_type_call_sub hC (type_callK FB hT hC hi hb hrest ?_))
  refine codeAny_mono hq fun r s' z => ?_
  rcases r with e | (v | _ | _ | _) <;> exact z
end
end Er
end PySem

set_option maxHeartbeats 4000000
namespace PySem
namespace Er
open PySem.W PySem.Calls PyProof.Rows Builtin Builtin.ObjectAttr
open PySem.HandSPX (excO)
section
variable {prog : Program} {w : World} {A : Around} {E : Value → Shared → Prop} {R : Result → Shared → Prop} {hp : Heap} {g : Array GenState} {d : Drawn} {t : Nat} {os : OsState}
variable {K : Frag} {C : Addr} {B : String} {bmB : List Value}

/-- the first field of an error -/
theorem put_new {name : Str} {tk : Tok} {v : Value} {x t0 : Addr} (SF : StoreFacts B bmB "object.__setattr__" "object") (X : K.In hp)
    (hx : hp.get? x = some (excO C t0)) (ho : excOver K C bmB = true) (ht : takerIn K C name = some none) (hh : hasDictIn K C = true)
    (hq : ∀ h' tk' dx, (∀ b o, b ≠ x → hp.get? b = some o → h'.get? b = some o) → hp.objs.size ≤ dx → dx ≠ x →
      h'.get? x = some { cls := .ref C, dict := some dx, data := .fields #[.ref t0, .none, .none, .none, .bool false, .none] } →
      h'.Ns1 dx (fun y => if y = name then some v else none) → R (.ok (.ret .none)) ⟨h', g, d, tk', os⟩) :
    codeAny (model prog w) A (.call (.builtin "object.__setattr__") ⟨[.ref x, .str name tk, v], []⟩) R ⟨hp, g, d, t, os⟩ := by
  have hxs : x ≠ hp.objs.size := Nat.ne_of_lt (Heap.lt_size hx)
  refine osa_openX (od := none) SF X ⟨hx, rfl, rfl, trivial⟩ ho ht fun b => ?_
  obtain ⟨cd, hc, hd'⟩ := any_some hh
  have hcls : W.Looks (model prog w) hp (classData C) cd := looks_clsIn X hc
  obtain ⟨nm, bs, mro, ns, qn, hd, sn, sb, ab, col, del⟩ := cd
  dsimp only at hd'
  subst hd'
  unfold storeInOwnDict ownDictForStores
  repeat (first
    | with_reducible refine PX.store_in_new ?_ ?_
    | with_reducible refine wpAny_loadPart_at hx ?_
    | with_reducible refine hcls.at ?_
    | wp_step)
  · exact ⟨_, #[], _, (Heap.get?_update_ne _ _ _ _ hxs.symm).trans (Heap.get?_push_at rfl rfl), rfl, fun e he => absurd he (by simp), fun _ => rfl⟩
  · intro h' tk' hn' hs
    have hx1 : (hp.push { cls := .type "dict", data := .dict #[] }).get? x = some (excO C t0) := Heap.get?_push_of_some _ hx
    refine hq h' tk' hp.objs.size (fun b o hb ho => ?_) (Nat.le_refl _) hxs.symm ?_ hn'
    · exact (hs.2 b (Nat.ne_of_lt (Heap.lt_size ho))).trans ((Heap.get?_update_ne _ _ _ _ hb).trans (Heap.get?_push_of_some _ ho))
    · exact (hs.2 x hxs).trans (Heap.get?_update_self _ hx1 rfl)

/-- a further one -/
theorem put_old {name : Str} {tk : Tok} {v : Value} {x dx : Addr} {fv : Array Value} {m0 : Str → Option Value} {nl : List Str} (SF : StoreFacts B bmB "object.__setattr__" "object") (X : K.In hp)
    (hx : hp.get? x = some { cls := .ref C, dict := some dx, data := .fields fv }) (hns : hp.Ns1 dx m0) (hw : Within m0 nl) (hz : nl.length ≤ 1000)
    (ho : excOver K C bmB = true) (ht : takerIn K C name = some none) (hh : hasDictIn K C = true)
    (hq : ∀ h' tk', (∀ b o, b ≠ dx → hp.get? b = some o → h'.get? b = some o) → h'.Ns1 dx (fun y => if y = name then some v else m0 y) →
      R (.ok (.ret .none)) ⟨h', g, d, tk', os⟩) :
    codeAny (model prog w) A (.call (.builtin "object.__setattr__") ⟨[.ref x, .str name tk, v], []⟩) R ⟨hp, g, d, t, os⟩ := by
  obtain ⟨oD, esD, epD, hoD, hdD, _⟩ := hns.count hw
  refine osa_openX (od := some oD) SF X ⟨hx, rfl, rfl, hoD⟩ ho ht fun b => ?_
  obtain ⟨cd, hc, hd'⟩ := any_some hh
  have hcls : W.Looks (model prog w) hp (classData C) cd := looks_clsIn X hc
  obtain ⟨nm, bs, mro, ns, qn, hd, sn, sb, ab, col, del⟩ := cd
  dsimp only at hd'
  subst hd'
  unfold storeInOwnDict ownDictForStores
  repeat (first
    | with_reducible refine PX.store_in_old hns hw hz ?_
    | with_reducible refine wpAny_loadPart_at hx ?_
    | with_reducible refine hcls.at ?_
    | wp_step)
  intro h' tk' hn' hs
  exact hq h' tk' (fun b o hb ho => (hs.2 b hb).trans ho) hn'
end

/-! ### the texts of the two kinds of __init__ -/
def iA1 (f : Str) (p1 p2 : Pos) : Arguments :=
  { posonlyargs := [], args := [{ arg := "self", annotation := none, pos := p1 }, { arg := f, annotation := none, pos := p2 }], vararg := none, kwonlyargs := [], kw_defaults := [], kwarg := none, defaults := [] }
def iB1 (f : Str) (q1 q2 q3 q4 : Pos) : List Stmt := [.Assign [.Attribute (.Name "self" q1) f q2] (.Name f q3) q4]
def iS1 (f : Str) : Scope := { kind := .function, names := [(PySem.Str.ofString "self", .local), (f, .local)], isGenerator := false, isCoroutine := false, more := [] }
def iA2 (f f' : Str) (p1 p2 p3 : Pos) : Arguments :=
  { posonlyargs := [], args := [{ arg := "self", annotation := none, pos := p1 }, { arg := f, annotation := none, pos := p2 }, { arg := f', annotation := none, pos := p3 }], vararg := none, kwonlyargs := [], kw_defaults := [], kwarg := none, defaults := [] }
def iB2 (f f' : Str) (q1 q2 q3 q4 r1 r2 r3 r4 : Pos) : List Stmt :=
  [.Assign [.Attribute (.Name "self" q1) f q2] (.Name f q3) q4, .Assign [.Attribute (.Name "self" r1) f' r2] (.Name f' r3) r4]
def iS2 (f f' : Str) : Scope := { kind := .function, names := [(PySem.Str.ofString "self", .local), (f, .local), (f', .local)], isGenerator := false, isCoroutine := false, more := [] }

/-- a local name is read -/
theorem ld {M : Model} {s : Shared} {name : Str} {scope : Scope} {L a : Addr} {cd : Value} {m : Str → Option Value} {x : Str} {pos : Pos} {v : Value} {Q : Value → Shared → Prop} {A : Around} {E : Value → Shared → Prop}
    (hn : s.heap.Ns L m) (hv : m x = some v) (h : Q v s) (hk : scope.kind = .function) (hl : (envOfC name scope L a cd).kindOf x = some .local) (hd : (x == ("__debug__" : Str)) = false) :
    wpAny M A (eval (.Name x pos) (envOfC name scope L a cd)) Q E s := wpAny_Name (wpAny_loadName_local hk hl hn hv h) hd

/-- what the class at C says of making and storing -/
structure Cl (K : Frag) (C : Addr) (B newId initId : String) (bmB : List Value) : Prop where
  FB : ExcBaseFacts B newId initId bmB
  SF : StoreFacts B bmB "object.__setattr__" "object"
  ini : excInitIn K C bmB newId = true
  ov : excOver K C bmB = true
  hd : hasDictIn K C = true
  sa : findIn K (.ref C) "__setattr__" = some (some (.builtin "object.__setattr__"))
  kC : keepIn K (.ref C) = true
/-- of its __init__ with one field -/
structure In1 (K : Frag) (C : Addr) (f : Str) : Prop where
  tk : takerIn K C f = some none
  nd : (f == ("__debug__" : Str)) = false
  ns : (f == ("self" : Str)) = false
  fn : ∃ (fI : Addr) (qual : Str) (oc : Value) (od : Option Addr) (kV doc pm : Value) (an : Option Addr) (cdv ct : Value) (osl : Array (Option Value)) (p1 p2 q1 q2 q3 q4 : Pos),
    findIn K (.ref C) "__init__" = some (some (.ref fI)) ∧ typeIn K (.ref fI) = some (.type "function") ∧
    K.lookup fI = some ⟨oc, od, .func (fnOf "__init__" qual (iA1 f p1 p2) (iB1 f q1 q2 q3 q4) (iS1 f) .none kV doc pm an cdv ct), osl⟩ ∧ codeIn K cdv qual = true
/-- of its __init__ with two fields -/
structure In2 (K : Frag) (C : Addr) (f f' : Str) : Prop where
  tk : takerIn K C f = some none
  tk' : takerIn K C f' = some none
  nd : (f == ("__debug__" : Str)) = false
  nd' : (f' == ("__debug__" : Str)) = false
  ns : (f == ("self" : Str)) = false
  ns' : (f' == ("self" : Str)) = false
  nf : (f' == f) = false
  fn : ∃ (fI : Addr) (qual : Str) (oc : Value) (od : Option Addr) (kV doc pm : Value) (an : Option Addr) (cdv ct : Value) (osl : Array (Option Value)) (p1 p2 p3 q1 q2 q3 q4 r1 r2 r3 r4 : Pos),
    findIn K (.ref C) "__init__" = some (some (.ref fI)) ∧ typeIn K (.ref fI) = some (.type "function") ∧
    K.lookup fI = some ⟨oc, od, .func (fnOf "__init__" qual (iA2 f f' p1 p2 p3) (iB2 f f' q1 q2 q3 q4 r1 r2 r3 r4) (iS2 f f') .none kV doc pm an cdv ct), osl⟩ ∧ codeIn K cdv qual = true

/-- a made error: e of the class C, its dict d, its arguments' tuple t -/
structure Made (h h' : Heap) (e C d t : Addr) (args : List Value) (m : Str → Option Value) : Prop where
  keep : ∀ b o, h.get? b = some o → h'.get? b = some o
  be : h.objs.size ≤ e
  bt : h.objs.size ≤ t
  bd : h.objs.size ≤ d
  te : t ≠ e
  de : d ≠ e
  dt : d ≠ t
  obj : h'.get? e = some { cls := .ref C, dict := some d, data := .fields #[.ref t, .none, .none, .none, .bool false, .none] }
  tup : h'.get? t = some (kdv_tup args)
  ns : h'.Ns1 d m
end Er
end PySem

set_option maxHeartbeats 4000000
namespace PySem
namespace Er
open PySem.W PySem.Calls PyProof.Rows Builtin Builtin.ObjectAttr
open PySem.HandSPX (excO)
section
variable {prog : Program} {w : World} {A : Around} {E : Value → Shared → Prop} {R : Result → Shared → Prop} {s : Shared}
variable {K : Frag} {C : Addr} {B newId initId : String} {bmB : List Value} {f f' : Str}

theorem kind1 {f : Str} (ns : (f == ("self" : Str)) = false) : (iS1 f).names.lookup f = some .local := by
  show List.lookup f [(PySem.Str.ofString "self", NameKind.local), (f, NameKind.local)] = some NameKind.local
  have e : (f == PySem.Str.ofString "self") = false := ns
  simp [List.lookup, e]
theorem kind2 {f f' : Str} (ns : (f == ("self" : Str)) = false) : (iS2 f f').names.lookup f = some .local := by
  show List.lookup f [(PySem.Str.ofString "self", NameKind.local), (f, NameKind.local), (f', NameKind.local)] = some NameKind.local
  have e : (f == PySem.Str.ofString "self") = false := ns
  simp [List.lookup, e]
theorem kind2' {f f' : Str} (ns : (f' == ("self" : Str)) = false) (nf : (f' == f) = false) : (iS2 f f').names.lookup f' = some .local := by
  show List.lookup f' [(PySem.Str.ofString "self", NameKind.local), (f, NameKind.local), (f', NameKind.local)] = some NameKind.local
  have e : (f' == PySem.Str.ofString "self") = false := ns
  simp [List.lookup, e, nf]

theorem ne_of_beq {a b : Str} (h : (a == b) = false) : a ≠ b := fun e => by
  subst e
  simp at h

/-- the body of an __init__ with one field -/
theorem body1 (c : Cl K C B newId initId bmB) (i : In1 K C f) {x t0 L a : Addr} {cd v : Value} {qual : Str} {q1 q2 q3 q4 : Pos} {m : Str → Option Value} (X : K.In s.heap)
    (hx : s.heap.get? x = some (excO C t0)) (hn : s.heap.Ns L m) (m1 : m "self" = some (.ref x)) (m2 : m f = some v) {Q : Flow → Shared → Prop}
    (hq : ∀ h' tk' dx, (∀ b o, b ≠ x → s.heap.get? b = some o → h'.get? b = some o) → s.heap.objs.size ≤ dx → dx ≠ x →
      h'.get? x = some { cls := .ref C, dict := some dx, data := .fields #[.ref t0, .none, .none, .none, .bool false, .none] } →
      h'.Ns1 dx (fun y => if y = f then some v else none) → Q .next { s with heap := h', toks := tk' }) :
    wpAny (model prog w) A (execs (iB1 f q1 q2 q3 q4) (envOfC qual (iS1 f) L a cd)) Q E s := by
  show wpAny _ _ (execs _ _) _ _ _
  refine wpAny_execs_cons (plainObj_wpAny_Assign_Attribute ?_)
  refine ld (v := v) hn m2 (ld (v := .ref x) hn m1 ?_ rfl rfl (by decide)) rfl (kind1 i.ns) i.nd
  refine set_plain X (ox := excO C t0) (od := none) ⟨hx, rfl, rfl, trivial⟩ c.sa ?_
  refine put_new c.SF X hx c.ov i.tk c.hd (fun h' tk' dx k dn dne hx' hns => ?_)
  show wpAny _ _ (execs _ _) _ _ _
  exact wpAny_execs_nil (hq h' tk' dx k dn dne hx' hns)
/-- .. with two -/
theorem body2 (c : Cl K C B newId initId bmB) (i : In2 K C f f') {x t0 L a : Addr} {cd v v' : Value} {qual : Str} {q1 q2 q3 q4 r1 r2 r3 r4 : Pos} {m : Str → Option Value} (X : K.In s.heap)
    (hx : s.heap.get? x = some (excO C t0)) (hLx : L ≠ x) (hKx : K.lookup x = none) (hn : s.heap.Ns L m) (m1 : m "self" = some (.ref x)) (m2 : m f = some v) (m3 : m f' = some v') {Q : Flow → Shared → Prop}
    (hq : ∀ h' tk' dx, (∀ b o, b ≠ x → s.heap.get? b = some o → h'.get? b = some o) → s.heap.objs.size ≤ dx → dx ≠ x →
      h'.get? x = some { cls := .ref C, dict := some dx, data := .fields #[.ref t0, .none, .none, .none, .bool false, .none] } →
      h'.Ns1 dx (fun y => if y = f' then some v' else if y = f then some v else none) → Q .next { s with heap := h', toks := tk' }) :
    wpAny (model prog w) A (execs (iB2 f f' q1 q2 q3 q4 r1 r2 r3 r4) (envOfC qual (iS2 f f') L a cd)) Q E s := by
  show wpAny _ _ (execs _ _) _ _ _
  refine wpAny_execs_cons (plainObj_wpAny_Assign_Attribute ?_)
  refine ld (v := v) hn m2 (ld (v := .ref x) hn m1 ?_ rfl rfl (by decide)) rfl (kind2 i.ns) i.nd
  refine set_plain X (ox := excO C t0) (od := none) ⟨hx, rfl, rfl, trivial⟩ c.sa ?_
  refine put_new c.SF X hx c.ov i.tk c.hd (fun h' tk' dx k dn dne hx' hns => ?_)
  have X' : K.In h' := fun b o e => k b o (fun z => by rw [z, hKx] at e; cases e) (X b o e)
  have hn' : h'.Ns L m := by
    obtain ⟨o, es, ep, ho, r⟩ := hn
    exact ⟨o, es, ep, k _ _ hLx ho, r⟩
  show wpAny _ _ (execs _ _) _ _ _
  refine wpAny_execs_cons (plainObj_wpAny_Assign_Attribute ?_)
  refine ld (v := v') hn' m3 (ld (v := .ref x) hn' m1 ?_ rfl rfl (by decide)) rfl (kind2' i.ns' i.nf) i.nd'
  obtain ⟨oD, esD, epD, hoD, hdD, _⟩ := hns.count (Within.cons f v Within.nil)
  refine set_plain X' (ox := { cls := .ref C, dict := some dx, data := .fields #[.ref t0, .none, .none, .none, .bool false, .none] }) (od := some oD) ⟨hx', rfl, rfl, hoD⟩ c.sa ?_
  refine put_old c.SF X' hx' hns (Within.cons f v Within.nil) (by simp) c.ov i.tk' c.hd (fun h2 tk2 k2 hns2 => ?_)
  show wpAny _ _ (execs _ _) _ _ _
  exact wpAny_execs_nil (hq h2 tk2 dx (fun b o hb e => k2 b o (fun z => absurd (Heap.lt_size e) (by rw [z]; exact Nat.not_lt.mpr dn)) (k b o hb e)) dn dne (k2 x _ (Ne.symm dne) hx') hns2)

theorem map1 {kindOf : Str → Option NameKind} {x v : Value} {f : Str} (e0 : kindOf "self" = some .local) (e1 : kindOf f = some .local) (ns : (f == ("self" : Str)) = false) :
    bindL kindOf [("self", x), (f, v)] (fun _ => none) "self" = some x ∧ bindL kindOf [("self", x), (f, v)] (fun _ => none) f = some v := by
  have n1 : ¬ (("self" : Str) = f) := fun e => ne_of_beq ns e.symm
  constructor
  · show (if kindOf f = some .local then fun y => if y = f then some v else (if kindOf "self" = some .local then fun y => if y = ("self" : Str) then some x else none else fun _ => none) y else _) ("self" : Str) = some x
    rw [if_pos e1, if_pos e0]
    simp [n1]
  · show (if kindOf f = some .local then fun y => if y = f then some v else (if kindOf "self" = some .local then fun y => if y = ("self" : Str) then some x else none else fun _ => none) y else _) f = some v
    rw [if_pos e1]
    simp
theorem map2 {kindOf : Str → Option NameKind} {x v v' : Value} {f f' : Str} (e0 : kindOf "self" = some .local) (e1 : kindOf f = some .local) (e2 : kindOf f' = some .local) (ns : (f == ("self" : Str)) = false) (ns' : (f' == ("self" : Str)) = false) (nf : (f' == f) = false) :
    bindL kindOf [("self", x), (f, v), (f', v')] (fun _ => none) "self" = some x ∧ bindL kindOf [("self", x), (f, v), (f', v')] (fun _ => none) f = some v ∧ bindL kindOf [("self", x), (f, v), (f', v')] (fun _ => none) f' = some v' := by
  have n1 : ¬ (("self" : Str) = f) := fun e => ne_of_beq ns e.symm
  have n2 : ¬ (("self" : Str) = f') := fun e => ne_of_beq ns' e.symm
  have n3 : ¬ (f = f') := fun e => ne_of_beq nf e.symm
  refine ⟨?_, ?_, ?_⟩
  all_goals simp [bindL, e0, e1, e2, n1, n2, n3]

/-- a call of the class, one field -/
theorem made1 (c : Cl K C B newId initId bmB) (i : In1 K C f) {rest : List Value} {kw : List (Str × Value)} {v : Value} (X : K.In s.heap) (hlim : s.heap.NoLimit) (hroom : A.depth + 1 < recursionLimit) (hz : rest.length ≤ sizeLine)
    (hb : ∀ (s : Shared) (qual : Str) (p1 p2 q1 q2 q3 q4 : Pos) (kV doc pm : Value) (an : Option Addr) (cdv ct x : Value),
      BindsTo s (fnOf "__init__" qual (iA1 f p1 p2) (iB1 f q1 q2 q3 q4) (iS1 f) .none kV doc pm an cdv ct) ⟨x :: rest, kw⟩ [("self", x), (f, v)])
    (hq : ∀ h' tk e d t, Made s.heap h' e C d t rest (fun y => if y = f then some v else none) → R (.ok (.ret (.ref e))) { s with heap := h', toks := tk }) :
    codeAny (model prog w) A (.call (.ref C) ⟨rest, kw⟩) R s := by
  obtain ⟨fI, qual, oc, od, kV, doc, pm, an, cdv, ct, osl, p1, p2, q1, q2, q3, q4, hi, ht, ho, hcd⟩ := i.fn
  obtain ⟨nm, N, qn, bs, bm, hdct, sn, sub, ab, col, dd, k0, k1, k2, k3, k5, hC, hT⟩ := excInit_of X c.ini
  obtain ⟨hp, g, dr, tk, os⟩ := s
  have k : ∀ b o, hp.get? b = some o → ((hp.push (kdv_tup rest)).push (excO C hp.objs.size)).get? b = some o := fun b o e => Heap.get?_push_of_some _ (Heap.get?_push_of_some _ e)
  have hget : ((hp.push (kdv_tup rest)).push (excO C hp.objs.size)).get? (hp.objs.size + 1) = some (excO C hp.objs.size) := by heap_get
  have hget0 : ((hp.push (kdv_tup rest)).push (excO C hp.objs.size)).get? hp.objs.size = some (kdv_tup rest) := by heap_get
  have hsz : ((hp.push (kdv_tup rest)).push (excO C hp.objs.size)).objs.size = hp.objs.size + 1 + 1 := by rw [Heap.size_push, Heap.size_push]
  refine call_ownK c.FB hT hC (looks_findIn X hi) (fun self => bind_fn X self ht) hz ?_
  refine Att.call_fn (s := ⟨(hp.push (kdv_tup rest)).push (excO C hp.objs.size), g, dr, tk, os⟩) (binds := [("self", .ref (hp.objs.size + 1)), (f, v)]) (X.keeps k) (hlim.keeps k) ho hcd ?_ (hb _ _ _ _ _ _ _ _ _ _ _ _ _ _ _) ?_ (fun s1 IC => ?_) rfl rfl rfl
  · show A.depth + 1 < recursionLimit
    exact hroom
  · have e1 : (iS1 f).names.lookup f = some .local := kind1 i.ns
    have e0 : (iS1 f).names.lookup ("self" : Str) = some NameKind.local := rfl
    simp [List.all, e1, e0]
  obtain ⟨h1, tk1, rfl⟩ := IC.toInCall.same
  have ks : ∀ b o, ((hp.push (kdv_tup rest)).push (excO C hp.objs.size)).get? b = some o → h1.get? b = some o := IC.toInCall.keep
  have hn := IC.toInCall.ns
  obtain ⟨m1, m2⟩ := map1 (kindOf := (envOfC qual (iS1 f) ((hp.push (kdv_tup rest)).push (excO C hp.objs.size)).objs.size fI cdv).kindOf) (x := .ref (hp.objs.size + 1)) (v := v) rfl (kind1 i.ns) i.ns
  refine wpAny_mono (body1 c i ((X.keeps k).keeps ks) (ks _ _ hget) hn m1 m2 (Q := fun fl s' => fl = .next ∧ ∃ h' tk' dx, s' = ⟨h', g, dr, tk', os⟩ ∧ Made hp h' (hp.objs.size + 1) C dx hp.objs.size rest (fun y => if y = f then some v else none)) (fun h' tk' dx k' dn dne hx hns => ⟨rfl, h', tk', dx, rfl, ?_⟩)) (fun fl s' hh => ?_) (fun e s' hh => hh)
  · have lt1 : hp.objs.size + 1 < h1.objs.size := Heap.lt_size (ks _ _ hget)
    have z2 : h1.objs.size ≤ dx := dn
    have z3 : hp.objs.size < dx := by omega
    exact ⟨fun b o e => k' b o (Nat.ne_of_lt (Nat.lt_succ_of_lt (Heap.lt_size e))) (ks _ _ (k _ _ e)), Nat.le_succ _, Nat.le_refl _, Nat.le_of_lt z3, Nat.ne_of_lt (Nat.lt_succ_self _), dne, Nat.ne_of_gt z3, hx, k' _ _ (Nat.ne_of_lt (Nat.lt_succ_self _)) (ks _ _ hget0), hns⟩
  · obtain ⟨rfl, h', tk', dx, rfl, M⟩ := hh
    exact ⟨rfl, hq h' tk' (hp.objs.size + 1) dx hp.objs.size M⟩
/-- .. two -/
theorem made2 (c : Cl K C B newId initId bmB) (i : In2 K C f f') {rest : List Value} {kw : List (Str × Value)} {v v' : Value} (X : K.In s.heap) (hlim : s.heap.NoLimit) (hroom : A.depth + 1 < recursionLimit) (hz : rest.length ≤ sizeLine)
    (hb : ∀ (s : Shared) (qual : Str) (p1 p2 p3 q1 q2 q3 q4 r1 r2 r3 r4 : Pos) (kV doc pm : Value) (an : Option Addr) (cdv ct x : Value),
      BindsTo s (fnOf "__init__" qual (iA2 f f' p1 p2 p3) (iB2 f f' q1 q2 q3 q4 r1 r2 r3 r4) (iS2 f f') .none kV doc pm an cdv ct) ⟨x :: rest, kw⟩ [("self", x), (f, v), (f', v')])
    (hq : ∀ h' tk e d t, Made s.heap h' e C d t rest (fun y => if y = f' then some v' else if y = f then some v else none) → R (.ok (.ret (.ref e))) { s with heap := h', toks := tk }) :
    codeAny (model prog w) A (.call (.ref C) ⟨rest, kw⟩) R s := by
  obtain ⟨fI, qual, oc, od, kV, doc, pm, an, cdv, ct, osl, p1, p2, p3, q1, q2, q3, q4, r1, r2, r3, r4, hi, ht, ho, hcd⟩ := i.fn
  obtain ⟨nm, N, qn, bs, bm, hdct, sn, sub, ab, col, dd, k0, k1, k2, k3, k5, hC, hT⟩ := excInit_of X c.ini
  obtain ⟨hp, g, dr, tk, os⟩ := s
  have k : ∀ b o, hp.get? b = some o → ((hp.push (kdv_tup rest)).push (excO C hp.objs.size)).get? b = some o := fun b o e => Heap.get?_push_of_some _ (Heap.get?_push_of_some _ e)
  have hget : ((hp.push (kdv_tup rest)).push (excO C hp.objs.size)).get? (hp.objs.size + 1) = some (excO C hp.objs.size) := by heap_get
  have hget0 : ((hp.push (kdv_tup rest)).push (excO C hp.objs.size)).get? hp.objs.size = some (kdv_tup rest) := by heap_get
  have hsz : ((hp.push (kdv_tup rest)).push (excO C hp.objs.size)).objs.size = hp.objs.size + 1 + 1 := by rw [Heap.size_push, Heap.size_push]
  have hKx : K.lookup (hp.objs.size + 1) = none := by
    cases e : K.lookup (hp.objs.size + 1) with
    | none => rfl
    | some o =>
      have z : hp.get? (hp.objs.size + 1) = some o := X _ _ e
      exact absurd (Nat.lt_of_succ_lt (Heap.lt_size z)) (Nat.lt_irrefl _)
  refine call_ownK c.FB hT hC (looks_findIn X hi) (fun self => bind_fn X self ht) hz ?_
  refine Att.call_fn (s := ⟨(hp.push (kdv_tup rest)).push (excO C hp.objs.size), g, dr, tk, os⟩) (binds := [("self", .ref (hp.objs.size + 1)), (f, v), (f', v')]) (X.keeps k) (hlim.keeps k) ho hcd ?_ (hb _ _ _ _ _ _ _ _ _ _ _ _ _ _ _ _ _ _ _ _) ?_ (fun s1 IC => ?_) rfl rfl rfl
  · show A.depth + 1 < recursionLimit
    exact hroom
  · have e1 : (iS2 f f').names.lookup f = some .local := kind2 i.ns
    have e2 : (iS2 f f').names.lookup f' = some .local := kind2' i.ns' i.nf
    have e0 : (iS2 f f').names.lookup ("self" : Str) = some NameKind.local := rfl
    simp [List.all, e1, e2, e0]
  obtain ⟨h1, tk1, rfl⟩ := IC.toInCall.same
  have ks : ∀ b o, ((hp.push (kdv_tup rest)).push (excO C hp.objs.size)).get? b = some o → h1.get? b = some o := IC.toInCall.keep
  have hn := IC.toInCall.ns
  obtain ⟨m1, m2, m3⟩ := map2 (kindOf := (envOfC qual (iS2 f f') ((hp.push (kdv_tup rest)).push (excO C hp.objs.size)).objs.size fI cdv).kindOf) (x := .ref (hp.objs.size + 1)) (v := v) (v' := v') rfl (kind2 i.ns) (kind2' i.ns' i.nf) i.ns i.ns' i.nf
  have hLx : ((hp.push (kdv_tup rest)).push (excO C hp.objs.size)).objs.size ≠ hp.objs.size + 1 := by omega
  refine wpAny_mono (body2 c i ((X.keeps k).keeps ks) (ks _ _ hget) hLx hKx hn m1 m2 m3 (Q := fun fl s' => fl = .next ∧ ∃ h' tk' dx, s' = ⟨h', g, dr, tk', os⟩ ∧ Made hp h' (hp.objs.size + 1) C dx hp.objs.size rest (fun y => if y = f' then some v' else if y = f then some v else none)) (fun h' tk' dx k' dn dne hx hns => ⟨rfl, h', tk', dx, rfl, ?_⟩)) (fun fl s' hh => ?_) (fun e s' hh => hh)
  · have lt1 : hp.objs.size + 1 < h1.objs.size := Heap.lt_size (ks _ _ hget)
    have z2 : h1.objs.size ≤ dx := dn
    have z3 : hp.objs.size < dx := by omega
    exact ⟨fun b o e => k' b o (Nat.ne_of_lt (Nat.lt_succ_of_lt (Heap.lt_size e))) (ks _ _ (k _ _ e)), Nat.le_succ _, Nat.le_refl _, Nat.le_of_lt z3, Nat.ne_of_lt (Nat.lt_succ_self _), dne, Nat.ne_of_gt z3, hx, k' _ _ (Nat.ne_of_lt (Nat.lt_succ_self _)) (ks _ _ hget0), hns⟩
  · obtain ⟨rfl, h', tk', dx, rfl, M⟩ := hh
    exact ⟨rfl, hq h' tk' (hp.objs.size + 1) dx hp.objs.size M⟩
end
end Er
end PySem

set_option maxHeartbeats 4000000
namespace ErL
open PySem PySem.Spec PyProof.Rows L2
open PySem.Er (Made Cl In1 In2)
/-- an error object at e: its class, its dict (or none), its arguments' tuple -/
def erO (e C : Addr) (d : Option Addr) (t : Addr) : HO := .ext fun h =>
  h.get? e = some ({ cls := .ref C, dict := d, data := .fields #[.ref t, .none, .none, .none, .bool false, .none] } : Obj)
/-- an error of the class at C with these fields, made with these arguments -/
def ErAt (H : Hp) (e C : Addr) (fs : List (Str × V)) (args : List V) : Prop :=
  ∃ (d : Option Addr) (t : Addr), H e = some (erO e C d t) ∧ H t = some (.tup args) ∧ match d with
    | some dx => H dx = some (.xd fs)
    | none => fs = []
theorem ErAt.same {H H' : Hp} {e C : Addr} {fs : List (Str × V)} {args : List V} (x : ErAt H e C fs args) (s : Same H H') : ErAt H' e C fs args := by
  obtain ⟨d, t, h1, h2, h3⟩ := x
  refine ⟨d, t, s _ _ h1, s _ _ h2, ?_⟩
  cases d with
  | none => exact h3
  | some dx => exact s _ _ h3

theorem erO_ok {P : Program} {w : World} {H : Hp} {h : Heap} {e C t : Addr} {d : Option Addr} (he : h.get? e = some ({ cls := .ref C, dict := d, data := .fields #[.ref t, .none, .none, .none, .bool false, .none] } : Obj)) :
    ObjOk P w H h e (erO e C d t) := ⟨he, ⟨_, he⟩, fun _ _ z k => k _ z⟩

section
variable {X : Cx} {pins : List (Addr × Obj)} {σ : L2.St} {H : Hp} {s : Shared} {h' : Heap} {t' : Nat}
/-- several objects laid at once, all of them new -/
theorem laidMany {H' : Hp} (I : Inv X pins σ H s) (k : ∀ b o, s.heap.get? b = some o → h'.get? b = some o) (sm : Same H H') (fr : ∀ b, b < s.heap.objs.size → H b = none → H' b = none)
    (new : ∀ b o, H' b = some o → H b = none → ObjOk X.prog X.w H' h' b o) : Inv X pins σ H' { s with heap := h', toks := t' } := by
  refine I.un ⟨fun b o q _ _ _ => k b o q, fun b o q _ _ _ => ⟨o.slots, k b o q⟩, fun b o q n _ => fr b (Heap.lt_size q) n, fun b o q _ => ⟨o, k b o q⟩, fun b xs q => sm _ _ q, fun b o u q => sm _ _ q, fun b ps q => ⟨#[], by rw [sm _ _ q]; simp⟩⟩ ?_
  intro b o q
  cases e : H b with
  | none => exact new b o q e
  | some o' =>
    have q2 := sm _ _ e
    rw [q] at q2
    cases q2
    exact (I.hok b o e).stay (fun c v _ z => k c v z) (fun c z => sm _ _ z) fun c xs z => sm _ _ z

/-- a made error is tracked -/
theorem made_inv {e C d t : Addr} {args : List Value} {vs : List V} {m : Str → Option Value} {fs : List (Str × V)} {Q : VK} (I : Inv X pins σ H s) (M : Made s.heap h' e C d t args m) (r : Vals vs args) (hz : vs.length ≤ sizeLine)
    (hf : ∀ f, RelO (fs.lookup f) (m f)) (q : ∀ H', ErAt H' e C fs vs → Same H H' → H e = none → Q (.ref e) H') : EP X pins σ Q (.ref e) { s with heap := h', toks := t' } := by
  have ne : H e = none := I.hok.fresh M.be
  have nt : H t = none := I.hok.fresh M.bt
  have nd : H d = none := I.hok.fresh M.bd
  have sm : Same H (upd (upd (upd H t (.tup vs)) d (.xd fs)) e (erO e C (some d) t)) := fun b o z => by
    rw [upd_ne (ne_of_none z ne), upd_ne (ne_of_none z nd), upd_ne (ne_of_none z nt)]
    exact z
  have at_e : (upd (upd (upd H t (.tup vs)) d (.xd fs)) e (erO e C (some d) t)) e = some (erO e C (some d) t) := upd_same
  have at_d : (upd (upd (upd H t (.tup vs)) d (.xd fs)) e (erO e C (some d) t)) d = some (.xd fs) := by rw [upd_ne M.de, upd_same]
  have at_t : (upd (upd (upd H t (.tup vs)) d (.xd fs)) e (erO e C (some d) t)) t = some (.tup vs) := by rw [upd_ne M.te, upd_ne (Ne.symm M.dt), upd_same]
  refine ⟨.ref e, _, laidMany (H' := upd (upd (upd H t (.tup vs)) d (.xd fs)) e (erO e C (some d) t)) I M.keep sm (fun b lt n => ?_) (fun b o z n => ?_), rfl, q _ ⟨some d, t, at_e, at_t, at_d⟩ sm ne⟩
  · rw [upd_ne (Nat.ne_of_lt (Nat.lt_of_lt_of_le lt M.be)), upd_ne (Nat.ne_of_lt (Nat.lt_of_lt_of_le lt M.bd)), upd_ne (Nat.ne_of_lt (Nat.lt_of_lt_of_le lt M.bt))]
    exact n
  · by_cases be : b = e
    · subst be
      rw [at_e] at z
      cases z
      exact erO_ok M.obj
    · by_cases bd : b = d
      · subst bd
        rw [at_d] at z
        cases z
        exact ⟨m, M.ns, hf⟩
      · by_cases bt : b = t
        · subst bt
          rw [at_t] at z
          cases z
          exact ⟨hz, args, r, ⟨_, M.tup, rfl, _, rfl⟩⟩
        · rw [upd_ne be, upd_ne bd, upd_ne bt, n] at z
          cases z
end
theorem rel1 {f : Str} {v : V} {u : Value} (r : RelV v u) (y : Str) : RelO (List.lookup y [(f, v)]) (if y = f then some u else none) := by
  by_cases e : y = f
  · subst e
    simp [List.lookup]
    exact r
  · have e2 : (y == f) = false := by simpa using e
    simp [List.lookup, e, e2]
    trivial
theorem rel2 {f f' : Str} {v v' : V} {u u' : Value} (nf : (f' == f) = false) (r : RelV v u) (r' : RelV v' u') (y : Str) : RelO (List.lookup y [(f, v), (f', v')]) (if y = f' then some u' else if y = f then some u else none) := by
  have n1 : f' ≠ f := PySem.Er.ne_of_beq nf
  by_cases e : y = f
  · subst e
    have n2 : ¬ (y = f') := fun z => n1 z.symm
    simp [List.lookup, n2]
    exact r
  · have e2 : (y == f) = false := by simpa using e
    by_cases e' : y = f'
    · subst e'
      simp [List.lookup, e2]
      exact r'
    · have e3 : (y == f') = false := by simpa using e'
      simp [List.lookup, e, e2, e', e3]
      trivial

section
variable {X : Cx} {C : Addr} {B newId initId : String} {bmB : List Value} {f f' : Str} {x : Str} {p pos : Pos} {a b : Expr} {ta tb : TE}
/-- how the parameters of the two kinds of __init__ are bound -/
abbrev Bd1 (f : Str) (g : Value → List Value × List (Str × Value)) : Prop := ∀ (qual : Str) (p1 p2 q1 q2 q3 q4 : Pos) (kV doc pm : Value) (an : Option Addr) (cdv ct x u : Value),
  bindArgs (PySem.W.fnOf "__init__" qual (PySem.Er.iA1 f p1 p2) (PySem.Er.iB1 f q1 q2 q3 q4) (PySem.Er.iS1 f) .none kV doc pm an cdv ct) ⟨x :: (g u).1, (g u).2⟩ = pure [(("self" : Str), x), (f, u)]
abbrev Bd2 (f f' : Str) (g : Value → Value → List Value × List (Str × Value)) : Prop := ∀ (qual : Str) (p1 p2 p3 q1 q2 q3 q4 r1 r2 r3 r4 : Pos) (kV doc pm : Value) (an : Option Addr) (cdv ct x u u' : Value),
  bindArgs (PySem.W.fnOf "__init__" qual (PySem.Er.iA2 f f' p1 p2 p3) (PySem.Er.iB2 f f' q1 q2 q3 q4 r1 r2 r3 r4) (PySem.Er.iS2 f f') .none kV doc pm an cdv ct) ⟨x :: (g u u').1, (g u u').2⟩ = pure [(("self" : Str), x), (f, u), (f', u')]
abbrev gP1 : Value → List Value × List (Str × Value) := fun u => ([u], [])
abbrev gK1 (f : Str) : Value → List Value × List (Str × Value) := fun u => ([], [(f, u)])
abbrev gP2 : Value → Value → List Value × List (Str × Value) := fun u u' => ([u, u'], [])
abbrev gK2 (f f' : Str) : Value → Value → List Value × List (Str × Value) := fun u u' => ([], [(f', u'), (f, u)])
theorem bd1_value : Bd1 "value" gP1 := by first | (unfold Bd1; intros; first | rfl | with_unfolding_all rfl) | (unfold Bd2; intros; first | rfl | with_unfolding_all rfl)
theorem bd1_position : Bd1 "position" gP1 := by first | (unfold Bd1; intros; first | rfl | with_unfolding_all rfl) | (unfold Bd2; intros; first | rfl | with_unfolding_all rfl)
theorem bd1_name : Bd1 "name" gP1 := by first | (unfold Bd1; intros; first | rfl | with_unfolding_all rfl) | (unfold Bd2; intros; first | rfl | with_unfolding_all rfl)
theorem bd1_line : Bd1 "line" gP1 := by first | (unfold Bd1; intros; first | rfl | with_unfolding_all rfl) | (unfold Bd2; intros; first | rfl | with_unfolding_all rfl)
theorem bk1_value : Bd1 "value" (gK1 "value") := by first | (unfold Bd1; intros; first | rfl | with_unfolding_all rfl) | (unfold Bd2; intros; first | rfl | with_unfolding_all rfl)
theorem bk1_position : Bd1 "position" (gK1 "position") := by first | (unfold Bd1; intros; first | rfl | with_unfolding_all rfl) | (unfold Bd2; intros; first | rfl | with_unfolding_all rfl)
theorem bk1_name : Bd1 "name" (gK1 "name") := by first | (unfold Bd1; intros; first | rfl | with_unfolding_all rfl) | (unfold Bd2; intros; first | rfl | with_unfolding_all rfl)
theorem bk1_line : Bd1 "line" (gK1 "line") := by first | (unfold Bd1; intros; first | rfl | with_unfolding_all rfl) | (unfold Bd2; intros; first | rfl | with_unfolding_all rfl)
theorem bd2_places : Bd2 "position" "places" gP2 := by first | (unfold Bd1; intros; first | rfl | with_unfolding_all rfl) | (unfold Bd2; intros; first | rfl | with_unfolding_all rfl)
theorem bd2_kind : Bd2 "kind" "limit" gP2 := by first | (unfold Bd1; intros; first | rfl | with_unfolding_all rfl) | (unfold Bd2; intros; first | rfl | with_unfolding_all rfl)
theorem bk2_places : Bd2 "position" "places" (gK2 "position" "places") := by first | (unfold Bd1; intros; first | rfl | with_unfolding_all rfl) | (unfold Bd2; intros; first | rfl | with_unfolding_all rfl)
theorem bk2_kind : Bd2 "kind" "limit" (gK2 "kind" "limit") := by first | (unfold Bd1; intros; first | rfl | with_unfolding_all rfl) | (unfold Bd2; intros; first | rfl | with_unfolding_all rfl)
/-- C(a) -/
def tEr1 (C : Addr) (f : Str) (t : TA) : TE := fun σ H Q => t σ H fun vs H1 => ∃ v, vs = [v] ∧ ∀ e H', ErAt H' e C [(f, v)] [v] → Same H1 H' → H1 e = none → Q (.ref e) H'
/-- C(a, b) -/
def tEr2 (C : Addr) (f f' : Str) (t : TA) : TE := fun σ H Q => t σ H fun vs H1 => ∃ v v', vs = [v, v'] ∧ ∀ e H', ErAt H' e C [(f, v), (f', v')] [v, v'] → Same H1 H' → H1 e = none → Q (.ref e) H'
theorem pe_er1 {k : Nat} (c : Cl X.K C B newId initId bmB) (i : In1 X.K C f) (hb : Bd1 f gP1) (hr : Room k X.A) (hg : Gl X x) (hm : X.mg x = some (.ref C)) (ha : PA X [a] (tCons ta tNil))
    (hdb : (x == ("__debug__" : Str)) = false := by decide) (he : starEach [a] X.env = (false, eval a X.env) :: starEach [] X.env := by rfl) (hpl : (backTo pos (starEach [] X.env)).any (·.1) = false := by rfl) :
    PE X (.Call (.Name x p) [a] [] pos) (tEr1 C f (tCons ta tNil)) := by
  refine ⟨fun pins s σ H Q I h => ?_⟩
  refine wpAny_Call_Name_kw (ld_glob I hg hm ?_ hdb)
  refine PySem.W.callWith_K (h₀ := X.base) I.ok.mod.kin c.kC (thn (ha.run pos pins s σ H _ I h) fun us s1 ⟨vs, H1, I1, r, v, ev, q⟩ => ⟨I1.kIn, ?_⟩) he hpl
  subst ev
  obtain ⟨u, rfl, ru⟩ := vals1 r
  show wpAny _ _ (call (.ref C) [u]) _ _ _
  exact wpAny_call (PySem.Er.made1 c i (v := u) I1.kIn I1.nolimit (by have := hr.dp; omega) (by show 1 ≤ sizeLine; rw [sizeLine_eq]; omega) (fun _ ql p1 p2 q1 q2 q3 q4 kv dc pm an cv ct y => .of_eq (hb ql p1 p2 q1 q2 q3 q4 kv dc pm an cv ct y u))
    fun h' tk e d t M => made_inv I1 M r (by show 1 ≤ sizeLine; rw [sizeLine_eq]; omega) (rel1 ru) fun H' z1 z2 z3 => q e H' z1 z2 z3)
theorem pe_er2 {k : Nat} (c : Cl X.K C B newId initId bmB) (i : In2 X.K C f f') (hb : Bd2 f f' gP2) (hr : Room k X.A) (hg : Gl X x) (hm : X.mg x = some (.ref C)) (ha : PA X [a, b] (tCons ta (tCons tb tNil)))
    (hdb : (x == ("__debug__" : Str)) = false := by decide) (he : starEach [a, b] X.env = (false, eval a X.env) :: starEach [b] X.env := by rfl) (hpl : (backTo pos (starEach [b] X.env)).any (·.1) = false := by rfl) :
    PE X (.Call (.Name x p) [a, b] [] pos) (tEr2 C f f' (tCons ta (tCons tb tNil))) := by
  refine ⟨fun pins s σ H Q I h => ?_⟩
  refine wpAny_Call_Name_kw (ld_glob I hg hm ?_ hdb)
  refine PySem.W.callWith_K (h₀ := X.base) I.ok.mod.kin c.kC (thn (ha.run pos pins s σ H _ I h) fun us s1 ⟨vs, H1, I1, r, v, v', ev, q⟩ => ⟨I1.kIn, ?_⟩) he hpl
  subst ev
  obtain ⟨u, u', rfl, ru, ru'⟩ := vals2 r
  show wpAny _ _ (call (.ref C) [u, u']) _ _ _
  exact wpAny_call (PySem.Er.made2 c i (v := u) (v' := u') I1.kIn I1.nolimit (by have := hr.dp; omega) (by show 2 ≤ sizeLine; rw [sizeLine_eq]; omega) (fun _ ql p1 p2 p3 q1 q2 q3 q4 r1 r2 r3 r4 kv dc pm an cv ct y => .of_eq (hb ql p1 p2 p3 q1 q2 q3 q4 r1 r2 r3 r4 kv dc pm an cv ct y u u'))
    fun h' tk e d t M => made_inv I1 M r (by show 2 ≤ sizeLine; rw [sizeLine_eq]; omega) (rel2 i.nf ru ru') fun H' z1 z2 z3 => q e H' z1 z2 z3)
end
end ErL

set_option maxHeartbeats 4000000
namespace PySem
namespace Er
open Sem (wp)
open Builtin Builtin.Str Builtin.BaseException Builtin.Exceptions
open PySem.W (Looks Frag findIn subIn looks_findIn looks_subIn)
theorem text_eq (x : Value) : bexcText "__str__" x = pyStrObj x := by
  cases x <;> rfl
section
variable {prog : Program} {w : World} {M : Model} {A : Around} {E : Value → Shared → Prop} {s : Shared} {K : Frag} {C e t0 : Addr}
theorem bstr_two {u u' : Value} {rest : List Value} {Q : Fin → Shared → Prop} (x : ExcC K C e t0 s.heap) (ht : s.heap.TupAt t0 (u :: u' :: rest))
    (hq : wpAny (model prog w) A (pyStrObj (.ref t0)) (fun v s' => Q (.done (.ret v)) s') E s) :
    wpAny (model prog w) A (Builtin.«BaseException.__str__» ⟨[.ref e], []⟩) Q E s := by
  unfold Builtin.«BaseException.__str__»
  refine wpAny_bind (wpAny_of_eq (a := ((Value.ref e : Value), ([] : List Value))) (by first | rfl | (simp only [slotArgs]; rfl)) ?_)
  refine wpAny_bind (bexcArgs_C x ht ?_)
  show wpAny (model prog w) A (bexcText "__str__" (.ref t0) >>= fun r => ret r) _ _ _
  rw [text_eq]
  refine wpAny_bind (wpAny_mono hq (fun v s' z => ?_) fun _ _ z => z)
  exact wpAny_pure z
theorem bstr_one {u : Value} {Q : Fin → Shared → Prop} (x : ExcC K C e t0 s.heap) (ht : s.heap.TupAt t0 [u])
    (hq : wpAny (model prog w) A (pyStrObj u) (fun v s' => Q (.done (.ret v)) s') E s) :
    wpAny (model prog w) A (Builtin.«BaseException.__str__» ⟨[.ref e], []⟩) Q E s := by
  unfold Builtin.«BaseException.__str__»
  repeat (first
    | with_reducible refine bexcArgs_C x ht ?_
    | (rw [text_eq]; refine wpAny_bind (wpAny_mono hq (fun v s' z => ?_) fun _ _ z => z))
    | wp_step)
  exact z
end
end Er
end PySem
namespace PySem
namespace Er
open Sem (wp)
open Builtin Builtin.Str Builtin.BaseException Builtin.Exceptions
open PySem.W (Looks Frag findIn subIn looks_findIn looks_subIn)
section
variable {prog : Program} {w : World} {M : Model} {A : Around} {E : Value → Shared → Prop} {s : Shared} {K : Frag} {C e t0 : Addr}
/-- a value whose text is told -/
structure Shw (h : Heap) (u : Value) (d : PyData) : Prop where
  rd : ∃ as, Reads h u d as ∧ sysModules ∉ as
  sh : d.showable = true
  dp : d.depth ≤ 20
  sz : d.shown.length ≤ 5000
theorem Shw.keeps {h h' : Heap} {u : Value} {d : PyData} (x : Shw h u d) (k : ∀ b o, h.get? b = some o → h'.get? b = some o) : Shw h' u d := by
  obtain ⟨as, r, n⟩ := x.rd
  exact ⟨⟨as, PyProof.Rows.Reads.keeps k r, n⟩, x.sh, x.dp, x.sz⟩
/-- str of it is some text -/
theorem text_of {u : Value} {d : PyData} {Q : Value → Shared → Prop} (x : Shw s.heap u d) (hg : A.guards = some []) (hu : A.units + 60 < cLine)
    (hq : ∀ y t h' tk, (∀ b o, s.heap.get? b = some o → h'.get? b = some o) → Q (.str y t) { s with heap := h', toks := tk }) : wpAny (model prog w) A (pyStrObj u) Q E s := by
  obtain ⟨⟨as, r, n⟩, sh, dp, sz⟩ := x
  have lz : (5000 : Nat) ≤ sizeLine := by rw [sizeLine_eq]; omega
  cases d with
  | none =>
    cases r
    exact PySem.pyStrObj_none (hq _ _ _ _ fun _ _ z => z)
  | bool b =>
    cases r
    exact PySem.pyStrObj_bool (hq _ _ _ _ fun _ _ z => z)
  | int i =>
    cases r
    exact PySem.pyStrObj_int (of_decide_eq_true sh) (hq _ _ _ _ fun _ _ z => z)
  | str x =>
    cases r
    exact wpAny_pure (hq _ _ _ _ fun _ _ z => z)
  | list xs =>
    obtain ⟨a, rfl⟩ : ∃ a, u = .ref a := by cases r; exact ⟨_, rfl⟩
    exact pyStrObj_of_reads r sh (fun _ => n) hg (by omega) (fun _ _ z => z) (fun h' y tk k => hq _ _ _ _ k) (Nat.le_trans sz lz)
  | tuple xs =>
    obtain ⟨a, rfl⟩ : ∃ a, u = .ref a := by cases r; exact ⟨_, rfl⟩
    exact pyStrObj_of_reads r sh (fun _ => n) hg (by omega) (fun _ _ z => z) (fun h' y tk k => hq _ _ _ _ k) (Nat.le_trans sz lz)
  | dict xs =>
    obtain ⟨a, rfl⟩ : ∃ a, u = .ref a := by cases r; exact ⟨_, rfl⟩
    exact pyStrObj_of_reads r sh (fun _ => n) hg (by omega) (fun _ _ z => z) (fun h' y tk k => hq _ _ _ _ k) (Nat.le_trans sz lz)
end
end Er
end PySem

set_option maxHeartbeats 400000
namespace PySem
namespace Er
open Sem (wp)
open Builtin Builtin.Str Builtin.BaseException Builtin.Exceptions
open PySem.W (Looks Frag findIn subIn looks_findIn looks_subIn)
section
variable {prog : Program} {w : World} {M : Model} {A : Around} {E : Value → Shared → Prop} {s : Shared} {K : Frag} {C e t0 : Addr}
/-- what str(error) leans on -/
structure Str0 (K : Frag) (C e t0 : Addr) (args : List Value) (ds : List PyData) (h : Heap) : Prop where
  at_ : ExcC K C e t0 h
  tup : h.TupAt t0 args
  all : args = [] ∨ (∃ u d, args = [u] ∧ Shw h u d) ∨ ∃ d, 2 ≤ args.length ∧ Shw h (.ref t0) d
theorem strOf_er {args : List Value} {ds : List PyData} (hg : A.guards = some []) (hu : A.units + 62 < cLine) (x : Str0 K C e t0 args ds s.heap)
    (hs : findIn K (.ref C) "__str__" = some (some (.builtin "BaseException.__str__"))) (hB : subIn K (.ref C) (.type "BaseException") = some true) {Q : Value → Shared → Prop}
    (hq : ∀ y t h' tk, (∀ b o, s.heap.get? b = some o → h'.get? b = some o) → Q (.str y t) { s with heap := h', toks := tk }) : wpAny (model prog w) A (strOf (.ref e)) Q E s := by
  have hf : Looks (model prog w) s.heap (typeLookup (.ref C) "__str__") (some (.builtin "BaseException.__str__")) := looks_findIn x.at_.1 hs
  have hb : wpAny (model prog w) A.in1 (Builtin.«BaseException.__str__» ⟨[.ref e], []⟩) (fun fin s' => ∃ v, fin = .done (.ret v) ∧ ∃ y t h' tk, v = .str y t ∧ s' = { s with heap := h', toks := tk } ∧ ∀ b o, s.heap.get? b = some o → h'.get? b = some o) E s := by
    rcases x.all with rfl | ⟨u, d, rfl, z⟩ | ⟨d, l, z⟩
    · exact bexcStr_C_none x.at_ x.tup ⟨_, rfl, _, _, _, _, rfl, rfl, fun _ _ z => z⟩
    · exact bstr_one x.at_ x.tup (text_of (A := A.in1) z hg (by show A.units + 1 + 60 < cLine; omega) fun y t h' tk k => ⟨_, rfl, y, t, h', tk, rfl, rfl, k⟩)
    · obtain ⟨u, u', rest, rfl⟩ : ∃ u u' rest, args = u :: u' :: rest := by
        cases args with
        | nil => exact absurd l (Nat.not_succ_le_zero 1)
        | cons u r =>
          cases r with
          | nil => exact absurd (Nat.le_of_succ_le_succ l) (Nat.not_succ_le_zero 0)
          | cons u' rest => exact ⟨u, u', rest, rfl⟩
      exact bstr_two x.at_ x.tup (text_of (A := A.in1) z hg (by show A.units + 1 + 60 < cLine; omega) fun y t h' tk k => ⟨_, rfl, y, t, h', tk, rfl, rfl, k⟩)
  have hu0 : A.units < cLine := by omega
  have hc : wpAny (model prog w) A (call (.builtin "BaseException.__str__") [.ref e]) (fun v s' => ∃ y t h' tk, v = .str y t ∧ s' = { s with heap := h', toks := tk } ∧ ∀ b o, s.heap.get? b = some o → h'.get? b = some o) E s := by
    refine call_bexcStr_C x.at_ hB (wpAny_mono hb (fun fin s' z => ?_) fun _ _ z => z)
    exact z
  clear hb
  unfold strOf
  rw [show isExactStr (.ref e) = false from rfl]
  refine wpAny_bind (m := cRoomFor _ _) (wpAny_cRoomFor hu0 ?_)
  refine wpAny_bind (m := callSpecial? (.ref e) (Str.ofString "__str__")) (callSpecial_C x.at_.LT hf (F.excStr_Exception.str.bind _) (wpAny_mono hc (fun v s' z => ?_) fun _ _ z => z))
  obtain ⟨y, t, h', tk, rfl, rfl, k⟩ := z
  exact wpAny_pure (hq y t h' tk k)
theorem str_of_er {args : List Value} {ds : List PyData} (hg : A.guards = some []) (hu : A.units + 64 < cLine) (x : Str0 K C e t0 args ds s.heap)
    (hs : findIn K (.ref C) "__str__" = some (some (.builtin "BaseException.__str__"))) (hB : subIn K (.ref C) (.type "BaseException") = some true) {Q : Value → Shared → Prop}
    (hq : ∀ y t h' tk, (∀ b o, s.heap.get? b = some o → h'.get? b = some o) → Q (.str y t) { s with heap := h', toks := tk }) : wpAny (model prog w) A (call (.type "str") [.ref e]) Q E s :=
  callType_new F.called_str (by decide) (F.typeCall_str_1 _) (F.newCall_str_1 _) (fun obj => F.args_object_init_2 obj _) F.entry_str_new
    (meets_str_new (S := fun A' R s' => A'.guards = some [] ∧ A'.units + 63 < cLine ∧ Str0 K C e t0 args ds s'.heap ∧
        ∀ y t h' tk, (∀ b o, s'.heap.get? b = some o → h'.get? b = some o) → R (.ok (.ret (.str y t))) { s' with heap := h', toks := tk })
      fun _ _ A' _ _ h => strOf_er (A := A'.in1) h.1 (by show A'.units + 1 + 62 < cLine; have := h.2.1; omega) h.2.2.1 hs hB h.2.2.2)
    ⟨hg, (show A.units + 1 + 63 < cLine by omega), x, fun y t h' tk k => ⟨typeIs_str _ _ _, hq y t h' tk k⟩⟩
end
end Er
end PySem

set_option maxHeartbeats 1000000
namespace ErL
open PySem PySem.Spec PyProof.Rows L2
open PySem.Er (Made Cl In1 In2 Shw)
/-! ### data that stand in the abstract heap -/
mutual
inductive Dq (H : Hp) : V → PyData → Prop
  | non : Dq H .non .none
  | bl (b : Bool) : Dq H (.bl b) (.bool b)
  | int (i : Int) : Dq H (.int i) (.int i)
  | str (x : Str) : Dq H (.str x) (.str x)
  | lst {a : Addr} {xs : List V} {ds : List PyData} : H a = some (.lst xs) → DqAll H xs ds → Dq H (.ref a) (.list ds)
  | tup {a : Addr} {xs : List V} {ds : List PyData} : H a = some (.tup xs) → DqAll H xs ds → Dq H (.ref a) (.tuple ds)
  | dct {a : Addr} {kvs : List (Key × V)} {ps : List (PyData × PyData)} : H a = some (.dK kvs) → DqKv H kvs ps → Dq H (.ref a) (.dict ps)
inductive DqAll (H : Hp) : List V → List PyData → Prop
  | nil : DqAll H [] []
  | cons {v : V} {vs : List V} {d : PyData} {ds : List PyData} : Dq H v d → DqAll H vs ds → DqAll H (v :: vs) (d :: ds)
inductive DqKv (H : Hp) : List (Key × V) → List (PyData × PyData) → Prop
  | nil : DqKv H [] []
  | cons {x : Str} {v : V} {kvs : List (Key × V)} {d : PyData} {ps : List (PyData × PyData)} : Dq H v d → DqKv H kvs ps → DqKv H ((.inr x, v) :: kvs) ((.str x, d) :: ps)
end
mutual
theorem Dq.same {H H' : Hp} (s : Same H H') : ∀ {v : V} {d : PyData}, Dq H v d → Dq H' v d
  | _, _, .non => .non
  | _, _, .bl b => .bl b
  | _, _, .int i => .int i
  | _, _, .str x => .str x
  | _, _, .lst e a => .lst (s _ _ e) (DqAll.same s a)
  | _, _, .tup e a => .tup (s _ _ e) (DqAll.same s a)
  | _, _, .dct e a => .dct (s _ _ e) (DqKv.same s a)
theorem DqAll.same {H H' : Hp} (s : Same H H') : ∀ {vs : List V} {ds : List PyData}, DqAll H vs ds → DqAll H' vs ds
  | _, _, .nil => .nil
  | _, _, .cons a b => .cons (Dq.same s a) (DqAll.same s b)
theorem DqKv.same {H H' : Hp} (s : Same H H') : ∀ {kvs : List (Key × V)} {ps : List (PyData × PyData)}, DqKv H kvs ps → DqKv H' kvs ps
  | _, _, .nil => .nil
  | _, _, .cons a b => .cons (Dq.same s a) (DqKv.same s b)
end
section
variable {X : Cx} {pins : List (Addr × Obj)} {σ : L2.St} {H : Hp} {s : Shared}
/-- read at the heap; the addresses are tracked -/
def Rds (H : Hp) (h : Heap) (u : Value) (d : PyData) : Prop := ∃ as, Reads h u d as ∧ ∀ b ∈ as, ∃ o, H b = some o
def RdsAll (H : Hp) (h : Heap) (us : List Value) (ds : List PyData) : Prop := ∃ as, ReadsAll h us ds as ∧ ∀ b ∈ as, ∃ o, H b = some o
mutual
theorem Dq.reads (I : Inv X pins σ H s) : ∀ {v : V} {d : PyData} {u : Value}, Dq H v d → RelV v u → Rds H s.heap u d
  | _, _, _, .non, r => by
    cases r
    exact ⟨_, Reads.none, fun b z => nomatch z⟩
  | _, _, _, .bl b, r => by
    cases r
    exact ⟨_, Reads.bool b, fun b z => nomatch z⟩
  | _, _, _, .int i, r => by
    obtain ⟨t, rfl⟩ := r
    exact ⟨_, Reads.int i t, fun b z => nomatch z⟩
  | _, _, _, .str x, r => by
    obtain ⟨t, rfl⟩ := r
    exact ⟨_, Reads.str x t, fun b z => nomatch z⟩
  | _, _, _, .lst (a := a) (xs := xs) e q, r => by
    cases r
    obtain ⟨_, its, n, rv, ho⟩ := (show ObjOk X.prog X.w H s.heap a (.lst xs) from I.hok a _ e)
    obtain ⟨as, ra, ta⟩ := DqAll.reads I q rv
    refine ⟨_, Reads.list ho rfl rfl ra, fun b z => ?_⟩
    rcases List.mem_cons.mp z with rfl | z
    · exact ⟨_, e⟩
    · exact ta b z
  | _, _, _, .tup (a := a) (xs := xs) e q, r => by
    cases r
    obtain ⟨_, its, rv, o, ho, hc, n, hd⟩ := (show ObjOk X.prog X.w H s.heap a (.tup xs) from I.hok a _ e)
    obtain ⟨as, ra, ta⟩ := DqAll.reads I q rv
    exact ⟨_, Reads.tuple ho hc hd ra, ta⟩
  | _, _, _, .dct (a := a) (kvs := kvs) e q, r => by
    cases r
    obtain ⟨_, _, vs, rv, o, es, ep, ho, hx, hd, _, hp, _⟩ := (show ObjOk X.prog X.w H s.heap a (.dK kvs) from I.hok a _ e)
    obtain ⟨⟨as, ra, ta⟩, ⟨bs, rb, tb⟩⟩ := DqKv.reads I q rv hp
    refine ⟨_, Reads.dict ho hx.1 hd ra rb, fun b z => ?_⟩
    rcases List.mem_append.mp z with z | z
    · rcases List.mem_cons.mp z with rfl | z
      · exact ⟨_, e⟩
      · exact ta b z
    · exact tb b z
theorem DqAll.reads (I : Inv X pins σ H s) : ∀ {vs : List V} {ds : List PyData} {us : List Value}, DqAll H vs ds → Vals vs us → RdsAll H s.heap us ds
  | _, _, _, .nil, r => by
    cases r
    exact ⟨_, ReadsAll.nil, fun b z => nomatch z⟩
  | _, _, _, .cons a b, r => by
    cases r with
    | cons r1 r2 =>
      obtain ⟨as, x1, t1⟩ := Dq.reads I a r1
      obtain ⟨bs, x2, t2⟩ := DqAll.reads I b r2
      exact ⟨_, ReadsAll.cons x1 x2, fun c z => (List.mem_append.mp z).elim (t1 c) (t2 c)⟩
theorem DqKv.reads (I : Inv X pins σ H s) : ∀ {kvs : List (Key × V)} {ps : List (PyData × PyData)} {vs : List (Key × Value)} {es : List DictEntry}, DqKv H kvs ps → KV kvs vs → Pairs (mixKind X.prog X.w) es vs →
    RdsAll H s.heap (es.map (·.key)) (ps.map (·.1)) ∧ RdsAll H s.heap (es.map (·.val)) (ps.map (·.2))
  | _, _, _, _, .nil, r, p => by
    cases r
    cases p
    exact ⟨⟨_, ReadsAll.nil, fun b z => nomatch z⟩, ⟨_, ReadsAll.nil, fun b z => nomatch z⟩⟩
  | _, _, _, _, .cons (x := x) a b, r, p => by
    cases r with
    | cons r1 r2 =>
      cases p with
      | cons p1 p2 p3 =>
        rename_i kv0 vs0 en es0
        obtain ⟨k0, v0⟩ := kv0
        obtain ⟨ek, ev⟩ := r1
        dsimp only at ek ev p1 p2
        subst ek
        obtain ⟨⟨as, x1, t1⟩, ⟨bs, x2, t2⟩⟩ := DqKv.reads I b r2 p3
        obtain ⟨cs, x3, t3⟩ := Dq.reads I a ev
        rcases keyIs_shape (show keyIs (.inr x) en.key = true from p1) with ⟨i, t, z, _⟩ | ⟨y, t, z, ey⟩
        · cases z
        · cases z
          refine ⟨⟨[] ++ as, ?_, fun c z => t1 c (by simpa using z)⟩, ⟨cs ++ bs, ?_, fun c z => (List.mem_append.mp z).elim (t3 c) (t2 c)⟩⟩
          · show ReadsAll s.heap (en.key :: _) (PyData.str x :: _) _
            rw [ey]
            exact ReadsAll.cons (Reads.str x t) x1
          · show ReadsAll s.heap (en.val :: _) (_ :: _) _
            rw [p2]
            exact ReadsAll.cons x3 x2
end
/-- the module of modules stands in the written part -/
def SysIn (K : PySem.W.Frag) : Prop := ∃ o, K.lookup sysModules = some o
/-- small enough to be shown -/
structure Ok (d : PyData) : Prop where
  sh : d.showable = true
  dp : d.depth ≤ 20
  sz : d.shown.length ≤ 5000
theorem Dq.shw (I : Inv X pins σ H s) (y : SysIn X.K) {v : V} {d : PyData} {u : Value} (q : Dq H v d) (r : RelV v u) (k : Ok d) : Shw s.heap u d := by
  obtain ⟨as, ra, ta⟩ := q.reads I r
  obtain ⟨o, ho⟩ := y
  refine ⟨⟨as, ra, fun z => ?_⟩, k.sh, k.dp, k.sz⟩
  obtain ⟨o', e⟩ := ta _ z
  have n := (I.bs _ o (I.ok.mod.kin _ _ ho)).2
  rw [n] at e
  cases e
end
end ErL

set_option maxHeartbeats 1000000
namespace ErL
open PySem PySem.Spec PyProof.Rows L2
open PySem.Er (Made Cl In1 In2 Shw)
/-- what isinstance, a field's reading and str ask of an error's class -/
structure Asks (K : PySem.W.Frag) (C : Addr) : Prop where
  cl : (PySem.W.clsIn K C).isSome = true
  hd : PySem.W.hasDictIn K C = true
  ga : PySem.W.findIn K (.ref C) "__getattribute__" = some (some (.builtin "BaseException.__getattribute__"))
  gg : PySem.W.findIn K (.ref C) "__getattr__" = some none
  ex : PySem.W.subIn K (.ref C) (.type "BaseException") = some true
  cs : PySem.W.findIn K (.ref C) "__class__" = some (some (.builtin "object.__class__"))
  gs : PySem.W.specialIn K (.builtin "object.__class__") "__get__" = some (some (.builtin "getset_descriptor.__get__"))
  tk : PySem.W.takesIn K (.builtin "object.__class__") = some true
  mo : PySem.W.mroIn K C (.type "object") = some true
  st : PySem.W.findIn K (.ref C) "__str__" = some (some (.builtin "BaseException.__str__"))
section
variable {X : Cx} {pins : List (Addr × Obj)} {σ : L2.St} {H : Hp} {s : Shared} {e C : Addr} {fs : List (Str × V)} {args : List V}
theorem er_inst (I : Inv X pins σ H s) (x : ErAt H e C fs args) : ∃ (ox : Obj) (od : Option Obj), PySem.W.InstAt s.heap e ox C od ∧
    ∀ f v, fs.lookup f = some v → ∃ d u, od = some d ∧ PySem.W.lookIn f d = some (some u) ∧ RelV v u := by
  obtain ⟨d, t, h1, h2, h3⟩ := x
  have q : s.heap.get? e = some ({ cls := .ref C, dict := d, data := .fields #[.ref t, .none, .none, .none, .bool false, .none] } : Obj) := (show ObjOk X.prog X.w H s.heap e (erO e C d t) from I.hok e _ h1).1
  cases d with
  | none =>
    refine ⟨_, none, ⟨q, rfl, rfl, trivial⟩, fun f v z => ?_⟩
    have h3' : fs = [] := h3
    rw [h3'] at z
    cases z
  | some dx =>
    obtain ⟨mA, hns, rel⟩ := (show ObjOk X.prog X.w H s.heap dx (.xd fs) from I.hok dx _ h3)
    obtain ⟨od, ho, hl⟩ := lookIn_ns hns
    refine ⟨_, some od, ⟨q, rfl, rfl, ho⟩, fun f v z => ?_⟩
    obtain ⟨u, hu, ru⟩ := RelO.some_of (v := v) (o := mA f) (by rw [← z]; exact rel f)
    exact ⟨od, u, rfl, by rw [hl, hu], ru⟩
theorem er_exc (I : Inv X pins σ H s) (x : ErAt H e C fs args) : ∃ (t : Addr) (us : List Value), H t = some (.tup args) ∧ PySem.ExcC X.K C e t s.heap ∧ s.heap.TupAt t us ∧ Vals args us := by
  obtain ⟨d, t, h1, h2, h3⟩ := x
  have q : s.heap.get? e = some ({ cls := .ref C, dict := d, data := .fields #[.ref t, .none, .none, .none, .bool false, .none] } : Obj) := (show ObjOk X.prog X.w H s.heap e (erO e C d t) from I.hok e _ h1).1
  obtain ⟨_, us, rv, o, ho, hc, n, hd⟩ := (show ObjOk X.prog X.w H s.heap t (.tup args) from I.hok t _ h2)
  exact ⟨t, us, h2, ⟨I.kIn, _, _, q, rfl, rfl, rfl⟩, ⟨o, n, ho, hc, hd⟩, rv⟩
end
section
variable {X : Cx} {f : Str} {te : TE} {pos : Pos} {e : Expr}
/-- e.f of an error -/
def tErF (K : PySem.W.Frag) (f : Str) (te : TE) : TE := fun σ H Q => te σ H fun x H1 => ∃ a C fs args v, x = .ref a ∧ ErAt H1 a C fs args ∧ Asks K C ∧ PySem.W.findIn K (.ref C) f = some none ∧ fs.lookup f = some v ∧ Q v H1
theorem pe_erF (he : PE X e te) (hb : attributeBase e f X.env (eval e X.env) = eval e X.env := by rfl) : PE X (.Attribute e f pos) (tErF X.K f te) := by
  refine ⟨fun pins s σ H Q I h => ?_⟩
  refine attr_of hb (thn (he.run pins s σ H _ I h) fun u s1 hh => ?_)
  obtain ⟨x, H1, I1, rx, a, C, fs, args, v, rfl, hx, A, hn, hl, q⟩ := hh
  obtain rfl : u = Value.ref a := rx
  obtain ⟨ox, od, J, hf⟩ := er_inst I1 hx
  obtain ⟨d, w, rfl, l, rw⟩ := hf f v hl
  exact PySem.PX.exc_get I1.kIn J A.ga A.gg A.ex (PySem.W.findObj_own A.hd hn rfl l) (handed_of rw) ⟨v, H1, I1.tok _, rw, q⟩
/-- isinstance(e, c), e an error -/
def rIsEr (K : PySem.W.Frag) : List V → Hp → VK → Prop := fun xs H Q => ∃ a C fs args c cv b, xs = [.ref a, c] ∧ ErAt H a C fs args ∧ Asks K C ∧ (∀ u, RelV c u → u = cv) ∧ PySem.W.kitOne K (.ref C) cv = some b ∧ Q (.bl b) H
theorem call_isEr : CallR X (.builtin "isinstance") (rIsEr X.K) := by
  intro pins s σ H xs us Q I r h
  obtain ⟨a, C, fs, args, c, cv, b, rfl, hx, A, hc, e, q⟩ := h
  obtain ⟨u, u', rfl, ru, ru'⟩ := vals2 r
  obtain rfl : u = Value.ref a := ru
  obtain rfl := hc _ ru'
  obtain ⟨ox, od, J, _⟩ := er_inst I hx
  exact PySem.W.kia_one (PySem.W.kitx_exc A.cl A.ga A.gg A.ex A.cs A.gs A.tk A.mo) I.kIn J e (fun z => nomatch z) fun tk => ⟨.bl b, H, I.kept (t' := tk) fun _ _ z => z, rfl, q⟩
/-- str(e), e an error -/
def rStrEr (K : PySem.W.Frag) : List V → Hp → VK → Prop := fun xs H Q => ∃ a C fs args ds, xs = [.ref a] ∧ ErAt H a C fs args ∧ Asks K C ∧ DqAll H args ds ∧
    (∀ d ∈ ds, Ok d) ∧ Ok (.tuple ds) ∧ ∀ z, Q (.str z) H
theorem call_strEr (hu : X.A.units + 70 < cLine) (hg : X.A.guards = some []) (y : SysIn X.K) : CallR X (.type "str") (rStrEr X.K) := by
  intro pins s σ H xs us Q I r h
  obtain ⟨a, C, fs, args, ds, rfl, hx, A, hd, ok1, ok2, q⟩ := h
  obtain ⟨u, rfl, ru⟩ := vals1 r
  obtain rfl : u = Value.ref a := ru
  obtain ⟨t, vs, ht, hE, hT, rv⟩ := er_exc I hx
  refine PySem.Er.str_of_er (args := vs) (ds := ds) hg (by omega) ⟨hE, hT, ?_⟩ A.st A.ex fun y t h' tk k => ⟨.str y, H, I.kept k, ⟨t, rfl⟩, q y⟩
  cases hd with
  | nil =>
    cases rv
    exact .inl rfl
  | cons d1 d2 =>
    rename_i v vs' d ds'
    cases d2 with
    | nil =>
      cases rv with
      | cons r1 r2 =>
        cases r2
        exact .inr (.inl ⟨_, d, rfl, d1.shw I y r1 (ok1 d List.mem_cons_self)⟩)
    | cons d3 d4 =>
      cases rv with
      | cons r1 r2 =>
        cases r2 with
        | cons r3 r4 =>
          refine .inr (.inr ⟨_, by show 2 ≤ _; simp, Dq.shw I y (Dq.tup ht (.cons d1 (.cons d3 d4))) rfl ok2⟩)
/-- repr(x), x data -/
def rReprD : List V → Hp → VK → Prop := fun xs H Q => ∃ a d, xs = [.ref a] ∧ Dq H (.ref a) d ∧ Ok d ∧ Q (.str d.shown) H
theorem call_reprD (hu : X.A.units + 70 < cLine) (hg : X.A.guards = some []) (y : SysIn X.K) : CallR X (.builtin "repr") rReprD := by
  intro pins s σ H xs us Q I r h
  obtain ⟨a, d, rfl, hd, ok, q⟩ := h
  obtain ⟨u, rfl, ru⟩ := vals1 r
  obtain rfl : u = Value.ref a := ru
  obtain ⟨⟨as, ra, n⟩, sh, dp, sz⟩ := hd.shw I y (u := .ref a) rfl ok
  exact repr_of_reads' ra sh (fun _ => n) hg (by omega) (fun _ _ z => z) (fun h' t tk k => ⟨.str d.shown, H, I.kept k, ⟨t, rfl⟩, q⟩) (Nat.le_trans sz (by rw [sizeLine_eq]; omega))
end
end ErL

set_option maxHeartbeats 1000000
namespace ErL
open PySem PySem.Spec PyProof.Rows L2
open PySem.Er (Made Cl In1 In2 Shw)
section
variable {X : Cx} {pins : List (Addr × Obj)} {σ : L2.St} {H : Hp} {s : Shared} {h' : Heap} {t' : Nat}
theorem laidMany2 {H' : Hp} (I : Inv X pins σ H s) (k : ∀ b o, s.heap.get? b = some o → h'.get? b = some o) (sm : Same H H') (fr : ∀ b o, s.heap.get? b = some o → H b = none → H' b = none)
    (new : ∀ b o, H' b = some o → H b = none → ObjOk X.prog X.w H' h' b o) : Inv X pins σ H' { s with heap := h', toks := t' } := by
  refine I.un ⟨fun b o q _ _ _ => k b o q, fun b o q _ _ _ => ⟨o.slots, k b o q⟩, fun b o q n _ => fr b o q n, fun b o q _ => ⟨o, k b o q⟩, fun b xs q => sm _ _ q, fun b o u q => sm _ _ q, fun b ps q => ⟨#[], by rw [sm _ _ q]; simp⟩⟩ ?_
  intro b o q
  cases e : H b with
  | none => exact new b o q e
  | some o' =>
    have q2 := sm _ _ e
    rw [q] at q2
    cases q2
    exact (I.hok b o e).stay (fun c v _ z => k c v z) (fun c z => sm _ _ z) fun c xs z => sm _ _ z
end
section
variable {X : Cx} {C : Addr} {B newId initId : String} {bmB : List Value} {f f' : Str} {x : Str} {p pos : Pos} {a b : Expr} {ta tb : TE} {kp1 kp2 : Pos}
/-- C(), a class without an __init__ of its own -/
def tEr0 (C : Addr) : TE := fun _ H Q => ∀ e H', ErAt H' e C [] [] → Same H H' → H e = none → Q (.ref e) H'
theorem pe_er0 (F : ExcBaseFacts B newId initId bmB) (q : PySem.W.excIn X.K C bmB newId = true) (kC : PySem.W.keepIn X.K (.ref C) = true) (hg : Gl X x) (hm : X.mg x = some (.ref C)) (hdb : (x == ("__debug__" : Str)) = false := by decide) :
    PE X (.Call (.Name x p) [] [] pos) (tEr0 C) := by
  refine ⟨fun pins s σ H Q I h => ?_⟩
  refine wpAny_Call_Name_kw (ld_glob I hg hm ?_ hdb)
  refine PySem.W.callWith_K0 I.kIn kC ?_
  show wpAny _ _ (call (.ref C) []) _ _ _
  obtain ⟨bm, N, nm, qn, bs, hdct, sn, sub, ab, col, dd, k0, k1, k2, k3, k5, mN, hC, hN, hni, T⟩ := exc_obj I.kIn q
  obtain ⟨hp, g, dr, tk, os⟩ := s
  refine wpAny_call_exc_subT F T hC hN hni (fun h' e hm => ?_) (by show 0 ≤ sizeLine; omega)
  obtain ⟨t, ht, nt0, htup⟩ := hm.there
  have ne : H e = none := I.hok.gone hm.new
  have nt : H t = none := I.hok.gone nt0
  have te : t ≠ e := fun z => by
    subst z
    rw [ht] at htup
    cases htup
  have sm : Same H (upd (upd H t (.tup [])) e (erO e C none t)) := fun b o z => by
    rw [upd_ne (ne_of_none z ne), upd_ne (ne_of_none z nt)]
    exact z
  have at_e : (upd (upd H t (.tup [])) e (erO e C none t)) e = some (erO e C none t) := upd_same
  have at_t : (upd (upd H t (.tup [])) e (erO e C none t)) t = some (.tup []) := by rw [upd_ne te, upd_same]
  refine ⟨.ref e, _, laidMany2 (H' := upd (upd H t (.tup [])) e (erO e C none t)) I hm.keeps sm (fun b o z n => ?_) (fun b o z n => ?_), rfl, h e _ ⟨none, t, at_e, at_t, rfl⟩ sm ne⟩
  · rw [upd_ne (fun y => by rw [y, hm.new] at z; cases z), upd_ne (fun y => by rw [y, nt0] at z; cases z)]
    exact n
  · by_cases be : b = e
    · subst be
      rw [at_e] at z
      cases z
      exact erO_ok ht
    · by_cases bt : b = t
      · subst bt
        rw [at_t] at z
        cases z
        exact ⟨by show 0 ≤ sizeLine; omega, [], .nil, ⟨_, htup, rfl, _, rfl⟩⟩
      · rw [upd_ne be, upd_ne bt, n] at z
        cases z
/-- C(f = a) -/
def tErK1 (C : Addr) (f : Str) (t : TA) : TE := fun σ H Q => t σ H fun vs H1 => ∃ v, vs = [v] ∧ ∀ e H', ErAt H' e C [(f, v)] [] → Same H1 H' → H1 e = none → Q (.ref e) H'
theorem pe_erK1 {k : Nat} (c : Cl X.K C B newId initId bmB) (i : In1 X.K C f) (hb : Bd1 f (gK1 f)) (hr : Room k X.A) (hg : Gl X x) (hm : X.mg x = some (.ref C)) (ha : PK X [⟨some f, a, kp1⟩] (tCons ta tNil))
    (hdb : (x == ("__debug__" : Str)) = false := by decide) (hall : (backToKw pos (keywordEach [⟨some f, a, kp1⟩] X.env)).all (·.1.isSome) = true := by rfl) (hks : (backToKw pos (keywordEach [⟨some f, a, kp1⟩] X.env)).filterMap (·.1) = [f] := by rfl)
    (hpl : ((backTo pos (starEach [] X.env)).any (·.1) || (backToKw pos (keywordEach [⟨some f, a, kp1⟩] X.env)).any (·.1.isNone)) = false := by rfl) :
    PE X (.Call (.Name x p) [] [⟨some f, a, kp1⟩] pos) (tErK1 C f (tCons ta tNil)) := by
  refine ⟨fun pins s σ H Q I h => ?_⟩
  refine wpAny_Call_Name_kw (ld_glob I hg hm ?_ hdb)
  refine PySem.W.callWith_KW0 (h₀ := X.base) I.ok.mod.kin c.kC hall ?_ hpl
  refine thn (ha.run pos pins s σ H _ I h) fun ws s1 ⟨zs, H1, I1, rz, v, ev, q⟩ => ⟨I1.kIn, ?_⟩
  subst ev
  obtain ⟨u, rfl, ru⟩ := vals1 rz
  rw [hks]
  show wpAny _ _ (call (.ref C) [] [(f, u)]) _ _ _
  exact wpAny_call (PySem.Er.made1 c i (v := u) I1.kIn I1.nolimit (by have := hr.dp; omega) (by show 0 ≤ sizeLine; omega) (fun _ ql p1 p2 q1 q2 q3 q4 kv dc pm an cv ct y => .of_eq (hb ql p1 p2 q1 q2 q3 q4 kv dc pm an cv ct y u))
    fun h' tk e d t M => made_inv (vs := []) I1 M .nil (by show 0 ≤ sizeLine; omega) (rel1 ru) fun H' z1 z2 z3 => q e H' z1 z2 z3)
/-- C(f' = a, f = b): the second parameter first -/
def tErK2 (C : Addr) (f f' : Str) (t : TA) : TE := fun σ H Q => t σ H fun vs H1 => ∃ v v', vs = [v', v] ∧ ∀ e H', ErAt H' e C [(f, v), (f', v')] [] → Same H1 H' → H1 e = none → Q (.ref e) H'
theorem pe_erK2 {k : Nat} (c : Cl X.K C B newId initId bmB) (i : In2 X.K C f f') (hb : Bd2 f f' (gK2 f f')) (hr : Room k X.A) (hg : Gl X x) (hm : X.mg x = some (.ref C)) (ha : PK X [⟨some f', a, kp1⟩, ⟨some f, b, kp2⟩] (tCons ta (tCons tb tNil)))
    (hdb : (x == ("__debug__" : Str)) = false := by decide) (hall : (backToKw pos (keywordEach [⟨some f', a, kp1⟩, ⟨some f, b, kp2⟩] X.env)).all (·.1.isSome) = true := by rfl)
    (hks : (backToKw pos (keywordEach [⟨some f', a, kp1⟩, ⟨some f, b, kp2⟩] X.env)).filterMap (·.1) = [f', f] := by rfl)
    (hpl : ((backTo pos (starEach [] X.env)).any (·.1) || (backToKw pos (keywordEach [⟨some f', a, kp1⟩, ⟨some f, b, kp2⟩] X.env)).any (·.1.isNone)) = false := by rfl) :
    PE X (.Call (.Name x p) [] [⟨some f', a, kp1⟩, ⟨some f, b, kp2⟩] pos) (tErK2 C f f' (tCons ta (tCons tb tNil))) := by
  refine ⟨fun pins s σ H Q I h => ?_⟩
  refine wpAny_Call_Name_kw (ld_glob I hg hm ?_ hdb)
  refine PySem.W.callWith_KW0 (h₀ := X.base) I.ok.mod.kin c.kC hall ?_ hpl
  refine thn (ha.run pos pins s σ H _ I h) fun ws s1 ⟨zs, H1, I1, rz, v, v', ev, q⟩ => ⟨I1.kIn, ?_⟩
  subst ev
  obtain ⟨u', u, rfl, ru', ru⟩ := vals2 rz
  rw [hks]
  show wpAny _ _ (call (.ref C) [] [(f', u'), (f, u)]) _ _ _
  exact wpAny_call (PySem.Er.made2 c i (v := u) (v' := u') I1.kIn I1.nolimit (by have := hr.dp; omega) (by show 0 ≤ sizeLine; omega) (fun _ ql p1 p2 p3 q1 q2 q3 q4 r1 r2 r3 r4 kv dc pm an cv ct y => .of_eq (hb ql p1 p2 p3 q1 q2 q3 q4 r1 r2 r3 r4 kv dc pm an cv ct y u u'))
    fun h' tk e d t M => made_inv (vs := []) I1 M .nil (by show 0 ≤ sizeLine; omega) (rel2 i.nf ru ru') fun H' z1 z2 z3 => q e H' z1 z2 z3)
end
end ErL

set_option maxHeartbeats 1000000
namespace ErL
open PySem PySem.Spec PyProof.Rows L2
theorem guards_deeper {A : Around} {env : Env} (h : A.guards = some []) : (A.deeper env).guards = some [] := by
  first | exact h | (simpa [Around.deeper, pushGuards] using h)
/-- a promise without exceptions: the arguments, the heap, what follows -/
abbrev SpG := List V → Hp → VK → Prop
/-- a def keeps its promise wherever nothing is being shown -/
structure FnG (P : Program) (w : World) (K : PySem.W.Frag) (mg : Str → Option Value) (base : Heap) (k : Nat) (f : Addr) (fd : FuncData) (ps : List Str) (sp : SpG) : Prop where
  len : ∀ vs H Q, sp vs H Q → vs.length = ps.length
  run : ∀ (A : Around) (outer : List Env) (s : Shared) (H : Hp) (args : Args) (us : List Value) (vs : List V) (Q : VK), Room k A → A.guards = some [] →
    Env0 P w K mg base A outer s H → BindsTo s fd args (ps.zip us) → Vals vs us → sp vs H Q → codeAny (model P w) A (.call (.ref f) args) (CR CX0 outer P w H s Q E0) s

section
variable {P : Program} {w : World} {K : PySem.W.Frag} {mg : Str → Option Value} {base : Heap} {k : Nat} {f : Addr} {ps N : List Str} {sp : SpG}
theorem fnG_mk {x qual : Str} {st : Stmt} {fd : FuncData} (F : Fun K x qual st f fd) (S : FnScope N ps (defScope st)) (len : ∀ vs H Q, sp vs H Q → vs.length = ps.length)
    (hbody : ∀ (cdv : Value) (A : Around) (outer : List Env) (s : Shared) (H : Hp) (vs : List V) (Q : VK), Room k (A.deeper (envOfC qual (defScope st) s.heap.objs.size f cdv)) →
      (A.deeper (envOfC qual (defScope st) s.heap.objs.size f cdv)).guards = some [] → sp vs H Q →
      ∃ t, PSs (cxOf CX0 P w K mg base N qual (defScope st) f cdv A outer s H E0).nox (defBody st) t ∧ t { nx := fun _ H' => Q .non H', rt := Q } (start N vs) H) :
    FnG P w K mg base (k + 1) f fd ps sp := by
  obtain ⟨oc, od, kV, doc, pm, an, cdv, ct, osl, rfl, lk, hcd⟩ := F.ex
  refine ⟨len, fun A outer s H args us vs Q hr hg e0 hb r hsp => ?_⟩
  have hl := len _ _ _ hsp
  have KX : K.In s.heap := e0.mod.kin.keeps fun b o e => (e0.bs b o e).1
  have lim : s.heap.NoLimit := e0.mod.nolimit.keeps fun b o e => (e0.bs b o e).1
  have kinds : ∀ y ∈ ps.zip us, (defScope st).names.lookup y.1 = some .local ∨
      ((defScope st).names.lookup y.1 = some .cell ∧ ((cellsFrom (s.heap.objs.size + 1) (defScope st).names []).lookup y.1).isSome = true) := by
    rintro ⟨n, v⟩ hy
    rcases S.par n (List.of_mem_zip hy).1 with q | q
    · exact .inl q
    · exact .inr ⟨q, PySem.W.cellsFrom_some _ _ _ (.inl q)⟩
  refine codeAny_call_function hr.depth (KX _ _ lk) rfl S.co S.gen rfl (PySem.W.codeRec_of KX hcd) (hb _ _ _ _ ?_)
  refine wpAny_newFunctionEnv_cells S.kind kinds fun env he s1 x => ?_
  subst he
  refine ⟨lim.keeps x.toInCall.keep, codeAny_func ?_⟩
  obtain ⟨t, ht, hq⟩ := hbody cdv A outer s H vs Q (hr.deeper _) (guards_deeper hg) hsp
  have I := inv_start (CX := CX0) (E := E0) (P := P) (w := w) (K := K) (mg := mg) (base := base) S hr.hd e0 hl r x
  refine wpAny_mono (ht.nox.run [] s1 (start N vs) H _ I hq) (fun fl s' hs => ?_) fun e s' hs => hs
  cases fl with
  | ret u =>
    obtain ⟨v, σ', H', J, rv, q⟩ := hs
    exact ⟨v, H', J.os, J.bare, J.base, J.hok, rv, q⟩
  | next =>
    obtain ⟨σ', H', J, q⟩ := hs
    exact ⟨.non, H', J.os, J.bare, J.base, J.hok, rfl, q⟩
  | brk =>
    obtain ⟨_, _, _, q⟩ := hs
    exact q.elim
  | cont =>
    obtain ⟨_, _, _, q⟩ := hs
    exact q.elim
theorem FnG.mono {fd : FuncData} {j : Nat} (F : FnG P w K mg base j f fd ps sp) (h : j ≤ k) : FnG P w K mg base k f fd ps sp :=
  ⟨F.len, fun A outer s H args us vs Q hr => F.run A outer s H args us vs Q (hr.mono h)⟩
/-- what holds wherever, holds here -/
theorem FnG.of {fd : FuncData} {sp0 : Sp} (F : FnOk P w K mg base CX0 k f fd ps sp0) (h : ∀ vs H Q, sp vs H Q → sp0 vs H Q E0) : FnG P w K mg base k f fd ps sp :=
  ⟨fun vs H Q q => F.len vs H Q E0 (h _ _ _ q), fun A outer s H args us vs Q hr _ e0 hb r hsp => F.run A outer s H args us vs Q E0 hr e0 hb r (h _ _ _ hsp)⟩
end
section
variable {X : Cx} {k : Nat} {f : Addr} {fd : FuncData} {ps : List Str} {sp : SpG} {x : Str} {p pos : Pos} {e : Expr} {es : List Expr} {t : TA}
/-- f(..) -/
def tCallG (sp : SpG) (t : TA) : TE := fun σ H Q => t σ H fun vs H1 => sp vs H1 Q
theorem pe_callG (F : FnG X.prog X.w X.K X.mg X.base k f fd ps sp) (hr : Room k X.A) (hG : X.A.guards = some []) (hg : Gl X x) (hm : X.mg x = some (.ref f)) (hk : PySem.W.keepIn X.K (.ref f) = true) (hb : Binds X.K fd ps [])
    (ha : PA X (e :: es) t) (hdb : (x == ("__debug__" : Str)) = false := by decide) (he : starEach (e :: es) X.env = (false, eval e X.env) :: starEach es X.env := by rfl)
    (hpl : (backTo pos (starEach es X.env)).any (·.1) = false := by rfl) : PE X (.Call (.Name x p) (e :: es) [] pos) (tCallG sp t) := by
  refine ⟨fun pins s σ H Q I h => ?_⟩
  refine wpAny_Call_Name_kw (ld_glob I hg hm ?_ hdb)
  refine PySem.W.callWith_K (h₀ := X.base) I.ok.mod.kin hk (thn (ha.run pos pins s σ H _ I h) fun us s1 ⟨vs, H1, I1, r, q⟩ => ⟨I1.kIn, ?_⟩) he hpl
  have hl : (us ++ []).length = ps.length := by
    rw [List.append_nil, ← r.length]
    exact F.len _ _ _ q
  have hb1 := hb s1 us I1.kIn hl
  rw [List.append_nil] at hb1
  show wpAny _ _ (call (.ref f) us) _ _ _
  refine wpAny_call (codeAny_mono (F.run X.A X.stack s1 H1 ⟨us, []⟩ us vs Q hr hG I1.env0 hb1 r q) fun r' s' hq => ?_)
  cases r' with
  | error e => exact False.elim hq
  | ok fl =>
    cases fl with
    | ret u => exact I1.after hq
    | next => exact False.elim hq
    | brk => exact False.elim hq
    | cont => exact False.elim hq
end
end ErL

set_option maxHeartbeats 1000000
/-! operators of an own class over the layer: a method of two operands, a method of one, == -/
namespace RtL
open PySem PySem.Spec PyProof.Rows L2
section
variable {X : Cx} {CX : CXT} {k : Nat} {f C : Addr} {fd : FuncData} {sp : Sp} {E : XK} {ps : List Str}
/-- x op y by the method of x's class, y of the same class or a whole number -/
def rOwnBin (C : Addr) (sp : Sp) (E : XK) : R2 := fun x y H Q => ∃ a dx fs, x = .ref a ∧ H a = some (.ins C dx fs) ∧ ((∃ i, y = .int i) ∨ ∃ b dy gs, y = .ref b ∧ H b = some (.ins C dy gs)) ∧ sp [.ref a, y] H Q E
/-- what is asked of the class -/
structure OpOf (K : PySem.W.Frag) (C f : Addr) (d r : Str) : Prop where
  me : PySem.W.selfFirst K C = true
  at_ : PySem.W.findIn K (.ref C) d = some (some (.ref f))
  fn : PySem.W.isFn K (.ref f) = true
  re : PySem.W.findIn K (.ref C) r = some none
  nt : PySem.W.subIn K (.type "int") (.ref C) = some false
theorem op_ownBin {op : Operator} {fo ro : Option Value} (O : OpOf X.K C f (PySem.dunder op.info.2) (PySem.dunderR op.info.2)) (h1 : PySem.W.findIn X.K (.type "int") (PySem.dunder op.info.2) = some fo) (h2 : PySem.W.findIn X.K (.type "int") (PySem.dunderR op.info.2) = some ro)
    (F : FnOk X.prog X.w X.K X.mg X.base CX k f fd ps sp) (hr : Room k X.A) (hb : Binds X.K fd ps []) (hx : Passes CX X E) : OpR X (binaryOp op) (rOwnBin C sp E) := by
  intro pins s σ H x y v u Q I rx ry h
  obtain ⟨a, dx, fs, rfl, ha, hy, q⟩ := h
  cases (show v = Value.ref a from rx)
  obtain ⟨mA, oa, _⟩ := ins_get I.hok ha
  obtain ⟨od, J, _⟩ := oa.look
  obtain ⟨m, hF⟩ := I.fr
  have go := wpAny_mono (run_fn F hr hb .nil hx I (us := [.ref a, u]) (vs := [.ref a, y]) (.cons rfl (.cons ry .nil)) q) (fun w s' z => (by
    obtain ⟨z', H', I', rz, qz⟩ := z
    exact SlX.cmpback rz ⟨z', H', I', rz, qz⟩ : PySem.W.CmpBack (EP X pins σ Q) w s')) fun _ _ x => x
  rcases hy with ⟨i, rfl⟩ | ⟨b, dy, gs, rfl, hb'⟩
  · obtain ⟨t, e⟩ := (show ∃ t, u = Value.int i t from ry)
    subst e
    exact PySem.W.ksp_binT hF I.ok.mod.kin J rfl O.me O.at_ O.fn O.re (.inl rfl) h1 h2 O.nt go
  · cases (show u = Value.ref b from ry)
    obtain ⟨mB, ob, _⟩ := ins_get I.hok hb'
    obtain ⟨od', J', _⟩ := ob.look
    exact PySem.W.binop_K hF I.ok.mod.kin J J'.type O.me O.at_ O.fn go
/-- - x by the method of x's class -/
def rOwnUn (C : Addr) (sp : Sp) (E : XK) : V → Hp → VK → Prop := fun x H Q => ∃ a dx fs, x = .ref a ∧ H a = some (.ins C dx fs) ∧ sp [.ref a] H Q E
theorem un_own (hs : PySem.W.findIn X.K (.ref C) "__neg__" = some (some (.ref f))) (hf : PySem.W.isFn X.K (.ref f) = true) (F : FnOk X.prog X.w X.K X.mg X.base CX k f fd ps sp) (hr : Room k X.A) (hb : Binds X.K fd ps []) (hx : Passes CX X E) :
    UnR X (unaryOp .USub) (rOwnUn C sp E) := by
  intro pins s σ H x v Q I rx h
  obtain ⟨a, dx, fs, rfl, ha, q⟩ := h
  cases (show v = Value.ref a from rx)
  obtain ⟨mA, oa, _⟩ := ins_get I.hok ha
  obtain ⟨od, J, _⟩ := oa.look
  obtain ⟨m, hF⟩ := I.fr
  exact PySem.W.ksp_neg hF I.ok.mod.kin J hs hf (run_fn F hr hb .nil hx I (us := [.ref a]) (vs := [.ref a]) (.cons rfl .nil) q)
/-- x == y by the method of x's class, y of the same class, a whole number, a text, None or a truth value -/
def rOwnEq (C : Addr) (sp : Sp) (E : XK) : R2 := fun x y H Q => ∃ a dx fs, x = .ref a ∧ H a = some (.ins C dx fs) ∧ ((∃ b dy gs, y = .ref b ∧ H b = some (.ins C dy gs)) ∨ (∃ i, y = .int i) ∨ (∃ z, y = .str z) ∨ y = .non ∨ ∃ c, y = .bl c) ∧ sp [.ref a, y] H Q E
structure EqOf (K : PySem.W.Frag) (C f : Addr) : Prop where
  at_ : PySem.W.findIn K (.ref C) "__eq__" = some (some (.ref f))
  fn : PySem.W.isFn K (.ref f) = true
  nt : ∀ t ∈ ["int", "str", "NoneType", "bool"], PySem.W.subIn K (.type t) (.ref C) = some false
theorem op_ownEq (O : EqOf X.K C f) (F : FnOk X.prog X.w X.K X.mg X.base CX k f fd ps sp) (hr : Room k X.A) (hb : Binds X.K fd ps []) (hx : Passes CX X E) : OpR X (compareOp .Eq) (rOwnEq C sp E) := by
  intro pins s σ H x y v u Q I rx ry h
  obtain ⟨a, dx, fs, rfl, ha, hy, q⟩ := h
  cases (show v = Value.ref a from rx)
  obtain ⟨mA, oa, _⟩ := ins_get I.hok ha
  obtain ⟨od, J, _⟩ := oa.look
  obtain ⟨m, hF⟩ := I.fr
  have go := wpAny_mono (run_fn F hr hb .nil hx I (us := [.ref a, u]) (vs := [.ref a, y]) (.cons rfl (.cons ry .nil)) q) (fun w s' z => (by
    obtain ⟨z', H', I', rz, qz⟩ := z
    exact SlX.cmpback rz ⟨z', H', I', rz, qz⟩ : PySem.W.CmpBack (EP X pins σ Q) w s')) fun _ _ x => x
  have nf : ∀ t ∈ ["int", "str", "NoneType", "bool"], PySem.W.notFirst X.K C (.type t) = true := fun t ht => by
    unfold PySem.W.notFirst
    rw [O.nt t ht]
    simp
  show wpAny _ _ (richCompare .Eq _ _) _ _ _
  rcases hy with ⟨b, dy, gs, rfl, hb'⟩ | ⟨i, rfl⟩ | ⟨z, rfl⟩ | rfl | ⟨c, rfl⟩
  · cases (show u = Value.ref b from ry)
    obtain ⟨mB, ob, _⟩ := ins_get I.hok hb'
    obtain ⟨od', J', _⟩ := ob.look
    exact PySem.W.cmp_K (op := .Eq) (tb := .ref C) hr.units0 hF I.ok.mod.kin J J'.type (by unfold PySem.W.notFirst; simp) O.at_ O.fn go
  · obtain ⟨t, e⟩ := (show ∃ t, u = Value.int i t from ry)
    subst e
    exact PySem.W.cmp_K (op := .Eq) (tb := .type "int") hr.units0 hF I.ok.mod.kin J (PySem.W.Looks.of_pure rfl) (nf _ (by decide)) O.at_ O.fn go
  · obtain ⟨t, e⟩ := (show ∃ t, u = Value.str z t from ry)
    subst e
    exact PySem.W.cmp_K (op := .Eq) (tb := .type "str") hr.units0 hF I.ok.mod.kin J (PySem.W.Looks.of_pure rfl) (nf _ (by decide)) O.at_ O.fn go
  · cases (show u = Value.none from ry)
    exact PySem.W.cmp_K (op := .Eq) (tb := .type "NoneType") hr.units0 hF I.ok.mod.kin J (PySem.W.Looks.of_pure rfl) (nf _ (by decide)) O.at_ O.fn go
  · cases (show u = Value.bool c from ry)
    exact PySem.W.cmp_K (op := .Eq) (tb := .type "bool") hr.units0 hF I.ok.mod.kin J (PySem.W.Looks.of_pure rfl) (nf _ (by decide)) O.at_ O.fn go
end
end RtL

set_option maxHeartbeats 1000000
/-! a def that stands anywhere (a property's getter, a classmethod's def): what the head's look says of it -/
namespace RtL
open PySem PySem.Spec PyProof.Rows L2
abbrev Fr := PySem.W.Frag
def lookA (K : Fr) (a : Addr) : He.FnW := match K.lookup a with
  | some ⟨_, _, .func d, _⟩ => some (d.name, d.qualname, d.params, d.body, d.scope, d.globals, d.closure, d.builtins)
  | _ => none
def wellA (K : Fr) (a : Addr) (q : Str) (ds : List He.Dv) : Bool := PySem.W.keepIn K (.ref a) && match K.lookup a with
  | some ⟨_, _, .func d, _⟩ => PySem.W.codeIn K d.code q && (He.dflB K d.defaults (ds.map (He.Dv.v K)) && He.kwdB K d.kwdefaults [])
  | _ => false
theorem def_at {K : Fr} {a : Addr} {x q : Str} {ps : Arguments} {bd : List Stmt} {sc : Scope} {ds : List He.Dv} (e : lookA K a = some (x, q, ps, .stmts bd, sc, mainGlobals, [], builtinsNs)) (c : wellA K a q ds = true) :
    ∃ fd, FunD K x q ps bd sc (ds.map (He.Dv.v K)) [] a fd := by
  have c1 := (Bool.and_eq_true_iff.mp c).1
  have c2 := (Bool.and_eq_true_iff.mp c).2
  unfold lookA at e
  cases hl : K.lookup a with
  | none => rw [hl] at e; cases e
  | some o =>
    obtain ⟨o1, o2, dt, o3⟩ := o
    rw [hl] at e c2
    cases dt with
    | func d =>
      obtain ⟨m1, m2, m3, m4, m5, m6, m7, m8, m9, m10, m11, m12, m13, m14, m15⟩ := d
      have e' : (some (m1, m2, m3, m4, m5, m6, m7, m15) : He.FnW) = some (x, q, ps, .stmts bd, sc, mainGlobals, [], builtinsNs) := e
      injection e' with e'
      simp only [Prod.mk.injEq] at e'
      obtain ⟨rfl, rfl, rfl, rfl, rfl, rfl, rfl, rfl⟩ := e'
      have c3 : (PySem.W.codeIn K m13 m2 && (He.dflB K m8 (ds.map (He.Dv.v K)) && He.kwdB K m9 [])) = true := c2
      have c4 := (Bool.and_eq_true_iff.mp c3).2
      exact ⟨_, ⟨o1, o2, m8, m9, m10, m11, m12, m13, m14, o3, rfl, hl, (Bool.and_eq_true_iff.mp c3).1, He.dflB_ok (Bool.and_eq_true_iff.mp c4).1, He.kwdB_ok (Bool.and_eq_true_iff.mp c4).2⟩, c1⟩
    | _ => cases c2
/-- the def of a record (a property, a classmethod) that a class has under a name -/
def recA (K : Fr) (C : Addr) (f : Str) (T : String) : Addr := match PySem.W.recIn K (He.ma K C f) T with
  | some (.ref g :: _) => g
  | _ => 0
def propB (K : Fr) (C : Addr) (f : Str) : Bool := He.eqO (PySem.W.findIn K (.ref C) f) (some (some (.ref (He.ma K C f)))) && (He.eqO (PySem.W.specialIn K (.ref (He.ma K C f)) "__get__") (some (some (.builtin "property.__get__"))) &&
  (decide (PySem.W.takesIn K (.ref (He.ma K C f)) = some true) && match PySem.W.recIn K (He.ma K C f) "property" with
    | some (.ref _ :: _) => true
    | _ => false))
theorem prop_ok {K : Fr} {C : Addr} {f : Str} (h : propB K C f = true) : PropOf K C f (He.ma K C f) (recA K C f "property") := by
  have h1 := (Bool.and_eq_true_iff.mp h).1
  have h2 := (Bool.and_eq_true_iff.mp (Bool.and_eq_true_iff.mp h).2).1
  have h3 := (Bool.and_eq_true_iff.mp (Bool.and_eq_true_iff.mp (Bool.and_eq_true_iff.mp h).2).2).1
  have h4 := (Bool.and_eq_true_iff.mp (Bool.and_eq_true_iff.mp (Bool.and_eq_true_iff.mp h).2).2).2
  refine ⟨He.eqO_ok h1, He.eqO_ok h2, of_decide_eq_true h3, ?_⟩
  unfold recA
  split at h4
  · rename_i g r e
    exact ⟨r, by rw [e]⟩
  · cases h4
end RtL

set_option maxHeartbeats 0
namespace K15
open PySem PySem.Spec PyProof.Rows L2 RtL
def top (i : Nat) : Stmt := PySem.Challenge.pw_slotsums_k15_whole_ratios_in_chains.main.body.getD i (.Pass ⟨0, 0, 0, 0⟩)
abbrev inR (i : Nat) : Stmt := inClass (top 11) i
/-! ### the defs -/
def glD (i : Nat) (x : Str) : He.DefD := ⟨(x, none), x, x, defArgs (top i), defBody (top i), defScope (top i), [], []⟩
def meD (i : Nat) (m : Str) (d : List He.Dv) : He.DefD := ⟨("Ratio", some m), m, "Ratio." ++ m, defArgs (inR i), defBody (inR i), defScope (inR i), d, []⟩
def ln : List Str := ["_law_pot", "_law_draw", "_law_pick", "_law_least", "_law_whole_number", "_law_fresh", "_law_right_one", "_law_divided", "_law_done", "_law_is_pair", "_law_compared", "_law_totalled", "_law_right", "law"]
def fn : List He.DefD := [glD 7 "is_an_integer", glD 9 "is_number", glD 10 "as_ratio", meD 0 "__init__" [.int 1], meD 5 "over" [], meD 6 "is_below" [], meD 7 "__add__" [], meD 8 "__sub__" [], meD 9 "__mul__" [], meD 10 "__neg__" [], meD 11 "__eq__" [], meD 12 "__str__" [], meD 13 "__repr__" []] ++ (List.range 14).map fun i => glD (13 + i) (ln.getD i "")
/-- the defs of the class's records: the attribute, the record's type, the place in the class's text -/
def rc : List (Str × String × Nat) := [("top", "property", 1), ("bottom", "property", 2), ("sign", "property", 3), ("total", "classmethod", 4)]
def fr : List Str := ["abs", "len", "max", "int", "divmod", "isinstance", "range", "repr", "str", "bool", "min", "all", "zip"]
def fa : List He.Fa := ((["is_an_integer", "is_number", "as_ratio", "Ratio", "InvalidNumber", "DividedByZero"] : List Str) ++ ln).map He.Fa.glo ++ (fr.map He.Fa.free ++ [He.Fa.cls "Ratio", He.Fa.mkr "Ratio", He.Fa.noat "Ratio" "_top", He.Fa.noat "Ratio" "_bottom", He.Fa.meth "Ratio" "over", He.Fa.meth "Ratio" "is_below"])
def recV (K : Fr) (r : Str × String × Nat) : He.FnW := lookA K (recA K (He.ga K "Ratio") r.1 r.2.1)
def recW (r : Str × String × Nat) : He.FnW := some (r.1, "Ratio." ++ r.1, defArgs (inR r.2.2), .stmts (defBody (inR r.2.2)), defScope (inR r.2.2), mainGlobals, [], builtinsNs)
/-! ### what is asked of the class -/
def binB (K : Fr) (m r : Str) : Bool := He.eqO (PySem.W.findIn K (.ref (He.ga K "Ratio")) m) (some (some (.ref (He.ma K (He.ga K "Ratio") m)))) && (PySem.W.isFn K (.ref (He.ma K (He.ga K "Ratio") m)) && He.eqO (PySem.W.findIn K (.ref (He.ga K "Ratio")) r) (some none))
def spcB (K : Fr) (m : Str) : Bool := He.eqO (PySem.W.findIn K (.ref (He.ga K "Ratio")) m) (some (some (.ref (He.ma K (He.ga K "Ratio") m)))) && PySem.W.isFn K (.ref (He.ma K (He.ga K "Ratio") m))
def claB (K : Fr) : Bool := He.eqO (PySem.W.findIn K (.ref (He.ga K "Ratio")) "__class__") (some (some (.builtin "object.__class__"))) && (He.eqO (PySem.W.specialIn K (.builtin "object.__class__") "__get__") (some (some (.builtin "getset_descriptor.__get__"))) &&
  (decide (PySem.W.takesIn K (.builtin "object.__class__") = some true) && (decide (PySem.W.mroIn K (He.ga K "Ratio") (.type "object") = some true) && (decide (PySem.W.kitOne K (.ref (He.ga K "Ratio")) (.type "int") = some false) && decide (PySem.W.kitOne K (.ref (He.ga K "Ratio")) (.type "bool") = some false)))))
def excB (K : Fr) : Bool := PySem.W.excIn K (He.ga K "DividedByZero") [.type "RuntimeError", .type "Exception", .type "BaseException", .type "object"] "RuntimeError.__new__" && (PySem.W.keepIn K (.ref (He.ga K "DividedByZero")) && (decide (PySem.W.subIn K (.ref (He.ga K "DividedByZero")) (.type "BaseException") = some true) && (decide (PySem.W.typeIn K (.ref (He.ga K "DividedByZero")) = some (.type "type")) && (decide (PySem.W.exmOne K (.ref (He.ga K "DividedByZero")) (.ref (He.ga K "DividedByZero")) = some true) && PySem.W.isClsIn K (He.ga K "DividedByZero")))))
def cmB (K : Fr) : Bool := PySem.W.readsIn K (He.ga K "Ratio") (.type "type") && (He.eqO (PySem.W.specialIn K (.ref (He.ga K "Ratio")) "__getattribute__") (some (some (.builtin "type.__getattribute__"))) &&
  ((match PySem.W.findCls K (.ref (He.ga K "Ratio")) (.type "type") "total" with
    | some (.get (.builtin b) (.ref p) .none (.ref c)) => b == "classmethod.__get__" && (p == He.ma K (He.ga K "Ratio") "total" && c == He.ga K "Ratio")
    | _ => false) && (match PySem.W.recIn K (He.ma K (He.ga K "Ratio") "total") "classmethod" with
    | some (.ref g :: _) => PySem.W.fnIn K g
    | _ => false)))
def tys : List String := ["int", "str", "NoneType", "bool", "list", "tuple"]
def chk (K : Fr) : Bool := (K.lookup sysModules).isSome && (decide (PySem.W.nsIn K mainGlobals "gcd" = some (some (.builtin "math.gcd"))) && (PySem.W.selfFirst K (He.ga K "Ratio") && ((["top", "bottom", "sign"] : List Str).all (propB K (He.ga K "Ratio")) &&
  (binB K "__add__" "__radd__" && (binB K "__sub__" "__rsub__" && (binB K "__mul__" "__rmul__" && ((["__neg__", "__eq__", "__str__", "__repr__"] : List Str).all (spcB K) &&
  (tys.all (fun t => decide (PySem.W.subIn K (.type t) (.ref (He.ga K "Ratio")) = some false)) && (tys.all (fun t => decide (PySem.W.kitOne K (.type t) (.ref (He.ga K "Ratio")) = some false)) &&
  (decide (PySem.W.kitOne K (.ref (He.ga K "Ratio")) (.ref (He.ga K "Ratio")) = some true) && (He.eqO (PySem.W.findIn K (.ref (He.ga K "Ratio")) "__ne__") (some (some (.builtin "object.__ne__"))) && claB K && excB K && cmB K && rc.all fun r => wellA K (recA K (He.ga K "Ratio") r.1 r.2.1) ("Ratio." ++ r.1) [])))))))))))
/-! ### the Hook -/
abbrev AlX : Type := He.AlD × List He.FnW
def obsX (K : Fr) : AlX := ((((fa.all fun f => f.ok K) && fn.all fun d => d.ok K) && chk K, fn.map fun d => He.fnW K d.at_), rc.map (recV K))
def valX : AlX := (He.valD fn, rc.map recW)
def Says (K : Fr) : Prop := obsX K = valX
def frX (g : Addr → Option Obj) : Fr := He.frG g (sysModules :: cStatics :: He.asD g 5)
def hk : PySem.W.Hook where
  α := AlX
  obs := fun s => obsX (frX s.heap.get?)
  val := fun _ => valX
  says := fun _ h => ∃ K : Fr, K.In h ∧ Says K
  of := fun _ _ e => ⟨_, He.frG_in, e⟩
  keeps := fun _ _ _ ⟨K, hK, c⟩ k => ⟨K, PySem.W.Frag.In.keeps hK k, c⟩
def ob (s : PySem.W.SharedT) : AlX := obsX (frX (HandSHeadRun.getT s))
theorem ob_eq (s : PySem.W.SharedT) : ob s = hk.obs s.abs := by
  have e : HandSHeadRun.getT s = s.abs.heap.get? := funext (HandSHeadRun.getT_eq s)
  show obsX (frX (HandSHeadRun.getT s)) = obsX (frX s.abs.heap.get?)
  rw [e]
def names : List Str := ["SlotsumsError", "InvalidNumber", "StateError", "DividedByZero", "is_an_integer", "is_number", "as_ratio", "Ratio", "_law_pot", "_law_draw", "_law_pick", "_law_least", "_law_whole_number", "_law_fresh", "_law_right_one", "_law_divided", "_law_done", "_law_is_pair", "_law_compared", "_law_totalled", "_law_right"]
abbrev R : PySem.W.OpenRow := PySem.W.OpenLaw.row PySem.Challenge.rw_slotsums_k15_whole_ratios_in_chains
end K15

set_option maxHeartbeats 4000000
namespace K15
open PySem PySem.Spec PyProof.Rows L2 RtL
abbrev RC (K : Fr) : Addr := He.ga K "Ratio"
abbrev rm (K : Fr) (m : Str) : Addr := He.ma K (RC K) m
structure TT (K : Fr) (mg : Str → Option Value) : Prop where
  sys : ∃ o, K.lookup sysModules = some o
  gcd : mg "gcd" = some (.builtin "math.gcd")
  me : PySem.W.selfFirst K (RC K) = true
  cl : Cls K (RC K)
  mkr : Mk K (RC K) (rm K "__init__")
  nT : NoAttr K (RC K) "_top"
  nB : NoAttr K (RC K) "_bottom"
  over : Meth K (RC K) "over" (rm K "over")
  below : Meth K (RC K) "is_below" (rm K "is_below")
  prop : ∀ f ∈ (["top", "bottom", "sign"] : List Str), PropOf K (RC K) f (rm K f) (recA K (RC K) f "property")
  bin : ∀ m r : Str, (m, r) ∈ ([("__add__", "__radd__"), ("__sub__", "__rsub__"), ("__mul__", "__rmul__")] : List (Str × Str)) → OpOf K (RC K) (rm K m) m r
  spc : ∀ m ∈ (["__neg__", "__eq__", "__str__", "__repr__"] : List Str), PySem.W.findIn K (.ref (RC K)) m = some (some (.ref (rm K m))) ∧ PySem.W.isFn K (.ref (rm K m)) = true
  eq : EqOf K (RC K) (rm K "__eq__")
  kitT : ∀ t ∈ tys, PySem.W.kitOne K (.type t) (.ref (RC K)) = some false
  kitR : PySem.W.kitOne K (.ref (RC K)) (.ref (RC K)) = some true
  kitI : PySem.W.kitOne K (.ref (RC K)) (.type "int") = some false
  kitB : PySem.W.kitOne K (.ref (RC K)) (.type "bool") = some false
  ty : ∀ {H : Hp} {a dx : Addr} {fs : List (Str × V)}, H a = some (.ins (RC K) dx fs) → TyX K H (.ref a) (.ref (RC K))
  exc : PySem.W.excIn K (He.ga K "DividedByZero") [.type "RuntimeError", .type "Exception", .type "BaseException", .type "object"] "RuntimeError.__new__" = true ∧ PySem.W.keepIn K (.ref (He.ga K "DividedByZero")) = true ∧ PySem.W.subIn K (.ref (He.ga K "DividedByZero")) (.type "BaseException") = some true ∧
    PySem.W.typeIn K (.ref (He.ga K "DividedByZero")) = some (.type "type") ∧ PySem.W.exmOne K (.ref (He.ga K "DividedByZero")) (.ref (He.ga K "DividedByZero")) = some true ∧ PySem.W.isClsIn K (He.ga K "DividedByZero") = true
  ne : PySem.W.findIn K (.ref (RC K)) "__ne__" = some (some (.builtin "object.__ne__")) ∧ PySem.W.mroIn K (RC K) (.type "object") = some true
  cm : ClX.CRead K (RC K) (.type "type") ∧ ClX.CMet K (RC K) (.type "type") "total" (rm K "total") (recA K (RC K) "total" "classmethod")
  free : ∀ x ∈ fr, mg x = none
  dfs : ∀ d ∈ fn, ∃ fd, FunD K d.name d.qual d.params d.body d.scope (d.dvs K) (d.kws K) (He.fAd K d.at_) fd
  rcs : ∀ r ∈ rc, ∃ fd, FunD K r.1 ("Ratio." ++ r.1) (defArgs (inR r.2.2)) (defBody (inR r.2.2)) (defScope (inR r.2.2)) [] [] (recA K (RC K) r.1 r.2.1) fd
  gl : ∀ x ∈ ([ "is_an_integer", "is_number", "as_ratio", "Ratio", "InvalidNumber", "DividedByZero"] : List Str) ++ ln, mg x = some (.ref (He.ga K x))
theorem tt_of {K : Fr} {h : Heap} {mg : Str → Option Value} (X : K.In h) (G : h.Ns mainGlobals mg) (c : Says K) : TT K mg := by
  have c1 : (((fa.all fun f => f.ok K) && fn.all fun d => d.ok K) && chk K) = true := congrArg (fun z : AlX => z.1.1) c
  have c2 : fn.map (fun d => He.fnW K d.at_) = fn.map He.DefD.val := congrArg (fun z : AlX => z.1.2) c
  have c3 : rc.map (recV K) = rc.map recW := congrArg (fun z : AlX => z.2) c
  obtain ⟨c1, k⟩ := He.ba c1
  obtain ⟨ca, cd⟩ := He.ba c1
  unfold chk at k
  simp only [Bool.and_eq_true] at k
  obtain ⟨k1, k2, k3, k4, k5, k6, k7, k8, k9, k10, k11, ⟨⟨⟨kn, kc⟩, kx⟩, km⟩, k12⟩ := k
  unfold claB at kc
  unfold excB at kx
  unfold cmB at km
  simp only [Bool.and_eq_true] at kc kx km
  obtain ⟨m1, m2, m3, m4⟩ := km
  obtain ⟨a1, a2, a3, a4, a5, a6⟩ := kc
  obtain ⟨x1, x2, x3, x4, x5, x6⟩ := kx
  have fac : ∀ f ∈ fa, f.ok K = true := fun f hf => List.all_eq_true.mp ca f hf
  have lst : ∀ f ∈ [He.Fa.cls "Ratio", He.Fa.mkr "Ratio", He.Fa.noat "Ratio" "_top", He.Fa.noat "Ratio" "_bottom", He.Fa.meth "Ratio" "over", He.Fa.meth "Ratio" "is_below"], f.ok K = true := fun f hf => fac f (List.mem_append_right _ (List.mem_append_right _ hf))
  have C0 : Cls K (RC K) := He.cls_ok (lst (.cls "Ratio") (by simp))
  have nt : ∀ t ∈ tys, PySem.W.subIn K (.type t) (.ref (RC K)) = some false := fun t ht => of_decide_eq_true (List.all_eq_true.mp k9 t ht)
  have op : ∀ m r : Str, binB K m r = true → OpOf K (RC K) (rm K m) m r := fun m r h => by
    unfold binB at h
    simp only [Bool.and_eq_true] at h
    exact ⟨k3, He.eqO_ok h.1, h.2.1, He.eqO_ok h.2.2, nt "int" (by decide)⟩
  have sp : ∀ m ∈ (["__neg__", "__eq__", "__str__", "__repr__"] : List Str), PySem.W.findIn K (.ref (RC K)) m = some (some (.ref (rm K m))) ∧ PySem.W.isFn K (.ref (rm K m)) = true := fun m hm => by
    have z := List.all_eq_true.mp k8 m hm
    unfold spcB at z
    exact ⟨He.eqO_ok (He.ba z).1, (He.ba z).2⟩
  refine ⟨Option.isSome_iff_exists.mp k1, PySem.W.mg_of X G (of_decide_eq_true k2), k3, C0, He.mkr_ok (lst (.mkr "Ratio") (by simp)), He.noat_ok (lst (.noat "Ratio" "_top") (by simp)), He.noat_ok (lst (.noat "Ratio" "_bottom") (by simp)),
    He.meth_ok (lst (.meth "Ratio" "over") (by simp)), He.meth_ok (lst (.meth "Ratio" "is_below") (by simp)), fun f hf => prop_ok (List.all_eq_true.mp k4 f hf), fun m r hm => ?_, sp,
    ⟨(sp "__eq__" (by decide)).1, (sp "__eq__" (by decide)).2, fun t ht => nt t (by revert t; decide)⟩, fun t ht => of_decide_eq_true (List.all_eq_true.mp k10 t ht), of_decide_eq_true k11, of_decide_eq_true a5, of_decide_eq_true a6,
    fun ha => .base (.ins ha C0 (He.eqO_ok a1) (He.eqO_ok a2) (of_decide_eq_true a3) (of_decide_eq_true a4)), ⟨x1, x2, of_decide_eq_true x3, of_decide_eq_true x4, of_decide_eq_true x5, x6⟩, ⟨He.eqO_ok kn, of_decide_eq_true a4⟩, ⟨⟨m1, He.eqO_ok m2⟩, ?_, ?_, ?_⟩,
    fun x hx => He.free_ok X G (fac (.free x) (List.mem_append_right _ (List.mem_append_left _ (List.mem_map.mpr ⟨x, hx, rfl⟩)))), fun d hd => ?_, fun r hr => ?_, fun x hx => He.glo_ok X G (fac (.glo x) (List.mem_append_left _ (List.mem_map.mpr ⟨x, hx, rfl⟩)))⟩
  · simp only [List.mem_cons, Prod.mk.injEq, List.not_mem_nil, or_false] at hm
    rcases hm with ⟨rfl, rfl⟩ | ⟨rfl, rfl⟩ | ⟨rfl, rfl⟩
    · exact op _ _ k5
    · exact op _ _ k6
    · exact op _ _ k7
  · split at m3
    · rename_i b p c e
      simp only [Bool.and_eq_true, beq_iff_eq] at m3
      obtain ⟨rfl, rfl, rfl⟩ := m3
      exact e
    · cases m3
  · unfold recA
    split at m4
    · rename_i g r e
      exact ⟨r, by rw [e]⟩
    · cases m4
  · unfold recA
    split at m4
    · rename_i g r e
      rw [e]
      exact m4
    · cases m4
  · obtain ⟨i, hi⟩ := List.getElem?_of_mem hd
    have e2 : (fn.map fun d => He.fnW K d.at_)[i]? = (fn.map He.DefD.val)[i]? := by rw [c2]
    rw [List.getElem?_map, List.getElem?_map, hi] at e2
    exact He.DefD.funD (Option.some.inj e2) (List.all_eq_true.mp cd d hd)
  · obtain ⟨i, hi⟩ := List.getElem?_of_mem hr
    have e2 : (rc.map (recV K))[i]? = (rc.map recW)[i]? := by rw [c3]
    rw [List.getElem?_map, List.getElem?_map, hi] at e2
    exact def_at (ds := []) (Option.some.inj e2) (List.all_eq_true.mp k12 r hr)
end K15

set_option maxHeartbeats 4000000
namespace K15
open PySem PySem.Spec PyProof.Rows L2 RtL
/-! ### numbers in lowest terms -/
def sg (b : Int) (g : Nat) : Int := if b < 0 then -(g : Int) else (g : Int)
def lowS (t b : Int) : Int := sg b (t.natAbs.gcd b.natAbs)
def lowT (t b : Int) : Int := t.fdiv (lowS t b)
def lowB (t b : Int) : Int := b.fdiv (lowS t b)
abbrev Bd (n : Nat) (i : Int) : Prop := i.natAbs < 2 ^ n
theorem lowS_ne {t b : Int} (h : b ≠ 0) : lowS t b ≠ 0 := by
  have g : 0 < t.natAbs.gcd b.natAbs := Nat.gcd_pos_of_pos_right _ (Int.natAbs_pos.mpr h)
  unfold lowS sg
  split <;> omega
theorem lowS_abs {t b : Int} : (lowS t b).natAbs = t.natAbs.gcd b.natAbs := by
  unfold lowS sg
  split
  · rw [Int.natAbs_neg]
    exact Int.natAbs_natCast _
  · exact Int.natAbs_natCast _
theorem lowS_bd {t b : Int} {n : Nat} (h : b ≠ 0) (hb : Bd n b) : Bd n (lowS t b) := by
  show (lowS t b).natAbs < _
  rw [lowS_abs]
  exact Nat.lt_of_le_of_lt (Nat.gcd_le_right _ (Int.natAbs_pos.mpr h)) hb
def CDivX : Int → Int → Prop := fun _ j => j ≠ 0 ∧ j.natAbs.log2 < 9000
theorem op_fdivX {X : Cx} : OpR X (binaryOp .FloorDiv) (rI CDivX fun i j => .int (i.fdiv j)) := opI fun _ _ _ _ _ _ _ hc q => floordiv_int hc.1 q (.inl (PyProof.noPylong_of_log2 hc.2))
theorem bd_log {n : Nat} {i : Int} (h : Bd n i) (hn : n ≤ 9000) (h0 : 0 < n := by decide) : i.natAbs.log2 < 9000 := Nat.lt_of_lt_of_le (PySem.Flt.log2_lt_of h0 h) hn
/-! ### a ratio in the heap -/
def RatAt (K : Fr) (H : Hp) (a : Addr) (t b : Int) : Prop := ∃ dx, H a = some (.ins (RC K) dx [("_top", .int t), ("_bottom", .int b)])
theorem RatAt.same {K : Fr} {H H' : Hp} {a : Addr} {t b : Int} (h : RatAt K H a t b) (s : Same H H') : RatAt K H' a t b := by
  obtain ⟨dx, e⟩ := h
  exact ⟨dx, s _ _ e⟩
section
variable {P : Program} {w : World} {K : Fr} {mg : Str → Option Value} {base : Heap} {f : Addr} {fd : FuncData}
theorem TT.fre (T : TT K mg) {x : Str} (h : x ∈ fr := by decide) : mg x = none := T.free x h
abbrev FnP (K : Fr) (d : He.DefD) (f : Addr) (fd : FuncData) : Prop := FunD K d.name d.qual d.params d.body d.scope (d.dvs K) (d.kws K) f fd
/-! ### is_an_integer -/
abbrev s_isint : Stmt := top 7
theorem sc_isint : FnScope ["value"] ["value"] (defScope s_isint) := ⟨rfl, rfl, rfl, by decide +kernel, rfl, by decide +kernel, by decide +kernel⟩
def spIsint (K : Fr) : Sp := fun vs H Q _ => ∃ v, vs = [v] ∧ ((∃ i, v = .int i ∧ Q (.bl true) H) ∨ ∃ a t b, v = .ref a ∧ RatAt K H a t b ∧ Q (.bl false) H)
theorem ok_isint (F : FunD K "is_an_integer" "is_an_integer" (defArgs s_isint) (defBody s_isint) (defScope s_isint) [] [] f fd) (T : TT K mg) : FnOk P w K mg base CX0 1 f fd ["value"] (spIsint K) := by
  refine F.ok sc_isint (fun vs H Q E h => ?_) (fun cdv A outer s H vs Q E hr h => ?_)
  · obtain ⟨v, rfl, _⟩ := h
    rfl
  · obtain ⟨v, rfl, h⟩ := h
    refine ⟨_, PSs.nox (pss_one (ps_ret (pe_and (pe_callB call_isi (by rfl) T.fre (by decide +kernel) (pa_cons (pv 0) (pa_cons (pe_bltn (v := .ty "int") (u := .type "int") (by rfl) T.fre (by decide +kernel) rfl) pa_nil)))
      (pe_one (pe_not (pe_callB call_isi (by rfl) T.fre (by decide +kernel) (pa_cons (pv 0) (pa_cons (pe_bltn (v := .ty "bool") (u := .type "bool") (by rfl) T.fre (by decide +kernel) rfl) pa_nil)))))))), ?_⟩
    rcases h with ⟨i, rfl, q⟩ | ⟨a, t, b, rfl, ⟨dx, ea⟩, q⟩
    · exact ⟨_, rfl, _, _, _, _, true, rfl, .ty "int", .base (.int i), kit_ty rfl, true, rfl, iteT ⟨_, rfl, _, _, _, _, false, rfl, .ty "bool", .base (.int i), kit_ty rfl, false, rfl, q⟩⟩
    · exact ⟨_, rfl, _, _, _, _, false, rfl, .ty "int", T.ty ea, T.kitI, false, rfl, iteF q⟩
/-! ### __init__ -/
abbrev s_init : Stmt := inR 0
theorem sc_init : FnScope ["self", "top", "bottom", "shared"] ["self", "top", "bottom"] (defScope s_init) := ⟨rfl, rfl, rfl, by decide +kernel, rfl, by decide +kernel, by decide +kernel⟩
def spInit (K : Fr) : Sp := fun vs H Q _ => ∃ (a dx : Addr) (t b : Int), vs = [.ref a, .int t, .int b] ∧ b ≠ 0 ∧ Bd 3000 t ∧ Bd 3000 b ∧ H a = some (.ins (RC K) dx []) ∧ Q .non (upd H a (.ins (RC K) dx [("_top", .int (lowT t b)), ("_bottom", .int (lowB t b))]))
theorem ok_init (F : FunD K "__init__" "Ratio.__init__" (defArgs s_init) (defBody s_init) (defScope s_init) [.int 1] [] f fd) (T : TT K mg) {fI : Addr} {dI : FuncData}
    (GI : FnOk P w K mg base CX0 1 fI dI ["value"] (spIsint K)) (gI : mg "is_an_integer" = some (.ref fI)) (kI : PySem.W.keepIn K (.ref fI) = true) (bI : Binds K dI ["value"] []) : FnOk P w K mg base CX0 2 f fd ["self", "top", "bottom"] (spInit K) := by
  refine F.ok sc_init (fun vs H Q E h => ?_) (fun cdv A outer s H vs Q E hr h => ?_)
  · obtain ⟨a, dx, t, b, rfl, _⟩ := h
    rfl
  · obtain ⟨a, dx, t, b, rfl, hb, ht1, hb1, ea, q⟩ := h
    refine ⟨_, PSs.nox (pss_cons (ps_if (pt_not (pt_val (pe_call GI hr (by rfl) gI kI bI .nil pass0 (pa_cons (pv 1) pa_nil)))) (pss_one ps_never) pss_nil)
      (pss_cons (ps_if (PW.pt (pw_or (pt_not (pt_val (pe_call GI hr (by rfl) gI kI bI .nil pass0 (pa_cons (pv 2) pa_nil)))) (pw_or1 (pt_cmpR op_eq (pv 2) pe_int (nomark _))))) (pss_one ps_never) pss_nil)
      (pss_cons (ps_set (i := 3) sc_init.nd rfl (Or.inl rfl) (pe_callBfun cr_gcd (by rfl) T.gcd (pa_cons (pv 1) (pa_cons (pv 2) pa_nil))))
      (Evl.pss_cut (ps_if (pt_cmpR op_lt (pv 2) pe_int (nomark _)) (pss_one (ps_set (i := 3) sc_init.nd rfl (Or.inl rfl) (pe_un un_neg (pv 3)))) pss_nil)
      (pss_cons (ps_fld (pv 0) (pe_op op_fdivX (pv 1) (pv 3)) (by rfl)) (pss_one (ps_fld (pv 0) (pe_op op_fdivX (pv 2) (pv 3)) (by rfl)))))))), ?_⟩
    refine ⟨_, rfl, _, rfl, .inl ⟨t, rfl, true, rfl, iteF ?_⟩⟩
    refine ⟨_, rfl, _, rfl, .inl ⟨b, rfl, true, rfl, iteF ?_⟩⟩
    refine ⟨_, rfl, rfl, false, congrArg V.bl (decide_eq_false fun z => hb (by injection z)), iteF ?_⟩
    refine ⟨_, rfl, _, rfl, t, b, rfl, ?_⟩
    refine ⟨fun σ' H' => H' = H ∧ σ' = [some (.ref a), some (.int t), some (.int b), some (.int (lowS t b))], ?_, ?_⟩
    · refine ⟨_, rfl, b, 0, rfl, rfl, _, rfl, ite2 (fun h => ?_) (fun h => ?_)⟩
      · refine ⟨_, rfl, _, rfl, rfl, ?_⟩
        have z : b < 0 := of_decide_eq_true h
        rw [show lowS t b = -((t.natAbs.gcd b.natAbs : Nat) : Int) from if_pos z]
        rfl
      · have z : ¬ b < 0 := fun y => h (decide_eq_true y)
        refine ⟨rfl, ?_⟩
        rw [show lowS t b = ((t.natAbs.gcd b.natAbs : Nat) : Int) from if_neg z]
        rfl
    rintro σ' H' ⟨rfl, rfl⟩
    have hd : CDivX t (lowS t b) := ⟨lowS_ne hb, bd_log (lowS_bd hb hb1) (by decide)⟩
    refine ⟨_, rfl, _, rfl, t, lowS t b, rfl, rfl, hd, _, rfl, a, _, dx, _, rfl, ea, T.cl, T.nT, by decide, ?_⟩
    refine ⟨_, rfl, _, rfl, b, lowS t b, rfl, rfl, hd, _, rfl, a, _, dx, _, rfl, upd_same, T.cl, T.nB, by show 1 < 1000; decide, ?_⟩
    rw [upd_upd]
    exact q
end
end K15

set_option maxHeartbeats 4000000
namespace K15
open PySem PySem.Spec PyProof.Rows L2 RtL
section
variable {K : Fr} {H H1 : Hp} {Q : VK}
/-- what a Ratio that is made asks of its __init__ -/
theorem made {p q : Int} (hq : q ≠ 0) (bp : Bd 3000 p) (bq : Bd 3000 q) (c : ∀ x H', Same H1 H' → RatAt K H' x (lowT p q) (lowB p q) → H1 x = none → Q (.ref x) H') :
    ∀ x dx, H1 x = none → H1 dx = none → dx ≠ x → spInit K [.ref x, .int p, .int q] (upd (upd H1 dx (.own x)) x (.ins (RC K) dx [])) (fun v H2 => v = .non ∧ Q (.ref x) H2) E0 := fun x dx nx nd ne => by
  refine ⟨x, dx, p, q, rfl, hq, bp, bq, upd_same, rfl, ?_⟩
  rw [upd_upd]
  refine c x _ (fun b o e => ?_) ⟨dx, upd_same⟩ nx
  rw [upd_ne (ne_of_none e nx), upd_ne (ne_of_none e nd)]
  exact e
theorem low_one (i : Int) : lowT i 1 = i ∧ lowB i 1 = 1 := by
  have e : lowS i 1 = 1 := by
    unfold lowS sg
    rw [if_neg (by decide), show (1 : Int).natAbs = 1 from rfl, Nat.gcd_one_right]
    rfl
  unfold lowT lowB
  rw [e]
  exact ⟨Int.fdiv_one _, rfl⟩
end
section
variable {P : Program} {w : World} {K : Fr} {mg : Str → Option Value} {base : Heap} {f : Addr} {fd : FuncData}
/-- a def that can be called by its name, wherever -/
structure Gd (P : Program) (w : World) (K : Fr) (mg : Str → Option Value) (base : Heap) (k : Nat) (x : Str) (f : Addr) (fd : FuncData) (ps : List Str) (sp : Sp) : Prop where
  ok : FnOk P w K mg base CX0 k f fd ps sp
  gl : mg x = some (.ref f)
  kp : PySem.W.keepIn K (.ref f) = true
  bd : Binds K fd ps []
/-- a method or a getter of the class -/
structure Md (P : Program) (w : World) (K : Fr) (mg : Str → Option Value) (base : Heap) (k : Nat) (f : Addr) (fd : FuncData) (ps : List Str) (sp : Sp) : Prop where
  ok : FnOk P w K mg base CX0 k f fd ps sp
  bd : Binds K fd ps []
/-- Ratio's __init__, its arguments both given | the first alone -/
structure Id (P : Program) (w : World) (K : Fr) (mg : Str → Option Value) (base : Heap) (fd : FuncData) : Prop where
  ok : FnOk P w K mg base CX0 2 (rm K "__init__") fd ["self", "top", "bottom"] (spInit K)
  b2 : Binds K fd ["self", "top", "bottom"] []
  b1 : ∃ ds, Vals [V.int 1] ds ∧ Binds K fd ["self", "top", "bottom"] ds
section
variable {X : Cx} {k : Nat} {x : Str} {p pos : Pos} {e : Expr} {es : List Expr} {t : TA} {ps : List Str} {sp : Sp}
theorem pe_gd (C : Gd X.prog X.w X.K X.mg X.base k x f fd ps sp) (hr : Room k X.A) (hg : Gl X x) (ha : PA X (e :: es) t) (hdb : (x == ("__debug__" : Str)) = false := by decide) (he : starEach (e :: es) X.env = (false, eval e X.env) :: starEach es X.env := by rfl)
    (hpl : (backTo pos (starEach es X.env)).any (·.1) = false := by rfl) : PE X (.Call (.Name x p) (e :: es) [] pos) (tCall sp [] E0 t) := pe_call C.ok hr hg C.gl C.kp C.bd .nil pass0 ha hdb he hpl
theorem pe_rat2 (T : TT X.K X.mg) (I : Id X.prog X.w X.K X.mg X.base fd) (hr : Room 3 X.A) (hg : Gl X "Ratio") (ha : PA X (e :: es) t) (he : starEach (e :: es) X.env = (false, eval e X.env) :: starEach es X.env := by rfl)
    (hpl : (backTo pos (starEach es X.env)).any (·.1) = false := by rfl) : PE X (.Call (.Name "Ratio" p) (e :: es) [] pos) (tMake (RC X.K) (spInit X.K) [] E0 t) := pe_make T.mkr I.ok hr hg (T.gl "Ratio" (by decide)) I.b2 .nil pass0 ha (by decide) he hpl
theorem pe_rat1 (T : TT X.K X.mg) (I : Id X.prog X.w X.K X.mg X.base fd) (hr : Room 3 X.A) (hg : Gl X "Ratio") (ha : PA X [e] t) (he : starEach [e] X.env = (false, eval e X.env) :: starEach [] X.env := by rfl)
    (hpl : (backTo pos (starEach [] X.env)).any (·.1) = false := by rfl) : PE X (.Call (.Name "Ratio" p) [e] [] pos) (tMake (RC X.K) (spInit X.K) [.int 1] E0 t) := by
  obtain ⟨ds, hd, hb⟩ := I.b1
  exact pe_make T.mkr I.ok hr hg (T.gl "Ratio" (by decide)) hb hd pass0 ha (by decide) he hpl
end
/-! ### as_ratio -/
abbrev s_asr : Stmt := top 10
theorem sc_asr : FnScope ["number"] ["number"] (defScope s_asr) := ⟨rfl, rfl, rfl, by decide +kernel, rfl, by decide +kernel, by decide +kernel⟩
/-- a number: a ratio's parts, or a whole number over 1 -/
def Num (K : Fr) (H : Hp) (v : V) (t b : Int) : Prop := (∃ a, v = .ref a ∧ RatAt K H a t b) ∨ (v = .int t ∧ b = 1)
theorem Num.same {H H' : Hp} {v : V} {t b : Int} (h : Num K H v t b) (s : Same H H') : Num K H' v t b := h.imp (fun ⟨a, e, r⟩ => ⟨a, e, r.same s⟩) id
def spAsr (K : Fr) : Sp := fun vs H Q _ => ∃ v t b, vs = [v] ∧ Num K H v t b ∧ Bd 1000 t ∧ ∀ a H', Same H H' → RatAt K H' a t b → Q (.ref a) H'
theorem bd_up {n m : Nat} {i : Int} (h : Bd n i) (l : n ≤ m) : Bd m i := Nat.lt_of_lt_of_le h (Nat.pow_le_pow_right (by decide) l)
theorem bd1 {n : Nat} (h : 1 ≤ n) : Bd n 1 := bd_up (n := 1) (by decide) h
theorem ok_asr (F : FunD K "as_ratio" "as_ratio" (defArgs s_asr) (defBody s_asr) (defScope s_asr) [] [] f fd) (T : TT K mg) {dI : FuncData} (I : Id P w K mg base dI) : FnOk P w K mg base CX0 4 f fd ["number"] (spAsr K) := by
  refine F.ok sc_asr (fun vs H Q E h => ?_) (fun cdv A outer s H vs Q E hr h => ?_)
  · obtain ⟨v, t, b, rfl, _⟩ := h
    rfl
  · obtain ⟨v, t, b, rfl, hn, ht, q⟩ := h
    refine ⟨_, PSs.nox (pss_cons (ps_if (pt_val (pe_callB call_isi (by rfl) T.fre (by decide +kernel) (pa_cons (pv 0) (pa_cons (pe_glob (v := .ref (RC K)) (by rfl) (T.gl "Ratio" (by decide)) rfl) pa_nil)))) (pss_one (ps_ret (pv 0))) pss_nil)
      (pss_one (ps_ret (pe_rat1 T I hr (by rfl) (pa_cons (pv 0) pa_nil))))), ?_⟩
    rcases hn with ⟨a, rfl, dx, ea⟩ | ⟨rfl, rfl⟩
    · exact ⟨_, rfl, _, _, _, _, true, rfl, .own _, T.ty ea, T.kitR, true, rfl, iteT ⟨_, rfl, q a H (Same.refl _) ⟨dx, ea⟩⟩⟩
    · refine ⟨_, rfl, _, _, _, _, false, rfl, .own _, .base (.int t), T.kitT "int" (by decide), false, rfl, iteF ⟨_, rfl, made (p := t) (q := 1) (by decide) (bd_up ht (by decide)) (bd1 (by decide)) fun x H' s' r' _ => ?_⟩⟩
      rw [(low_one t).1, (low_one t).2] at r'
      exact q x H' s' r'
/-! ### the getters -/
theorem sc_top : FnScope ["self"] ["self"] (defScope (inR 1)) := ⟨rfl, rfl, rfl, by decide +kernel, rfl, by decide +kernel, by decide +kernel⟩
theorem sc_bot : FnScope ["self"] ["self"] (defScope (inR 2)) := ⟨rfl, rfl, rfl, by decide +kernel, rfl, by decide +kernel, by decide +kernel⟩
theorem sc_sign : FnScope ["self"] ["self"] (defScope (inR 3)) := ⟨rfl, rfl, rfl, by decide +kernel, rfl, by decide +kernel, by decide +kernel⟩
def spGet (K : Fr) (g : Int → Int → Int) : Sp := fun vs H Q _ => ∃ a t b, vs = [.ref a] ∧ RatAt K H a t b ∧ Q (.int (g t b)) H
theorem ok_top {q : Str} (F : FunD K "top" q (defArgs (inR 1)) (defBody (inR 1)) (defScope (inR 1)) [] [] f fd) (T : TT K mg) : FnOk P w K mg base CX0 1 f fd ["self"] (spGet K fun t _ => t) := by
  refine F.ok sc_top (fun vs H Q E h => ?_) (fun cdv A outer s H vs Q E hr h => ?_)
  · obtain ⟨a, t, b, rfl, _⟩ := h
    rfl
  · obtain ⟨a, t, b, rfl, ⟨dx, ea⟩, q⟩ := h
    exact ⟨_, PSs.nox (pss_one (ps_ret (pe_fld (pv 0) rfl))), _, rfl, a, _, dx, _, _, rfl, ea, T.cl, T.nT, rfl, q⟩
theorem ok_bot {q : Str} (F : FunD K "bottom" q (defArgs (inR 2)) (defBody (inR 2)) (defScope (inR 2)) [] [] f fd) (T : TT K mg) : FnOk P w K mg base CX0 1 f fd ["self"] (spGet K fun _ b => b) := by
  refine F.ok sc_bot (fun vs H Q E h => ?_) (fun cdv A outer s H vs Q E hr h => ?_)
  · obtain ⟨a, t, b, rfl, _⟩ := h
    rfl
  · obtain ⟨a, t, b, rfl, ⟨dx, ea⟩, q⟩ := h
    exact ⟨_, PSs.nox (pss_one (ps_ret (pe_fld (pv 0) rfl))), _, rfl, a, _, dx, _, _, rfl, ea, T.cl, T.nB, rfl, q⟩
def sgn (t : Int) : Int := if t = 0 then 0 else if 0 < t then 1 else -1
theorem ok_sign {q : Str} (F : FunD K "sign" q (defArgs (inR 3)) (defBody (inR 3)) (defScope (inR 3)) [] [] f fd) (T : TT K mg) : FnOk P w K mg base CX0 1 f fd ["self"] (spGet K fun t _ => sgn t) := by
  refine F.ok sc_sign (fun vs H Q E h => ?_) (fun cdv A outer s H vs Q E hr h => ?_)
  · obtain ⟨a, t, b, rfl, _⟩ := h
    rfl
  · obtain ⟨a, t, b, rfl, ⟨dx, ea⟩, q⟩ := h
    have q : Q (.int (sgn t)) H := q
    refine ⟨_, PSs.nox (pss_cons (ps_if (pt_cmpR op_eq (pe_fld (pv 0) rfl) pe_int (nomark _)) (pss_one (ps_ret pe_int)) pss_nil) (pss_one (ps_ret (pe_ifExp (pt_cmpR op_gt (pe_fld (pv 0) rfl) pe_int (nomark _)) pe_int (pe_un un_neg pe_int))))), ?_⟩
    refine ⟨_, rfl, a, _, dx, _, _, rfl, ea, T.cl, T.nT, rfl, rfl, _, rfl, ite2 (fun h => ?_) (fun h => ⟨_, rfl, a, _, dx, _, _, rfl, ea, T.cl, T.nT, rfl, t, 0, rfl, rfl, _, rfl, ite2 (fun h' => ?_) (fun h' => ?_)⟩)⟩
    · have z : t = 0 := by
        have y := of_decide_eq_true h
        injection y
      subst z
      exact q
    · have z : ¬ t = 0 := fun y => h (decide_eq_true (by rw [y]))
      have z' : 0 < t := of_decide_eq_true h'
      rw [show sgn t = 1 from (if_neg z).trans (if_pos z')] at q
      exact q
    · have z : ¬ t = 0 := fun y => h (decide_eq_true (by rw [y]))
      have z' : ¬ 0 < t := fun y => h' (decide_eq_true y)
      rw [show sgn t = -1 from (if_neg z).trans (if_neg z')] at q
      exact ⟨_, rfl, q⟩
end
end K15

set_option maxHeartbeats 4000000
namespace K15
open PySem PySem.Spec PyProof.Rows L2 RtL
theorem bd_mul {n m : Nat} {i j : Int} (h : Bd n i) (h' : Bd m j) : Bd (n + m) (i * j) := wide_lt h h'
theorem bd_add {n : Nat} {i j : Int} (h : Bd n i) (h' : Bd n j) : Bd (n + 1) (i + j) := by
  show (i + j).natAbs < 2 ^ (n + 1)
  have a : i.natAbs < 2 ^ n := h
  have b : j.natAbs < 2 ^ n := h'
  rw [Nat.pow_succ]
  omega
theorem bd_neg {n : Nat} {i : Int} (h : Bd n i) : Bd n (-i) := by
  show (-i).natAbs < 2 ^ n
  rw [Int.natAbs_neg]
  exact h
theorem bd_sub {n : Nat} {i j : Int} (h : Bd n i) (h' : Bd n j) : Bd (n + 1) (i - j) := by
  rw [Int.sub_eq_add_neg]
  exact bd_add h (bd_neg h')
theorem cm {i j : Int} (h : Bd 1000 i) (h' : Bd 1000 j) : CMulW i j := wide_mul h h' (by decide) (by decide) (by decide)
section
variable {P : Program} {w : World} {K : Fr} {mg : Str → Option Value} {base : Heap} {f : Addr} {fd : FuncData}
/-- the getters, as_ratio and __init__ -/
structure Pr (P : Program) (w : World) (K : Fr) (mg : Str → Option Value) (base : Heap) : Prop where
  t : ∃ d, Md P w K mg base 1 (recA K (RC K) "top" "property") d ["self"] (spGet K fun t _ => t)
  b : ∃ d, Md P w K mg base 1 (recA K (RC K) "bottom" "property") d ["self"] (spGet K fun _ b => b)
  r : ∃ f d, Gd P w K mg base 4 "as_ratio" f d ["number"] (spAsr K)
  i : ∃ d, Id P w K mg base d
/-- what a method of two operands does: the parts of both, what is made of them -/
def spOp (K : Fr) (n d : Int → Int → Int → Int → Int) : Sp := fun vs H Q _ => ∃ a v t b t2 b2, vs = [.ref a, v] ∧ RatAt K H a t b ∧ Num K H v t2 b2 ∧ Bd 1000 t ∧ Bd 1000 b ∧ Bd 1000 t2 ∧ Bd 1000 b2 ∧ d t b t2 b2 ≠ 0 ∧
  ∀ x H', Same H H' → RatAt K H' x (lowT (n t b t2 b2) (d t b t2 b2)) (lowB (n t b t2 b2) (d t b t2 b2)) → Q (.ref x) H'
theorem sc_add : FnScope ["self", "other", "right"] ["self", "other"] (defScope (inR 7)) := ⟨rfl, rfl, rfl, by decide +kernel, rfl, by decide +kernel, by decide +kernel⟩
theorem ok_add (F : FunD K "__add__" "Ratio.__add__" (defArgs (inR 7)) (defBody (inR 7)) (defScope (inR 7)) [] [] f fd) (T : TT K mg) (D : Pr P w K mg base) :
    FnOk P w K mg base CX0 5 f fd ["self", "other"] (spOp K (fun t b t2 b2 => t * b2 + t2 * b) fun _ b _ b2 => b * b2) := by
  obtain ⟨⟨dT, MT⟩, ⟨dB, MB⟩, ⟨fR, dR, GR⟩, ⟨dI, I⟩⟩ := D
  refine F.ok sc_add (fun vs H Q E h => ?_) (fun cdv A outer s H vs Q E hr h => ?_)
  · obtain ⟨a, v, t, b, t2, b2, rfl, _⟩ := h
    rfl
  · obtain ⟨a, v, t, b, t2, b2, rfl, ⟨dx, ea⟩, hv, ht, hb, ht2, hb2, hd, q⟩ := h
    refine ⟨_, PSs.nox (pss_cons (ps_set (i := 2) sc_add.nd rfl (Or.inl rfl) (pe_gd GR hr (by rfl) (pa_cons (pv 1) pa_nil)))
      (pss_one (ps_ret (pe_rat2 T I (hr.mono (by decide)) (by rfl) (pa_cons (pe_op op_add (pe_op op_mulW (pe_fld (pv 0) rfl) (pe_prop (pv 2) T.cl (T.prop "bottom" (by decide)) MB.ok (hr.mono (by decide)) MB.bd .nil pass0 rfl)) (pe_op op_mulW (pe_prop (pv 2) T.cl (T.prop "top" (by decide)) MT.ok (hr.mono (by decide)) MT.bd .nil pass0 rfl) (pe_fld (pv 0) rfl)))
        (pa_cons (pe_op op_mulW (pe_fld (pv 0) rfl) (pe_prop (pv 2) T.cl (T.prop "bottom" (by decide)) MB.ok (hr.mono (by decide)) MB.bd .nil pass0 rfl)) pa_nil)))))), ?_⟩
    refine ⟨_, rfl, v, t2, b2, rfl, hv, ht2, fun c H1 s1 r1 => ?_⟩
    obtain ⟨dy, ec⟩ := r1
    have ea1 := s1 _ _ ea
    refine ⟨_, rfl, a, _, dx, _, _, rfl, ea1, T.cl, T.nT, rfl, _, rfl, c, dy, _, rfl, ec, c, t2, b2, rfl, ⟨dy, ec⟩, t, b2, rfl, rfl, cm ht hb2, _, rfl, c, dy, _, rfl, ec, c, t2, b2, rfl, ⟨dy, ec⟩, _, rfl, a, _, dx, _, _, rfl, ea1, T.cl, T.nB, rfl, t2, b, rfl, rfl, cm ht2 hb, _, _, rfl, rfl, ?_⟩
    refine ⟨_, rfl, a, _, dx, _, _, rfl, ea1, T.cl, T.nB, rfl, _, rfl, c, dy, _, rfl, ec, c, t2, b2, rfl, ⟨dy, ec⟩, b, b2, rfl, rfl, cm hb hb2, ?_⟩
    exact made hd (bd_up (bd_add (bd_mul ht hb2) (bd_mul ht2 hb)) (by decide)) (bd_up (bd_mul hb hb2) (by decide)) fun x H' s' r' _ => q x H' (s1.trans s') r'
theorem sc_sub : FnScope ["self", "other", "right"] ["self", "other"] (defScope (inR 8)) := ⟨rfl, rfl, rfl, by decide +kernel, rfl, by decide +kernel, by decide +kernel⟩
theorem ok_sub (F : FunD K "__sub__" "Ratio.__sub__" (defArgs (inR 8)) (defBody (inR 8)) (defScope (inR 8)) [] [] f fd) (T : TT K mg) (D : Pr P w K mg base) :
    FnOk P w K mg base CX0 5 f fd ["self", "other"] (spOp K (fun t b t2 b2 => t * b2 - t2 * b) fun _ b _ b2 => b * b2) := by
  obtain ⟨⟨dT, MT⟩, ⟨dB, MB⟩, ⟨fR, dR, GR⟩, ⟨dI, I⟩⟩ := D
  refine F.ok sc_sub (fun vs H Q E h => ?_) (fun cdv A outer s H vs Q E hr h => ?_)
  · obtain ⟨a, v, t, b, t2, b2, rfl, _⟩ := h
    rfl
  · obtain ⟨a, v, t, b, t2, b2, rfl, ⟨dx, ea⟩, hv, ht, hb, ht2, hb2, hd, q⟩ := h
    refine ⟨_, PSs.nox (pss_cons (ps_set (i := 2) sc_sub.nd rfl (Or.inl rfl) (pe_gd GR hr (by rfl) (pa_cons (pv 1) pa_nil)))
      (pss_one (ps_ret (pe_rat2 T I (hr.mono (by decide)) (by rfl) (pa_cons (pe_op op_sub (pe_op op_mulW (pe_fld (pv 0) rfl) (pe_prop (pv 2) T.cl (T.prop "bottom" (by decide)) MB.ok (hr.mono (by decide)) MB.bd .nil pass0 rfl)) (pe_op op_mulW (pe_prop (pv 2) T.cl (T.prop "top" (by decide)) MT.ok (hr.mono (by decide)) MT.bd .nil pass0 rfl) (pe_fld (pv 0) rfl)))
        (pa_cons (pe_op op_mulW (pe_fld (pv 0) rfl) (pe_prop (pv 2) T.cl (T.prop "bottom" (by decide)) MB.ok (hr.mono (by decide)) MB.bd .nil pass0 rfl)) pa_nil)))))), ?_⟩
    refine ⟨_, rfl, v, t2, b2, rfl, hv, ht2, fun c H1 s1 r1 => ?_⟩
    obtain ⟨dy, ec⟩ := r1
    have ea1 := s1 _ _ ea
    refine ⟨_, rfl, a, _, dx, _, _, rfl, ea1, T.cl, T.nT, rfl, _, rfl, c, dy, _, rfl, ec, c, t2, b2, rfl, ⟨dy, ec⟩, t, b2, rfl, rfl, cm ht hb2, _, rfl, c, dy, _, rfl, ec, c, t2, b2, rfl, ⟨dy, ec⟩, _, rfl, a, _, dx, _, _, rfl, ea1, T.cl, T.nB, rfl, t2, b, rfl, rfl, cm ht2 hb, _, _, rfl, rfl, ?_⟩
    refine ⟨_, rfl, a, _, dx, _, _, rfl, ea1, T.cl, T.nB, rfl, _, rfl, c, dy, _, rfl, ec, c, t2, b2, rfl, ⟨dy, ec⟩, b, b2, rfl, rfl, cm hb hb2, ?_⟩
    exact made hd (bd_up (bd_sub (bd_mul ht hb2) (bd_mul ht2 hb)) (by decide)) (bd_up (bd_mul hb hb2) (by decide)) fun x H' s' r' _ => q x H' (s1.trans s') r'
theorem sc_mul : FnScope ["self", "other", "right"] ["self", "other"] (defScope (inR 9)) := ⟨rfl, rfl, rfl, by decide +kernel, rfl, by decide +kernel, by decide +kernel⟩
theorem ok_mul (F : FunD K "__mul__" "Ratio.__mul__" (defArgs (inR 9)) (defBody (inR 9)) (defScope (inR 9)) [] [] f fd) (T : TT K mg) (D : Pr P w K mg base) :
    FnOk P w K mg base CX0 5 f fd ["self", "other"] (spOp K (fun t _ t2 _ => t * t2) fun _ b _ b2 => b * b2) := by
  obtain ⟨⟨dT, MT⟩, ⟨dB, MB⟩, ⟨fR, dR, GR⟩, ⟨dI, I⟩⟩ := D
  refine F.ok sc_mul (fun vs H Q E h => ?_) (fun cdv A outer s H vs Q E hr h => ?_)
  · obtain ⟨a, v, t, b, t2, b2, rfl, _⟩ := h
    rfl
  · obtain ⟨a, v, t, b, t2, b2, rfl, ⟨dx, ea⟩, hv, ht, hb, ht2, hb2, hd, q⟩ := h
    refine ⟨_, PSs.nox (pss_cons (ps_set (i := 2) sc_mul.nd rfl (Or.inl rfl) (pe_gd GR hr (by rfl) (pa_cons (pv 1) pa_nil)))
      (pss_one (ps_ret (pe_rat2 T I (hr.mono (by decide)) (by rfl) (pa_cons (pe_op op_mulW (pe_fld (pv 0) rfl) (pe_prop (pv 2) T.cl (T.prop "top" (by decide)) MT.ok (hr.mono (by decide)) MT.bd .nil pass0 rfl))
        (pa_cons (pe_op op_mulW (pe_fld (pv 0) rfl) (pe_prop (pv 2) T.cl (T.prop "bottom" (by decide)) MB.ok (hr.mono (by decide)) MB.bd .nil pass0 rfl)) pa_nil)))))), ?_⟩
    refine ⟨_, rfl, v, t2, b2, rfl, hv, ht2, fun c H1 s1 r1 => ?_⟩
    obtain ⟨dy, ec⟩ := r1
    have ea1 := s1 _ _ ea
    refine ⟨_, rfl, a, _, dx, _, _, rfl, ea1, T.cl, T.nT, rfl, _, rfl, c, dy, _, rfl, ec, c, t2, b2, rfl, ⟨dy, ec⟩, t, t2, rfl, rfl, cm ht ht2, ?_⟩
    refine ⟨_, rfl, a, _, dx, _, _, rfl, ea1, T.cl, T.nB, rfl, _, rfl, c, dy, _, rfl, ec, c, t2, b2, rfl, ⟨dy, ec⟩, b, b2, rfl, rfl, cm hb hb2, ?_⟩
    exact made hd (bd_up (bd_mul ht ht2) (by decide)) (bd_up (bd_mul hb hb2) (by decide)) fun x H' s' r' _ => q x H' (s1.trans s') r'
theorem sc_neg : FnScope ["self"] ["self"] (defScope (inR 10)) := ⟨rfl, rfl, rfl, by decide +kernel, rfl, by decide +kernel, by decide +kernel⟩
def spNeg (K : Fr) : Sp := fun vs H Q _ => ∃ a t b, vs = [.ref a] ∧ RatAt K H a t b ∧ Bd 1000 t ∧ Bd 1000 b ∧ b ≠ 0 ∧ ∀ x H', Same H H' → RatAt K H' x (lowT (-t) b) (lowB (-t) b) → Q (.ref x) H'
theorem ok_neg (F : FunD K "__neg__" "Ratio.__neg__" (defArgs (inR 10)) (defBody (inR 10)) (defScope (inR 10)) [] [] f fd) (T : TT K mg) (D : Pr P w K mg base) : FnOk P w K mg base CX0 4 f fd ["self"] (spNeg K) := by
  obtain ⟨_, _, _, ⟨dI, I⟩⟩ := D
  refine F.ok sc_neg (fun vs H Q E h => ?_) (fun cdv A outer s H vs Q E hr h => ?_)
  · obtain ⟨a, t, b, rfl, _⟩ := h
    rfl
  · obtain ⟨a, t, b, rfl, ⟨dx, ea⟩, ht, hb, hd, q⟩ := h
    refine ⟨_, PSs.nox (pss_one (ps_ret (pe_rat2 T I hr (by rfl) (pa_cons (pe_un un_neg (pe_fld (pv 0) rfl)) (pa_cons (pe_fld (pv 0) rfl) pa_nil))))), ?_⟩
    refine ⟨_, rfl, a, _, dx, _, _, rfl, ea, T.cl, T.nT, rfl, _, rfl, _, rfl, a, _, dx, _, _, rfl, ea, T.cl, T.nB, rfl, ?_⟩
    exact made hd (bd_up (bd_neg ht) (by decide)) (bd_up hb (by decide)) fun x H' s' r' _ => q x H' s' r'
theorem sc_below : FnScope ["self", "other", "right"] ["self", "other"] (defScope (inR 6)) := ⟨rfl, rfl, rfl, by decide +kernel, rfl, by decide +kernel, by decide +kernel⟩
def spBelow (K : Fr) : Sp := fun vs H Q _ => ∃ a v t b t2 b2, vs = [.ref a, v] ∧ RatAt K H a t b ∧ Num K H v t2 b2 ∧ Bd 1000 t ∧ Bd 1000 b ∧ Bd 1000 t2 ∧ Bd 1000 b2 ∧ ∀ H', Same H H' → Q (.bl (decide (t * b2 < t2 * b))) H'
theorem ok_below (F : FunD K "is_below" "Ratio.is_below" (defArgs (inR 6)) (defBody (inR 6)) (defScope (inR 6)) [] [] f fd) (T : TT K mg) (D : Pr P w K mg base) : FnOk P w K mg base CX0 5 f fd ["self", "other"] (spBelow K) := by
  obtain ⟨⟨dT, MT⟩, ⟨dB, MB⟩, ⟨fR, dR, GR⟩, _⟩ := D
  refine F.ok sc_below (fun vs H Q E h => ?_) (fun cdv A outer s H vs Q E hr h => ?_)
  · obtain ⟨a, v, t, b, t2, b2, rfl, _⟩ := h
    rfl
  · obtain ⟨a, v, t, b, t2, b2, rfl, ⟨dx, ea⟩, hv, ht, hb, ht2, hb2, q⟩ := h
    refine ⟨_, PSs.nox (pss_cons (ps_set (i := 2) sc_below.nd rfl (Or.inl rfl) (pe_gd GR hr (by rfl) (pa_cons (pv 1) pa_nil)))
      (pss_one (ps_ret (pe_cmpR op_lt (pe_op op_mulW (pe_fld (pv 0) rfl) (pe_prop (pv 2) T.cl (T.prop "bottom" (by decide)) MB.ok (hr.mono (by decide)) MB.bd .nil pass0 rfl)) (pe_op op_mulW (pe_prop (pv 2) T.cl (T.prop "top" (by decide)) MT.ok (hr.mono (by decide)) MT.bd .nil pass0 rfl) (pe_fld (pv 0) rfl)) (nomark _))))), ?_⟩
    refine ⟨_, rfl, v, t2, b2, rfl, hv, ht2, fun c H1 s1 r1 => ?_⟩
    obtain ⟨dy, ec⟩ := r1
    have ea1 := s1 _ _ ea
    exact ⟨_, rfl, a, _, dx, _, _, rfl, ea1, T.cl, T.nT, rfl, _, rfl, c, dy, _, rfl, ec, c, t2, b2, rfl, ⟨dy, ec⟩, t, b2, rfl, rfl, cm ht hb2, _, rfl, c, dy, _, rfl, ec, c, t2, b2, rfl, ⟨dy, ec⟩, _, rfl, a, _, dx, _, _, rfl, ea1, T.cl, T.nB, rfl, t2, b, rfl, rfl, cm ht2 hb, _, _, rfl, rfl, q H1 s1⟩
theorem sc_eq : FnScope ["self", "other"] ["self", "other"] (defScope (inR 11)) := ⟨rfl, rfl, rfl, by decide +kernel, rfl, by decide +kernel, by decide +kernel⟩
def spEq (K : Fr) : Sp := fun vs H Q _ => ∃ a v t b, vs = [.ref a, v] ∧ RatAt K H a t b ∧ ((∃ c t2 b2, v = .ref c ∧ RatAt K H c t2 b2 ∧ Q (.bl (decide (t = t2) && decide (b = b2))) H) ∨ ((∃ i, v = .int i) ∨ (∃ z, v = .str z)) ∧ Q (.bl false) H)
theorem ok_eq (F : FunD K "__eq__" "Ratio.__eq__" (defArgs (inR 11)) (defBody (inR 11)) (defScope (inR 11)) [] [] f fd) (T : TT K mg) : FnOk P w K mg base CX0 1 f fd ["self", "other"] (spEq K) := by
  refine F.ok sc_eq (fun vs H Q E h => ?_) (fun cdv A outer s H vs Q E hr h => ?_)
  · obtain ⟨a, v, t, b, rfl, _⟩ := h
    rfl
  · obtain ⟨a, v, t, b, rfl, ⟨dx, ea⟩, h⟩ := h
    refine ⟨_, PSs.nox (pss_one (ps_ret (pe_and (pe_callB call_isi (by rfl) T.fre (by decide +kernel) (pa_cons (pv 1) (pa_cons (pe_glob (v := .ref (RC K)) (by rfl) (T.gl "Ratio" (by decide)) rfl) pa_nil)))
      (pe_and (pe_cmpR op_eq (pe_fld (pv 0) rfl) (pe_fld (pv 1) rfl) (nomark _)) (pe_one (pe_cmpR op_eq (pe_fld (pv 0) rfl) (pe_fld (pv 1) rfl) (nomark _))))))), ?_⟩
    rcases h with ⟨c, t2, b2, rfl, ⟨dy, ec⟩, q⟩ | ⟨h, q⟩
    · refine ⟨_, rfl, _, _, _, _, true, rfl, .own _, T.ty ec, T.kitR, true, rfl, iteT ⟨_, rfl, a, _, dx, _, _, rfl, ea, T.cl, T.nT, rfl, _, rfl, c, _, dy, _, _, rfl, ec, T.cl, T.nT, rfl, rfl, _, rfl, ite2 (fun h => ?_) (fun h => ?_)⟩⟩
      · have z : t = t2 := by
          have y := of_decide_eq_true h
          injection y
        refine ⟨_, rfl, a, _, dx, _, _, rfl, ea, T.cl, T.nB, rfl, _, rfl, c, _, dy, _, _, rfl, ec, T.cl, T.nB, rfl, rfl, ?_⟩
        have y : decide (V.int b = V.int b2) = decide (b = b2) := by simp
        rw [y]
        rw [decide_eq_true z, Bool.true_and] at q
        exact q
      · have z : ¬ t = t2 := fun y => h (decide_eq_true (by rw [y]))
        rw [decide_eq_false z, Bool.false_and] at q
        exact q
    · rcases h with ⟨i, rfl⟩ | ⟨z, rfl⟩
      · exact ⟨_, rfl, _, _, _, _, false, rfl, .own _, .base (.int i), T.kitT "int" (by decide), false, rfl, iteF q⟩
      · exact ⟨_, rfl, _, _, _, _, false, rfl, .own _, .base (.str z), T.kitT "str" (by decide), false, rfl, iteF q⟩
end
end K15

set_option maxHeartbeats 4000000
namespace K15
open PySem PySem.Spec PyProof.Rows L2 RtL
abbrev T_ (i : Int) : Str := toString i
theorem nil_app (x : Str) : Str.empty ++ x = x := by
  obtain ⟨c⟩ := x
  show (⟨#[] ++ c⟩ : Str) = ⟨c⟩
  rw [Array.empty_append]
def rtxt (t b : Int) : Str := if b = 1 then T_ t else T_ t ++ "/" ++ T_ b
def rrep (t b : Int) : Str := "Ratio(" ++ T_ t ++ ", " ++ T_ b ++ ")"
theorem t_len {i : Int} (h : Bd 1000 i) : (T_ i).length ≤ 1001 := by
  show (Str.ofString (toString i)).length ≤ _
  rw [PySem.ofString_length]
  by_cases z : i.natAbs = 0
  · exact int_text_length_le (by decide) (by rw [z]; decide)
  · exact int_text_length_le (by decide) ((Nat.log2_lt z).mpr h)
theorem log_of {i : Int} (h : Bd 1000 i) : i.natAbs.log2 < 1920 := Nat.lt_of_lt_of_le (PySem.Flt.log2_lt_of (by decide) h) (by decide)
section
variable {P : Program} {w : World} {K : Fr} {mg : Str → Option Value} {base : Heap} {f : Addr} {fd : FuncData}
def spTxt (K : Fr) (g : Int → Int → Str) : Sp := fun vs H Q _ => ∃ a t b, vs = [.ref a] ∧ RatAt K H a t b ∧ Bd 1000 t ∧ Bd 1000 b ∧ Q (.str (g t b)) H
theorem sc_str : FnScope ["self"] ["self"] (defScope (inR 12)) := ⟨rfl, rfl, rfl, by decide +kernel, rfl, by decide +kernel, by decide +kernel⟩
theorem sc_rep : FnScope ["self"] ["self"] (defScope (inR 13)) := ⟨rfl, rfl, rfl, by decide +kernel, rfl, by decide +kernel, by decide +kernel⟩
theorem ok_str (F : FunD K "__str__" "Ratio.__str__" (defArgs (inR 12)) (defBody (inR 12)) (defScope (inR 12)) [] [] f fd) (T : TT K mg) : FnOk P w K mg base CX0 1 f fd ["self"] (spTxt K rtxt) := by
  refine F.ok sc_str (fun vs H Q E h => ?_) (fun cdv A outer s H vs Q E hr h => ?_)
  · obtain ⟨a, t, b, rfl, _⟩ := h
    rfl
  · obtain ⟨a, t, b, rfl, ⟨dx, ea⟩, ht, hb, q⟩ := h
    have lt := t_len ht
    have lb := t_len hb
    refine ⟨_, PSs.nox (pss_cons (ps_if (pt_cmpR op_eq (pe_fld (pv 0) rfl) pe_int (nomark _)) (pss_one (ps_ret (pe_joined1 (pe_fmt (pe_fld (pv 0) rfl))))) pss_nil)
      (pss_one (ps_ret (pe_joined (.cons (pe_fmt (pe_fld (pv 0) rfl)) (.cons pe_str (.cons (pe_fmt (pe_fld (pv 0) rfl)) .nil))))))), ?_⟩
    refine ⟨_, rfl, a, _, dx, _, _, rfl, ea, T.cl, T.nB, rfl, rfl, _, rfl, ite2 (fun h => ?_) (fun h => ?_)⟩
    · have z : b = 1 := by
        have y := of_decide_eq_true h
        injection y
      subst z
      exact ⟨_, rfl, a, _, dx, _, _, rfl, ea, T.cl, T.nT, rfl, .inr ⟨t, rfl, log_of ht, q⟩⟩
    · have z : ¬ b = 1 := fun y => h (decide_eq_true (by rw [y]))
      refine ⟨_, rfl, a, _, dx, _, _, rfl, ea, T.cl, T.nT, rfl, .inr ⟨t, rfl, log_of ht, T_ t, rfl, ?_, "/", rfl, ?_, _, rfl, a, _, dx, _, _, rfl, ea, T.cl, T.nB, rfl, .inr ⟨b, rfl, log_of hb, T_ b, rfl, ?_, ?_⟩⟩⟩
      · rw [nil_app, sizeLine_eq]
        omega
      · rw [nil_app, strLen_append, sizeLine_eq, show ("/" : Str).length = 1 from rfl]
        omega
      · rw [nil_app, strLen_append, strLen_append, sizeLine_eq, show ("/" : Str).length = 1 from rfl]
        omega
      · rw [show rtxt t b = T_ t ++ "/" ++ T_ b from if_neg z] at q
        rw [nil_app]
        exact q
theorem ok_rep (F : FunD K "__repr__" "Ratio.__repr__" (defArgs (inR 13)) (defBody (inR 13)) (defScope (inR 13)) [] [] f fd) (T : TT K mg) : FnOk P w K mg base CX0 1 f fd ["self"] (spTxt K rrep) := by
  refine F.ok sc_rep (fun vs H Q E h => ?_) (fun cdv A outer s H vs Q E hr h => ?_)
  · obtain ⟨a, t, b, rfl, _⟩ := h
    rfl
  · obtain ⟨a, t, b, rfl, ⟨dx, ea⟩, ht, hb, q⟩ := h
    have lt := t_len ht
    have lb := t_len hb
    refine ⟨_, PSs.nox (pss_one (ps_ret (pe_joined (.cons pe_str (.cons (pe_fmt (pe_fld (pv 0) rfl)) (.cons pe_str (.cons (pe_fmt (pe_fld (pv 0) rfl)) (.cons pe_str .nil)))))))), ?_⟩
    have l1 : ("Ratio(" : Str).length = 6 := rfl
    have l2 : (", " : Str).length = 2 := rfl
    have l3 : (")" : Str).length = 1 := rfl
    refine ⟨"Ratio(", rfl, ?_, _, rfl, a, _, dx, _, _, rfl, ea, T.cl, T.nT, rfl, .inr ⟨t, rfl, log_of ht, T_ t, rfl, ?_, ", ", rfl, ?_, _, rfl, a, _, dx, _, _, rfl, ea, T.cl, T.nB, rfl, .inr ⟨b, rfl, log_of hb, T_ b, rfl, ?_, ")", rfl, ?_, ?_⟩⟩⟩
    · rw [nil_app, sizeLine_eq, l1]
      omega
    · rw [nil_app, strLen_append, sizeLine_eq, l1]
      omega
    · rw [nil_app, strLen_append, strLen_append, sizeLine_eq, l1, l2]
      omega
    · rw [nil_app, strLen_append, strLen_append, strLen_append, sizeLine_eq, l1, l2]
      omega
    · rw [nil_app, strLen_append, strLen_append, strLen_append, strLen_append, sizeLine_eq, l1, l2, l3]
      omega
    · rw [nil_app]
      exact q
end
/-! ### str(x), repr(x) -/
section
variable {X : Cx} {k : Nat} {f C : Addr} {fd : FuncData} {sp : Sp} {ps : List Str}
/-- f(x), x of the class: a method that makes a text -/
def rOwnTxt (C : Addr) (sp : Sp) : List V → Hp → VK → Prop := fun xs H Q => ∃ a dx fs, xs = [.ref a] ∧ H a = some (.ins C dx fs) ∧ sp [.ref a] H (fun v H' => (∃ z, v = .str z) ∧ Q v H') E0
theorem call_strOwn (hs : PySem.W.findIn X.K (.ref C) "__str__" = some (some (.ref f))) (hf : PySem.W.isFn X.K (.ref f) = true) (F : FnOk X.prog X.w X.K X.mg X.base CX0 k f fd ps sp) (hr : Room (k + 2) X.A) (hb : Binds X.K fd ps []) : CallR X (.type "str") (rOwnTxt C sp) := by
  intro pins s σ H xs us Q I r h
  obtain ⟨a, dx, fs, rfl, ha, q⟩ := h
  obtain ⟨u, rfl, rx⟩ := vals1 r
  cases (show u = Value.ref a from rx)
  obtain ⟨mA, oa, _⟩ := ins_get I.hok ha
  obtain ⟨od, J, _⟩ := oa.look
  have un := hr.un
  have hl : ([Value.ref a] ++ []).length = ps.length := by
    rw [← F.len _ _ _ _ q]
    rfl
  refine PySem.W.kso_call (by have := hr.in1.in1.un; omega) I.kIn J hs hf ?_
  refine wpAny_call (codeAny_mono (F.run X.A.in1.in1 X.stack s H ⟨[.ref a], []⟩ [.ref a] [.ref a] _ E0 hr.in1.in1 I.env0.in1.in1 (hb s [.ref a] I.kIn hl) (.cons rfl .nil) q) fun r s' hq => ?_)
  match r, hq with
  | .ok (.ret u), hq =>
    obtain ⟨v, H', I3, rv, ⟨z, ez⟩, q3⟩ := I.after hq
    subst ez
    obtain ⟨tk, e⟩ := rv
    subst e
    exact ⟨.str z, H', I3, ⟨tk, rfl⟩, q3⟩
  | .ok .next, hq => exact False.elim hq
  | .ok .brk, hq => exact False.elim hq
  | .ok .cont, hq => exact False.elim hq
  | .error e, hq => exact False.elim hq
theorem call_reprOwn (hs : PySem.W.findIn X.K (.ref C) "__repr__" = some (some (.ref f))) (hf : PySem.W.isFn X.K (.ref f) = true) (F : FnOk X.prog X.w X.K X.mg X.base CX0 k f fd ps sp) (hr : Room (k + 1) X.A) (hb : Binds X.K fd ps []) : CallR X (.builtin "repr") (rOwnTxt C sp) := by
  intro pins s σ H xs us Q I r h
  obtain ⟨a, dx, fs, rfl, ha, q⟩ := h
  obtain ⟨u, rfl, rx⟩ := vals1 r
  cases (show u = Value.ref a from rx)
  obtain ⟨mA, oa, _⟩ := ins_get I.hok ha
  obtain ⟨od, J, _⟩ := oa.look
  have un := hr.un
  have hl : ([Value.ref a] ++ []).length = ps.length := by
    rw [← F.len _ _ _ _ q]
    rfl
  obtain ⟨m, hF⟩ := I.fr
  refine PySem.W.repr_K (by show X.A.units + _ < cLine; omega) hF I.ok.mod.kin J hs hf ?_
  refine wpAny_call (codeAny_mono (F.run X.A.in1 X.stack s H ⟨[.ref a], []⟩ [.ref a] [.ref a] _ E0 hr.in1 I.env0.in1 (hb s [.ref a] I.kIn hl) (.cons rfl .nil) q) fun r s' hq => ?_)
  match r, hq with
  | .ok (.ret u), hq =>
    obtain ⟨v, H', I3, rv, ⟨z, ez⟩, q3⟩ := I.after hq
    subst ez
    obtain ⟨tk, e⟩ := rv
    subst e
    exact ⟨.str z, H', I3, ⟨tk, rfl⟩, q3⟩
  | .ok .next, hq => exact False.elim hq
  | .ok .brk, hq => exact False.elim hq
  | .ok .cont, hq => exact False.elim hq
  | .error e, hq => exact False.elim hq
end
end K15

set_option maxHeartbeats 4000000
namespace RtL
open PySem PySem.Spec PyProof.Rows L2
section
variable {X : Cx} {C : Addr} {bmB : List Value} {B newId initId : String}
/-- X(): an own error class without an own __init__ -/
theorem pmk_bare {x : Str} {p pos : Pos} (F : ExcBaseFacts B newId initId bmB) (q : PySem.W.excIn X.K C bmB newId = true) (gC : X.mg x = some (.ref C)) (kC : PySem.W.keepIn X.K (.ref C) = true) (r : Raises X (.ref C)) (hg : Gl X x)
    (hdb : (x == ("__debug__" : Str)) = false := by decide) : PMk X (.Call (.Name x p) [] [] pos) (fun _ H Q => Q (.ref C) none H) := by
  intro pins s σ H Q I h
  refine wpAny_Call_Name_kw (ld_glob I hg gC ?_ hdb)
  refine PySem.W.callWith_K0 I.kIn kC ?_
  obtain ⟨bm, N, nm, qn, bs, hdct, sn, sub, ab, col, dd, k0, k1, k2, k3, k5, mN, hC, hN, hni, T⟩ := exc_obj I.kIn q
  obtain ⟨hp, g, dr, tk, os⟩ := s
  show wpAny _ _ (call (.ref C) []) _ _ _
  refine wpAny_call_exc_subT F T hC hN hni (fun h' e hm => ?_) (by show 0 ≤ sizeLine; omega)
  exact mk_of I hm r h (I.hok.gone hm.new)
end
end RtL
namespace K15
open PySem PySem.Spec PyProof.Rows L2 RtL
section
variable {P : Program} {w : World} {K : Fr} {mg : Str → Option Value} {base : Heap} {f : Addr} {fd : FuncData}
abbrev DZ (K : Fr) : Addr := He.ga K "DividedByZero"
theorem sc_over : FnScope ["self", "other", "right"] ["self", "other"] (defScope (inR 5)) := ⟨rfl, rfl, rfl, by decide +kernel, rfl, by decide +kernel, by decide +kernel⟩
def spOver (K : Fr) : Sp := fun vs H Q E => ∃ a v t b t2 b2, vs = [.ref a, v] ∧ RatAt K H a t b ∧ Num K H v t2 b2 ∧ Bd 1000 t ∧ Bd 1000 b ∧ Bd 1000 t2 ∧ Bd 1000 b2 ∧ b ≠ 0 ∧
  ((t2 = 0 ∧ ∀ H', Same H H' → E (.ref (DZ K)) none H') ∨ (t2 ≠ 0 ∧ ∀ x H', Same H H' → RatAt K H' x (lowT (t * b2) (b * t2)) (lowB (t * b2) (b * t2)) → Q (.ref x) H'))
theorem ok_over (F : FunD K "over" "Ratio.over" (defArgs (inR 5)) (defBody (inR 5)) (defScope (inR 5)) [] [] f fd) (T : TT K mg) (D : Pr P w K mg base) :
    FnOk P w K mg base (L2.CX P w) 5 f fd ["self", "other"] (spOver K) := by
  obtain ⟨⟨dT, MT⟩, ⟨dB, MB⟩, ⟨fR, dR, GR⟩, ⟨dI, I⟩⟩ := D
  obtain ⟨x1, x2, x3, x4, x5, x6⟩ := T.exc
  refine F.ok sc_over (fun vs H Q E h => ?_) (fun cdv A outer s H vs Q E hr h => ?_)
  · obtain ⟨a, v, t, b, t2, b2, rfl, _⟩ := h
    rfl
  · obtain ⟨a, v, t, b, t2, b2, rfl, ⟨dx, ea⟩, hv, ht, hb, ht2, hb2, nb, h⟩ := h
    refine ⟨_, (pss_cons (ps_set (i := 2) sc_over.nd rfl (Or.inl rfl) (pe_gd GR hr (by rfl) (pa_cons (pv 1) pa_nil)))
      (pss_cons (ps_if (pt_cmpR op_eq (pe_prop (pv 2) T.cl (T.prop "top" (by decide)) MT.ok (hr.mono (by decide)) MT.bd .nil pass0 rfl) pe_int (nomark _)) (pss_one (ps_raise rfl (takes_of rfl rfl rfl rfl) (pmk_bare PySem.F.excBase_RuntimeError x1 (T.gl "DividedByZero" (by decide)) x2 (raises_own x3 x4) (by rfl)))) pss_nil)
      (pss_one (ps_ret (pe_rat2 T I (hr.mono (by decide)) (by rfl) (pa_cons (pe_op op_mulW (pe_fld (pv 0) rfl) (pe_prop (pv 2) T.cl (T.prop "bottom" (by decide)) MB.ok (hr.mono (by decide)) MB.bd .nil pass0 rfl))
        (pa_cons (pe_op op_mulW (pe_fld (pv 0) rfl) (pe_prop (pv 2) T.cl (T.prop "top" (by decide)) MT.ok (hr.mono (by decide)) MT.bd .nil pass0 rfl)) pa_nil))))))), ?_⟩
    refine ⟨_, rfl, v, t2, b2, rfl, hv, ht2, fun c H1 s1 r1 => ?_⟩
    obtain ⟨dy, ec⟩ := r1
    have ea1 := s1 _ _ ea
    refine ⟨_, rfl, c, dy, _, rfl, ec, c, t2, b2, rfl, ⟨dy, ec⟩, rfl, _, rfl, ite2 (fun z => ?_) (fun z => ?_)⟩
    · have e : t2 = 0 := by
        have y := of_decide_eq_true z
        injection y
      rcases h with ⟨_, q⟩ | ⟨n, _⟩
      · exact q H1 s1
      · exact absurd e n
    · have e : t2 ≠ 0 := fun y => z (decide_eq_true (by rw [y]))
      rcases h with ⟨n, _⟩ | ⟨_, q⟩
      · exact absurd n e
      · refine ⟨_, rfl, a, _, dx, _, _, rfl, ea1, T.cl, T.nT, rfl, _, rfl, c, dy, _, rfl, ec, c, t2, b2, rfl, ⟨dy, ec⟩, t, b2, rfl, rfl, cm ht hb2, ?_⟩
        refine ⟨_, rfl, a, _, dx, _, _, rfl, ea1, T.cl, T.nB, rfl, _, rfl, c, dy, _, rfl, ec, c, t2, b2, rfl, ⟨dy, ec⟩, b, t2, rfl, rfl, cm hb ht2, ?_⟩
        exact made (Int.mul_ne_zero nb e) (bd_up (bd_mul ht hb2) (by decide)) (bd_up (bd_mul hb ht2) (by decide)) fun x H' s' r' _ => q x H' (s1.trans s') r'
end
end K15

set_option maxHeartbeats 1000000
/-! repr of a list that holds whole numbers and objects of an own class with __repr__ -/
namespace RtL
open PySem PySem.Spec PyProof.Rows L2
open PySem.Sem (wp)
open PySem.Builtin PySem.Builtin.List
section
variable {M : Model} {K : PySem.W.Frag} {A : Around} {E : Value → Shared → Prop} {s : Shared} {x f C : Addr} {ox : Obj} {od : Option Obj}
theorem ifBoundBy_K {last : Value → List Value → Sem Value} {name : Str} {Q : Option Value → Shared → Prop} (X : K.In s.heap) (I : PySem.W.InstAt s.heap x ox C od) (hs : PySem.W.findIn K (.ref C) name = some (some (.ref f))) (hf : PySem.W.isFn K (.ref f) = true)
    (h : wpAny M A (last (.ref f) [.ref x]) (fun v => Q (some v)) E s) : wpAny M A (callSpecialIfBoundBy? last (.ref x) name) Q E s := by
  simp only [callSpecialIfBoundBy?, bindSpecialIfBound?]
  refine wpAny_holding (wpAny_bind (wpAny_bind (wpAny_bind (I.type.here ((PySem.W.looks_findIn X hs).here ?_)))))
  refine wpAny_bind (wpAny_askSetting (wpAny_ite ?_))
  have fin : wpAny M A (last (.ref f) [.ref x] >>= fun v => pure (some v)) Q E s := wpAny_bind (wpAny_mono h (fun v s' h' => wpAny_pure h') fun _ _ h' => h')
  split
  · exact wpAny_bind ((PySem.W.bind_fn X _ (beq_iff_eq.mp hf)).here (wpAny_pure (by exact fin)))
  · exact wpAny_tryCatch (wpAny_bind ((PySem.W.bind_fn X _ (beq_iff_eq.mp hf)).here (wpAny_pure (by exact fin))))
end
theorem loop_depth (A : Around) (args : Args) : (A.under (.builtin "list.__repr__.loop" args)).depth ≤ A.depth + 1 := by
  first
  | exact Nat.le_of_eq rfl
  | (simp [Around.under, Code.weight, Code.isCreation, Code.isGuard, Code.isCaller, Code.frames, Code.isFrame, guardIds]; done)
  | (simp [Around.under, Code.weight, Code.isCreation, Code.isGuard, Code.isCaller, Code.frames, Code.isFrame, guardIds] <;> omega)
theorem Room.loop {k : Nat} {A : Around} (r : Room (k + 1) A) (args : Args) : Room k (A.under (.builtin "list.__repr__.loop" args)) :=
  ⟨r.hd, by have := r.dp; have := loop_depth A args; omega, by have := r.un; rw [units_under_list_loop]; omega⟩
theorem Env0.loop {P : Program} {w : World} {K : PySem.W.Frag} {mg : Str → Option Value} {base : Heap} {A : Around} {outer : List Env} {s : Shared} {H : Hp} (e : Env0 P w K mg base A outer s H) (args : Args) :
    Env0 P w K mg base (A.under (.builtin "list.__repr__.loop" args)) outer s H := ⟨by first | exact e.frames | (simpa [Around.under, Code.envs, Code.isFrame, pushEnvs] using e.frames), e.mod, e.bs, e.bsz, e.funs, e.frf, e.hok, e.bare⟩
/-- an item and its text -/
def ItT (C : Addr) (sp : Sp) (H : Hp) (v : V) (t : Str) : Prop := (∃ i : Int, v = .int i ∧ t = toString i ∧ i.natAbs.log2 < 1920) ∨ ∃ a dx fs, v = .ref a ∧ H a = some (.ins C dx fs) ∧ ∀ Q : VK, Q (.str t) H → sp [.ref a] H Q E0
section
variable {X : Cx} {k : Nat} {f C : Addr} {fd : FuncData} {sp : Sp} {ps : List Str} {pins : List (Addr × Obj)} {σ : L2.St} {H : Hp}
theorem under_own (hs : PySem.W.findIn X.K (.ref C) "__repr__" = some (some (.ref f))) (hf : PySem.W.isFn X.K (.ref f) = true) (F : FnOk X.prog X.w X.K X.mg X.base CX0 k f fd ps sp) (hb : Binds X.K fd ps []) {A : Around} {s : Shared} {E : Value → Shared → Prop} (hr : Room k A)
    (e0 : Env0 X.prog X.w X.K X.mg X.base A X.stack s H) (I : Inv X pins σ H s) {a dx : Addr} {fs : List (Str × V)} {t : Str} {base : Nat} {Q : Str → Shared → Prop} (ha : H a = some (.ins C dx fs)) (hq : ∀ Q : VK, Q (.str t) H → sp [.ref a] H Q E0) (hz : base ≤ sizeLine)
    (h : ∀ s', Inv X pins σ H s' → Q t s') : wpAny (model X.prog X.w) A (pyReprUnder base (.ref a)) Q E s := by
  obtain ⟨mA, oa, _⟩ := ins_get I.hok ha
  obtain ⟨od, J, _⟩ := oa.look
  have q := hq (fun v H' => v = .str t ∧ H' = H) ⟨rfl, rfl⟩
  have hl : ([Value.ref a] ++ []).length = ps.length := by
    rw [← F.len _ _ _ _ q]
    rfl
  refine wpAny_pyReprUnder_ref hz ?_
  unfold pyReprObjUnder pyReprObjBy
  refine wpAny_bind (wpAny_cRoomFor (by have := hr.un; omega) ?_)
  refine wpAny_bind (wpAny_bind (J.type.here ((PySem.W.looks_findIn I.kIn hs).here ?_)))
  show wpAny _ _ (if (some (Value.ref f)).isNone = true then _ else _) _ _ _
  rw [if_neg (by simp)]
  refine wpAny_bind (ifBoundBy_K I.kIn J hs hf ?_)
  show wpAny _ _ (call (.ref f) [.ref a]) _ _ _
  refine wpAny_call (codeAny_mono (F.run A X.stack s H ⟨[.ref a], []⟩ [.ref a] [.ref a] _ E0 hr e0 (hb s [.ref a] I.kIn hl) (.cons rfl .nil) q) fun r s' hq => ?_)
  match r, hq with
  | .ok (.ret u), hq =>
    obtain ⟨v, H', I3, rv, ev, eH⟩ := I.after hq
    subst ev eH
    obtain ⟨tk, e⟩ := rv
    subst e
    exact wpAny_bind (wpAny_isInstance (T := "str") (b := true) rfl isSubtype_str_str (wpAny_pure ⟨_, _, rfl, h s' I3⟩))
  | .ok .next, hq => exact False.elim hq
  | .ok .brk, hq => exact False.elim hq
  | .ok .cont, hq => exact False.elim hq
  | .error e, hq => exact False.elim hq
abbrev pL (P : Addr) (acc : Array Value) (c : Nat) : Addr × Obj := (P, { cls := .type "list", dict := none, data := .seq acc c, slots := #[] })
/-- the list of the parts grows -/
theorem pin_push {P : Addr} {acc acc' : Array Value} {c c' : Nat} {s : Shared} {h' : Heap} {t' : Nat} (I : Inv X (pL P acc c :: pins) σ H s) (h1 : P ∈ X.ex ∨ X.s_0.heap.objs.size ≤ P) (h2 : ∀ x c, X.env.cells.lookup x = some c → c ≠ P) (h3 : ∀ p ∈ X.pn ++ pins, p.1 ≠ P)
    (k : ∀ b o, b ≠ P → s.heap.get? b = some o → h'.get? b = some o) (hP : h'.get? P = some (pL P acc' c').2) : Inv X (pL P acc' c' :: pins) σ H { s with heap := h', toks := t' } := by
  obtain ⟨p1, p2, p3, p4, p5⟩ := I.pin (pL P acc c) (List.mem_append_right _ List.mem_cons_self)
  have J := (ClX.unpin I).turned (t' := t') k p2 p3 h1 h2 h3
  refine J.pins_of fun p hp => ?_
  rcases List.mem_cons.mp hp with e | e
  · subst e
    exact ⟨hP, p2, p3, p4, fun v z => nomatch z⟩
  · exact J.pin p (List.mem_append_right _ e)
theorem loopI (hs : PySem.W.findIn X.K (.ref C) "__repr__" = some (some (.ref f))) (hf : PySem.W.isFn X.K (.ref f) = true) (F : FnOk X.prog X.w X.K X.mg X.base CX0 k f fd ps sp) (hb : Binds X.K fd ps []) {A : Around} (hr : Room (k + 1) A)
    (e0 : ∀ s, Inv X pins σ H s → Env0 X.prog X.w X.K X.mg X.base A X.stack s H) {a P : Addr} {vs : List V} {ts : List Str} {base : Nat} {R : Result → Shared → Prop} (ea : H a = some (.lst vs)) (hlen : ts.length = vs.length)
    (hT : ∀ (i : Nat) (v : V), vs[i]? = some v → ∃ t, ts[i]? = some t ∧ ItT C sp H v t) (hsz : base + (listText ts).length ≤ sizeLine)
    (h1 : P ∈ X.ex ∨ X.s_0.heap.objs.size ≤ P) (h2 : ∀ x c, X.env.cells.lookup x = some c → c ≠ P) (h3 : ∀ p ∈ X.pn ++ pins, p.1 ≠ P) (hR : ∀ s' u, Inv X pins σ H s' → R (.ok (.ret (.str (listText ts) u))) s') :
    ∀ (n i : Nat) (s : Shared) (acc : Array Value) (c : Nat) (done : List (Str × Tok)), vs.length - i = n → i ≤ vs.length → Inv X (pL P acc c :: pins) σ H s → acc.toList = strValues done → done.map (·.1) = ts.take i →
      codeAny (model X.prog X.w) A (.builtin "list.__repr__.loop" ⟨[.ref a, rawInt i, .ref P, rawInt ((base + piled (ts.take i) : Nat) : Int)], []⟩) R s := by
  have hX : (listText ts).length = (textFrom 0 "[" ts).length + 1 := by
    show (textFrom 0 "[" ts ++ "]").length = _
    rw [strLen_append]; rfl
  have hL := textFrom_len ts 0 "["
  have hsz1 : vs.length ≤ sizeLine := by
    have h1 := hL.1
    rw [if_neg (Nat.lt_irrefl 0)] at h1
    omega
  have hsz2 : ∀ t ∈ ts, t.length ≤ sizeLine := fun t ht => by
    have h2 := hL.2.1 t ht
    omega
  have hsz3 : (listText ts).length ≤ sizeLine := by omega
  have hp3 := piled_le_listText ts
  intro n
  induction n with
  | zero =>
    intro i s acc c done hk hi I hacc hdone
    obtain ⟨_, its, nn, rv, ho⟩ := (show ObjOk X.prog X.w H s.heap a (.lst vs) from I.hok a _ ea)
    have hin : i = its.length := by rw [← rv.length]; omega
    refine codeAny_builtin PySem.F.entry_list_repr_loop ?_
    show wpAny _ _ («list.__repr__.loop» ⟨[.ref a, .int i 0, .ref P, .int ((base + piled (ts.take i) : Nat) : Int) 0], []⟩) _ _ s
    rw [repr_loop_tree]
    refine wpAny_bind (wpAny_listItems ho rfl ?_)
    have hnone : its.toArray[(i : Int).toNat]? = none := by simp [hin]
    simp only [hnone]
    unfold reprEnd
    refine wpAny_bind (wpAny_listItems (ClX.pin_at I) rfl ?_)
    rw [hacc, repr_fold]
    refine wpAny_bind (wpAny_pure ?_)
    have hall : done.map (·.1) = ts := by rw [hdone, hin, ← rv.length, ← hlen, List.take_length]
    rw [hall]
    refine wpAny_bind (wpAny_mkStr (wpAny_pure ?_) hsz3)
    exact hR _ _ ((ClX.unpin I).tok _)
  | succ n ih =>
    intro i s acc c done hk hi I hacc hdone
    have hlt : i < vs.length := by omega
    obtain ⟨_, its, nn, rv, ho⟩ := (show ObjOk X.prog X.w H s.heap a (.lst vs) from I.hok a _ ea)
    have hlt' : i < its.length := by rw [← rv.length]; exact hlt
    obtain ⟨t, ht, hit⟩ := hT i vs[i] (by simp [hlt])
    obtain ⟨u, hu, ru⟩ := rv.get (i := i) (x := vs[i]) (by simp [hlt])
    have hp1 := piled_take_succ ht
    have hp2 := piled_take_le ts (i + 1)
    refine codeAny_builtin PySem.F.entry_list_repr_loop ?_
    show wpAny _ _ («list.__repr__.loop» ⟨[.ref a, .int i 0, .ref P, .int ((base + piled (ts.take i) : Nat) : Int) 0], []⟩) _ _ s
    rw [repr_loop_tree]
    refine wpAny_bind (wpAny_listItems ho rfl ?_)
    have hsome : its.toArray[(i : Int).toNat]? = some u := by
      rw [Int.toNat_natCast, List.getElem?_toArray]
      exact hu
    simp only [hsome]
    rw [Int.toNat_natCast]
    have go : ∀ s', Inv X (pL P acc c :: pins) σ H s' → wpAny (model X.prog X.w) (A.under (.builtin "list.__repr__.loop" ⟨[.ref a, .int i 0, .ref P, .int ((base + piled (ts.take i) : Nat) : Int) 0], []⟩)) (do
        let signs := base + piled (ts.take i) + (t.length + 2)
        let r ← mkStr t
        listUpdate (.ref P) (·.push r)
        again (.builtin "list.__repr__.loop" ⟨[.ref a, rawInt ((i : Int) + 1), .ref P, rawInt signs], []⟩))
        (fun fin s' => match fin with | .done fl => R (.ok fl) s' | .again c' => c'.quiet = true ∧ codeAny (model X.prog X.w) A c' R s') (fun e s' => R (.error e) s') s' := fun s' I' => by
      refine wpAny_bind (wpAny_mkStr ?_ (hsz2 t (List.mem_of_getElem? ht)))
      refine wpAny_bind ?_
      show wpAny _ _ (updateSeq P _) _ _ _
      have hasz : acc.size ≤ sizeLine := by
        have e1 : acc.toList.length = acc.size := by simp
        have e2 : (strValues done).length = done.length := by simp [strValues]
        have e3 : done.length = (ts.take i).length := by rw [← hdone, List.length_map]
        have e4 : (ts.take i).length ≤ i := by rw [List.length_take]; omega
        rw [hacc] at e1; omega
      refine wpAny_updateSeq (ClX.pin_at I') rfl (wpAny_pure ⟨PySem.F.quiet_list_repr_loop _, ?_⟩) hasz
      have e1 : ((i : Int) + 1) = ((i + 1 : Nat) : Int) := by omega
      have e2 : base + piled (ts.take i) + (t.length + 2) = base + piled (ts.take (i + 1)) := by omega
      rw [e1, e2]
      refine ih (i + 1) _ (acc.push (.str t s'.toks)) _ (done ++ [(t, s'.toks)]) (by omega) hlt (pin_push (I'.tok (s'.toks + 1)) h1 h2 h3 (fun b o hne e => (Heap.get?_update_other _ _ (fun h : P = b => hne h.symm)).trans e) (Heap.get?_update_self _ (ClX.pin_at I') rfl)) (by simp [hacc, strValues]) (by simp [List.take_add_one, ht, hdone])
    rcases hit with ⟨j, ev, et, hlog⟩ | ⟨b, dx, fs, ev, eb, hq⟩
    · rw [ev] at ru
      obtain ⟨tk, eu⟩ := (show ∃ tk, u = Value.int j tk from ru)
      subst et
      rw [eu]
      refine wpAny_bind (wpAny_holding (ReprIs.int tk hlog (base + piled (ts.take i) + 1) (by omega) _ _ _ _ fun tk' => ?_))
      exact go _ (I.tok tk')
    · rw [ev] at ru
      rw [show u = Value.ref b from ru]
      refine wpAny_bind (wpAny_holding (under_own hs hf F hb (Room.loop hr _) (Env0.loop (e0 s (ClX.unpin I)) _) I eb hq (by omega) fun s' I' => ?_))
      exact go s' I'
/-- repr(xs), xs a list of these -/
def rReprL (C : Addr) (sp : Sp) : List V → Hp → VK → Prop := fun xs H Q => ∃ a vs ts, xs = [.ref a] ∧ H a = some (.lst vs) ∧ vs ≠ [] ∧ ts.length = vs.length ∧ (∀ (i : Nat) (v : V), vs[i]? = some v → ∃ t, ts[i]? = some t ∧ ItT C sp H v t) ∧
  (listText ts).length ≤ sizeLine ∧ Q (.str (listText ts)) H
theorem call_reprL (hs : PySem.W.findIn X.K (.ref C) "__repr__" = some (some (.ref f))) (hf : PySem.W.isFn X.K (.ref f) = true) (F : FnOk X.prog X.w X.K X.mg X.base CX0 k f fd ps sp) (hb : Binds X.K fd ps []) (hr : Room (k + 3) X.A) (hg : X.A.guards = some []) :
    CallR X (.builtin "repr") (rReprL C sp) := by
  intro pins s σ H xs us Q I r h
  obtain ⟨a, vs, ts, rfl, ea, hne, hlen, hT, hsz, q⟩ := h
  obtain ⟨u, rfl, rx⟩ := vals1 r
  cases (show u = Value.ref a from rx)
  obtain ⟨_, its, nn, rv, ho⟩ := (show ObjOk X.prog X.w H s.heap a (.lst vs) from I.hok a _ ea)
  cases rv with
  | nil => exact absurd rfl hne
  | cons r1 r2 =>
    rename_i v vs x l
    refine call_repr_slot (by have := hr.un; show X.A.units + 1 < cLine; omega) ⟨_, ho, rfl⟩ PySem.F.slot_list_repr.toG ?_
    refine wpAny_call (codeAny_call_builtin PySem.F.slot_list_repr.plain PySem.F.entry_list_repr (PySem.F.slot_list_repr.check _ _ _ _ _ _ _ _ ⟨_, ho, rfl⟩ (PySem.F.args_list_repr_1 _) ?_))
    refine wpAny_list_repr_head (g := []) hg (fun v rest kw hm => nomatch hm) ho rfl ?_
    refine wpAny_bind (m := newList []) (wpAny_newObj_type ?_)
    refine wpAny_pure ⟨PySem.F.quiet_list_repr_loop _, ?_⟩
    have I1 := I.lt
    refine loopI (A := X.A.in1) (P := s.heap.objs.size) hs hf F hb (Room.in1 (hr.mono (by omega) : Room (k + 2) X.A)) (fun s' I' => I'.env0.in1) (base := 0) ea hlen hT (by omega) (.inr I.sz) (fun x c e z => ?_) (fun p hp z => ?_) (fun s' u I' => ?_) _ 0 _ #[] _ [] rfl (Nat.zero_le _) (ClX.pin_new I (fun b o e => Heap.get?_push_of_some _ e) (Nat.le_refl _) (Heap.get?_push_size _ rfl) (fun v z => nomatch z)) rfl (by simp)
    · obtain ⟨v, o, hc, _⟩ := I.cell x c e
      rw [z] at hc
      exact absurd (Heap.lt_size hc) (Nat.lt_irrefl _)
    · have e := (I.pin p hp).1
      rw [z] at e
      exact absurd (Heap.lt_size e) (Nat.lt_irrefl _)
    · exact ⟨_, _, rfl, .str _, H, I', ⟨u, rfl⟩, q⟩
end
end RtL

set_option maxHeartbeats 4000000
namespace RtL
open PySem PySem.Spec PyProof.Rows L2
section
variable {X : Cx} {CX : CXT} {k : Nat} {f C : Addr} {fd : FuncData} {ps : List Str} {sp : Sp} {E : XK} {x m : Str} {p pos apos : Pos} {e o : Expr} {es : List Expr} {tc ta : TE} {t : TA} {dvs : List V} {ds : List Value} {mc : Value} {q g : Addr} {pl : Sem Bool}
/-- x(..), x a local name that holds the class -/
theorem pe_makeL (hc : PE X (.Name x p) tc) (M : Mk X.K C f) (F : FnOk X.prog X.w X.K X.mg X.base CX k f fd ps sp) (hr : Room (k + 1) X.A) (hb : Binds X.K fd ps ds) (hd : Vals dvs ds) (hx : Passes CX X E)
    (ha : PA X (e :: es) t) (he : starEach (e :: es) X.env = (false, eval e X.env) :: starEach es X.env := by rfl) (hpl : (backTo pos (starEach es X.env)).any (·.1) = false := by rfl) :
    PE X (.Call (.Name x p) (e :: es) [] pos) (fun σ H Q => tc σ H fun c H1 => c = .ref C ∧ tMake C sp dvs E t σ H1 Q) := by
  refine ⟨fun pins s σ H Q I h => ?_⟩
  refine wpAny_Call_Name_kw (thn (hc.run pins s σ H _ I h) fun u s1 ⟨c, H1, I1, rc, ec, q⟩ => ?_)
  subst ec
  obtain rfl : u = Value.ref C := rc
  refine PySem.W.callWith_K (h₀ := X.base) I1.ok.mod.kin M.kp (thn (ha.run pos pins s1 σ H1 _ I1 q) fun us s2 ⟨vs, H2, I2, r, q2⟩ => ⟨I2.kIn, ?_⟩) he hpl
  exact run_make M F hr hb hd hx I2 r q2
/-- o.m(), o the class, m a classmethod -/
def tCMeth0 (C : Addr) (sp : Sp) (E : XK) (ta : TE) : TE := fun σ H Q => ta σ H fun x H1 => x = .ref C ∧ sp [.ref C] H1 Q E
theorem pe_cmeth0 (he : PE X o ta) (r : ClX.CRead X.K C mc) (c : ClX.CMet X.K C mc m q g) (F : FnR X.prog X.w X.K X.mg X.base CX k g sp) (hr : Room k X.A) (hx : Passes CX X E)
    (ht : eval (.Call (.Attribute o m apos) [] [] pos) X.env = (do
      let ov ← eval o X.env
      standAt apos.atName
      let (f, first) ← holding [ov] (getMethod ov m pl)
      callWith pos f first (backTo pos (starEach [] X.env)) (backToKw pos (keywordEach [] X.env))) := by rfl) :
    PE X (.Call (.Attribute o m apos) [] [] pos) (tCMeth0 C sp E ta) := by
  refine ⟨fun pins s σ H Q I h => ?_⟩
  refine PySem.W.methodCall_KW (pl := pl) (thn (he.run pins s σ H _ I h) fun u s1 ⟨x, H1, I1, rx, ex, q⟩ => ?_) ht
  subst ex
  obtain rfl : u = Value.ref C := rx
  refine ClX.getmethcm_ok I1 r c fun s2 I2 => ?_
  refine PySem.W.callWith_M0 (K := X.K) ⟨ClX.pin_at I2, I2.kIn⟩ c.fi ?_
  exact ClX.run_cm F hr hx I2 .nil q
end
end RtL
namespace K15
open PySem PySem.Spec PyProof.Rows L2 RtL
/-! ### low numbers, and sums of them -/
theorem lowS_dvd (t b : Int) : lowS t b ∣ t ∧ lowS t b ∣ b := by
  refine ⟨Int.natAbs_dvd_natAbs.mp ?_, Int.natAbs_dvd_natAbs.mp ?_⟩
  · rw [lowS_abs]
    exact Nat.gcd_dvd_left _ _
  · rw [lowS_abs]
    exact Nat.gcd_dvd_right _ _
theorem low_spec {t b : Int} (h : b ≠ 0) : t = lowS t b * lowT t b ∧ b = lowS t b * lowB t b := by
  have n := lowS_ne (t := t) h
  obtain ⟨⟨k, ek⟩, ⟨l, el⟩⟩ := lowS_dvd t b
  unfold lowT lowB
  generalize lowS t b = s at *
  subst ek el
  rw [Int.mul_fdiv_cancel_left k n, Int.mul_fdiv_cancel_left l n]
  exact ⟨rfl, rfl⟩
theorem bd_dvd {n : Nat} {s k i : Int} (e : i = s * k) (hs : s ≠ 0) (h : Bd n i) : Bd n k := by
  refine Nat.lt_of_le_of_lt ?_ h
  rw [e, Int.natAbs_mul]
  exact Nat.le_mul_of_pos_left _ (Int.natAbs_pos.mpr hs)
theorem lowT_bd {n : Nat} {t b : Int} (h : b ≠ 0) (ht : Bd n t) : Bd n (lowT t b) := bd_dvd (low_spec h).1 (lowS_ne h) ht
theorem lowB_bd {n : Nat} {t b : Int} (h : b ≠ 0) (hb : Bd n b) : Bd n (lowB t b) := bd_dvd (low_spec h).2 (lowS_ne h) hb
/-- in lowest terms, the second at least 1 -/
def Low (t b : Int) : Prop := 1 ≤ b ∧ t.natAbs.gcd b.natAbs = 1
theorem Low.ne {t b : Int} (h : Low t b) : b ≠ 0 := by have := h.1; omega
theorem lowS_of {t b : Int} (h : Low t b) : lowS t b = 1 := by
  have := h.1
  unfold lowS sg
  rw [h.2, if_neg (by omega)]
  rfl
theorem low_id {t b : Int} (h : Low t b) : lowT t b = t ∧ lowB t b = b := by
  unfold lowT lowB
  rw [lowS_of h]
  exact ⟨Int.fdiv_one _, Int.fdiv_one _⟩
theorem low_low {t b : Int} (h : b ≠ 0) : Low (lowT t b) (lowB t b) := by
  obtain ⟨e1, e2⟩ := low_spec (t := t) h
  have n := lowS_ne (t := t) h
  have ha := lowS_abs (t := t) (b := b)
  have hg : 0 < (lowS t b).natAbs := Int.natAbs_pos.mpr n
  have hsg : (b < 0 → lowS t b < 0) ∧ (¬ b < 0 → 0 < lowS t b) := by
    have g : 0 < t.natAbs.gcd b.natAbs := Nat.gcd_pos_of_pos_right _ (Int.natAbs_pos.mpr h)
    unfold lowS sg
    refine ⟨fun z => ?_, fun z => ?_⟩
    · rw [if_pos z]; omega
    · rw [if_neg z]; omega
  refine ⟨?_, ?_⟩
  · by_cases z : b < 0
    · have s := hsg.1 z
      by_cases y : 0 < lowB t b
      · exact y
      · have := Int.mul_nonneg_of_nonpos_of_nonpos (Int.le_of_lt s) (Int.not_lt.mp y)
        omega
    · have s := hsg.2 z
      by_cases y : 0 < lowB t b
      · exact y
      · have := Int.mul_nonpos_of_nonneg_of_nonpos (Int.le_of_lt s) (Int.not_lt.mp y)
        omega
  · have e : (lowS t b).natAbs * (lowT t b).natAbs.gcd (lowB t b).natAbs = (lowS t b).natAbs * 1 := by
      rw [← Nat.gcd_mul_left, ← Int.natAbs_mul, ← Int.natAbs_mul, ← e1, ← e2, ha, Nat.mul_one]
    exact Nat.eq_of_mul_eq_mul_left hg e
theorem Low.neg {t b : Int} (h : Low t b) : Low (-t) b := ⟨h.1, by rw [Int.natAbs_neg]; exact h.2⟩
theorem low_flip {t b : Int} (h : Low t b) : lowT (-t) (-b) = t ∧ lowB (-t) (-b) = b := by
  have e : lowS (-t) (-b) = -1 := by
    have := h.1
    unfold lowS sg
    rw [Int.natAbs_neg, Int.natAbs_neg, h.2, if_pos (by omega)]
    rfl
  have z := low_spec (t := -t) (b := -b) (by have := h.1; omega)
  rw [e] at z
  omega
abbrev P2 := Int × Int
def addP (p q : P2) : P2 := (lowT (p.1 * q.2 + q.1 * p.2) (p.2 * q.2), lowB (p.1 * q.2 + q.1 * p.2) (p.2 * q.2))
def sumP : P2 → List P2 → P2
  | p, [] => p
  | p, q :: qs => sumP (addP p q) qs
theorem sumP_snoc : ∀ (ps : List P2) (p q : P2), sumP p (ps ++ [q]) = addP (sumP p ps) q
  | [], _, _ => rfl
  | r :: ps, p, q => sumP_snoc ps (addP p r) q
abbrev BdP (n : Nat) (p : P2) : Prop := Bd n p.1 ∧ Bd n p.2 ∧ p.2 ≠ 0
theorem addP_bd {n m : Nat} {p q : P2} (h : BdP n p) (h' : BdP m q) : BdP (n + m + 1) (addP p q) := by
  have ne : p.2 * q.2 ≠ 0 := Int.mul_ne_zero h.2.2 h'.2.2
  refine ⟨lowT_bd ne (bd_add (bd_mul h.1 h'.2.1) ?_), lowB_bd ne (bd_up (bd_mul h.2.1 h'.2.1) (by omega)), (low_low ne).ne⟩
  rw [Nat.add_comm n m]
  exact bd_mul h'.1 h.2.1
theorem sumP_bd {m : Nat} : ∀ {ps : List P2} {n : Nat} {p : P2}, BdP n p → (∀ q ∈ ps, BdP m q) → BdP (n + ps.length * (m + 1)) (sumP p ps)
  | [], n, p, h, _ => by
    rw [List.length_nil, Nat.zero_mul, Nat.add_zero]
    exact h
  | q :: ps, n, p, h, hs => by
    have z := sumP_bd (ps := ps) (addP_bd h (hs q List.mem_cons_self)) fun r hr => hs r (List.mem_cons_of_mem _ hr)
    have e : n + m + 1 + ps.length * (m + 1) = n + (q :: ps).length * (m + 1) := by
      rw [List.length_cons, Nat.succ_mul]
      omega
    rw [e] at z
    exact z
end K15

set_option maxHeartbeats 4000000
namespace K15
open PySem PySem.Spec PyProof.Rows L2 RtL
section
variable {P : Program} {w : World} {K : Fr} {mg : Str → Option Value} {base : Heap} {f : Addr} {fd : FuncData}
/-- what total needs: __add__ and __init__ -/
structure Ad (P : Program) (w : World) (K : Fr) (mg : Str → Option Value) (base : Heap) : Prop where
  add : ∃ d, Md P w K mg base 5 (rm K "__add__") d ["self", "other"] (spOp K (fun t b t2 b2 => t * b2 + t2 * b) fun _ b _ b2 => b * b2)
  i : ∃ d, Id P w K mg base d
theorem sc_total : FnScope ["cls", "numbers", "found", "number"] ((["cls"] : List Str) ++ (["numbers"] : List Str)) (defScope (inR 4)) := ⟨rfl, rfl, rfl, by decide +kernel, rfl, by decide +kernel, by decide +kernel⟩
/-- numbers and their pairs -/
def Nums (K : Fr) (H : Hp) (vs : List V) (ps : List P2) : Prop := ps.length = vs.length ∧ ∀ (i : Nat) (v : V), vs[i]? = some v → ∃ p, ps[i]? = some p ∧ Num K H v p.1 p.2 ∧ BdP 200 p
theorem Nums.same {H H' : Hp} {vs : List V} {ps : List P2} (h : Nums K H vs ps) (s : Same H H') : Nums K H' vs ps := ⟨h.1, fun i v e => let ⟨p, a, b, c⟩ := h.2 i v e; ⟨p, a, b.same s, c⟩⟩
def spTot1 (K : Fr) : Sp := fun vs H Q _ => ∃ p items ps, vs = [.ref (RC K), .ref p] ∧ H p = some (.tup items) ∧ Nums K H items ps ∧ ps.length ≤ 3 ∧ ∀ x H', Same H H' → RatAt K H' x (sumP (0, 1) ps).1 (sumP (0, 1) ps).2 → Q (.ref x) H'
def spTot (K : Fr) : Sp := fun vs H Q _ => ∃ items ps, vs = .ref (RC K) :: items ∧ Nums K H items ps ∧ ps.length ≤ 3 ∧ ∀ x H', Same H H' → RatAt K H' x (sumP (0, 1) ps).1 (sumP (0, 1) ps).2 → Q (.ref x) H'
theorem same_new {H : Hp} {p : Addr} {o : HO} (hp : H p = none) : Same H (upd H p o) := fun b u e => by
  rw [upd_ne (ne_of_none e hp)]
  exact e
theorem made_at {K : Fr} {H1 : Hp} {R : VK} {x dx : Addr} {p q : Int} (nx : H1 x = none) (nd : H1 dx = none) (ne : dx ≠ x) (hq : q ≠ 0) (bp : Bd 3000 p) (bq : Bd 3000 q) (c : ∀ H', Same H1 H' → RatAt K H' x (lowT p q) (lowB p q) → R .non H') :
    spInit K [.ref x, .int p, .int q] (upd (upd H1 dx (.own x)) x (.ins (RC K) dx [])) R E0 := by
  refine ⟨x, dx, p, q, rfl, hq, bp, bq, upd_same, ?_⟩
  rw [upd_upd]
  refine c _ (fun b o e => ?_) ⟨dx, upd_same⟩
  rw [upd_ne (ne_of_none e nx), upd_ne (ne_of_none e nd)]
  exact e
theorem bdP01 : BdP 1 ((0, 1) : P2) := ⟨by decide, by decide, by decide⟩
theorem ok_total {q : Str} (F : FunD K "total" q (defArgs (inR 4)) (defBody (inR 4)) (defScope (inR 4)) [] [] f fd) (T : TT K mg) (D : Ad P w K mg base) : FnR P w K mg base CX0 7 f (spTot K) := by
  obtain ⟨⟨dA, MA⟩, ⟨dI, I⟩⟩ := D
  obtain ⟨d1, hd1, b1⟩ := I.b1
  obtain ⟨oc, od, dV, kV, doc, pm, an, cdv, ct, osl, rfl, lk, hcd, hdv, _⟩ := F.ex
  obtain rfl : dV = Value.none := hdv.elim (fun z => z.2) fun z => absurd rfl z.1
  have hb : ∀ us rest : List Value, us.length = (["cls"] : List Str).length → bindArgs (PySem.W.fnOf "total" q (defArgs (inR 4)) (defBody (inR 4)) (defScope (inR 4)) Value.none kV doc pm an cdv ct) ⟨us ++ rest, []⟩ = (newTuple rest >>= fun t => pure ((["cls"] : List Str).zip us ++ [(("numbers" : Str), t)])) :=
    StX.bind_star1 (B := fun vs => bindArgs (PySem.W.fnOf "total" q (defArgs (inR 4)) (defBody (inR 4)) (defScope (inR 4)) Value.none kV doc pm an cdv ct) ⟨vs, []⟩) (fun a => by rfl) (fun a r rs => by rfl)
  refine FnR.imp (StX.fn_star (P := P) (w := w) (mg := mg) (base := base) (CX := CX0) (k := 6) (sp := spTot1 K) (pv := "numbers") (ps := ["cls"]) lk hcd sc_total StX.cxUp_none hb (fun A outer s H vs Q E hr h => ?_)) (fun vs H Q E h => ?_)
  rotate_left
  · obtain ⟨items, ps, rfl, hn, hl, q⟩ := h
    refine ⟨[.ref (RC K)], items, rfl, rfl, by rw [← hn.1, sizeLine_eq]; omega, fun p hp => ⟨p, items, ps, rfl, upd_same, hn.same (same_new hp), hl, fun x H' s' r => q x H' ((same_new hp).trans s') r⟩⟩
  · obtain ⟨p, items, ps, rfl, hp, hn, hl, q⟩ := h
    refine ⟨_, PSs.nox (pss_cons (ps_set (i := 2) sc_total.nd rfl (Or.inl rfl) (pe_makeL (pv 0) T.mkr I.ok (hr.mono (by decide)) b1 hd1 pass0 (pa_cons pe_int pa_nil)))
      (pss_cons (ps_for PassesOwn.never rfl (pi_tup (pv 1)) (pg_name (i := 3) sc_total.nd rfl (Or.inl rfl)) (pss_one (ps_set (i := 2) sc_total.nd rfl (Or.inl rfl) (pe_op (op_ownBin (op := .Add) (T.bin "__add__" "__radd__" (by decide)) rfl rfl MA.ok (hr.mono (by decide)) MA.bd pass0) (pv 2) (pv 3)))))
      (pss_one (ps_ret (pv 2))))), ?_⟩
    refine ⟨_, rfl, rfl, ?_⟩
    refine fun x dx nx nd ne => made_at nx nd ne (p := 0) (q := 1) (by decide) (bd_up (n := 1) (by decide) (by decide)) (bd_up (n := 1) (by decide) (by decide)) fun H1 s1 r1 => ⟨rfl, ?_⟩
    refine ⟨_, rfl, p, rfl, ⟨_, SqT.of (s1 _ _ hp)⟩, for_tup (xs := items) (fun i σ H2 => ∃ x v, σ = [some (.ref (RC K)), some (.ref p), some (.ref x), v] ∧ Same H H2 ∧ RatAt K H2 x (sumP (0, 1) (ps.take i)).1 (sumP (0, 1) (ps.take i)).2)
      ⟨x, none, rfl, s1, r1⟩ (fun i σ H2 _ ⟨_, _, _, s2, _⟩ => SqT.of (s2 _ _ hp)) ?_ ?_⟩
    · rintro i v σ H2 hi ⟨x, v3, rfl, s2, r2⟩
      obtain ⟨pr, hpr, hnum, hbd⟩ := hn.2 i v hi
      have b0 := sumP_bd (ps := ps.take i) bdP01 (m := 200) fun r hr => by
        obtain ⟨j, hj⟩ := List.getElem?_of_mem (List.mem_of_mem_take hr)
        have hjl : j < items.length := by rw [← hn.1]; exact (List.getElem?_eq_some_iff.mp hj).1
        obtain ⟨p', hp', _, hb'⟩ := hn.2 j items[j] (by simp [hjl])
        rw [hj] at hp'
        cases hp'
        exact hb'
      have b1 : BdP 604 (sumP (0, 1) (ps.take i)) := by
        have hlen : (ps.take i).length ≤ 3 := by rw [List.length_take]; omega
        have le : 1 + (ps.take i).length * (200 + 1) ≤ 604 := by omega
        exact ⟨bd_up b0.1 le, bd_up b0.2.1 le, b0.2.2⟩
      obtain ⟨dx, er⟩ := id r2
      refine ⟨_, rfl, _, rfl, x, dx, _, rfl, er, ?_, x, v, _, _, pr.1, pr.2, rfl, r2, hnum.same s2, bd_up b1.1 (by decide), bd_up b1.2.1 (by decide), bd_up hbd.1 (by decide), bd_up hbd.2.1 (by decide), Int.mul_ne_zero b1.2.2 hbd.2.2, fun y H3 s3 r3 => ?_⟩
      · rcases hnum.same s2 with ⟨a, e, dy, ea⟩ | ⟨e, _⟩
        · exact .inr ⟨a, dy, _, e, ea⟩
        · exact .inl ⟨_, e⟩
      · refine ⟨y, some v, rfl, s2.trans s3, ?_⟩
        rw [List.take_add_one, hpr]
        show RatAt K H3 y (sumP (0, 1) (ps.take i ++ [pr])).1 (sumP (0, 1) (ps.take i ++ [pr])).2
        rw [sumP_snoc]
        exact r3
    · rintro σ H2 ⟨x, v3, rfl, s2, r2⟩
      rw [← hn.1, List.take_length] at r2
      exact ⟨_, rfl, q x H2 s2 r2⟩
end
end K15

set_option maxHeartbeats 4000000
namespace K15
open PySem PySem.Spec PyProof.Rows L2 RtL
section
variable {P : Program} {w : World} {K : Fr} {mg : Str → Option Value} {base : Heap} {f : Addr} {fd : FuncData}
/-! ### a pot -/
abbrev sPot : Stmt := top 13
theorem scPot : FnScope ["_law_script", "_law_k", "_law_cell"] ["_law_script", "_law_k"] (defScope sPot) := ⟨rfl, rfl, rfl, by decide +kernel, rfl, by decide +kernel, by decide +kernel⟩
/-- a pot at p -/
def PotAt (H : Hp) (p : Addr) : Prop := ∃ x y : Int, H p = some (.lst [.int x, .int y]) ∧ 0 ≤ x ∧ 0 ≤ y ∧ y < 2147483648
def spPot (K : Fr) : Sp := fun vs H Q _ => ∃ (a : Addr) (ns : List Int) (k : Int), vs = [.ref a, .int k] ∧ SqL K H a (ns.map V.int) ∧ ns.length ≤ 63 ∧ 0 ≤ k ∧ k < 64 ∧ ∀ p H', H p = none → Same H H' → PotAt H' p → Q (.ref p) H'
theorem ok_pot (F : FunD K "_law_pot" "_law_pot" (defArgs sPot) (defBody sPot) (defScope sPot) [] [] f fd) (T : TT K mg) : FnOk P w K mg base CX0 1 f fd ["_law_script", "_law_k"] (spPot K) := by
  refine F.ok scPot (fun vs H Q E h => ?_) (fun cdv A outer s H vs Q E hr h => ?_)
  · obtain ⟨a, ns, k, rfl, _⟩ := h
    rfl
  · obtain ⟨a, ns, k, rfl, hS, hl, k0, k63, q⟩ := h
    refine ⟨_, pss_cons (ps_set (i := 2) scPot.nd rfl (Or.inl rfl) (pe_ifExp (pt_cmpR op_lt (pv 1) (pe_callB call_len_seq (by rfl) T.fre PySem.boot_len (pa_cons (pv 0) pa_nil)) (nomark _))
        (pe_callB call_abs (by rfl) T.fre (by decide +kernel) (pa_cons (pe_ix ix_list (pv 0) (pv 1) (fun _ _ => rfl)) pa_nil)) pe_int))
      (pss_one (ps_ret (pe_lst (pa_cons (pe_callB (call_max2 rfl) (by rfl) T.fre (by decide +kernel) (pa_cons pe_int (pa_cons (pe_op op_sub (pv 2) (pe_op op_pow pe_int pe_int)) pa_nil)))
        (pa_cons (pe_op op_mod (pe_callTy call_int1 (by rfl) T.fre (by decide +kernel) (pa_cons (pe_op op_add (pe_op op_add (pe_op op_mul (pe_op op_mod (pe_callTy call_int1 (by rfl) T.fre (by decide +kernel) (pa_cons (pv 2) pa_nil)) pe_int) pe_int) (pe_op op_mul pe_int (pv 1))) pe_int) pa_nil)) pe_int) pa_nil))))), ?_⟩
    refine ⟨_, rfl, _, rfl, _, _, rfl, .inl hS, _, _, rfl, rfl, _, rfl, ite2 (fun h1 => ?_) (fun _ => ?_)⟩
    · have hk : k < (ns.length : Int) := by
        have z := of_decide_eq_true h1
        rw [List.length_map] at z
        exact z
      obtain ⟨j, rfl⟩ : ∃ j : Nat, k = (j : Int) := ⟨k.toNat, by omega⟩
      have hj : j < ns.length := by omega
      have hat : (ns.map V.int)[j]? = some (.int ns[j]) := by
        rw [List.getElem?_map, List.getElem?_eq_getElem hj]
        rfl
      refine ⟨_, rfl, _, rfl, a, _, _, _, rfl, rfl, hS, atI_nat hat, _, rfl, ?_⟩
      refine ⟨_, rfl, _, _, rfl, rfl, ⟨by decide, by decide, by decide⟩, _, _, rfl, rfl, _, _, rfl, _, rfl, .inl ⟨_, rfl, _, _, rfl, rfl, (by show (0 : Int) < 2147483579; decide), _, _, rfl, rfl, .inr ⟨by decide, by decide⟩, _, rfl, _, _, rfl, rfl, .inl ⟨by decide, by decide⟩, _, _, rfl, rfl, _, _, rfl, rfl, .inl ⟨_, rfl, _, _, rfl, rfl, (by show (0 : Int) < 2147483647; decide), (by show 2 ≤ sizeLine; decide), fun p hp => ?_⟩⟩⟩
      refine q p _ hp (fun b o e => by rw [upd_ne (ne_of_none e hp)]; exact e) ⟨_, _, upd_same, ?_, Int.emod_nonneg _ (by decide), Int.lt_trans (Int.emod_lt_of_pos _ (by decide)) (by decide)⟩
      split <;> omega
    · refine ⟨_, rfl, _, _, rfl, rfl, ⟨by decide, by decide, by decide⟩, _, _, rfl, rfl, _, _, rfl, _, rfl, .inl ⟨_, rfl, _, _, rfl, rfl, (by show (0 : Int) < 2147483579; decide), _, _, rfl, rfl, .inr ⟨by decide, by decide⟩, _, rfl, _, _, rfl, rfl, .inl ⟨by decide, by decide⟩, _, _, rfl, rfl, _, _, rfl, rfl, .inl ⟨_, rfl, _, _, rfl, rfl, (by show (0 : Int) < 2147483647; decide), (by show 2 ≤ sizeLine; decide), fun p hp => ?_⟩⟩⟩
      refine q p _ hp (fun b o e => by rw [upd_ne (ne_of_none e hp)]; exact e) ⟨_, _, upd_same, ?_, Int.emod_nonneg _ (by decide), Int.lt_trans (Int.emod_lt_of_pos _ (by decide)) (by decide)⟩
      split <;> omega
/-! ### a draw -/
abbrev sDraw : Stmt := top 14
theorem scDraw : FnScope ["_law_pot_here", "_law_many", "_law_digit"] ["_law_pot_here", "_law_many"] (defScope sDraw) := ⟨rfl, rfl, rfl, by decide +kernel, rfl, by decide +kernel, by decide +kernel⟩
def But (p : Addr) (H H' : Hp) : Prop := ∀ b o, H b = some o → b ≠ p → H' b = some o
def spDraw : Sp := fun vs H Q _ => ∃ (p : Addr) (m : Int), vs = [.ref p, .int m] ∧ PotAt H p ∧ 0 < m ∧ m < 1073741824 ∧ ∀ d H', 0 ≤ d → d < m → PotAt H' p → But p H H' → Q (.int d) H'
theorem ok_draw (F : FunD K "_law_draw" "_law_draw" (defArgs sDraw) (defBody sDraw) (defScope sDraw) [] [] f fd) (T : TT K mg) : FnOk P w K mg base CX0 1 f fd ["_law_pot_here", "_law_many"] spDraw := by
  refine F.ok scDraw (fun vs H Q E h => ?_) (fun cdv A outer s H vs Q E hr h => ?_)
  · obtain ⟨p, m, rfl, _⟩ := h
    rfl
  · obtain ⟨p, m, rfl, ⟨x, y, hp, x0, y0, y1⟩, m0, m1, q⟩ := h
    refine ⟨_, pss_cons (ps_if (pt_cmpR op_gt (pe_ix ix_list (pv 0) pe_int (fun _ _ => rfl)) pe_int (nomark _))
        (pss_cons (ps_asg (pe_callB call_divmod (by rfl) T.fre (by decide +kernel) (pa_cons (pe_ix ix_list (pv 0) pe_int (fun _ _ => rfl)) (pa_cons (pv 1) pa_nil))) (pg_tup (by rfl) (pgs_cons (pg_sub (pv 0) pe_int set_list) (pgs_cons (pg_name (i := 2) scDraw.nd rfl (.inl rfl)) pgs_nil))))
          (pss_one (ps_ret (pv 2)))) pss_nil)
      (pss_cons (ps_asg (pe_op op_mod (pe_callTy call_int1 (by rfl) T.fre (by decide +kernel) (pa_cons (pe_op op_add (pe_op op_mul (pe_ix ix_list (pv 0) pe_int (fun _ _ => rfl)) pe_int) pe_int) pa_nil)) pe_int) (pg_sub (pv 0) pe_int set_list))
      (pss_one (ps_ret (pe_op op_mod (pe_callTy call_int1 (by rfl) T.fre (by decide +kernel) (pa_cons (pe_op op_fdiv (pe_op op_mod (pe_callTy call_int1 (by rfl) T.fre (by decide +kernel) (pa_cons (pe_op op_mul (pe_ix ix_list (pv 0) pe_int (fun _ _ => rfl)) (pe_ix ix_list (pv 0) pe_int (fun _ _ => rfl))) pa_nil)) pe_int) pe_int) pa_nil)) (pv 1))))), ?_⟩
    refine ⟨_, rfl, p, _, _, _, rfl, rfl, SqL.of hp, atI_nat (j := 0) rfl, _, _, rfl, rfl, _, rfl, ite2 (fun h1 => ?_) (fun _ => ?_)⟩
    · have hx : 0 < x := of_decide_eq_true h1
      refine ⟨_, rfl, p, _, _, _, rfl, rfl, SqL.of hp, atI_nat (j := 0) rfl, _, rfl, _, _, rfl, ⟨m0, m1⟩, fun t nt => ?_⟩
      have hpt : p ≠ t := ne_of_none hp nt
      have e2 : (upd H t (.tup [.int (x / m), .int (x % m)])) p = some (.lst [.int x, .int y]) := by rw [upd_ne hpt]; exact hp
      refine ⟨t, _, rfl, SqT.of upd_same, rfl, ?_⟩
      refine ⟨_, _, rfl, _, rfl, p, _, _, 0, rfl, rfl, e2, rfl, _, _, rfl, rfl, ?_⟩
      refine ⟨_, rfl, q _ _ (Int.emod_nonneg _ (Int.ne_of_gt m0)) (Int.emod_lt_of_pos _ m0) ⟨x / m, y, upd_same, Int.ediv_nonneg x0 (Int.le_of_lt m0), y0, y1⟩ fun b o e hb => ?_⟩
      rw [upd_ne hb, upd_ne (ne_of_none e nt)]
      exact e
    · refine ⟨_, rfl, p, _, _, _, rfl, rfl, SqL.of hp, atI_nat (j := 1) rfl, _, _, rfl, rfl, .inr ⟨by decide, by decide⟩, _, _, rfl, rfl, .inl ⟨_, rfl, _, _, rfl, rfl, (by show (0 : Int) < 2147483549; decide), ?_⟩⟩
      refine ⟨_, rfl, p, _, _, 1, rfl, rfl, hp, rfl, ?_⟩
      have z0 : 0 ≤ (y * 48271 + 10007) % 2147483549 := Int.emod_nonneg _ (by decide)
      have z1 : (y * 48271 + 10007) % 2147483549 < 2147483549 := Int.emod_lt_of_pos _ (by decide)
      refine ⟨_, rfl, p, _, _, _, rfl, rfl, SqL.of upd_same, atI_nat (j := 1) rfl, _, rfl, p, _, _, _, rfl, rfl, SqL.of upd_same, atI_nat (j := 1) rfl, _, _, rfl, rfl, .inl ⟨by omega, by omega⟩, .inl ⟨_, rfl, _, _, rfl, rfl, (by show (0 : Int) < 2147483497; decide), _, _, rfl, rfl, ⟨by decide, by decide⟩, .inl ⟨_, rfl, _, rfl, _, _, rfl, rfl, m0, ?_⟩⟩⟩
      refine q _ _ (Int.emod_nonneg _ (Int.ne_of_gt m0)) (Int.emod_lt_of_pos _ m0) ⟨x, _, upd_same, x0, z0, by omega⟩ fun b o e hb => ?_
      rw [upd_ne hb]
      exact e

end
end K15

set_option maxHeartbeats 4000000
namespace K15
open PySem PySem.Spec PyProof.Rows L2 RtL
theorem But.trans {p : Addr} {H1 H2 H3 : Hp} (a : But p H1 H2) (b : But p H2 H3) : But p H1 H3 := fun c o e h => b c o (a c o e h) h
theorem But.of {p : Addr} {H1 H2 : Hp} (s : Same H1 H2) : But p H1 H2 := fun c o e _ => s c o e
theorem PotAt.same {p : Addr} {H1 H2 : Hp} (h : PotAt H1 p) (s : Same H1 H2) : PotAt H2 p := by
  obtain ⟨x, y, e, r⟩ := h
  exact ⟨x, y, s _ _ e, r⟩
theorem RatAt.but {K : Fr} {p a : Addr} {H1 H2 : Hp} {t b : Int} (h : RatAt K H1 a t b) (hp : PotAt H1 p) (s : But p H1 H2) : RatAt K H2 a t b := by
  obtain ⟨dx, e⟩ := h
  obtain ⟨x, y, e2, _⟩ := hp
  exact ⟨dx, s _ _ e (ne_of e e2 (by intro z; cases z))⟩
theorem tup_but {p a : Addr} {H1 H2 : Hp} {vs : List V} (e : H1 a = some (.tup vs)) (hp : PotAt H1 p) (s : But p H1 H2) : H2 a = some (.tup vs) := by
  obtain ⟨x, y, e2, _⟩ := hp
  exact s _ _ e (ne_of e e2 (by intro z; cases z))
section
variable {P : Program} {w : World} {K : Fr} {mg : Str → Option Value} {base : Heap} {f : Addr} {fd : FuncData}
abbrev DrawG (P : Program) (w : World) (K : Fr) (mg : Str → Option Value) (base : Heap) : Prop := ∃ f d, Gd P w K mg base 1 "_law_draw" f d ["_law_pot_here", "_law_many"] spDraw
/-! ### a pick -/
abbrev sPick : Stmt := top 15
theorem scPick : FnScope ["_law_pot_here", "_law_some"] ["_law_pot_here", "_law_some"] (defScope sPick) := ⟨rfl, rfl, rfl, by decide +kernel, rfl, by decide +kernel, by decide +kernel⟩
def spPick : Sp := fun vs H Q _ => ∃ (p l : Addr) (xs : List V), vs = [.ref p, .ref l] ∧ PotAt H p ∧ H l = some (.lst xs) ∧ l ≠ p ∧ 0 < xs.length ∧ xs.length < 1000 ∧ ∀ (i : Nat) v H', xs[i]? = some v → PotAt H' p → But p H H' → Q v H'
theorem ok_pick (F : FunD K "_law_pick" "_law_pick" (defArgs sPick) (defBody sPick) (defScope sPick) [] [] f fd) (T : TT K mg) (D : DrawG P w K mg base) : FnOk P w K mg base CX0 2 f fd ["_law_pot_here", "_law_some"] spPick := by
  obtain ⟨fD, dD, GD⟩ := D
  refine F.ok scPick (fun vs H Q E h => ?_) (fun cdv A outer s H vs Q E hr h => ?_)
  · obtain ⟨p, l, xs, rfl, _⟩ := h
    rfl
  · obtain ⟨p, l, xs, rfl, hp, hl, ne, l0, l1, q⟩ := h
    refine ⟨_, PSs.nox (pss_one (ps_ret (pe_ix ix_list (pv 1) (pe_gd GD hr (by rfl) (pa_cons (pv 0) (pa_cons (pe_callB call_len_seq (by rfl) T.fre PySem.boot_len (pa_cons (pv 1) pa_nil)) pa_nil))) (fun _ _ => rfl)))), ?_⟩
    refine ⟨_, rfl, _, rfl, _, rfl, _, _, rfl, .inl (SqL.of hl), p, _, rfl, hp, by omega, by omega, fun d H' d0 d1 hp' hb => ?_⟩
    obtain ⟨j, rfl⟩ : ∃ j : Nat, d = (j : Int) := ⟨d.toNat, by omega⟩
    have hj : j < xs.length := by omega
    exact ⟨l, _, _, _, rfl, rfl, SqL.of (hb _ _ hl ne), atI_nat (List.getElem?_eq_getElem hj), q j _ H' (List.getElem?_eq_getElem hj) hp' hb⟩
abbrev PickG (P : Program) (w : World) (K : Fr) (mg : Str → Option Value) (base : Heap) : Prop := ∃ f d, Gd P w K mg base 2 "_law_pick" f d ["_law_pot_here", "_law_some"] spPick
/-! ### a whole number -/
abbrev sWhole : Stmt := top 17
theorem scWhole : FnScope ["_law_pot_here", "_law_far"] ["_law_pot_here"] (defScope sWhole) := ⟨rfl, rfl, rfl, by decide +kernel, rfl, by decide +kernel, by decide +kernel⟩
def spWhole : Sp := fun vs H Q _ => ∃ (p : Addr), vs = [.ref p] ∧ PotAt H p ∧ ∀ n H', Bd 40 n → PotAt H' p → But p H H' → Q (.int n) H'
theorem ok_whole (F : FunD K "_law_whole_number" "_law_whole_number" (defArgs sWhole) (defBody sWhole) (defScope sWhole) [] [] f fd) (T : TT K mg) (D : DrawG P w K mg base) (C : PickG P w K mg base) : FnOk P w K mg base CX0 3 f fd ["_law_pot_here"] spWhole := by
  obtain ⟨fD, dD, GD⟩ := D
  obtain ⟨fP, dP, GP⟩ := C
  refine F.ok scWhole (fun vs H Q E h => ?_) (fun cdv A outer s H vs Q E hr h => ?_)
  · obtain ⟨p, rfl, _⟩ := h
    rfl
  · obtain ⟨p, rfl, hp, q⟩ := h
    refine ⟨_, PSs.nox (pss_cons (ps_set (i := 1) scWhole.nd rfl (Or.inl rfl) (pe_op op_add (pe_op op_mul (pe_gd GD (hr.mono (by decide)) (by rfl) (pa_cons (pv 0) (pa_cons (pe_op op_pow pe_int pe_int) pa_nil))) (pe_op op_pow pe_int pe_int)) (pe_gd GD (hr.mono (by decide)) (by rfl) (pa_cons (pv 0) (pa_cons (pe_op op_pow pe_int pe_int) pa_nil)))))
      (pss_one (ps_ret (pe_gd GP hr (by rfl) (pa_cons (pv 0) (pa_cons (pe_lst (pa_cons pe_int (pa_cons pe_int (pa_cons (pe_un un_neg pe_int) (pa_cons pe_int (pa_cons (pe_un un_neg pe_int) (pa_cons pe_int (pa_cons (pe_un un_neg pe_int) (pa_cons (pv 1) (pa_cons (pe_un un_neg (pv 1)) pa_nil)))))))))) pa_nil)))))), ?_⟩
    refine ⟨_, rfl, _, _, rfl, rfl, ⟨by decide, by decide, by decide⟩, p, _, rfl, hp, by decide, by decide, fun d1 H1 a0 a1 hp1 b1 => ?_⟩
    have a1 : d1 < 1000000 := a1
    refine ⟨_, _, rfl, rfl, ⟨by decide, by decide, by decide⟩, _, _, rfl, rfl, .inl ⟨by omega, by omega⟩, ?_⟩
    refine ⟨_, rfl, _, _, rfl, rfl, ⟨by decide, by decide, by decide⟩, p, _, rfl, hp1, by decide, by decide, fun d2 H2 c0 c1 hp2 b2 => ?_⟩
    have c1 : d2 < 1000000 := c1
    refine ⟨_, _, rfl, rfl, ?_⟩
    generalize hfar : d1 * (10 : Int) ^ (6 : Int).toNat + d2 = far
    have hf : 0 ≤ far ∧ far < 1000000000000 := by
      have e : (10 : Int) ^ (6 : Int).toNat = 1000000 := by decide
      rw [e] at hfar
      omega
    refine ⟨_, rfl, _, rfl, _, rfl, _, rfl, _, rfl, _, rfl, _, rfl, (by show 9 ≤ sizeLine; rw [sizeLine_eq]; decide), fun l nl => ?_⟩
    have hl : p ≠ l := by
      obtain ⟨x, y, e, _⟩ := hp2
      exact ne_of_none e nl
    refine ⟨p, l, _, rfl, hp2.same (same_new nl), upd_same, Ne.symm hl, by show 0 < 9; decide, by show 9 < 1000; decide, fun i v H' hv hp' hb => ?_⟩
    have hb' : But p H H' := ((b1.trans b2).trans (But.of (same_new nl))).trans hb
    have fin : ∀ n : Int, v = .int n → Bd 40 n → Q v H' := fun n e hn => by
      subst e
      exact q n H' hn hp' hb'
    have small : ∀ n : Int, n.natAbs < 1099511627776 → Bd 40 n := fun n h => h
    match i, hv with
    | 0, hv => exact fin _ (Option.some.inj hv).symm (small _ (by decide))
    | 1, hv => exact fin _ (Option.some.inj hv).symm (small _ (by decide))
    | 2, hv => exact fin _ (Option.some.inj hv).symm (small _ (by decide))
    | 3, hv => exact fin _ (Option.some.inj hv).symm (small _ (by decide))
    | 4, hv => exact fin _ (Option.some.inj hv).symm (small _ (by decide))
    | 5, hv => exact fin _ (Option.some.inj hv).symm (small _ (by decide))
    | 6, hv => exact fin _ (Option.some.inj hv).symm (small _ (by decide))
    | 7, hv => exact fin _ (Option.some.inj hv).symm (small _ (by omega))
    | 8, hv => exact fin _ (Option.some.inj hv).symm (small _ (by omega))
    | _ + 9, hv => cases hv
end
end K15

set_option maxHeartbeats 4000000
namespace K15
open PySem PySem.Spec PyProof.Rows L2 RtL
section
variable {P : Program} {w : World} {K : Fr} {mg : Str → Option Value} {base : Heap} {f : Addr} {fd : FuncData}
abbrev sLeast : Stmt := top 16
theorem scLeast : FnScope ["_law_high", "_law_low", "_law_one", "_law_other", "_law_by"] ["_law_high", "_law_low"] (defScope sLeast) := ⟨rfl, rfl, rfl, by decide +kernel, rfl, by decide +kernel, by decide +kernel⟩
def spLeast : Sp := fun vs H Q _ => ∃ a b : Int, vs = [.int a, .int b] ∧ b ≠ 0 ∧ Bd 1500 b ∧ ∀ t H', Same H H' → H' t = some (.tup [.int (lowT a b), .int (lowB a b)]) → Q (.ref t) H'
theorem abs_nat (i : Int) : (if i < 0 then -i else i) = (i.natAbs : Int) := by split <;> omega
theorem ok_least (F : FunD K "_law_least" "_law_least" (defArgs sLeast) (defBody sLeast) (defScope sLeast) [] [] f fd) (T : TT K mg) : FnOk P w K mg base CX0 1 f fd ["_law_high", "_law_low"] spLeast := by
  refine F.ok scLeast (fun vs H Q E h => ?_) (fun cdv A outer s H vs Q E hr h => ?_)
  · obtain ⟨a, b, rfl, _⟩ := h
    rfl
  · obtain ⟨a, b, rfl, hb, bb, q⟩ := h
    refine ⟨_, PSs.nox (pss_cons (ps_par (i := 2) (j := 3) rfl scLeast.nd rfl rfl (by decide) rfl rfl (pa_cons (pe_callB call_abs (by rfl) T.fre (by decide +kernel) (pa_cons (pv 0) pa_nil)) (pa_cons (pe_callB call_abs (by rfl) T.fre (by decide +kernel) (pa_cons (pv 1) pa_nil)) pa_nil)) (by rfl))
      (pss_cons (ps_while PassesOwn.never (pt_cmpR op_gt (pv 3) pe_int (nomark _)) (pss_one (ps_par (i := 2) (j := 3) rfl scLeast.nd rfl rfl (by decide) rfl rfl (pa_cons (pv 3) (pa_cons (pe_op op_mod (pv 2) (pv 3)) pa_nil)) (by rfl))))
      (pss_cons (ps_set (i := 4) scLeast.nd rfl (Or.inl rfl) (pe_ifExp (pt_cmpR op_gt (pv 1) pe_int (nomark _)) (pv 2) (pe_un un_neg (pv 2))))
      (pss_one (ps_ret (pe_tup (pa_cons (pe_op op_fdivX (pv 0) (pv 4)) (pa_cons (pe_op op_fdivX (pv 1) (pv 4)) pa_nil)))))))), ?_⟩
    refine ⟨_, rfl, _, rfl, _, rfl, _, rfl, _, _, rfl, ?_⟩
    rw [abs_nat, abs_nat]
    refine while_by (Pv := fun σ H2 => ∃ m n : Nat, σ = [some (.int a), some (.int b), some (.int (m : Int)), some (.int (n : Int)), none] ∧ Same H H2 ∧ m.gcd n = a.natAbs.gcd b.natAbs)
      (μ := fun σ _ => match σ with
        | [_, _, _, some (.int n), _] => n.toNat
        | _ => 0) ⟨_, _, rfl, Same.refl _, rfl⟩ ?_ ?_
    · rintro σ H2 ⟨m, n, rfl, s2, hg⟩
      refine ⟨_, rfl, n, 0, rfl, rfl, _, rfl, ite2 (fun h => ?_) (fun h => ?_)⟩
      · have n0 : 0 < n := by
          have z : (0 : Int) < (n : Int) := of_decide_eq_true h
          omega
        refine ⟨_, rfl, _, rfl, _, rfl, m, n, rfl, rfl, (by omega), _, _, rfl, ⟨n, m % n, rfl, s2, ?_⟩, ?_⟩
        · rw [← hg, Nat.gcd_comm m n, Nat.gcd_rec n m, Nat.gcd_comm]
        · show ((m : Int) % (n : Int)).toNat < ((n : Int)).toNat
          have := Int.emod_lt_of_pos (m : Int) (b := (n : Int)) (by omega)
          omega
      · have n0 : n = 0 := by
          have z : ¬ (0 : Int) < (n : Int) := fun y => h (decide_eq_true y)
          omega
        subst n0
        rw [Nat.gcd_zero_right] at hg
        subst hg
        have fin : ∀ (H3 : Hp) (by_ : Int), by_ = lowS a b → Same H H3 → ∀ t3, H3 t3 = some (.tup [.int (a.fdiv by_), .int (b.fdiv by_)]) → Q (.ref t3) H3 := fun H3 by_ e s3 t3 h3 => by
          subst e
          exact q t3 H3 s3 h3
        have hd : CDivX a (lowS a b) ∧ CDivX b (lowS a b) := ⟨⟨lowS_ne hb, bd_log (lowS_bd hb bb) (by decide)⟩, ⟨lowS_ne hb, bd_log (lowS_bd hb bb) (by decide)⟩⟩
        refine ⟨_, rfl, b, 0, rfl, rfl, _, rfl, ite2 (fun h => ?_) (fun h => ?_)⟩
        · have e : ((a.natAbs.gcd b.natAbs : Nat) : Int) = lowS a b := by
            have z : 0 < b := of_decide_eq_true h
            unfold lowS sg
            rw [if_neg (by omega)]
          refine ⟨_, rfl, _, rfl, _, rfl, a, _, rfl, rfl, by rw [e]; exact hd.1, _, rfl, _, rfl, b, _, rfl, rfl, by rw [e]; exact hd.2, (by show 2 ≤ sizeLine; rw [sizeLine_eq]; decide), fun t3 nt3 => ?_⟩
          exact fin _ _ e (s2.trans (same_new nt3)) t3 upd_same
        · have e : -((a.natAbs.gcd b.natAbs : Nat) : Int) = lowS a b := by
            have z : ¬ 0 < b := fun y => h (decide_eq_true y)
            unfold lowS sg
            rw [if_pos (by omega)]
          refine ⟨_, rfl, _, rfl, _, rfl, _, rfl, a, _, rfl, rfl, by rw [e]; exact hd.1, _, rfl, _, rfl, b, _, rfl, rfl, by rw [e]; exact hd.2, (by show 2 ≤ sizeLine; rw [sizeLine_eq]; decide), fun t3 nt3 => ?_⟩
          exact fin _ _ e (s2.trans (same_new nt3)) t3 upd_same
    · rintro σ H2 Q1 Q2 hq h
      obtain ⟨v, e, i, j, e1, e2, c, ec, h⟩ := h
      exact ⟨v, e, i, j, e1, e2, c, ec, hq _ _ h⟩
end
end K15

set_option maxHeartbeats 4000000
namespace K15
open PySem PySem.Spec PyProof.Rows L2 RtL
section
variable {P : Program} {w : World} {K : Fr} {mg : Str → Option Value} {base : Heap} {f : Addr} {fd : FuncData}
abbrev WholeG (P : Program) (w : World) (K : Fr) (mg : Str → Option Value) (base : Heap) : Prop := ∃ f d, Gd P w K mg base 3 "_law_whole_number" f d ["_law_pot_here"] spWhole
abbrev LeastG (P : Program) (w : World) (K : Fr) (mg : Str → Option Value) (base : Heap) : Prop := ∃ f d, Gd P w K mg base 1 "_law_least" f d ["_law_high", "_law_low"] spLeast
/-! ### a fresh pair -/
abbrev sFresh : Stmt := top 18
theorem scFresh : FnScope ["_law_pot_here", "_law_low"] ["_law_pot_here"] (defScope sFresh) := ⟨rfl, rfl, rfl, by decide +kernel, rfl, by decide +kernel, by decide +kernel⟩
def spFresh : Sp := fun vs H Q _ => ∃ (p : Addr), vs = [.ref p] ∧ PotAt H p ∧ ∀ t a b H', Low a b → Bd 40 a → Bd 40 b → PotAt H' p → But p H H' → H' t = some (.tup [.int a, .int b]) → Q (.ref t) H'
theorem ok_fresh (F : FunD K "_law_fresh" "_law_fresh" (defArgs sFresh) (defBody sFresh) (defScope sFresh) [] [] f fd) (C : WholeG P w K mg base) (D : LeastG P w K mg base) : FnOk P w K mg base CX0 4 f fd ["_law_pot_here"] spFresh := by
  obtain ⟨fW, dW, GW⟩ := C
  obtain ⟨fL, dL, GL⟩ := D
  refine F.ok scFresh (fun vs H Q E h => ?_) (fun cdv A outer s H vs Q E hr h => ?_)
  · obtain ⟨p, rfl, _⟩ := h
    rfl
  · obtain ⟨p, rfl, hp, q⟩ := h
    refine ⟨_, PSs.nox (pss_cons (ps_set (i := 1) scFresh.nd rfl (Or.inl rfl) (pe_gd GW hr (by rfl) (pa_cons (pv 0) pa_nil)))
      (pss_one (ps_ret (pe_gd GL (hr.mono (by decide)) (by rfl) (pa_cons (pe_gd GW hr (by rfl) (pa_cons (pv 0) pa_nil)) (pa_cons (pe_ifExp (pt_cmpR op_ne (pv 1) pe_int (nomark _)) (pv 1) pe_int) pa_nil)))))), ?_⟩
    refine ⟨_, rfl, p, rfl, hp, fun n H1 bn hp1 b1 => ?_⟩
    refine ⟨_, rfl, p, rfl, hp1, fun m H2 bm hp2 b2 => ?_⟩
    have fin : ∀ d : Int, d ≠ 0 → Bd 40 d → spLeast [.int m, .int d] H2 (fun v H' => Q v H') E0 := fun d hd bd => by
      refine ⟨m, d, rfl, hd, bd_up bd (by decide), fun t H' s' e => ?_⟩
      exact q t _ _ H' (low_low hd) (lowT_bd hd bm) (lowB_bd hd bd) (hp2.same s') ((b1.trans b2).trans (But.of s')) e
    refine ⟨_, rfl, rfl, _, rfl, ite2 (fun h => ?_) (fun h => ?_)⟩
    · have z : n ≠ 0 := by
        intro y
        subst y
        simp at h
      exact ⟨_, rfl, fin n z bn⟩
    · exact fin 7 (by decide) (show (7 : Int).natAbs < 2 ^ 40 by decide)
abbrev FreshG (P : Program) (w : World) (K : Fr) (mg : Str → Option Value) (base : Heap) : Prop := ∃ f d, Gd P w K mg base 4 "_law_fresh" f d ["_law_pot_here"] spFresh
/-! ### the pairs so far, and the ratios -/
structure It1 where
  t : Addr
  a : Addr
  p : P2
structure It1.Ok (K : Fr) (H : Hp) (x : It1) : Prop where
  tp : H x.t = some (.tup [.int x.p.1, .int x.p.2])
  ra : RatAt K H x.a x.p.1 x.p.2
structure It1.Nm (x : It1) : Prop where
  lo : Low x.p.1 x.p.2
  b1 : Bd 84 x.p.1
  b2 : Bd 84 x.p.2
structure Chain (K : Fr) (H : Hp) (lp lm : Addr) (c : List It1) : Prop where
  pl : H lp = some (.lst (c.map fun x => .ref x.t))
  ml : H lm = some (.lst (c.map fun x => .ref x.a))
  ok : ∀ x ∈ c, x.Ok K H
  nm : ∀ x ∈ c, x.Nm
theorem It1.Ok.but {H1 H2 : Hp} {p : Addr} {x : It1} (h : x.Ok K H1) (hp : PotAt H1 p) (s : But p H1 H2) : x.Ok K H2 := ⟨tup_but h.tp hp s, h.ra.but hp s⟩
theorem Chain.but {H1 H2 : Hp} {lp lm p : Addr} {c : List It1} (h : Chain K H1 lp lm c) (hp : PotAt H1 p) (n1 : lp ≠ p) (n2 : lm ≠ p) (s : But p H1 H2) : Chain K H2 lp lm c := ⟨s _ _ h.pl n1, s _ _ h.ml n2, fun x hx => (h.ok x hx).but hp s, h.nm⟩
theorem Chain.same {H1 H2 : Hp} {lp lm : Addr} {c : List It1} (h : Chain K H1 lp lm c) (s : Same H1 H2) : Chain K H2 lp lm c := ⟨s _ _ h.pl, s _ _ h.ml, fun x hx => ⟨s _ _ (h.ok x hx).tp, (h.ok x hx).ra.same s⟩, h.nm⟩
/-! ### what stands on the right -/
abbrev sRone : Stmt := top 19
theorem scRone : FnScope ["_law_pot_here", "_law_pairs", "_law_made", "_law_way", "_law_number", "_law_at", "_law_pair"] ["_law_pot_here", "_law_pairs", "_law_made"] (defScope sRone) := ⟨rfl, rfl, rfl, by decide +kernel, rfl, by decide +kernel, by decide +kernel⟩
def spRone (K : Fr) : Sp := fun vs H Q _ => ∃ (p lp lm : Addr) (c : List It1), vs = [.ref p, .ref lp, .ref lm] ∧ PotAt H p ∧ Chain K H lp lm c ∧ lp ≠ p ∧ lm ≠ p ∧ 0 < c.length ∧ c.length < 1000 ∧
  ∀ t v tp a b H', Num K H' v a b → Low a b → Bd 84 a → Bd 84 b → PotAt H' p → But p H H' → H' tp = some (.tup [.int a, .int b]) → H' t = some (.tup [v, .ref tp]) → Q (.ref t) H'
theorem ok_rone (F : FunD K "_law_right_one" "_law_right_one" (defArgs sRone) (defBody sRone) (defScope sRone) [] [] f fd) (T : TT K mg) (D : DrawG P w K mg base) (C : WholeG P w K mg base) (B : FreshG P w K mg base) {dI : FuncData} (I : Id P w K mg base dI) :
    FnOk P w K mg base CX0 5 f fd ["_law_pot_here", "_law_pairs", "_law_made"] (spRone K) := by
  obtain ⟨fD, dD, GD⟩ := D
  obtain ⟨fW, dW, GW⟩ := C
  obtain ⟨fF, dF, GF⟩ := B
  refine F.ok scRone (fun vs H Q E h => ?_) (fun cdv A outer s H vs Q E hr h => ?_)
  · obtain ⟨p, lp, lm, c, rfl, _⟩ := h
    rfl
  · obtain ⟨p, lp, lm, c, rfl, hp, hc, n1, n2, l0, l1, q⟩ := h
    refine ⟨_, PSs.nox (pss_cons (ps_set (i := 3) scRone.nd rfl (Or.inl rfl) (pe_gd GD (hr.mono (by decide)) (by rfl) (pa_cons (pv 0) (pa_cons pe_int pa_nil))))
      (pss_cons (ps_if (pt_cmpR op_eq (pv 3) pe_int (nomark _)) (pss_cons (ps_set (i := 4) scRone.nd rfl (Or.inl rfl) (pe_gd GW (hr.mono (by decide)) (by rfl) (pa_cons (pv 0) pa_nil))) (pss_one (ps_ret (pe_tup (pa_cons (pv 4) (pa_cons (pe_tup (pa_cons (pv 4) (pa_cons pe_int pa_nil))) pa_nil)))))) pss_nil)
      (pss_cons (ps_if (pt_cmpR op_eq (pv 3) pe_int (nomark _)) (pss_cons (ps_set (i := 5) scRone.nd rfl (Or.inl rfl) (pe_gd GD (hr.mono (by decide)) (by rfl) (pa_cons (pv 0) (pa_cons (pe_callB call_len_seq (by rfl) T.fre PySem.boot_len (pa_cons (pv 1) pa_nil)) pa_nil)))) (pss_one (ps_ret (pe_tup (pa_cons (pe_ix ix_list (pv 2) (pv 5) (fun _ _ => rfl)) (pa_cons (pe_ix ix_list (pv 1) (pv 5) (fun _ _ => rfl)) pa_nil)))))) pss_nil)
      (pss_cons (ps_set (i := 6) scRone.nd rfl (Or.inl rfl) (pe_gd GF hr (by rfl) (pa_cons (pv 0) pa_nil)))
      (pss_one (ps_ret (pe_tup (pa_cons (pe_rat2 T I (hr.mono (by decide)) (by rfl) (pa_cons (pe_ix ix_tup (pv 6) pe_int (fun _ _ => rfl)) (pa_cons (pe_ix ix_tup (pv 6) pe_int (fun _ _ => rfl)) pa_nil))) (pa_cons (pv 6) pa_nil))))))))), ?_⟩
    have two : 2 ≤ sizeLine := by rw [sizeLine_eq]; decide
    refine ⟨_, rfl, p, _, rfl, hp, by decide, by decide, fun d H1 d0 d1 hp1 b1 => ?_⟩
    refine ⟨_, rfl, rfl, _, rfl, ite2 (fun h => ?_) (fun h => ?_)⟩
    · refine ⟨_, rfl, p, rfl, hp1, fun n H2 bn hp2 b2 => ?_⟩
      refine ⟨_, rfl, _, rfl, two, fun tp ntp => ⟨two, fun t nt => ?_⟩⟩
      have s3 := same_new (o := .tup [.int n, .int 1]) ntp
      have s4 := same_new (o := .tup [.int n, .ref tp]) nt
      refine q t (.int n) tp n 1 _ (.inr ⟨rfl, rfl⟩) ⟨by decide, by rw [show (1 : Int).natAbs = 1 from rfl, Nat.gcd_one_right]⟩ (bd_up bn (by decide)) (bd1 (by decide)) (hp2.same (s3.trans s4)) ((b1.trans b2).trans (But.of (s3.trans s4))) (s4 _ _ upd_same) upd_same
    refine ⟨_, rfl, rfl, _, rfl, ite2 (fun h2 => ?_) (fun h2 => ?_)⟩
    · have hc1 := hc.but hp n1 n2 b1
      refine ⟨_, rfl, _, rfl, _, _, rfl, .inl (SqL.of hc1.pl), p, _, rfl, hp1, by rw [List.length_map]; omega, by rw [List.length_map]; omega, fun d' H2 e0 e1 hp2 b2 => ?_⟩
      rw [List.length_map] at e1
      obtain ⟨j, rfl⟩ : ∃ j : Nat, d' = (j : Int) := ⟨d'.toNat, by omega⟩
      have hj : j < c.length := by omega
      have hc2 := hc1.but hp1 n1 n2 b2
      have at1 : (c.map fun x => V.ref x.a)[j]? = some (.ref c[j].a) := by rw [List.getElem?_map, List.getElem?_eq_getElem hj]; rfl
      have at2 : (c.map fun x => V.ref x.t)[j]? = some (.ref c[j].t) := by rw [List.getElem?_map, List.getElem?_eq_getElem hj]; rfl
      refine ⟨_, rfl, _, rfl, lm, _, _, _, rfl, rfl, SqL.of hc2.ml, atI_nat at1, _, rfl, _, rfl, lp, _, _, _, rfl, rfl, SqL.of hc2.pl, atI_nat at2, two, fun t nt => ?_⟩
      have s4 := same_new (o := .tup [.ref c[j].a, .ref c[j].t]) nt
      have ok := hc2.ok c[j] (List.getElem_mem hj)
      have nm := hc2.nm c[j] (List.getElem_mem hj)
      exact q t _ _ _ _ _ (.inl ⟨_, rfl, ok.ra.same s4⟩) nm.lo nm.b1 nm.b2 (hp2.same s4) ((b1.trans b2).trans (But.of s4)) (s4 _ _ ok.tp) upd_same
    · refine ⟨_, rfl, p, rfl, hp1, fun tp a b H2 lo ba bb hp2 b2 e2 => ?_⟩
      refine ⟨_, rfl, tp, _, _, _, rfl, rfl, SqT.of e2, atI_nat (j := 0) rfl, _, rfl, tp, _, _, _, rfl, rfl, SqT.of e2, atI_nat (j := 1) rfl, fun x dx nx nd ne => made_at nx nd ne lo.ne (bd_up ba (by decide)) (bd_up bb (by decide)) fun H3 s3 r3 => ⟨rfl, _, rfl, two, fun t nt => ?_⟩⟩
      rw [(low_id lo).1, (low_id lo).2] at r3
      have s4 := same_new (o := .tup [.ref x, .ref tp]) nt
      exact q t _ _ _ _ _ (.inl ⟨_, rfl, r3.same s4⟩) lo (bd_up ba (by decide)) (bd_up bb (by decide)) (hp2.same (s3.trans s4)) ((b1.trans b2).trans (But.of (s3.trans s4))) (s4 _ _ (s3 _ _ e2)) upd_same
abbrev RoneG (P : Program) (w : World) (K : Fr) (mg : Str → Option Value) (base : Heap) : Prop := ∃ f d, Gd P w K mg base 5 "_law_right_one" f d ["_law_pot_here", "_law_pairs", "_law_made"] (spRone K)
end
end K15

set_option maxHeartbeats 4000000
namespace RtL
open PySem PySem.Spec PyProof.Rows L2
section
variable {X : Cx} {CX : CXT} {k : Nat} {f C : Addr} {fd : FuncData} {ps : List Str} {sp : Sp} {E : L2.St → XK} {m : Str} {pos apos : Pos} {e o : Expr} {es : List Expr} {ta : TE} {t : TA} {pl : Sem Bool}
/-- o.m(..) of an instance, where what it raises is told by the slots -/
def tMex (C : Addr) (m : Str) (sp : Sp) (E : L2.St → XK) (ta : TE) (t : TA) : TE := fun σ H Q => ta σ H fun y H1 => ∃ b dy gs, y = .ref b ∧ H1 b = some (.ins C dy gs) ∧ gs.lookup m = none ∧ t σ H1 fun ws H2 => sp (.ref b :: ws) H2 Q (E σ)
theorem pe_mex (he : PE X o ta) (c : Cls X.K C) (hm : Meth X.K C m f) (F : FnOk X.prog X.w X.K X.mg X.base CX k f fd ps sp) (hr : Room k X.A) (hb : Binds X.K fd ps []) (hx : ∀ σ, PassesAt CX X σ (E σ)) (ha : PA X (e :: es) t)
    (hst : starEach (e :: es) X.env = (false, eval e X.env) :: starEach es X.env := by rfl) (hpl : (backTo pos (starEach es X.env)).any (·.1) = false := by rfl)
    (ht : eval (.Call (.Attribute o m apos) (e :: es) [] pos) X.env = (do
      let ov ← eval o X.env
      standAt apos.atName
      let (g, first) ← holding [ov] (getMethod ov m pl)
      callWith pos g first (backTo pos (starEach (e :: es) X.env)) (backToKw pos (keywordEach [] X.env))) := by rfl) :
    PE X (.Call (.Attribute o m apos) (e :: es) [] pos) (tMex C m sp E ta t) := by
  refine ⟨fun pins s σ H Q I h => ?_⟩
  refine PySem.W.methodCall_KW (pl := pl) (thn (he.run pins s σ H _ I h) fun u s1 hh => ?_) ht
  obtain ⟨y, H1, I1, ry, b, dy, gs, rfl, eb, l, q⟩ := hh
  obtain rfl : u = Value.ref b := ry
  refine getmeth_ok I1 eb c hm l ?_
  refine PySem.W.callWith_K (first := [.ref b]) (h₀ := X.base) I.ok.mod.kin hm.kp (thn (ha.run pos pins s1 σ H1 _ I1 q) fun us s2 hh2 => ?_) hst hpl
  obtain ⟨ws, H2, I2, r, q2⟩ := hh2
  exact ⟨I2.kIn, run_fnS (us := .ref b :: us) (vs := .ref b :: ws) F hr hb (hx σ) I2 (.cons rfl r) q2⟩
end
end RtL
namespace K15
open PySem PySem.Spec PyProof.Rows L2 RtL
section
variable {P : Program} {w : World} {K : Fr} {mg : Str → Option Value} {base : Heap} {f : Addr} {fd : FuncData}
abbrev OverG (P : Program) (w : World) (K : Fr) (mg : Str → Option Value) (base : Heap) : Prop := ∃ d, FnOk P w K mg base (L2.CX P w) 5 (rm K "over") d ["self", "other"] (spOver K) ∧ Binds K d ["self", "other"] []
/-! ### a quotient, or None -/
abbrev sDivd : Stmt := top 20
theorem scDivd : FnScope ["_law_one", "_law_right_here", "_law_told"] ["_law_one", "_law_right_here"] (defScope sDivd) := ⟨rfl, rfl, rfl, by decide +kernel, rfl, by decide +kernel, by decide +kernel⟩
def spDivd (K : Fr) : Sp := fun vs H Q _ => ∃ a v t b t2 b2, vs = [.ref a, v] ∧ RatAt K H a t b ∧ Num K H v t2 b2 ∧ Bd 1000 t ∧ Bd 1000 b ∧ Bd 1000 t2 ∧ Bd 1000 b2 ∧ b ≠ 0 ∧
  ((t2 = 0 ∧ ∀ H', Same H H' → Q .non H') ∨ (t2 ≠ 0 ∧ ∀ x H', Same H H' → RatAt K H' x (lowT (t * b2) (b * t2)) (lowB (t * b2) (b * t2)) → Q (.ref x) H'))
theorem ok_divd (F : FunD K "_law_divided" "_law_divided" (defArgs sDivd) (defBody sDivd) (defScope sDivd) [] [] f fd) (T : TT K mg) (D : OverG P w K mg base) : FnOk P w K mg base CX0 6 f fd ["_law_one", "_law_right_here"] (spDivd K) := by
  obtain ⟨dO, GO, bO⟩ := D
  obtain ⟨x1, x2, x3, x4, x5, x6⟩ := T.exc
  have gP := T.gl "DividedByZero" (by decide)
  refine F.ok scDivd (fun vs H Q E h => ?_) (fun cdv A outer s H vs Q E hr h => ?_)
  · obtain ⟨a, v, t, b, t2, b2, rfl, _⟩ := h
    rfl
  · obtain ⟨a, v, t, b, t2, b2, rfl, ra, hv, ht, hb, ht2, hb2, nb, h⟩ := h
    refine ⟨_, PSs.nox (pss_cons (ps_set (i := 2) scDivd.nd rfl (Or.inl rfl) (pe_lst pa_nil))
      (pss_cons (ps_try_only (tb := fun W => tDrop (tBM K "list" _ (tVar 2) (tCons (tMex (RC K) "over" (spOver K) (WE W) (tVar 0) (tCons (tVar 1) tNil)) tNil))) (ts := fun _ _ _ => tDrop (tBM K "list" _ (tVar 2) (tCons (tC .non) tNil))) (Wout := fun _ _ _ _ => False) rfl rfl ⟨rfl, by decide, .inl gP⟩ takes0
        (fun W pn xe tk _ => pss_one (ps_expr (pe_bm PySem.F.plainAttrs_list PySem.F.slot_list_append PySem.F.type_list_append mt_append (pv 2) (pa_cons (pe_mex (pv 0) T.cl T.over GO hr bO (fun σ => passAt tk σ) (pa_cons (pv 1) pa_nil)) pa_nil))))
        (fun a oe cls d pn _ _ => pss_one (ps_expr (pe_bm PySem.F.plainAttrs_list PySem.F.slot_list_append PySem.F.type_list_append mt_append (pv 2) (pa_cons pe_non pa_nil)))))
      (pss_one (ps_ret (pe_ix ix_list (pv 2) pe_int (fun _ _ => rfl)))))), ?_⟩
    obtain ⟨dx, ea⟩ := id ra
    refine ⟨(by show 0 ≤ sizeLine; omega), fun l nl => ?_⟩
    have s1 := same_new (o := .lst []) nl
    have n1 : (1 : Nat) ≤ sizeLine := by rw [sizeLine_eq]; decide
    refine ⟨_, rfl, .inl ⟨rfl, _, SqL.of upd_same⟩, _, rfl, a, dx, _, rfl, s1 _ _ ea, rfl, _, rfl, a, v, t, b, t2, b2, rfl, ra.same s1, hv.same s1, ht, hb, ht2, hb2, nb, ?_⟩
    rcases h with ⟨e0, q⟩ | ⟨e0, q⟩
    · refine .inl ⟨e0, fun H2 s2 => ⟨true, x5, fun _ c hc => ?_, fun z => nomatch z⟩⟩
      have hl := s2 _ _ upd_same
      refine ⟨_, rfl, .inl ⟨rfl, _, SqL.of hl⟩, l, _, _, rfl, rfl, hl, (by show 0 < sizeLine; omega), ?_⟩
      refine ⟨_, rfl, l, _, _, _, rfl, rfl, SqL.of upd_same, atI_nat (j := 0) rfl, ?_⟩
      exact q _ fun b' o' e' => by
        rw [upd_ne (ne_of_none e' nl)]
        exact s2 _ _ (s1 _ _ e')
    · refine .inr ⟨e0, fun x H2 s2 r2 => ?_⟩
      have hl := s2 _ _ upd_same
      refine ⟨l, _, _, rfl, rfl, hl, (by show 0 < sizeLine; omega), ?_⟩
      refine ⟨_, rfl, l, _, _, _, rfl, rfl, SqL.of upd_same, atI_nat (j := 0) rfl, ?_⟩
      obtain ⟨dr, er⟩ := r2
      refine q x _ (fun b' o' e' => by
        rw [upd_ne (ne_of_none e' nl)]
        exact s2 _ _ (s1 _ _ e')) ⟨dr, ?_⟩
      rw [upd_ne (ne_of er hl (by intro z; cases z))]
      exact er
end
end K15

set_option maxHeartbeats 4000000
namespace K15
open PySem PySem.Spec PyProof.Rows L2 RtL
section
variable {P : Program} {w : World} {K : Fr} {mg : Str → Option Value} {base : Heap} {f : Addr} {fd : FuncData}
abbrev DivdG (P : Program) (w : World) (K : Fr) (mg : Str → Option Value) (base : Heap) : Prop := ∃ f d, Gd P w K mg base 6 "_law_divided" f d ["_law_one", "_law_right_here"] (spDivd K)
/-- the operators -/
structure Ops (P : Program) (w : World) (K : Fr) (mg : Str → Option Value) (base : Heap) : Prop where
  add : ∃ d, Md P w K mg base 5 (rm K "__add__") d ["self", "other"] (spOp K (fun t b t2 b2 => t * b2 + t2 * b) fun _ b _ b2 => b * b2)
  sub : ∃ d, Md P w K mg base 5 (rm K "__sub__") d ["self", "other"] (spOp K (fun t b t2 b2 => t * b2 - t2 * b) fun _ b _ b2 => b * b2)
  mul : ∃ d, Md P w K mg base 5 (rm K "__mul__") d ["self", "other"] (spOp K (fun t _ t2 _ => t * t2) fun _ b _ b2 => b * b2)
  neg : ∃ d, Md P w K mg base 4 (rm K "__neg__") d ["self"] (spNeg K)
theorem Num.rhs {H : Hp} {v : V} {t b : Int} (h : Num K H v t b) : (∃ i, v = .int i) ∨ ∃ b dy gs, v = .ref b ∧ H b = some (.ins (RC K) dy gs) := by
  rcases h with ⟨a, e, dy, ea⟩ | ⟨e, _⟩
  · exact .inr ⟨a, dy, _, e, ea⟩
  · exact .inl ⟨_, e⟩
theorem Num.but {p : Addr} {H1 H2 : Hp} {v : V} {t b : Int} (h : Num K H1 v t b) (hp : PotAt H1 p) (s : But p H1 H2) : Num K H2 v t b := h.imp (fun ⟨a, e, r⟩ => ⟨a, e, r.but hp s⟩) id
/-- a result and its pair -/
def Res (K : Fr) (H : Hp) (v u : V) : Prop := (v = .non ∧ u = .non) ∨ ∃ y tq e f, v = .ref y ∧ u = .ref tq ∧ RatAt K H y e f ∧ H tq = some (.tup [.int e, .int f]) ∧ Low e f ∧ Bd 200 e ∧ Bd 200 f
abbrev sDone : Stmt := top 21
theorem scDone : FnScope ["_law_pot_here", "_law_one", "_law_pair", "_law_right_here", "_law_other", "_law_high", "_law_low", "_law_way"] ["_law_pot_here", "_law_one", "_law_pair", "_law_right_here", "_law_other"] (defScope sDone) := ⟨rfl, rfl, rfl, by decide +kernel, rfl, by decide +kernel, by decide +kernel⟩
def spDone (K : Fr) : Sp := fun vs H Q _ => ∃ (p x tp : Addr) (v : V) (to : Addr) (a b c d : Int), vs = [.ref p, .ref x, .ref tp, v, .ref to] ∧ PotAt H p ∧ RatAt K H x a b ∧ H tp = some (.tup [.int a, .int b]) ∧ Num K H v c d ∧ H to = some (.tup [.int c, .int d]) ∧
  Low a b ∧ Low c d ∧ Bd 84 a ∧ Bd 84 b ∧ Bd 84 c ∧ Bd 84 d ∧ ∀ t v' u' H', Res K H' v' u' → PotAt H' p → But p H H' → H' t = some (.tup [v', u']) → Q (.ref t) H'
theorem ok_done (F : FunD K "_law_done" "_law_done" (defArgs sDone) (defBody sDone) (defScope sDone) [] [] f fd) (T : TT K mg) (D : DrawG P w K mg base) (C : LeastG P w K mg base) (B : DivdG P w K mg base) (O : Ops P w K mg base) :
    FnOk P w K mg base CX0 7 f fd ["_law_pot_here", "_law_one", "_law_pair", "_law_right_here", "_law_other"] (spDone K) := by
  obtain ⟨fD, dD, GD⟩ := D
  obtain ⟨fL, dL, GL⟩ := C
  obtain ⟨fV, dV, GV⟩ := B
  obtain ⟨⟨d1, M1⟩, ⟨d2, M2⟩, ⟨d3, M3⟩, ⟨d4, M4⟩⟩ := O
  refine F.ok scDone (fun vs H Q E h => ?_) (fun cdv A outer s H vs Q E hr h => ?_)
  · obtain ⟨p, x, tp, v, to, a, b, c, d, rfl, _⟩ := h
    rfl
  · obtain ⟨p, x, tp, v, to, a, b, c, d, rfl, hp, hx, htp, hv, hto, lo1, lo2, ba, bb, bc, bd, q⟩ := h
    refine ⟨_, PSs.nox (pss_cons (ps_asg (pv 2) (pg_tup (by rfl) (pgs_cons (pg_name (i := 5) scDone.nd rfl (.inl rfl)) (pgs_cons (pg_name (i := 6) scDone.nd rfl (.inl rfl)) pgs_nil))))
      (pss_cons (ps_set (i := 7) scDone.nd rfl (Or.inl rfl) (pe_gd GD (hr.mono (by decide)) (by rfl) (pa_cons (pv 0) (pa_cons pe_int pa_nil))))
      (pss_cons (ps_if (pt_cmpR op_eq (pv 7) pe_int (nomark _)) (pss_one (ps_ret (pe_tup (pa_cons (pe_op (op_ownBin (op := .Add) (T.bin "__add__" "__radd__" (by decide)) rfl rfl M1.ok (hr.mono (by decide)) M1.bd pass0) (pv 1) (pv 3))
          (pa_cons (pe_gd GL (hr.mono (by decide)) (by rfl) (pa_cons (pe_op op_add (pe_op op_mulW (pv 5) (pe_ix ix_tup (pv 4) pe_int (fun _ _ => rfl))) (pe_op op_mulW (pe_ix ix_tup (pv 4) pe_int (fun _ _ => rfl)) (pv 6))) (pa_cons (pe_op op_mulW (pv 6) (pe_ix ix_tup (pv 4) pe_int (fun _ _ => rfl))) pa_nil))) pa_nil))))) pss_nil)
      (pss_cons (ps_if (pt_cmpR op_eq (pv 7) pe_int (nomark _)) (pss_one (ps_ret (pe_tup (pa_cons (pe_op (op_ownBin (op := .Sub) (T.bin "__sub__" "__rsub__" (by decide)) rfl rfl M2.ok (hr.mono (by decide)) M2.bd pass0) (pv 1) (pv 3))
          (pa_cons (pe_gd GL (hr.mono (by decide)) (by rfl) (pa_cons (pe_op op_sub (pe_op op_mulW (pv 5) (pe_ix ix_tup (pv 4) pe_int (fun _ _ => rfl))) (pe_op op_mulW (pe_ix ix_tup (pv 4) pe_int (fun _ _ => rfl)) (pv 6))) (pa_cons (pe_op op_mulW (pv 6) (pe_ix ix_tup (pv 4) pe_int (fun _ _ => rfl))) pa_nil))) pa_nil))))) pss_nil)
      (pss_cons (ps_if (pt_cmpR op_eq (pv 7) pe_int (nomark _)) (pss_one (ps_ret (pe_tup (pa_cons (pe_op (op_ownBin (op := .Mult) (T.bin "__mul__" "__rmul__" (by decide)) rfl rfl M3.ok (hr.mono (by decide)) M3.bd pass0) (pv 1) (pv 3))
          (pa_cons (pe_gd GL (hr.mono (by decide)) (by rfl) (pa_cons (pe_op op_mulW (pv 5) (pe_ix ix_tup (pv 4) pe_int (fun _ _ => rfl))) (pa_cons (pe_op op_mulW (pv 6) (pe_ix ix_tup (pv 4) pe_int (fun _ _ => rfl))) pa_nil))) pa_nil))))) pss_nil)
      (pss_cons (ps_if (pt_cmpR op_eq (pv 7) pe_int (nomark _)) (pss_one (ps_ret (pe_tup (pa_cons (pe_un (un_own (T.spc "__neg__" (by decide)).1 (T.spc "__neg__" (by decide)).2 M4.ok (hr.mono (by decide)) M4.bd pass0) (pv 1)) (pa_cons (pe_tup (pa_cons (pe_un un_neg (pv 5)) (pa_cons (pv 6) pa_nil))) pa_nil))))) pss_nil)
      (pss_cons (ps_if (pt_cmpR op_eq (pe_ix ix_tup (pv 4) pe_int (fun _ _ => rfl)) pe_int (nomark _)) (pss_one (ps_ret (pe_tup (pa_cons (pe_gd GV hr (by rfl) (pa_cons (pv 1) (pa_cons (pv 3) pa_nil))) (pa_cons pe_non pa_nil))))) pss_nil)
      (pss_one (ps_ret (pe_tup (pa_cons (pe_gd GV hr (by rfl) (pa_cons (pv 1) (pa_cons (pv 3) pa_nil)))
        (pa_cons (pe_gd GL (hr.mono (by decide)) (by rfl) (pa_cons (pe_op op_mulW (pv 5) (pe_ix ix_tup (pv 4) pe_int (fun _ _ => rfl))) (pa_cons (pe_op op_mulW (pv 6) (pe_ix ix_tup (pv 4) pe_int (fun _ _ => rfl))) pa_nil))) pa_nil)))))))))))), ?_⟩
    have two : 2 ≤ sizeLine := by rw [sizeLine_eq]; decide
    refine ⟨_, rfl, tp, _, rfl, SqT.of htp, rfl, _, _, rfl, _, _, rfl, rfl, _, rfl, p, _, rfl, hp, by decide, by decide, fun wy H1 w0 w1 hp1 b1 => ?_⟩
    have hx1 := hx.but hp b1
    have hv1 := hv.but hp b1
    have to1 := tup_but hto hp b1
    obtain ⟨dx, ex⟩ := id hx1
    have B : ∀ {i : Int}, Bd 84 i → Bd 1000 i := fun h => bd_up h (by decide)
    have fin : ∀ (H3 : Hp) (y tq : Addr) (e g : Int), Same H1 H3 → RatAt K H3 y e g → H3 tq = some (.tup [.int e, .int g]) → Low e g → Bd 200 e → Bd 200 g → ∀ t, H3 t = none → Q (.ref t) (upd H3 t (.tup [.ref y, .ref tq])) := fun H3 y tq e g s3 r3 h3 lo be bg t nt => by
      have s4 := same_new (o := .tup [.ref y, .ref tq]) nt
      exact q t _ _ _ (.inr ⟨y, tq, e, g, rfl, rfl, r3.same s4, s4 _ _ h3, lo, be, bg⟩) (hp1.same (s3.trans s4)) (b1.trans (But.of (s3.trans s4))) upd_same
    have bd0 : b * d ≠ 0 := Int.mul_ne_zero lo1.ne lo2.ne
    refine ⟨_, rfl, rfl, _, rfl, ite2 (fun _ => ?_) (fun _ => ?_)⟩
    · refine ⟨_, rfl, _, rfl, x, dx, _, rfl, ex, hv1.rhs, x, v, a, b, c, d, rfl, hx1, hv1, B ba, B bb, B bc, B bd, bd0, fun y H2 s2 r2 => ?_⟩
      have to2 := s2 _ _ to1
      refine ⟨_, rfl, _, rfl, to, _, _, _, rfl, rfl, SqT.of to2, atI_nat (j := 1) rfl, a, d, rfl, rfl, cm (B ba) (B bd), _, rfl, to, _, _, _, rfl, rfl, SqT.of to2, atI_nat (j := 0) rfl, _, rfl, c, b, rfl, rfl, cm (B bc) (B bb), _, _, rfl, rfl, ?_⟩
      refine ⟨_, rfl, _, rfl, to, _, _, _, rfl, rfl, SqT.of to2, atI_nat (j := 1) rfl, b, d, rfl, rfl, cm (B bb) (B bd), _, _, rfl, bd0, bd_up (bd_mul bb bd) (by decide), fun tq H3 s3 h3 => ⟨two, fun t nt => ?_⟩⟩
      exact fin H3 y tq _ _ (s2.trans s3) (r2.same s3) h3 (low_low bd0) (lowT_bd bd0 (bd_up (bd_add (bd_mul ba bd) (bd_mul bc bb)) (by decide))) (lowB_bd bd0 (bd_up (bd_mul bb bd) (by decide))) t nt
    refine ⟨_, rfl, rfl, _, rfl, ite2 (fun _ => ?_) (fun _ => ?_)⟩
    · refine ⟨_, rfl, _, rfl, x, dx, _, rfl, ex, hv1.rhs, x, v, a, b, c, d, rfl, hx1, hv1, B ba, B bb, B bc, B bd, bd0, fun y H2 s2 r2 => ?_⟩
      have to2 := s2 _ _ to1
      refine ⟨_, rfl, _, rfl, to, _, _, _, rfl, rfl, SqT.of to2, atI_nat (j := 1) rfl, a, d, rfl, rfl, cm (B ba) (B bd), _, rfl, to, _, _, _, rfl, rfl, SqT.of to2, atI_nat (j := 0) rfl, _, rfl, c, b, rfl, rfl, cm (B bc) (B bb), _, _, rfl, rfl, ?_⟩
      refine ⟨_, rfl, _, rfl, to, _, _, _, rfl, rfl, SqT.of to2, atI_nat (j := 1) rfl, b, d, rfl, rfl, cm (B bb) (B bd), _, _, rfl, bd0, bd_up (bd_mul bb bd) (by decide), fun tq H3 s3 h3 => ⟨two, fun t nt => ?_⟩⟩
      exact fin H3 y tq _ _ (s2.trans s3) (r2.same s3) h3 (low_low bd0) (lowT_bd bd0 (bd_up (bd_sub (bd_mul ba bd) (bd_mul bc bb)) (by decide))) (lowB_bd bd0 (bd_up (bd_mul bb bd) (by decide))) t nt
    refine ⟨_, rfl, rfl, _, rfl, ite2 (fun _ => ?_) (fun _ => ?_)⟩
    · refine ⟨_, rfl, _, rfl, x, dx, _, rfl, ex, hv1.rhs, x, v, a, b, c, d, rfl, hx1, hv1, B ba, B bb, B bc, B bd, bd0, fun y H2 s2 r2 => ?_⟩
      have to2 := s2 _ _ to1
      refine ⟨_, rfl, _, rfl, to, _, _, _, rfl, rfl, SqT.of to2, atI_nat (j := 0) rfl, a, c, rfl, rfl, cm (B ba) (B bc), ?_⟩
      refine ⟨_, rfl, _, rfl, to, _, _, _, rfl, rfl, SqT.of to2, atI_nat (j := 1) rfl, b, d, rfl, rfl, cm (B bb) (B bd), _, _, rfl, bd0, bd_up (bd_mul bb bd) (by decide), fun tq H3 s3 h3 => ⟨two, fun t nt => ?_⟩⟩
      exact fin H3 y tq _ _ (s2.trans s3) (r2.same s3) h3 (low_low bd0) (lowT_bd bd0 (bd_up (bd_mul ba bc) (by decide))) (lowB_bd bd0 (bd_up (bd_mul bb bd) (by decide))) t nt
    refine ⟨_, rfl, rfl, _, rfl, ite2 (fun _ => ?_) (fun _ => ?_)⟩
    · refine ⟨_, rfl, x, dx, _, rfl, ex, x, a, b, rfl, hx1, B ba, B bb, lo1.ne, fun y H2 s2 r2 => ?_⟩
      rw [(low_id lo1.neg).1, (low_id lo1.neg).2] at r2
      refine ⟨_, rfl, _, rfl, _, rfl, two, fun tq ntq => ⟨two, fun t nt => ?_⟩⟩
      have s3 := same_new (o := .tup [.int (-a), .int b]) ntq
      exact fin _ y tq _ _ (s2.trans s3) (r2.same s3) upd_same lo1.neg (bd_up (bd_neg ba) (by decide)) (bd_up bb (by decide)) t nt
    refine ⟨_, rfl, to, _, _, _, rfl, rfl, SqT.of to1, atI_nat (j := 0) rfl, rfl, _, rfl, ite2 (fun z => ?_) (fun z => ?_)⟩
    · have c0 : c = 0 := by
        have y := of_decide_eq_true z
        injection y
      refine ⟨_, rfl, _, rfl, x, v, a, b, c, d, rfl, hx1, hv1, B ba, B bb, B bc, B bd, lo1.ne, .inl ⟨c0, fun H2 s2 => ⟨two, fun t nt => ?_⟩⟩⟩
      have s4 := same_new (o := .tup [.non, .non]) nt
      exact q t _ _ _ (.inl ⟨rfl, rfl⟩) (hp1.same (s2.trans s4)) (b1.trans (But.of (s2.trans s4))) upd_same
    · have c0 : c ≠ 0 := fun y => z (decide_eq_true (by rw [y]))
      have bc0 : b * c ≠ 0 := Int.mul_ne_zero lo1.ne c0
      refine ⟨_, rfl, _, rfl, x, v, a, b, c, d, rfl, hx1, hv1, B ba, B bb, B bc, B bd, lo1.ne, .inr ⟨c0, fun y H2 s2 r2 => ?_⟩⟩
      have to2 := s2 _ _ to1
      refine ⟨_, rfl, _, rfl, to, _, _, _, rfl, rfl, SqT.of to2, atI_nat (j := 1) rfl, a, d, rfl, rfl, cm (B ba) (B bd), ?_⟩
      refine ⟨_, rfl, _, rfl, to, _, _, _, rfl, rfl, SqT.of to2, atI_nat (j := 0) rfl, b, c, rfl, rfl, cm (B bb) (B bc), _, _, rfl, bc0, bd_up (bd_mul bb bc) (by decide), fun tq H3 s3 h3 => ⟨two, fun t nt => ?_⟩⟩
      exact fin H3 y tq _ _ (s2.trans s3) (r2.same s3) h3 (low_low bc0) (lowT_bd bc0 (bd_up (bd_mul ba bd) (by decide))) (lowB_bd bc0 (bd_up (bd_mul bb bc) (by decide))) t nt
end
end K15

set_option maxHeartbeats 4000000
namespace RtL
open PySem PySem.Spec PyProof.Rows L2 ErL
section
variable {P : Program} {w : World} {K : PySem.W.Frag} {mg : Str → Option Value} {base : Heap} {k : Nat} {f : Addr} {ps N : List Str} {sp : SpG}
theorem fnG_D {x qual : Str} {params : Arguments} {body : List Stmt} {scope : Scope} {fd : FuncData} (F : FunD K x qual params body scope [] [] f fd) (S : FnScope N ps scope) (len : ∀ vs H Q, sp vs H Q → vs.length = ps.length)
    (hbody : ∀ (cdv : Value) (A : Around) (outer : List Env) (s : Shared) (H : Hp) (vs : List V) (Q : VK), Room k (A.deeper (envOfC qual scope s.heap.objs.size f cdv)) →
      (A.deeper (envOfC qual scope s.heap.objs.size f cdv)).guards = some [] → sp vs H Q →
      ∃ t, PSs (cxOf CX0 P w K mg base N qual scope f cdv A outer s H E0).nox body t ∧ t { nx := fun _ H' => Q .non H', rt := Q } (start N vs) H) :
    FnG P w K mg base (k + 1) f fd ps sp := by
  obtain ⟨oc, od, dV, kV, doc, pm, an, cdv, ct, osl, rfl, lk, hcd, _, _⟩ := F.ex
  refine ⟨len, fun A outer s H args us vs Q hr hg e0 hb r hsp => ?_⟩
  have hl := len _ _ _ hsp
  have KX : K.In s.heap := e0.mod.kin.keeps fun b o e => (e0.bs b o e).1
  have lim : s.heap.NoLimit := e0.mod.nolimit.keeps fun b o e => (e0.bs b o e).1
  have kinds : ∀ y ∈ ps.zip us, scope.names.lookup y.1 = some .local ∨
      (scope.names.lookup y.1 = some .cell ∧ ((cellsFrom (s.heap.objs.size + 1) scope.names []).lookup y.1).isSome = true) := by
    rintro ⟨n, v⟩ hy
    rcases S.par n (List.of_mem_zip hy).1 with q | q
    · exact .inl q
    · exact .inr ⟨q, PySem.W.cellsFrom_some _ _ _ (.inl q)⟩
  refine codeAny_call_function hr.depth (KX _ _ lk) rfl S.co S.gen rfl (PySem.W.codeRec_of KX hcd) (hb _ _ _ _ ?_)
  refine wpAny_newFunctionEnv_cells S.kind kinds fun env he s1 x => ?_
  subst he
  refine ⟨lim.keeps x.toInCall.keep, codeAny_func ?_⟩
  obtain ⟨t, ht, hq⟩ := hbody cdv A outer s H vs Q (hr.deeper _) (guards_deeper hg) hsp
  have I := inv_start (CX := CX0) (E := E0) (P := P) (w := w) (K := K) (mg := mg) (base := base) S hr.hd e0 hl r x
  refine wpAny_mono (ht.nox.run [] s1 (start N vs) H _ I hq) (fun fl s' hs => ?_) fun e s' hs => hs
  cases fl with
  | ret u =>
    obtain ⟨v, σ', H', J, rv, q⟩ := hs
    exact ⟨v, H', J.os, J.bare, J.base, J.hok, rv, q⟩
  | next =>
    obtain ⟨σ', H', J, q⟩ := hs
    exact ⟨.non, H', J.os, J.bare, J.base, J.hok, rfl, q⟩
  | brk =>
    obtain ⟨_, _, _, q⟩ := hs
    exact q.elim
  | cont =>
    obtain ⟨_, _, _, q⟩ := hs
    exact q.elim
end
end RtL
namespace K15
open PySem PySem.Spec PyProof.Rows L2 RtL ErL
/-- a def that can be called by its name where nothing is being shown -/
structure GdG (P : Program) (w : World) (K : Fr) (mg : Str → Option Value) (base : Heap) (k : Nat) (x : Str) (f : Addr) (fd : FuncData) (ps : List Str) (sp : SpG) : Prop where
  ok : FnG P w K mg base k f fd ps sp
  gl : mg x = some (.ref f)
  kp : PySem.W.keepIn K (.ref f) = true
  bd : Binds K fd ps []
section
variable {X : Cx} {k : Nat} {x : Str} {p pos : Pos} {e : Expr} {es : List Expr} {t : TA} {f : Addr} {fd : FuncData} {ps : List Str} {sp : SpG}
theorem pe_gg (C : GdG X.prog X.w X.K X.mg X.base k x f fd ps sp) (hr : Room k X.A) (hG : X.A.guards = some []) (hg : Gl X x) (ha : PA X (e :: es) t) (hdb : (x == ("__debug__" : Str)) = false := by decide)
    (he : starEach (e :: es) X.env = (false, eval e X.env) :: starEach es X.env := by rfl) (hpl : (backTo pos (starEach es X.env)).any (·.1) = false := by rfl) : PE X (.Call (.Name x p) (e :: es) [] pos) (tCallG sp t) :=
  pe_callG C.ok hr hG hg C.gl C.kp C.bd ha hdb he hpl
end
section
variable {P : Program} {w : World} {K : Fr} {mg : Str → Option Value} {base : Heap} {f : Addr} {fd : FuncData}
/-- the getters and the texts -/
structure Gt (P : Program) (w : World) (K : Fr) (mg : Str → Option Value) (base : Heap) : Prop where
  t : ∃ d, Md P w K mg base 1 (recA K (RC K) "top" "property") d ["self"] (spGet K fun t _ => t)
  b : ∃ d, Md P w K mg base 1 (recA K (RC K) "bottom" "property") d ["self"] (spGet K fun _ b => b)
  s : ∃ d, Md P w K mg base 1 (recA K (RC K) "sign" "property") d ["self"] (spGet K fun t _ => sgn t)
  st : ∃ d, Md P w K mg base 1 (rm K "__str__") d ["self"] (spTxt K rtxt)
  rp : ∃ d, Md P w K mg base 1 (rm K "__repr__") d ["self"] (spTxt K rrep)
def i3 (a b c : Int) : PyData := .list [.int a, .int b, .int c]
theorem shown_int {i : Int} (h : Bd 700 i) : (PyData.int i).showable = true ∧ (PyData.int i).shown.length ≤ 701 := by
  refine ⟨decide_eq_true (Nat.lt_of_lt_of_le (PySem.Flt.log2_lt_of (by decide) h) (by decide)), ?_⟩
  show (Str.ofString (toString i)).length ≤ 701
  rw [PySem.ofString_length]
  by_cases z : i.natAbs = 0
  · exact int_text_length_le (by decide) (by rw [z]; decide)
  · exact int_text_length_le (by decide) ((Nat.log2_lt z).mpr h)
end
end K15

set_option maxHeartbeats 4000000
namespace K15
open PySem PySem.Spec PyProof.Rows L2 RtL ErL
section
variable {P : Program} {w : World} {K : Fr} {mg : Str → Option Value} {base : Heap} {f : Addr} {fd : FuncData}
theorem ok_i3 {a b c : Int} (h1 : Bd 700 a) (h2 : Bd 700 b) (h3 : Bd 700 c) : Ok (i3 a b c) := by
  obtain ⟨a1, a2⟩ := shown_int h1
  obtain ⟨b1, b2⟩ := shown_int h2
  obtain ⟨c1, c2⟩ := shown_int h3
  refine ⟨?_, Nat.le_of_ble_eq_true rfl, ?_⟩
  · show ((PyData.int a).showable && ((PyData.int b).showable && ((PyData.int c).showable && true))) = true
    rw [a1, b1, c1]
    rfl
  · have l := listText_len_le [(PyData.int a).shown, (PyData.int b).shown, (PyData.int c).shown]
    show (listText [(PyData.int a).shown, (PyData.int b).shown, (PyData.int c).shown]).length ≤ _
    simp only [List.map_cons, List.map_nil, List.sum_cons, List.sum_nil, List.length_cons, List.length_nil] at l
    omega
theorem dq_i3 {H : Hp} {l : Addr} {a b c : Int} (h : H l = some (.lst [.int a, .int b, .int c])) : Dq H (.ref l) (i3 a b c) := .lst h (.cons (.int a) (.cons (.int b) (.cons (.int c) .nil)))
abbrev sIsp : Stmt := top 22
theorem scIsp : FnScope ["_law_one", "_law_pair", "_law_text", "_law_sign"] ["_law_one", "_law_pair"] (defScope sIsp) := ⟨rfl, rfl, rfl, by decide +kernel, rfl, by decide +kernel, by decide +kernel⟩
def spIsp (K : Fr) : SpG := fun vs H Q => ∃ (x tp : Addr) (a b : Int), vs = [.ref x, .ref tp] ∧ RatAt K H x a b ∧ H tp = some (.tup [.int a, .int b]) ∧ Bd 700 a ∧ Bd 700 b ∧ ∀ H', Same H H' → Q (.bl true) H'
theorem sgn_bd (a : Int) : Bd 700 (sgn a) := by
  unfold sgn
  refine bd_up (n := 1) ?_ (by decide)
  split
  · decide
  · split <;> decide
theorem ok_isp (F : FunD K "_law_is_pair" "_law_is_pair" (defArgs sIsp) (defBody sIsp) (defScope sIsp) [] [] f fd) (T : TT K mg) (G : Gt P w K mg base) : FnG P w K mg base 4 f fd ["_law_one", "_law_pair"] (spIsp K) := by
  obtain ⟨⟨dT, MT⟩, ⟨dB, MB⟩, ⟨dS, MS⟩, ⟨dStr, MStr⟩, ⟨dRp, MRp⟩⟩ := G
  refine fnG_D F scIsp (fun vs H Q h => ?_) (fun cdv A outer s H vs Q hr hG h => ?_)
  · obtain ⟨x, tp, a, b, rfl, _⟩ := h
    rfl
  · obtain ⟨x, tp, a, b, rfl, hx, htp, ba, bb, q⟩ := h
    have hu : (A.deeper (envOfC "_law_is_pair" (defScope sIsp) s.heap.objs.size f cdv)).units + 70 < cLine := by have := hr.un; omega
    obtain ⟨dx, ex⟩ := id hx
    have log : ∀ {i : Int}, Bd 700 i → i.natAbs.log2 < 1920 := fun h => Nat.lt_of_lt_of_le (PySem.Flt.log2_lt_of (by decide) h) (by decide)
    have three : 3 ≤ sizeLine := by rw [sizeLine_eq]; decide
    have la := (shown_int ba).2
    have lb := (shown_int bb).2
    have lA : (T_ a).length ≤ 701 := la
    have lB : (T_ b).length ≤ 701 := lb
    have l1 : ("/" : Str).length = 1 := rfl
    have l2 : ("Ratio(" : Str).length = 6 := rfl
    have l3 : (", " : Str).length = 2 := rfl
    have l4 : (")" : Str).length = 1 := rfl
    refine ⟨_, PSs.nox (Evl.pss_cut (ps_set (i := 2) scIsp.nd rfl (Or.inl rfl) (pe_ifExp (pt_cmpR op_eq (pe_ix ix_tup (pv 1) pe_int (fun _ _ => rfl)) pe_int (nomark _)) (pe_callTy call_str_int (by rfl) T.fre (by decide +kernel) (pa_cons (pe_ix ix_tup (pv 1) pe_int (fun _ _ => rfl)) pa_nil))
        (pe_op op_add_str (pe_op op_add_str (pe_callTy call_str_int (by rfl) T.fre (by decide +kernel) (pa_cons (pe_ix ix_tup (pv 1) pe_int (fun _ _ => rfl)) pa_nil)) pe_str) (pe_callTy call_str_int (by rfl) T.fre (by decide +kernel) (pa_cons (pe_ix ix_tup (pv 1) pe_int (fun _ _ => rfl)) pa_nil)))))
      (Evl.pss_cut (ps_set (i := 3) scIsp.nd rfl (Or.inl rfl) (pe_ifExp (pt_cmpR op_gt (pe_ix ix_tup (pv 1) pe_int (fun _ _ => rfl)) pe_int (nomark _)) pe_int (pe_ifExp (pt_cmpR op_lt (pe_ix ix_tup (pv 1) pe_int (fun _ _ => rfl)) pe_int (nomark _)) (pe_un un_neg pe_int) pe_int)))
      (pss_cons (ps_if (pt_cmpR op_ne (pe_callB (call_reprD hu hG T.sys) (by rfl) T.fre (by decide +kernel) (pa_cons (pe_lst (pa_cons (pe_prop (pv 0) T.cl (T.prop "top" (by decide)) MT.ok (hr.mono (by decide)) MT.bd .nil pass0 rfl) (pa_cons (pe_prop (pv 0) T.cl (T.prop "bottom" (by decide)) MB.ok (hr.mono (by decide)) MB.bd .nil pass0 rfl)
          (pa_cons (pe_prop (pv 0) T.cl (T.prop "sign" (by decide)) MS.ok (hr.mono (by decide)) MS.bd .nil pass0 rfl) pa_nil)))) pa_nil))
          (pe_callB (call_reprD hu hG T.sys) (by rfl) T.fre (by decide +kernel) (pa_cons (pe_lst (pa_cons (pe_ix ix_tup (pv 1) pe_int (fun _ _ => rfl)) (pa_cons (pe_ix ix_tup (pv 1) pe_int (fun _ _ => rfl)) (pa_cons (pv 3) pa_nil)))) pa_nil)) (nomark _)) (pss_one (ps_ret pe_bl)) pss_nil)
      (pss_one (ps_ret (pe_and (pe_cmpR op_eq (pe_callTy (call_strOwn (T.spc "__str__" (by decide)).1 (T.spc "__str__" (by decide)).2 MStr.ok hr MStr.bd) (by rfl) T.fre (by decide +kernel) (pa_cons (pv 0) pa_nil)) (pv 2) (nomark _))
        (pe_one (pe_cmpR op_eq (pe_callB (call_reprOwn (T.spc "__repr__" (by decide)).1 (T.spc "__repr__" (by decide)).2 MRp.ok (hr.mono (by decide)) MRp.bd) (by rfl) T.fre (by decide +kernel) (pa_cons (pv 0) pa_nil))
          (pe_op op_add_str (pe_op op_add_str (pe_op op_add_str (pe_op op_add_str pe_str (pe_callTy call_str_int (by rfl) T.fre (by decide +kernel) (pa_cons (pe_ix ix_tup (pv 1) pe_int (fun _ _ => rfl)) pa_nil))) pe_str) (pe_callTy call_str_int (by rfl) T.fre (by decide +kernel) (pa_cons (pe_ix ix_tup (pv 1) pe_int (fun _ _ => rfl)) pa_nil))) pe_str) (nomark _))))))))), ?_⟩
    refine ⟨fun σ' H' => H' = H ∧ σ' = [some (.ref x), some (.ref tp), some (.str (rtxt a b)), none], ?_, ?_⟩
    · refine ⟨_, rfl, tp, _, _, _, rfl, rfl, SqT.of htp, atI_nat (j := 1) rfl, rfl, _, rfl, ite2 (fun h => ?_) (fun h => ?_)⟩
      · have z : b = 1 := by
          have y := of_decide_eq_true h
          injection y
        subst z
        exact ⟨_, rfl, tp, _, _, _, rfl, rfl, SqT.of htp, atI_nat (j := 0) rfl, a, rfl, log ba, rfl, rfl⟩
      · have z : ¬ b = 1 := fun y => h (decide_eq_true (by rw [y]))
        refine ⟨_, rfl, tp, _, _, _, rfl, rfl, SqT.of htp, atI_nat (j := 0) rfl, a, rfl, log ba, _, _, rfl, rfl, ?_, _, rfl, tp, _, _, _, rfl, rfl, SqT.of htp, atI_nat (j := 1) rfl, b, rfl, log bb, _, _, rfl, rfl, ?_, rfl, ?_⟩
        · show (T_ a).length + ("/" : Str).length ≤ sizeLine
          rw [sizeLine_eq]
          omega
        · show (T_ a ++ "/").length + (T_ b).length ≤ sizeLine
          rw [strLen_append, sizeLine_eq]
          omega
        · rw [show rtxt a b = T_ a ++ "/" ++ T_ b from if_neg z]
          rfl
    rintro σ' H ⟨rfl, rfl⟩
    refine ⟨fun σ' H' => H' = H ∧ σ' = [some (.ref x), some (.ref tp), some (.str (rtxt a b)), some (.int (sgn a))], ?_, ?_⟩
    · refine ⟨_, rfl, tp, _, _, _, rfl, rfl, SqT.of htp, atI_nat (j := 0) rfl, a, 0, rfl, rfl, _, rfl, ite2 (fun h => ?_) (fun h => ?_)⟩
      · have z : 0 < a := of_decide_eq_true h
        refine ⟨rfl, ?_⟩
        rw [show sgn a = 1 from (if_neg (by omega)).trans (if_pos z)]
        rfl
      · have z : ¬ 0 < a := fun y => h (decide_eq_true y)
        refine ⟨_, rfl, tp, _, _, _, rfl, rfl, SqT.of htp, atI_nat (j := 0) rfl, a, 0, rfl, rfl, _, rfl, ite2 (fun h' => ?_) (fun h' => ?_)⟩
        · have z' : a < 0 := of_decide_eq_true h'
          refine ⟨_, rfl, rfl, ?_⟩
          rw [show sgn a = -1 from (if_neg (by omega)).trans (if_neg z)]
          rfl
        · have z' : ¬ a < 0 := fun y => h' (decide_eq_true y)
          refine ⟨rfl, ?_⟩
          rw [show sgn a = 0 from if_pos (by omega)]
          rfl
    rintro σ' H ⟨rfl, rfl⟩
    refine ⟨_, rfl, x, dx, _, rfl, ex, x, a, b, rfl, hx, _, rfl, x, dx, _, rfl, ex, x, a, b, rfl, hx, _, rfl, x, dx, _, rfl, ex, x, a, b, rfl, hx, three, fun l1' n1' => ?_⟩
    have s1 := same_new (o := .lst [.int a, .int b, .int (sgn a)]) n1'
    refine ⟨l1', _, rfl, dq_i3 upd_same, ok_i3 ba bb (sgn_bd a), ?_⟩
    have htp1 := s1 _ _ htp
    refine ⟨_, rfl, tp, _, _, _, rfl, rfl, SqT.of htp1, atI_nat (j := 0) rfl, _, rfl, tp, _, _, _, rfl, rfl, SqT.of htp1, atI_nat (j := 1) rfl, _, rfl, three, fun l2' n2' => ?_⟩
    have s2 := same_new (o := .lst [.int a, .int b, .int (sgn a)]) n2'
    refine ⟨l2', _, rfl, dq_i3 upd_same, ok_i3 ba bb (sgn_bd a), ?_⟩
    have hx2 := hx.same (s1.trans s2)
    have htp2 := s2 _ _ htp1
    obtain ⟨dx2, ex2⟩ := id hx2
    refine ⟨rfl, _, rfl, ite2 (fun h => ?_) (fun _ => ?_)⟩
    · simp at h
    refine ⟨_, rfl, x, dx2, _, rfl, ex2, x, a, b, rfl, hx2, bd_up ba (by decide), bd_up bb (by decide), ⟨_, rfl⟩, _, rfl, rfl, _, rfl, ite2 (fun _ => ?_) (fun h => ?_)⟩
    · refine ⟨_, rfl, x, dx2, _, rfl, ex2, x, a, b, rfl, hx2, bd_up ba (by decide), bd_up bb (by decide), ⟨_, rfl⟩, _, rfl, tp, _, _, _, rfl, rfl, SqT.of htp2, atI_nat (j := 0) rfl, a, rfl, log ba, _, _, rfl, rfl, ?_, _, _, rfl, rfl, ?_, _, rfl, tp, _, _, _, rfl, rfl, SqT.of htp2, atI_nat (j := 1) rfl, b, rfl, log bb, _, _, rfl, rfl, ?_, _, _, rfl, rfl, ?_, rfl, ?_⟩
      · show ("Ratio(" : Str).length + (T_ a).length ≤ sizeLine
        rw [sizeLine_eq]
        omega
      · show ("Ratio(" ++ T_ a).length + (", " : Str).length ≤ sizeLine
        rw [strLen_append, sizeLine_eq]
        omega
      · show ("Ratio(" ++ T_ a ++ ", ").length + (T_ b).length ≤ sizeLine
        rw [strLen_append, strLen_append, sizeLine_eq]
        omega
      · show ("Ratio(" ++ T_ a ++ ", " ++ T_ b).length + (")" : Str).length ≤ sizeLine
        rw [strLen_append, strLen_append, strLen_append, sizeLine_eq]
        omega
      · rw [decide_eq_true (show V.str (rrep a b) = V.str ("Ratio(" ++ T_ a ++ ", " ++ T_ b ++ ")") from rfl)]
        exact q _ (s1.trans s2)
    · exact absurd (decide_eq_true rfl) h
end
end K15

set_option maxHeartbeats 1000000
/-! != of an own class that has __eq__ alone; repr of a truth value -/
namespace RtL
open PySem PySem.Spec PyProof.Rows L2
open PySem.Builtin
section
variable {prog : Program} {w : World} {K : PySem.W.Frag} {A : Around} {E : Value → Shared → Prop} {s : Shared} {x f C : Addr} {ox : Obj} {od : Option Obj} {b tb : Value}
/-- what is asked of the class -/
structure NeOf (K : PySem.W.Frag) (C f : Addr) : Prop where
  ne : PySem.W.findIn K (.ref C) "__ne__" = some (some (.builtin "object.__ne__"))
  mo : PySem.W.mroIn K C (.type "object") = some true
theorem ifBound_B {M : Model} {args : List Value} {Q : Option Value → Shared → Prop} {name : Str} {id T : String} (X : K.In s.heap) (I : PySem.W.InstAt s.heap x ox C od) (hs : PySem.W.findIn K (.ref C) name = some (some (.builtin id))) (S : Slot T name id)
    (h : wpAny M A (call (.builtin id) (.ref x :: args)) (fun v => Q (some v)) E s) : wpAny M A (callSpecialIfBound? (.ref x) name args) Q E s := by
  simp only [callSpecialIfBound?, bindSpecialIfBound?]
  refine wpAny_holding (wpAny_bind (wpAny_bind (wpAny_bind (I.type.here ((PySem.W.looks_findIn X hs).here ?_)))))
  refine wpAny_bind (wpAny_askSetting (wpAny_ite ?_))
  have fin : wpAny M A (call (.builtin id) ([.ref x] ++ args) >>= fun v => pure (some v)) Q E s := wpAny_bind (wpAny_mono h (fun v s' h' => wpAny_pure h') fun _ _ h' => h')
  rw [S.bind]
  split
  · exact wpAny_bind (wpAny_pure (wpAny_pure (by exact fin)))
  · exact wpAny_tryCatch (wpAny_bind (wpAny_pure (wpAny_pure (by exact fin))))
theorem ne_K {Q : Value → Shared → Prop} (hu : A.units + 1 < cLine) (X : K.In s.heap) (I : PySem.W.InstAt s.heap x ox C od) (hb : PySem.W.Looks (model prog w) s.heap (typeOf b) tb) (hn : PySem.W.notFirst K C tb = true) (N : NeOf K C f)
    (hs : PySem.W.findIn K (.ref C) "__eq__" = some (some (.ref f))) (hf : PySem.W.isFn K (.ref f) = true) (h : wpAny (model prog w) A.in1 (call (.ref f) [.ref x, b]) (fun v s' => ∃ c, v = .bool c ∧ Q (.bool (!c)) s') E s) :
    wpAny (model prog w) A (richCompare .NotEq (.ref x) b) Q E s := by
  have one : wpAny (model prog w) A (tryCompare (.ref x) (cmpInfo .NotEq).2.1 b) (fun r s' => ∃ v, r = some v ∧ Q v s') E s := by
    unfold tryCompare
    refine wpAny_bind (ifBound_B (T := "object") (name := "__ne__") X I N.ne PySem.F.cmp_object.ne (wpAny_call (codeAny_call_builtin PySem.F.cmp_object.ne.plain PySem.F.cmpEntry_ne
      (PySem.W.check_slot PySem.F.cmpKind_ne PySem.F.cmpSplit_ne (I.type.andThen (PySem.W.looks_mroIn X N.mo)) (PySem.F.cmpArgs_ne _ _) ?_))))
    unfold Builtin.«object.__ne__»
    refine wpAny_bind (m := slotArgs "__ne__" 1 ⟨[.ref x, b], []⟩) (wpAny_pure ?_)
    refine wpAny_bind (wpAny_cRoomFor (by show A.units + 1 < cLine; exact hu) ?_)
    refine wpAny_bind (m := callSpecialIfBound? (.ref x) (Str.ofString "__eq__") [b]) (PySem.W.ifBound_K X I hs hf (wpAny_mono h (fun v s' hv => ?_) fun _ _ e => e))
    obtain ⟨c, rfl, hq⟩ := hv
    refine wpAny_bind (m := truthy (.bool c)) (wpAny_truthy_bool ?_)
    exact wpAny_pure (wpAny_pure ⟨_, rfl, hq⟩)
  unfold richCompare
  simp only [oneThing_ref]
  refine wpAny_holding (wpAny_bind (wpAny_cRoomFor (by omega) ?_))
  refine wpAny_bind (I.type.here (wpAny_bind (hb.here ?_)))
  split
  · rename_i q
    have e : PySem.W.subIn K tb (.ref C) = some false := by
      rcases Bool.or_eq_true_iff.mp hn with e | e
      · rw [beq_iff_eq.mp e] at q; simp at q
      · exact beq_iff_eq.mp e
    refine wpAny_bind ((PySem.W.looks_subIn X e).here ?_)
    simp only [Bool.false_eq_true, if_false]
    refine wpAny_bind (wpAny_mono one (fun r s' z => ?_) fun _ _ e => e)
    obtain ⟨v, rfl, hq⟩ := z
    exact wpAny_pure hq
  · refine wpAny_bind (wpAny_pure ?_)
    simp only [Bool.false_eq_true, if_false]
    refine wpAny_bind (wpAny_mono one (fun r s' z => ?_) fun _ _ e => e)
    obtain ⟨v, rfl, hq⟩ := z
    exact wpAny_pure hq
end
section
variable {X : Cx} {CX : CXT} {k : Nat} {f C : Addr} {fd : FuncData} {sp : Sp} {E : XK} {ps : List Str}
/-- x != y by the method __eq__ of x's class -/
def rOwnNe (C : Addr) (sp : Sp) (E : XK) : R2 := fun x y H Q => rOwnEq C sp E x y H fun v H' => ∃ c, v = .bl c ∧ Q (.bl (!c)) H'
theorem op_ownNe (O : EqOf X.K C f) (N : NeOf X.K C f) (F : FnOk X.prog X.w X.K X.mg X.base CX k f fd ps sp) (hr : Room (k + 1) X.A) (hb : Binds X.K fd ps []) (hx : Passes CX X E) : OpR X (compareOp .NotEq) (rOwnNe C sp E) := by
  intro pins s σ H x y v u Q I rx ry h
  obtain ⟨a, dx, fs, rfl, ha, hy, q⟩ := h
  cases (show v = Value.ref a from rx)
  obtain ⟨mA, oa, _⟩ := ins_get I.hok ha
  obtain ⟨od, J, _⟩ := oa.look
  have nf : ∀ t ∈ ["int", "str", "NoneType", "bool"], PySem.W.notFirst X.K C (.type t) = true := fun t ht => by
    unfold PySem.W.notFirst
    rw [O.nt t ht]
    simp
  have hl : ([Value.ref a, u] ++ []).length = ps.length := by
    rw [← F.len _ _ _ _ q]
    rfl
  have go : wpAny (model X.prog X.w) X.A.in1 (call (.ref f) [.ref a, u]) (fun v s' => ∃ c, v = .bool c ∧ EP X pins σ Q (.bool (!c)) s') X.xe s := by
    refine wpAny_call (codeAny_mono (F.run X.A.in1 X.stack s H ⟨[.ref a, u], []⟩ [.ref a, u] [.ref a, y] _ E hr.in1 I.env0.in1 (hb s [.ref a, u] I.kIn hl) (.cons rfl (.cons ry .nil)) q) fun r s' hq => ?_)
    match r, hq with
    | .ok (.ret z), hq =>
      obtain ⟨v, H', I3, rv, c, ev, q3⟩ := I.after hq
      subst ev
      cases (show z = Value.bool c from rv)
      exact ⟨c, rfl, .bl (!c), H', I3, rfl, q3⟩
    | .ok .next, hq => exact False.elim hq
    | .ok .brk, hq => exact False.elim hq
    | .ok .cont, hq => exact False.elim hq
    | .error e, hq => exact hx pins σ H s e s' I hq
  have hu : X.A.units + 1 < cLine := by have := hr.un; omega
  show wpAny _ _ (richCompare .NotEq _ _) _ _ _
  rcases hy with ⟨b, dy, gs, rfl, hb'⟩ | ⟨i, rfl⟩ | ⟨z, rfl⟩ | rfl | ⟨c, rfl⟩
  · cases (show u = Value.ref b from ry)
    obtain ⟨mB, ob, _⟩ := ins_get I.hok hb'
    obtain ⟨od', J', _⟩ := ob.look
    exact ne_K (tb := .ref C) hu I.kIn J J'.type (by unfold PySem.W.notFirst; simp) N O.at_ O.fn go
  · obtain ⟨t, e⟩ := (show ∃ t, u = Value.int i t from ry)
    subst e
    exact ne_K (tb := .type "int") hu I.kIn J (PySem.W.Looks.of_pure rfl) (nf _ (by decide)) N O.at_ O.fn go
  · obtain ⟨t, e⟩ := (show ∃ t, u = Value.str z t from ry)
    subst e
    exact ne_K (tb := .type "str") hu I.kIn J (PySem.W.Looks.of_pure rfl) (nf _ (by decide)) N O.at_ O.fn go
  · cases (show u = Value.none from ry)
    exact ne_K (tb := .type "NoneType") hu I.kIn J (PySem.W.Looks.of_pure rfl) (nf _ (by decide)) N O.at_ O.fn go
  · cases (show u = Value.bool c from ry)
    exact ne_K (tb := .type "bool") hu I.kIn J (PySem.W.Looks.of_pure rfl) (nf _ (by decide)) N O.at_ O.fn go
/-- repr(b), b a truth value -/
theorem call_reprB : CallR X (.builtin "repr") (fun xs H Q => ∃ b, xs = [.bl b] ∧ Q (.str (if b then "True" else "False")) H) := by
  intro pins s σ H xs us Q I r h
  obtain ⟨b, rfl, q⟩ := h
  obtain ⟨u, rfl, rx⟩ := vals1 r
  cases (show u = Value.bool b from rx)
  refine PySem.P.repr_of_bool ⟨.str _, H, I.tok _, ⟨s.toks, rfl⟩, q⟩
end
end RtL

set_option maxHeartbeats 4000000
namespace K15
open PySem PySem.Spec PyProof.Rows L2 RtL ErL
section
variable {P : Program} {w : World} {K : Fr} {mg : Str → Option Value} {base : Heap} {f : Addr} {fd : FuncData}
abbrev IsintG (P : Program) (w : World) (K : Fr) (mg : Str → Option Value) (base : Heap) : Prop := ∃ f d, Gd P w K mg base 1 "is_an_integer" f d ["value"] (spIsint K)
/-! ### is_number -/
abbrev sIsnum : Stmt := top 9
theorem scIsnum : FnScope ["value"] ["value"] (defScope sIsnum) := ⟨rfl, rfl, rfl, by decide +kernel, rfl, by decide +kernel, by decide +kernel⟩
def spIsnum (K : Fr) : Sp := fun vs H Q _ => ∃ a t b, vs = [.ref a] ∧ RatAt K H a t b ∧ Q (.bl true) H
theorem ok_isnum (F : FunD K "is_number" "is_number" (defArgs sIsnum) (defBody sIsnum) (defScope sIsnum) [] [] f fd) (T : TT K mg) (D : IsintG P w K mg base) : FnOk P w K mg base CX0 2 f fd ["value"] (spIsnum K) := by
  obtain ⟨fI, dI, GI⟩ := D
  refine F.ok scIsnum (fun vs H Q E h => ?_) (fun cdv A outer s H vs Q E hr h => ?_)
  · obtain ⟨a, t, b, rfl, _⟩ := h
    rfl
  · obtain ⟨a, t, b, rfl, ra, q⟩ := h
    refine ⟨_, PSs.nox (pss_one (ps_ret (pe_or (pe_gd GI hr (by rfl) (pa_cons (pv 0) pa_nil)) (pe_one (pe_callB call_isi (by rfl) T.fre (by decide +kernel) (pa_cons (pv 0) (pa_cons (pe_glob (v := .ref (RC K)) (by rfl) (T.gl "Ratio" (by decide)) rfl) pa_nil))))))), ?_⟩
    obtain ⟨dx, ea⟩ := id ra
    exact ⟨_, rfl, _, rfl, .inr ⟨a, t, b, rfl, ra, false, rfl, iteF ⟨_, rfl, _, _, _, _, true, rfl, .own _, T.ty ea, T.kitR, q⟩⟩⟩
abbrev IsnumG (P : Program) (w : World) (K : Fr) (mg : Str → Option Value) (base : Heap) : Prop := ∃ f d, Gd P w K mg base 2 "is_number" f d ["value"] (spIsnum K)
/-! ### the last result against all -/
abbrev sComp : Stmt := top 23
theorem scComp : FnScope ["_law_made", "_law_pairs", "_law_last", "_law_pair", "_law_one", "_law_other", "_law_floor"] ["_law_made", "_law_pairs"] (defScope sComp) := ⟨rfl, rfl, rfl, by decide +kernel, rfl, by decide +kernel, by decide +kernel⟩
structure Cmps (P : Program) (w : World) (K : Fr) (mg : Str → Option Value) (base : Heap) : Prop where
  bw : ∃ d, Md P w K mg base 5 (rm K "is_below") d ["self", "other"] (spBelow K)
  eq : ∃ d, Md P w K mg base 1 (rm K "__eq__") d ["self", "other"] (spEq K)
  st : ∃ d, Md P w K mg base 1 (rm K "__str__") d ["self"] (spTxt K rtxt)
def spComp (K : Fr) : SpG := fun vs H Q => ∃ (lm lp : Addr) (c : List It1) (z : It1), vs = [.ref lm, .ref lp] ∧ Chain K H lp lm (c ++ [z]) ∧ ∀ H', Same H H' → Q (.bl true) H'
theorem Num.ofR {H : Hp} {a : Addr} {t b : Int} (h : RatAt K H a t b) : Num K H (.ref a) t b := .inl ⟨a, rfl, h⟩
theorem dp_pair {H : Hp} {t : Addr} {a b : Int} (h : H t = some (.tup [.int a, .int b])) : Dp K H (.ref t) (.tuple [.int a, .int b]) := .tup (SqT.of h) (.cons (.int a) (.cons (.int b) .nil))
theorem floor_of {a b : Int} (h : 1 ≤ b) : a.fdiv b * b ≤ a ∧ a < (a.fdiv b + 1) * b := by
  rw [Int.fdiv_eq_ediv_of_nonneg a (by omega)]
  exact ⟨Int.ediv_mul_le a (by omega), Int.lt_ediv_add_one_mul_self a (by omega)⟩
theorem floor_bd {n : Nat} {a b : Int} (h : 1 ≤ b) (ha : Bd n a) : Bd n (a.fdiv b) := by
  rw [Int.fdiv_eq_ediv_of_nonneg a (by omega)]
  exact Nat.lt_of_le_of_lt (Int.natAbs_ediv_le_natAbs a b) ha
theorem eqv_pair (a b c d : Int) : PyData.eqv (.tuple [.int a, .int b]) (.tuple [.int c, .int d]) = (decide (a = c) && decide (b = d)) := by
  show (decide (a = c) && (decide (b = d) && true)) = _
  rw [Bool.and_true]
theorem ok_comp (F : FunD K "_law_compared" "_law_compared" (defArgs sComp) (defBody sComp) (defScope sComp) [] [] f fd) (T : TT K mg) (D : IsnumG P w K mg base) (C : Cmps P w K mg base) : FnG P w K mg base 6 f fd ["_law_made", "_law_pairs"] (spComp K) := by
  obtain ⟨fN, dN, GN⟩ := D
  obtain ⟨⟨dB, MB⟩, ⟨dE, ME⟩, ⟨dS, MS⟩⟩ := C
  have NE : NeOf K (RC K) (rm K "__eq__") := ⟨T.ne.1, T.ne.2⟩
  refine fnG_D F scComp (fun vs H Q h => ?_) (fun cdv A outer s H vs Q hr hG h => ?_)
  · obtain ⟨lm, lp, c, z, rfl, _⟩ := h
    rfl
  · obtain ⟨lm, lp, c, z, rfl, hc, q⟩ := h
    have hu : (A.deeper (envOfC "_law_compared" (defScope sComp) s.heap.objs.size f cdv)).units + 64 < cLine := by have := hr.un; omega
    refine ⟨_, PSs.nox (pss_cons (ps_par (i := 2) (j := 3) rfl scComp.nd rfl rfl (by decide) rfl rfl (pa_cons (pe_ix ix_list (pv 0) (pe_un un_neg pe_int) (fun _ _ => rfl)) (pa_cons (pe_ix ix_list (pv 1) (pe_un un_neg pe_int) (fun _ _ => rfl)) pa_nil)) (by rfl))
      (pss_cons (ps_for PassesOwn.never rfl (pi_zip (by rfl) T.fre (pa_cons (pv 0) (pa_cons (pv 1) pa_nil))) (pg_tup (by rfl) (pgs_cons (pg_name (i := 4) scComp.nd rfl (.inl rfl)) (pgs_cons (pg_name (i := 5) scComp.nd rfl (.inl rfl)) pgs_nil)))
        (pss_cons (ps_if (pt_cmpR op_ne (pe_callB call_reprB (by rfl) T.fre (by decide +kernel) (pa_cons (pe_meth (pv 2) T.cl T.below MB.ok hr MB.bd .nil pass0 (pa_cons (pv 4) pa_nil)) pa_nil))
            (pe_callB call_reprB (by rfl) T.fre (by decide +kernel) (pa_cons (pe_cmpR op_lt (pe_op op_mulW (pe_ix ix_tup (pv 3) pe_int (fun _ _ => rfl)) (pe_ix ix_tup (pv 5) pe_int (fun _ _ => rfl))) (pe_op op_mulW (pe_ix ix_tup (pv 5) pe_int (fun _ _ => rfl)) (pe_ix ix_tup (pv 3) pe_int (fun _ _ => rfl))) (nomark _)) pa_nil)) (nomark _)) (pss_one (ps_ret pe_bl)) pss_nil)
        (pss_one (ps_if (PW.pt (pw_or (pt_cmpR op_ne (pe_cmpR (op_ownEq T.eq ME.ok (hr.mono (by decide)) ME.bd pass0) (pv 2) (pv 4) (nomark _)) (pe_cmpR (op_eqD hu) (pv 3) (pv 5) (nomark _)) (nomark _))
          (pw_or1 (pt_cmpR op_eq (pe_cmpR (op_ownNe T.eq NE ME.ok (hr.mono (by decide)) ME.bd pass0) (pv 2) (pv 4) (nomark _)) (pe_cmpR (op_eqD hu) (pv 3) (pv 5) (nomark _)) (nomark _))))) (pss_one (ps_ret pe_bl)) pss_nil))))
      (pss_cons (ps_set (i := 6) scComp.nd rfl (Or.inl rfl) (pe_op op_fdivX (pe_ix ix_tup (pv 3) pe_int (fun _ _ => rfl)) (pe_ix ix_tup (pv 3) pe_int (fun _ _ => rfl))))
      (pss_cons (ps_if (PW.pt (pw_or (pt_cmpR op_isnot_bl (pe_meth (pv 2) T.cl T.below MB.ok hr MB.bd .nil pass0 (pa_cons (pv 6) pa_nil)) pe_bl (nomark _)) (pw_or1 (pt_cmpR op_isnot_bl (pe_meth (pv 2) T.cl T.below MB.ok hr MB.bd .nil pass0 (pa_cons (pe_op op_add (pv 6) pe_int) pa_nil)) pe_bl (nomark _))))) (pss_one (ps_ret pe_bl)) pss_nil)
      (pss_one (ps_ret (pe_and (pe_cmpR (op_ownNe T.eq NE ME.ok (hr.mono (by decide)) ME.bd pass0) (pv 2) (pe_ix ix_tup (pv 3) pe_int (fun _ _ => rfl)) (nomark _))
        (pe_and (pe_cmpR (op_ownNe T.eq NE ME.ok (hr.mono (by decide)) ME.bd pass0) (pv 2) (pv 6) (nomark _))
        (pe_and (pe_cmpR op_is_bl (pe_gd GN (hr.mono (by decide)) (by rfl) (pa_cons (pv 2) pa_nil)) pe_bl (nomark _))
        (pe_one (pe_cmpR (op_ownNe T.eq NE ME.ok (hr.mono (by decide)) ME.bd pass0) (pv 2) (pe_callTy (call_strOwn (T.spc "__str__" (by decide)).1 (T.spc "__str__" (by decide)).2 MS.ok (hr.mono (by decide)) MS.bd) (by rfl) T.fre (by decide +kernel) (pa_cons (pv 2) pa_nil)) (nomark _)))))))))))), ?_⟩
    have em : (c ++ [z]).map (fun x => V.ref x.a) = c.map (fun x => V.ref x.a) ++ [V.ref z.a] := by rw [List.map_append]; rfl
    have ep : (c ++ [z]).map (fun x => V.ref x.t) = c.map (fun x => V.ref x.t) ++ [V.ref z.t] := by rw [List.map_append]; rfl
    have hz := hc.ok z (by simp)
    have nz := hc.nm z (by simp)
    have B : ∀ {i : Int}, Bd 84 i → Bd 1000 i := fun h => bd_up h (by decide)
    obtain ⟨dz, ez⟩ := id hz.ra
    refine ⟨_, rfl, _, rfl, lm, _, _, _, rfl, rfl, SqL.of hc.ml, by rw [em]; exact atI_last _ _, _, rfl, _, rfl, lp, _, _, _, rfl, rfl, SqL.of hc.pl, by rw [ep]; exact atI_last _ _, _, _, rfl, ?_⟩
    refine ⟨_, rfl, _, rfl, lm, lp, _, _, rfl, SqL.of hc.ml, SqL.of hc.pl, RZ.for_zipL (by rw [List.length_map, List.length_map]) (fun i σ H2 => ∃ v4 v5, σ = [some (.ref lm), some (.ref lp), some (.ref z.a), some (.ref z.t), v4, v5, none] ∧ Same H H2)
      ⟨none, none, rfl, Same.refl _⟩ (fun i σ H2 ⟨_, _, _, s2⟩ => ⟨SqL.of (s2 _ _ hc.ml), SqL.of (s2 _ _ hc.pl)⟩) ?_ ?_⟩
    · rintro i x y t σ H2 hx hy ⟨v4, v5, rfl, s2⟩ nt
      obtain ⟨it, hi, rfl⟩ : ∃ it, (c ++ [z])[i]? = some it ∧ x = .ref it.a := by
        rw [List.getElem?_map] at hx
        cases e : (c ++ [z])[i]? with
        | none =>
          rw [e] at hx
          cases hx
        | some it =>
          rw [e] at hx
          exact ⟨it, rfl, (Option.some.inj hx).symm⟩
      obtain rfl : y = .ref it.t := by
        rw [List.getElem?_map, hi] at hy
        exact (Option.some.inj hy).symm
      have oi := hc.ok it (List.mem_of_getElem? hi)
      have ni := hc.nm it (List.mem_of_getElem? hi)
      have s3 := s2.trans (same_new (o := .tup [.ref it.a, .ref it.t]) nt)
      obtain ⟨dz2, ez2⟩ := hz.ra.same s3
      refine ⟨t, _, rfl, SqT.of upd_same, rfl, _, _, rfl, _, _, rfl, rfl, ?_⟩
      refine ⟨_, rfl, z.a, dz2, _, rfl, ez2, rfl, _, rfl, z.a, _, z.p.1, z.p.2, it.p.1, it.p.2, rfl, hz.ra.same s3, .ofR (oi.ra.same s3), B nz.b1, B nz.b2, B ni.b1, B ni.b2, fun H3 s4 => ?_⟩
      have s5 := s3.trans s4
      have tz := s5 _ _ hz.tp
      have ti := s5 _ _ oi.tp
      refine ⟨_, rfl, _, rfl, z.t, _, _, _, rfl, rfl, SqT.of tz, atI_nat (j := 0) rfl, _, rfl, it.t, _, _, _, rfl, rfl, SqT.of ti, atI_nat (j := 1) rfl, z.p.1, it.p.2, rfl, rfl, cm (B nz.b1) (B ni.b2), _, rfl, it.t, _, _, _, rfl, rfl, SqT.of ti, atI_nat (j := 0) rfl, _, rfl, z.t, _, _, _, rfl, rfl, SqT.of tz, atI_nat (j := 1) rfl, it.p.1, z.p.2, rfl, rfl, cm (B ni.b1) (B nz.b2), _, _, rfl, rfl, _, rfl, ?_⟩
      refine ⟨rfl, _, rfl, ite2 (fun h => ?_) (fun _ => ?_)⟩
      · simp at h
      obtain ⟨dz3, ez3⟩ := hz.ra.same s5
      obtain ⟨di3, ei3⟩ := oi.ra.same s5
      refine ⟨_, rfl, _, rfl, z.a, dz3, _, rfl, ez3, .inl ⟨it.a, di3, _, rfl, ei3⟩, z.a, _, z.p.1, z.p.2, rfl, hz.ra.same s5, .inl ⟨it.a, it.p.1, it.p.2, rfl, oi.ra.same s5, ?_⟩⟩
      refine ⟨_, rfl, _, rfl, _, _, dp_pair tz, dp_pair ti, rfl, rfl, ?_⟩
      rw [eqv_pair]
      refine ⟨rfl, _, rfl, ite2 (fun h => ?_) (fun _ => ?_)⟩
      · simp at h
      refine ⟨_, rfl, _, rfl, z.a, dz3, _, rfl, ez3, .inl ⟨it.a, di3, _, rfl, ei3⟩, z.a, _, z.p.1, z.p.2, rfl, hz.ra.same s5, .inl ⟨it.a, it.p.1, it.p.2, rfl, oi.ra.same s5, _, rfl, ?_⟩⟩
      refine ⟨_, rfl, _, rfl, _, _, dp_pair tz, dp_pair ti, rfl, rfl, ?_⟩
      rw [eqv_pair]
      refine ⟨rfl, _, rfl, ite2 (fun h => ?_) (fun _ => ?_)⟩
      · cases hh : (decide (z.p.1 = it.p.1) && decide (z.p.2 = it.p.2)) <;> rw [hh] at h <;> simp at h
      exact ⟨_, _, rfl, s5⟩
    · rintro σ H2 ⟨v4, v5, rfl, s2⟩
      have tz := s2 _ _ hz.tp
      obtain ⟨f1, f2⟩ := floor_of (a := z.p.1) nz.lo.1
      have bf := floor_bd (a := z.p.1) nz.lo.1 nz.b1
      obtain ⟨dz2, ez2⟩ := hz.ra.same s2
      refine ⟨_, rfl, z.t, _, _, _, rfl, rfl, SqT.of tz, atI_nat (j := 0) rfl, _, rfl, z.t, _, _, _, rfl, rfl, SqT.of tz, atI_nat (j := 1) rfl, z.p.1, z.p.2, rfl, rfl, ⟨nz.lo.ne, bd_log nz.b2 (by decide)⟩, ?_⟩
      refine ⟨_, rfl, z.a, dz2, _, rfl, ez2, rfl, _, rfl, z.a, _, z.p.1, z.p.2, (z.p.1.fdiv z.p.2), 1, rfl, hz.ra.same s2, .inr ⟨rfl, rfl⟩, B nz.b1, B nz.b2, B bf, bd1 (by decide), fun H3 s3 => ?_⟩
      refine ⟨_, _, rfl, rfl, _, rfl, ite2 (fun h => ?_) (fun _ => ?_)⟩
      · have e : decide (z.p.1 * 1 < (z.p.1.fdiv z.p.2) * z.p.2) = false := decide_eq_false (by omega)
        rw [e] at h
        simp at h
      have s4 := s2.trans s3
      obtain ⟨dz3, ez3⟩ := hz.ra.same s4
      refine ⟨_, rfl, z.a, dz3, _, rfl, ez3, rfl, _, rfl, _, _, rfl, rfl, z.a, _, z.p.1, z.p.2, (z.p.1.fdiv z.p.2) + 1, 1, rfl, hz.ra.same s4, .inr ⟨rfl, rfl⟩, B nz.b1, B nz.b2, bd_up (bd_add bf (bd1 (by decide))) (by decide), bd1 (by decide), fun H4 s5 => ?_⟩
      refine ⟨_, _, rfl, rfl, _, rfl, ite2 (fun h => ?_) (fun _ => ?_)⟩
      · have e : decide (z.p.1 * 1 < ((z.p.1.fdiv z.p.2) + 1) * z.p.2) = true := decide_eq_true (by omega)
        rw [e] at h
        simp at h
      have s6 := s4.trans s5
      have rz := hz.ra.same s6
      have tz6 := s6 _ _ hz.tp
      obtain ⟨dz4, ez4⟩ := id rz
      refine ⟨_, rfl, _, rfl, z.t, _, _, _, rfl, rfl, SqT.of tz6, atI_nat (j := 0) rfl, z.a, dz4, _, rfl, ez4, .inr (.inl ⟨_, rfl⟩), z.a, _, z.p.1, z.p.2, rfl, rz, .inr ⟨.inl ⟨_, rfl⟩, false, rfl, _, rfl, iteT ?_⟩⟩
      refine ⟨_, rfl, _, rfl, z.a, dz4, _, rfl, ez4, .inr (.inl ⟨_, rfl⟩), z.a, _, z.p.1, z.p.2, rfl, rz, .inr ⟨.inl ⟨_, rfl⟩, false, rfl, _, rfl, iteT ?_⟩⟩
      refine ⟨_, rfl, z.a, z.p.1, z.p.2, rfl, rz, _, _, rfl, rfl, _, rfl, iteT ?_⟩
      refine ⟨_, rfl, _, rfl, z.a, dz4, _, rfl, ez4, z.a, z.p.1, z.p.2, rfl, rz, B nz.b1, B nz.b2, ⟨_, rfl⟩, z.a, dz4, _, rfl, ez4, .inr (.inr (.inl ⟨_, rfl⟩)), z.a, _, z.p.1, z.p.2, rfl, rz, .inr ⟨.inr ⟨_, rfl⟩, false, rfl, ?_⟩⟩
      exact q _ s6
end
end K15

set_option maxHeartbeats 4000000
namespace K15
open PySem PySem.Spec PyProof.Rows L2 RtL ErL
theorem cut3 (xs : List V) : cutV xs (some (-3)) none = xs.drop (xs.length - 3) := by
  have e1 : HT.sIx xs.length 0 (some (-3)) = xs.length - 3 := by
    show (if (-3 : Int) < 0 then ((-3 : Int) + (xs.length : Int)).toNat else min (-3 : Int).toNat xs.length) = _
    rw [if_pos (by decide)]
    omega
  have e2 : HT.sIx xs.length xs.length none = xs.length := rfl
  unfold cutV
  rw [e1, e2]
  refine List.take_of_length_le ?_
  rw [List.length_drop]
  omega
theorem addP_zero {q : P2} (h : Low q.1 q.2) : addP q (0, 1) = q := by
  have e := low_id h
  show (lowT (q.1 * 1 + 0 * q.2) (q.2 * 1), lowB (q.1 * 1 + 0 * q.2) (q.2 * 1)) = q
  rw [Int.mul_one, Int.zero_mul, Int.add_zero, Int.mul_one, e.1, e.2]
theorem addP_low {p q : P2} (h : p.2 ≠ 0) (h' : q.2 ≠ 0) : Low (addP p q).1 (addP p q).2 := low_low (Int.mul_ne_zero h h')
theorem sum3 (ds : List P2) (h0 : 0 < ds.length) (h3 : ds.length ≤ 3) (hl : ∀ p ∈ ds, Low p.1 p.2) : sumP (0, 1) ((ds ++ [(0, 1), (0, 1)]).take 3) = sumP (0, 1) ds := by
  match ds, h0, h3, hl with
  | [p], _, _, hl =>
    have l1 := addP_low (p := (0, 1)) (by decide) (hl p (by simp)).ne
    show addP (addP (addP (0, 1) p) (0, 1)) (0, 1) = addP (0, 1) p
    rw [addP_zero l1, addP_zero l1]
  | [p, q], _, _, hl =>
    have l1 := addP_low (p := (0, 1)) (by decide) (hl p (by simp)).ne
    have l2 := addP_low l1.ne (hl q (by simp)).ne
    show addP (addP (addP (0, 1) p) q) (0, 1) = addP (addP (0, 1) p) q
    rw [addP_zero l2]
  | [p, q, r], _, _, _ => rfl
  | _ :: _ :: _ :: _ :: _, _, h, _ => exact absurd h (by simp)
section
variable {P : Program} {w : World} {K : Fr} {mg : Str → Option Value} {base : Heap} {f : Addr} {fd : FuncData}
abbrev IspG (P : Program) (w : World) (K : Fr) (mg : Str → Option Value) (base : Heap) : Prop := ∃ f d, GdG P w K mg base 4 "_law_is_pair" f d ["_law_one", "_law_pair"] (spIsp K)
abbrev TotR (P : Program) (w : World) (K : Fr) (mg : Str → Option Value) (base : Heap) : Prop := FnR P w K mg base CX0 7 (recA K (RC K) "total" "classmethod") (spTot K)
abbrev sTotd : Stmt := top 24
theorem scTotd : FnScope ["_law_made", "_law_pairs", "_law_high", "_law_low", "_law_pair", "_law_some"] ["_law_made", "_law_pairs"] (defScope sTotd) := ⟨rfl, rfl, rfl, by decide +kernel, rfl, by decide +kernel, by decide +kernel⟩
def spTotd (K : Fr) : SpG := fun vs H Q => ∃ (lm lp : Addr) (c : List It1), vs = [.ref lm, .ref lp] ∧ Chain K H lp lm c ∧ 0 < c.length ∧ c.length < 1000 ∧ ∀ H', Same H H' → Q (.bl true) H'
theorem ok_totd (F : FunD K "_law_totalled" "_law_totalled" (defArgs sTotd) (defBody sTotd) (defScope sTotd) [] [] f fd) (T : TT K mg) (D : LeastG P w K mg base) (C : IspG P w K mg base) (FT : TotR P w K mg base) : FnG P w K mg base 8 f fd ["_law_made", "_law_pairs"] (spTotd K) := by
  obtain ⟨fL, dL, GL⟩ := D
  obtain ⟨fI, dI, GI⟩ := C
  refine fnG_D F scTotd (fun vs H Q h => ?_) (fun cdv A outer s H vs Q hr hG h => ?_)
  · obtain ⟨lm, lp, c, rfl, _⟩ := h
    rfl
  · obtain ⟨lm, lp, c, rfl, hc, l0, l1, q⟩ := h
    refine ⟨_, PSs.nox (pss_cons (ps_asg (pe_tup (pa_cons pe_int (pa_cons pe_int pa_nil))) (pg_tup (by rfl) (pgs_cons (pg_name (i := 2) scTotd.nd rfl (.inl rfl)) (pgs_cons (pg_name (i := 3) scTotd.nd rfl (.inl rfl)) pgs_nil))))
      (pss_cons (ps_for PassesOwn.never rfl (pi_list (pe_slice sl_list (pv 1) (po_some (pe_un un_neg pe_int)) po_none)) (pg_name (i := 4) scTotd.nd rfl (.inl rfl))
        (pss_one (ps_asg (pe_gd GL (hr.mono (by decide)) (by rfl) (pa_cons (pe_op op_add (pe_op op_mulW (pv 2) (pe_ix ix_tup (pv 4) pe_int (fun _ _ => rfl))) (pe_op op_mulW (pe_ix ix_tup (pv 4) pe_int (fun _ _ => rfl)) (pv 3))) (pa_cons (pe_op op_mulW (pv 3) (pe_ix ix_tup (pv 4) pe_int (fun _ _ => rfl))) pa_nil)))
          (pg_tup (by rfl) (pgs_cons (pg_name (i := 2) scTotd.nd rfl (.inl rfl)) (pgs_cons (pg_name (i := 3) scTotd.nd rfl (.inl rfl)) pgs_nil))))))
      (pss_cons (ps_set (i := 5) scTotd.nd rfl (Or.inl rfl) (pe_op op_cat (pe_slice sl_list (pv 0) (po_some (pe_un un_neg pe_int)) po_none) (pe_lst (pa_cons pe_int (pa_cons pe_int pa_nil)))))
      (pss_one (ps_ret (pe_and (pe_gg GI (hr.mono (by decide)) hG (by rfl) (pa_cons (ClX.pe_cmeth (pe_glob (v := .ref (RC K)) (by rfl) (T.gl "Ratio" (by decide)) rfl) T.cm.1 T.cm.2 FT hr pass0 (pa_cons (pe_ix ix_list (pv 5) pe_int (fun _ _ => rfl)) (pa_cons (pe_ix ix_list (pv 5) pe_int (fun _ _ => rfl)) (pa_cons (pe_ix ix_list (pv 5) pe_int (fun _ _ => rfl)) pa_nil))))
            (pa_cons (pe_tup (pa_cons (pv 2) (pa_cons (pv 3) pa_nil))) pa_nil)))
          (pe_one (pe_gg GI (hr.mono (by decide)) hG (by rfl) (pa_cons (pe_cmeth0 (pe_glob (v := .ref (RC K)) (by rfl) (T.gl "Ratio" (by decide)) rfl) T.cm.1 T.cm.2 FT hr pass0) (pa_cons (pe_tup (pa_cons pe_int (pa_cons pe_int pa_nil))) pa_nil)))))))))), ?_⟩
    have two : 2 ≤ sizeLine := by rw [sizeLine_eq]; decide
    have sub : ∀ x ∈ c.drop (c.length - 3), x ∈ c := fun x hx => List.mem_of_mem_drop hx
    have ld : (c.drop (c.length - 3)).length ≤ 3 ∧ 0 < (c.drop (c.length - 3)).length := by
      rw [List.length_drop]
      omega
    generalize hd : c.drop (c.length - 3) = d at sub ld
    have cutp : cutV (c.map fun x => V.ref x.t) (some (-3)) none = d.map fun x => V.ref x.t := by rw [cut3, List.length_map, ← List.map_drop, hd]
    have cutm : cutV (c.map fun x => V.ref x.a) (some (-3)) none = d.map fun x => V.ref x.a := by rw [cut3, List.length_map, ← List.map_drop, hd]
    refine ⟨two, fun t0 nt0 => ⟨t0, _, rfl, SqT.of upd_same, rfl, _, _, rfl, _, _, rfl, rfl, ?_⟩⟩
    have s0 := same_new (o := .tup [.int 0, .int 1]) nt0
    refine ⟨_, rfl, _, rfl, _, rfl, lp, _, rfl, SqL.of (s0 _ _ hc.pl), fun sl nsl => ?_⟩
    have s1 := s0.trans (same_new (o := .lst (cutV (c.map fun x => V.ref x.t) (some (-3)) none)) nsl)
    have hsl : (upd (upd H t0 (.tup [.int 0, .int 1])) sl (.lst (cutV (c.map fun x => V.ref x.t) (some (-3)) none))) sl = some (.lst (d.map fun x => V.ref x.t)) := by
      rw [← cutp]
      exact upd_same
    generalize upd (upd H t0 (.tup [.int 0, .int 1])) sl (.lst (cutV (c.map fun x => V.ref x.t) (some (-3)) none)) = H1 at s1 hsl ⊢
    have bd : ∀ i : Nat, BdP 256 (sumP (0, 1) ((d.map It1.p).take i)) := fun i => by
      have z := sumP_bd (ps := (d.map It1.p).take i) bdP01 (m := 84) fun r hr => by
        obtain ⟨x, hx, rfl⟩ := List.mem_map.mp (List.mem_of_mem_take hr)
        have n := hc.nm x (sub x hx)
        exact ⟨n.b1, n.b2, n.lo.ne⟩
      have hlen : ((d.map It1.p).take i).length ≤ 3 := by rw [List.length_take, List.length_map]; omega
      have le : 1 + ((d.map It1.p).take i).length * (84 + 1) ≤ 256 := by omega
      exact ⟨bd_up z.1 le, bd_up z.2.1 le, z.2.2⟩
    refine ⟨sl, rfl, ⟨_, SqL.of hsl⟩, for_list (xs := d.map fun x => V.ref x.t) (fun i σ H2 => ∃ v4, σ = [some (.ref lm), some (.ref lp), some (.int (sumP (0, 1) ((d.map It1.p).take i)).1), some (.int (sumP (0, 1) ((d.map It1.p).take i)).2), v4, none] ∧ Same H1 H2)
      ⟨none, rfl, Same.refl _⟩ (fun i σ H2 _ ⟨_, _, s2⟩ => SqL.of (s2 _ _ hsl)) ?_ ?_⟩
    · rintro i x σ H2 hx ⟨v4, rfl, s2⟩
      obtain ⟨it, hi, rfl⟩ : ∃ it, d[i]? = some it ∧ x = .ref it.t := by
        rw [List.getElem?_map] at hx
        cases e : d[i]? with
        | none =>
          rw [e] at hx
          cases hx
        | some it =>
          rw [e] at hx
          exact ⟨it, rfl, (Option.some.inj hx).symm⟩
      have mi := sub it (List.mem_of_getElem? hi)
      have ti := (s1.trans s2) _ _ (hc.ok it mi).tp
      have ni := hc.nm it mi
      have b := bd i
      have ne := Int.mul_ne_zero b.2.2 ni.lo.ne
      refine ⟨_, rfl, _, rfl, it.t, _, _, _, rfl, rfl, SqT.of ti, atI_nat (j := 1) rfl, _, it.p.2, rfl, rfl, cm (bd_up b.1 (by decide)) (bd_up ni.b2 (by decide)), _, rfl, it.t, _, _, _, rfl, rfl, SqT.of ti, atI_nat (j := 0) rfl, _, rfl, it.p.1, _, rfl, rfl, cm (bd_up ni.b1 (by decide)) (bd_up b.2.1 (by decide)), _, _, rfl, rfl, ?_⟩
      refine ⟨_, rfl, _, rfl, it.t, _, _, _, rfl, rfl, SqT.of ti, atI_nat (j := 1) rfl, _, it.p.2, rfl, rfl, cm (bd_up b.2.1 (by decide)) (bd_up ni.b2 (by decide)), _, _, rfl, ne, bd_up (bd_mul b.2.1 ni.b2) (by decide), fun t H3 s3 h3 => ?_⟩
      have e : sumP (0, 1) ((d.map It1.p).take (i + 1)) = addP (sumP (0, 1) ((d.map It1.p).take i)) it.p := by
        rw [List.take_add_one, List.getElem?_map, hi]
        exact sumP_snoc _ _ _
      refine ⟨t, _, rfl, SqT.of h3, rfl, _, _, rfl, _, _, rfl, rfl, some (.ref it.t), ?_, s2.trans s3⟩
      rw [e]
      rfl
    · rintro σ H2 ⟨v4, rfl, s2⟩
      rw [List.length_map]
      have et : (d.map It1.p).take d.length = d.map It1.p := by
        rw [← List.length_map (f := It1.p) (as := d), List.take_length]
      rw [et]
      have b := bd d.length
      rw [et] at b
      have s3 := s1.trans s2
      have hm2 := s3 _ _ hc.ml
      refine ⟨_, rfl, _, rfl, _, rfl, lm, _, rfl, SqL.of hm2, fun ls nls => ⟨two, fun l2 nl2 => ?_⟩⟩
      have s4 := same_new (o := .lst (cutV (c.map fun x => V.ref x.a) (some (-3)) none)) nls
      have hls : (upd H2 ls (.lst (cutV (c.map fun x => V.ref x.a) (some (-3)) none))) ls = some (.lst (d.map fun x => V.ref x.a)) := by
        rw [← cutm]
        exact upd_same
      generalize upd H2 ls (.lst (cutV (c.map fun x => V.ref x.a) (some (-3)) none)) = H3 at s4 hls nl2 ⊢
      have s5 := same_new (o := .lst [.int 0, .int 0]) nl2
      refine ⟨ls, l2, _, _, rfl, rfl, s5 _ _ hls, upd_same, by
        rw [List.length_map, sizeLine_eq]
        show d.length + 2 ≤ _
        omega, fun sm nsm => ?_⟩
      have s6 := same_new (o := .lst ((d.map fun x => V.ref x.a) ++ [.int 0, .int 0])) nsm
      have s7 := ((s3.trans s4).trans s5).trans s6
      have nums : ∀ (i : Nat) (v : V), ((d.map fun x => V.ref x.a) ++ [V.int 0, V.int 0])[i]? = some v → ∃ p, (d.map It1.p ++ [(0, 1), (0, 1)])[i]? = some p ∧ Num K (upd (upd H3 l2 (.lst [.int 0, .int 0])) sm (.lst ((d.map fun x => V.ref x.a) ++ [.int 0, .int 0]))) v p.1 p.2 ∧ BdP 200 p := fun i v hv => by
        by_cases hi : i < d.length
        · rw [List.getElem?_append_left (by rw [List.length_map]; exact hi), List.getElem?_map, List.getElem?_eq_getElem hi] at hv
          have m := sub d[i] (List.getElem_mem hi)
          have n := hc.nm _ m
          refine ⟨d[i].p, ?_, ?_, bd_up n.b1 (by decide), bd_up n.b2 (by decide), n.lo.ne⟩
          · rw [List.getElem?_append_left (by rw [List.length_map]; exact hi), List.getElem?_map, List.getElem?_eq_getElem hi]
            rfl
          · rw [← Option.some.inj hv]
            exact .ofR ((hc.ok _ m).ra.same s7)
        · rw [List.getElem?_append_right (by rw [List.length_map]; omega), List.length_map] at hv
          refine ⟨(0, 1), ?_, ?_, by decide, by decide, by decide⟩
          · rw [List.getElem?_append_right (by rw [List.length_map]; omega), List.length_map]
            match i - d.length, hv with
            | 0, _ => rfl
            | 1, _ => rfl
            | _ + 2, h => cases h
          · match i - d.length, hv with
            | 0, h => exact .inr ⟨(Option.some.inj h).symm, rfl⟩
            | 1, h => exact .inr ⟨(Option.some.inj h).symm, rfl⟩
            | _ + 2, h => cases h
      have sum := sum3 (d.map It1.p) (by rw [List.length_map]; exact ld.2) (by rw [List.length_map]; exact ld.1) fun p hp => by
        obtain ⟨x, hx, rfl⟩ := List.mem_map.mp hp
        exact (hc.nm x (sub x hx)).lo
      have ll : ((d.map fun x => V.ref x.a) ++ [V.int 0, V.int 0]).length = (d.map It1.p ++ [((0, 1) : P2), (0, 1)]).length := by simp
      have l3 : 3 ≤ ((d.map fun x => V.ref x.a) ++ [V.int 0, V.int 0]).length := by
        rw [List.length_append, List.length_map]
        show 3 ≤ d.length + 2
        omega
      have hsm : (upd (upd H3 l2 (.lst [.int 0, .int 0])) sm (.lst ((d.map fun x => V.ref x.a) ++ [.int 0, .int 0]))) sm = some (.lst ((d.map fun x => V.ref x.a) ++ [.int 0, .int 0])) := upd_same
      generalize upd (upd H3 l2 (.lst [.int 0, .int 0])) sm (.lst ((d.map fun x => V.ref x.a) ++ [.int 0, .int 0])) = H4 at s6 s7 nums hsm ⊢
      generalize (d.map fun x => V.ref x.a) ++ [V.int 0, V.int 0] = L at nums ll l3 hsm
      generalize hP : d.map It1.p ++ [((0, 1) : P2), (0, 1)] = PS at nums sum ll
      obtain ⟨a0, a1, a2, rest, rfl⟩ : ∃ a0 a1 a2 rest, L = a0 :: a1 :: a2 :: rest := by
        match L, l3 with
        | a0 :: a1 :: a2 :: rest, _ => exact ⟨a0, a1, a2, rest, rfl⟩
      refine ⟨rfl, _, rfl, sm, _, _, _, rfl, rfl, SqL.of hsm, atI_nat (j := 0) rfl, _, rfl, sm, _, _, _, rfl, rfl, SqL.of hsm, atI_nat (j := 1) rfl, _, rfl, sm, _, _, _, rfl, rfl, SqL.of hsm, atI_nat (j := 2) rfl, [a0, a1, a2], PS.take 3, rfl, ⟨?_, fun i v hv => ?_⟩, ?_, fun x H5 s8 r8 => ?_⟩
      · rw [List.length_take, ← ll]
        show min 3 (rest.length + 3) = 3
        omega
      · have hi : i < 3 := (List.getElem?_eq_some_iff.mp hv).1
        rw [List.getElem?_take, if_pos hi]
        refine nums i v ?_
        match i, hi, hv with
        | 0, _, h => exact h
        | 1, _, h => exact h
        | 2, _, h => exact h
      · rw [List.length_take]
        omega
      rw [sum] at r8
      have s9 := s7.trans s8
      refine ⟨_, rfl, _, rfl, two, fun tp ntp => ?_⟩
      have s10 := same_new (o := .tup [.int (sumP (0, 1) (d.map It1.p)).1, .int (sumP (0, 1) (d.map It1.p)).2]) ntp
      refine ⟨x, tp, _, _, rfl, r8.same s10, upd_same, bd_up b.1 (by decide), bd_up b.2.1 (by decide), fun H6 s11 => ⟨_, rfl, iteT ?_⟩⟩
      refine ⟨rfl, [], [], rfl, ⟨rfl, fun i v h => nomatch h⟩, by decide, fun y H7 s12 r12 => ⟨two, fun tq ntq => ?_⟩⟩
      have s13 := same_new (o := .tup [.int 0, .int 1]) ntq
      refine ⟨y, tq, 0, 1, rfl, r12.same s13, upd_same, bd_up (n := 1) (by decide) (by decide), bd_up (n := 1) (by decide) (by decide), fun H8 s14 => ?_⟩
      exact q _ (((((s9.trans s10).trans s11).trans s12).trans s13).trans s14)
end
end K15

set_option maxHeartbeats 4000000
namespace K15
open PySem PySem.Spec PyProof.Rows L2 RtL ErL
section
variable {P : Program} {w : World} {K : Fr} {mg : Str → Option Value} {base : Heap} {f : Addr} {fd : FuncData}
theorem chain_push {H : Hp} {lp lm : Addr} {c : List It1} {x : It1} (h : Chain K H lp lm c) (ho : x.Ok K H) (hn : x.Nm) (ne : lp ≠ lm) :
    Chain K (upd (upd H lp (.lst ((c.map fun x => V.ref x.t) ++ [.ref x.t]))) lm (.lst ((c.map fun x => V.ref x.a) ++ [.ref x.a]))) lp lm (c ++ [x]) := by
  have st : ∀ y : It1, y.Ok K H → y.Ok K (upd (upd H lp (.lst ((c.map fun x => V.ref x.t) ++ [.ref x.t]))) lm (.lst ((c.map fun x => V.ref x.a) ++ [.ref x.a]))) := fun y hy => by
    refine ⟨?_, ?_⟩
    · rw [upd_ne (ne_of hy.tp h.ml (by intro z; cases z)), upd_ne (ne_of hy.tp h.pl (by intro z; cases z))]
      exact hy.tp
    · obtain ⟨dx, e⟩ := hy.ra
      refine ⟨dx, ?_⟩
      rw [upd_ne (ne_of e h.ml (by intro z; cases z)), upd_ne (ne_of e h.pl (by intro z; cases z))]
      exact e
  refine ⟨?_, ?_, fun y hy => ?_, fun y hy => ?_⟩
  · rw [upd_ne ne, upd_same, List.map_append]
    rfl
  · rw [upd_same, List.map_append]
    rfl
  · rcases List.mem_append.mp hy with z | z
    · exact st y (h.ok y z)
    · rw [List.mem_singleton.mp z]
      exact st x ho
  · rcases List.mem_append.mp hy with z | z
    · exact h.nm y z
    · rw [List.mem_singleton.mp z]
      exact hn
theorem txt_len {a b : Int} (ha : Bd 84 a) (hb : Bd 84 b) : (rrep a b).length ≤ 2100 := by
  have la := t_len (bd_up ha (by decide) : Bd 1000 a)
  have lb := t_len (bd_up hb (by decide) : Bd 1000 b)
  show ("Ratio(" ++ T_ a ++ ", " ++ T_ b ++ ")").length ≤ _
  rw [strLen_append, strLen_append, strLen_append, strLen_append, show ("Ratio(" : Str).length = 6 from rfl, show (", " : Str).length = 2 from rfl, show (")" : Str).length = 1 from rfl]
  omega
theorem num_it {H : Hp} {v : V} {a b : Int} (h : Num K H v a b) (ha : Bd 84 a) (hb : Bd 84 b) : ∃ t : Str, t.length ≤ 2100 ∧ ∀ H', Num K H' v a b → ItT (RC K) (spTxt K rrep) H' v t := by
  rcases h with ⟨x, rfl, _⟩ | ⟨rfl, _⟩
  · refine ⟨rrep a b, txt_len ha hb, fun H' h' => ?_⟩
    rcases h' with ⟨y, e, dy, ey⟩ | ⟨e, _⟩
    · cases e
      exact .inr ⟨x, dy, _, rfl, ey, fun Q q => ⟨x, a, b, rfl, ⟨dy, ey⟩, bd_up ha (by decide), bd_up hb (by decide), q⟩⟩
    · cases e
  · exact ⟨T_ a, by have := t_len (bd_up ha (by decide) : Bd 1000 a); omega, fun H' _ => .inl ⟨a, rfl, rfl, log_of (bd_up ha (by decide))⟩⟩
theorem rep2_ok {H : Hp} {v u : V} {t1 t2 : Str} (h1 : ItT (RC K) (spTxt K rrep) H v t1) (h2 : ItT (RC K) (spTxt K rrep) H u t2) : ∀ (i : Nat) (x : V), [v, u][i]? = some x → ∃ t, [t1, t2][i]? = some t ∧ ItT (RC K) (spTxt K rrep) H x t
  | 0, x, e => ⟨t1, rfl, Option.some.inj e ▸ h1⟩
  | 1, x, e => ⟨t2, rfl, Option.some.inj e ▸ h2⟩
  | _ + 2, x, e => nomatch e
theorem rep2_len {t1 t2 : Str} (h1 : t1.length ≤ 2100) (h2 : t2.length ≤ 2100) : (listText [t1, t2]).length ≤ sizeLine := by
  have l := listText_len_le [t1, t2]
  simp only [List.map_cons, List.map_nil, List.sum_cons, List.sum_nil, List.length_cons, List.length_nil] at l
  rw [sizeLine_eq]
  omega
theorem But.push {H H' : Hp} {p l : Addr} {o : HO} (h : But p H H') (n : H l = none) : But p H (upd H' l o) := fun b u e hb => by
  rw [upd_ne (ne_of_none e n)]
  exact h b u e hb
theorem But.none {H H' : Hp} {p l : Addr} (h : But p H H') (n : H' l = none) (ne : l ≠ p) : H l = none := by
  cases e : H l with
  | none => rfl
  | some o =>
    rw [h l o e ne] at n
    cases n
abbrev DoneG (P : Program) (w : World) (K : Fr) (mg : Str → Option Value) (base : Heap) : Prop := ∃ f d, Gd P w K mg base 7 "_law_done" f d ["_law_pot_here", "_law_one", "_law_pair", "_law_right_here", "_law_other"] (spDone K)
abbrev CompG (P : Program) (w : World) (K : Fr) (mg : Str → Option Value) (base : Heap) : Prop := ∃ f d, GdG P w K mg base 6 "_law_compared" f d ["_law_made", "_law_pairs"] (spComp K)
abbrev TotdG (P : Program) (w : World) (K : Fr) (mg : Str → Option Value) (base : Heap) : Prop := ∃ f d, GdG P w K mg base 8 "_law_totalled" f d ["_law_made", "_law_pairs"] (spTotd K)
abbrev sRight : Stmt := top 25
abbrev NR : List Str := ["_law_pot_here", "_law_pairs", "_law_made", "_law_turn", "_law_right_here", "_law_other", "_law_before", "_law_found", "_law_due", "_law_one", "_law_pair"]
theorem scRight : FnScope NR ["_law_pot_here"] (defScope sRight) := ⟨rfl, rfl, rfl, by decide +kernel, rfl, by decide +kernel, by decide +kernel⟩
def spRight : SpG := fun vs H Q => ∃ p : Addr, vs = [.ref p] ∧ PotAt H p ∧ ∀ H', But p H H' → Q (.bl true) H'
theorem ok_right (F : FunD K "_law_right" "_law_right" (defArgs sRight) (defBody sRight) (defScope sRight) [] [] f fd) (T : TT K mg) (D : DrawG P w K mg base) (B : FreshG P w K mg base) (C : RoneG P w K mg base) (DN : DoneG P w K mg base) (IP : IspG P w K mg base) (CP : CompG P w K mg base) (TD : TotdG P w K mg base)
    {dI : FuncData} (I : Id P w K mg base dI) (RP : ∃ d, Md P w K mg base 1 (rm K "__repr__") d ["self"] (spTxt K rrep)) : FnG P w K mg base 9 f fd ["_law_pot_here"] spRight := by
  obtain ⟨fD, dD, GD⟩ := D
  obtain ⟨fF, dF, GF⟩ := B
  obtain ⟨fR, dR, GR⟩ := C
  obtain ⟨fN, dN, GN⟩ := DN
  obtain ⟨fI, dP, GI⟩ := IP
  obtain ⟨fC, dC, GC⟩ := CP
  obtain ⟨fT, dT, GT⟩ := TD
  obtain ⟨dRp, MRp⟩ := RP
  have S1 := (T.spc "__repr__" (by decide)).1
  have S2 := (T.spc "__repr__" (by decide)).2
  refine fnG_D F scRight (fun vs H Q h => ?_) (fun cdv A outer s H vs Q hr hG h => ?_)
  · obtain ⟨p, rfl, _⟩ := h
    rfl
  · obtain ⟨p, rfl, hp, q⟩ := h
    refine ⟨_, PSs.nox (pss_cons (ps_set (i := 1) scRight.nd rfl (Or.inl rfl) (pe_lst (pa_cons (pe_gd GF (hr.mono (by decide)) (by rfl) (pa_cons (pv 0) pa_nil)) pa_nil)))
      (pss_cons (ps_set (i := 2) scRight.nd rfl (Or.inl rfl) (pe_lst (pa_cons (pe_rat2 T I (hr.mono (by decide)) (by rfl) (pa_cons (pe_ix ix_tup (pe_ix ix_list (pv 1) pe_int (fun _ _ => rfl)) pe_int (fun _ _ => rfl)) (pa_cons (pe_ix ix_tup (pe_ix ix_list (pv 1) pe_int (fun _ _ => rfl)) pe_int (fun _ _ => rfl)) pa_nil))) pa_nil)))
      (pss_cons (ps_for PassesOwn.never rfl (pi_range1 (by rfl) T.fre (pa_cons (pe_op op_add pe_int (pe_gd GD (hr.mono (by decide)) (by rfl) (pa_cons (pv 0) (pa_cons pe_int pa_nil)))) pa_nil)) (pg_name (i := 3) scRight.nd rfl (Or.inl rfl))
        (pss_cons (ps_asg (pe_gd GR (hr.mono (by decide)) (by rfl) (pa_cons (pv 0) (pa_cons (pv 1) (pa_cons (pv 2) pa_nil)))) (pg_tup (by rfl) (pgs_cons (pg_name (i := 4) scRight.nd rfl (.inl rfl)) (pgs_cons (pg_name (i := 5) scRight.nd rfl (.inl rfl)) pgs_nil))))
        (pss_cons (ps_set (i := 6) scRight.nd rfl (Or.inl rfl) (pe_callB (call_reprL S1 S2 MRp.ok MRp.bd (hr.mono (by decide)) hG) (by rfl) T.fre (by decide +kernel) (pa_cons (pe_lst (pa_cons (pv 4) (pa_cons (pe_ix ix_list (pv 2) (pe_un un_neg pe_int) (fun _ _ => rfl)) pa_nil))) pa_nil)))
        (pss_cons (ps_asg (pe_gd GN (hr.mono (by decide)) (by rfl) (pa_cons (pv 0) (pa_cons (pe_ix ix_list (pv 2) (pe_un un_neg pe_int) (fun _ _ => rfl)) (pa_cons (pe_ix ix_list (pv 1) (pe_un un_neg pe_int) (fun _ _ => rfl)) (pa_cons (pv 4) (pa_cons (pv 5) pa_nil)))))) (pg_tup (by rfl) (pgs_cons (pg_name (i := 7) scRight.nd rfl (.inl rfl)) (pgs_cons (pg_name (i := 8) scRight.nd rfl (.inl rfl)) pgs_nil))))
        (pss_cons (ps_if (pt_cmpR op_ne (pe_callB (call_reprL S1 S2 MRp.ok MRp.bd (hr.mono (by decide)) hG) (by rfl) T.fre (by decide +kernel) (pa_cons (pe_lst (pa_cons (pv 4) (pa_cons (pe_ix ix_list (pv 2) (pe_un un_neg pe_int) (fun _ _ => rfl)) pa_nil))) pa_nil)) (pv 6) (nomark _)) (pss_one (ps_ret pe_bl)) pss_nil)
        (Evl.pss_cut (ps_if (pt_cmpR op_isN (pv 8) pe_non (nomark _)) (pss_one (ps_if (pt_cmpR op_notN (pv 7) pe_non (nomark _)) (pss_one (ps_ret pe_bl)) pss_nil))
          (pss_cons (ps_if (pt_not (pt_val (pe_gg GI (hr.mono (by decide)) hG (by rfl) (pa_cons (pv 7) (pa_cons (pv 8) pa_nil))))) (pss_one (ps_ret pe_bl)) pss_nil)
          (Evl.pss_cut (ps_if (pt_cmpR op_gt (pe_callB (call_max2 rfl) (by rfl) T.fre (by decide +kernel) (pa_cons (pe_callB call_abs (by rfl) T.fre (by decide +kernel) (pa_cons (pe_ix ix_tup (pv 8) pe_int (fun _ _ => rfl)) pa_nil)) (pa_cons (pe_ix ix_tup (pv 8) pe_int (fun _ _ => rfl)) pa_nil))) (pe_op op_pow pe_int pe_int) (nomark _))
              (pss_cons (ps_set (i := 8) scRight.nd rfl (Or.inl rfl) (pe_gd GF (hr.mono (by decide)) (by rfl) (pa_cons (pv 0) pa_nil)))
              (pss_one (ps_set (i := 7) scRight.nd rfl (Or.inl rfl) (pe_rat2 T I (hr.mono (by decide)) (by rfl) (pa_cons (pe_un un_neg (pe_ix ix_tup (pv 8) pe_int (fun _ _ => rfl))) (pa_cons (pe_un un_neg (pe_ix ix_tup (pv 8) pe_int (fun _ _ => rfl))) pa_nil)))))) pss_nil)
          (pss_cons (ps_expr (pe_bm PySem.F.plainAttrs_list PySem.F.slot_list_append PySem.F.type_list_append mt_append (pv 1) (pa_cons (pv 8) pa_nil)))
          (pss_one (ps_expr (pe_bm PySem.F.plainAttrs_list PySem.F.slot_list_append PySem.F.type_list_append mt_append (pv 2) (pa_cons (pv 7) pa_nil))))))))
        (pss_one (ps_if (PW.pt (pw_or (pt_not (pt_val (pe_gg GC (hr.mono (by decide)) hG (by rfl) (pa_cons (pv 2) (pa_cons (pv 1) pa_nil))))) (pw_or1 (pt_not (pt_val (pe_gg GT hr hG (by rfl) (pa_cons (pv 2) (pa_cons (pv 1) pa_nil)))))))) (pss_one (ps_ret pe_bl)) pss_nil))))))))
      (pss_one (ps_ret (pe_callB (cr_all (by rfl)) (by rfl) T.fre (by decide +kernel) (pa_cons (pe_lc (own := [("_law_one", 9), ("_law_pair", 10)]) (g := gTup K 2 (gCons (gName 9) (gCons (gName 10) gNil))) (tt := tYes) (by rfl) scRight.nd
        (pi_zip (by rfl) T.fre (pa_cons (pv 2) (pa_cons (pv 1) pa_nil))) (blkOk_by (N := NR) (sc := defScope sRight) (by decide +kernel)) (fun _ _ _ _ _ => pg_tup (by rfl) (pgs_cons (pg_name (i := 9) scRight.nd rfl (Or.inl rfl)) (pgs_cons (pg_name (i := 10) scRight.nd rfl (Or.inl rfl)) pgs_nil))) (fun _ _ _ _ _ => pts_nil)
        (fun _ _ _ _ _ => pe_gg GI (hr.mono (by decide)) hG (by rfl) (pa_cons (pv 9) (pa_cons (pv 10) pa_nil)))) pa_nil))))))), ?_⟩
    have one : 1 ≤ sizeLine := by rw [sizeLine_eq]; decide
    have two : 2 ≤ sizeLine := by rw [sizeLine_eq]; decide
    have pne : ∀ {H' : Hp} {l : Addr}, PotAt H' p → H' l = none → l ≠ p := fun h n z => by
      obtain ⟨_, _, e, _⟩ := h
      rw [← z, n] at e
      cases e
    refine ⟨_, rfl, p, rfl, hp, fun t a b H1 lo ba bb hp1 b1 e1 => ⟨one, fun lp nlp => ?_⟩⟩
    have s2 := same_new (o := .lst [.ref t]) nlp
    have n1 := pne hp1 nlp
    have hlp := b1.none nlp n1
    refine ⟨_, rfl, lp, _, _, _, rfl, rfl, SqL.of upd_same, atI_nat (j := 0) rfl, t, _, _, _, rfl, rfl, SqT.of (s2 _ _ e1), atI_nat (j := 0) rfl, _, rfl, lp, _, _, _, rfl, rfl, SqL.of upd_same, atI_nat (j := 0) rfl, t, _, _, _, rfl, rfl, SqT.of (s2 _ _ e1), atI_nat (j := 1) rfl, fun x dx nx nd ne => made_at nx nd ne lo.ne (bd_up ba (by decide)) (bd_up bb (by decide)) fun H3 s3 r3 => ⟨rfl, one, fun lm nlm => ?_⟩⟩
    rw [(low_id lo).1, (low_id lo).2] at r3
    have b3 : But p H H3 := (b1.trans (But.of s2)).trans (But.of s3)
    have hp3 := (hp1.same s2).same s3
    have n2 := pne hp3 nlm
    have hlm := b3.none nlm n2
    have s4 := same_new (o := .lst [.ref x]) nlm
    have hc0 : Chain K (upd H3 lm (.lst [.ref x])) lp lm ([] ++ [⟨t, x, (a, b)⟩]) := by
      refine ⟨s4 _ _ (s3 _ _ upd_same), upd_same, fun y hy => ?_, fun y hy => ?_⟩
      · rw [List.mem_singleton.mp hy]
        exact ⟨s4 _ _ (s3 _ _ (s2 _ _ e1)), r3.same s4⟩
      · rw [List.mem_singleton.mp hy]
        exact ⟨lo, bd_up ba (by decide), bd_up bb (by decide)⟩
    have nlpm : lp ≠ lm := fun z => by
      have e := s3 _ _ (upd_same (H := H1) (a := lp) (o := .lst [.ref t]))
      rw [z, nlm] at e
      cases e
    have hp4 := hp3.same s4
    have b4 := b3.trans (But.of s4)
    generalize upd H3 lm (.lst [.ref x]) = H4 at hc0 hp4 b4 ⊢
    refine ⟨_, rfl, p, 13, rfl, hp4, by decide, by decide, fun d H5 d0 d1 hp5 b5 => ⟨_, _, rfl, rfl, 4 + d, rfl, by omega, by omega, ?_⟩⟩
    refine for_range (lo := 0) (n := (4 + d).toNat) (fun i σ H' => ∃ (c : List It1) (z : It1) (v3 v4 v5 v6 v7 v8 : Option V), σ = [some (.ref p), some (.ref lp), some (.ref lm), v3, v4, v5, v6, v7, v8, none, none] ∧ PotAt H' p ∧ Chain K H' lp lm (c ++ [z]) ∧ But p H H' ∧ c.length ≤ i)
      ⟨[], _, _, _, _, _, _, _, rfl, hp5, hc0.but hp4 n1 n2 b5, b4.trans b5, Nat.le_refl _⟩ ?_ ?_
    · rintro i σ H6 hi ⟨c, z, v3, v4, v5, v6, v7, v8, rfl, hp6, hc, b6, lc⟩
      have lcz : (c ++ [z]).length < 1000 := by
        rw [List.length_append]
        show c.length + 1 < 1000
        omega
      have em : (c ++ [z]).map (fun x => V.ref x.a) = c.map (fun x => V.ref x.a) ++ [V.ref z.a] := by rw [List.map_append]; rfl
      have ep : (c ++ [z]).map (fun x => V.ref x.t) = c.map (fun x => V.ref x.t) ++ [V.ref z.t] := by rw [List.map_append]; rfl
      have lastm : atI ((c ++ [z]).map fun x => V.ref x.a) (-1) = some (.ref z.a) := by rw [em]; exact atI_last _ _
      have lastp : atI ((c ++ [z]).map fun x => V.ref x.t) (-1) = some (.ref z.t) := by rw [ep]; exact atI_last _ _
      have nz := hc.nm z (by simp)
      -- what stands on the right
      refine ⟨_, rfl, _, rfl, _, rfl, p, lp, lm, c ++ [z], rfl, hp6, hc, n1, n2, by simp, lcz, fun t v to ra rb H7 num lo7 ba7 bb7 hp7 b7 eto et => ?_⟩
      have hc7 := hc.but hp6 n1 n2 b7
      refine ⟨t, _, rfl, SqT.of et, rfl, _, _, rfl, _, _, rfl, rfl, ?_⟩
      -- before
      obtain ⟨t1, l1, i1⟩ := num_it num ba7 bb7
      have hz7 := hc7.ok z (by simp)
      obtain ⟨t2, l2, i2⟩ := num_it (Num.ofR hz7.ra) nz.b1 nz.b2
      refine ⟨_, rfl, _, rfl, _, rfl, lm, _, _, _, rfl, rfl, SqL.of hc7.ml, lastm, two, fun l nl => ?_⟩
      have s8 := same_new (o := .lst [v, .ref z.a]) nl
      refine ⟨l, _, [t1, t2], rfl, upd_same, by simp, rfl, rep2_ok (i1 _ (num.same s8)) (i2 _ (Num.ofR (hz7.ra.same s8))), rep2_len l1 l2, ?_⟩
      have hp8 := hp7.same s8
      have hc8 := hc7.same s8
      have num8 := num.same s8
      have eto8 := s8 _ _ eto
      have b8 := (b6.trans b7).trans (But.of s8)
      generalize upd H7 l (.lst [v, .ref z.a]) = H8 at hp8 hc8 num8 eto8 b8 ⊢
      have hz8 := hc8.ok z (by simp)
      -- done
      refine ⟨_, rfl, _, rfl, _, rfl, lm, _, _, _, rfl, rfl, SqL.of hc8.ml, lastm, _, rfl, _, rfl, lp, _, _, _, rfl, rfl, SqL.of hc8.pl, lastp, _, rfl, _, rfl, p, z.a, z.t, v, to, z.p.1, z.p.2, ra, rb, rfl, hp8, hz8.ra, hz8.tp, num8, eto8, nz.lo, lo7, nz.b1, nz.b2, ba7, bb7, fun td v' u' H9 res hp9 b9 etd => ?_⟩
      refine ⟨td, _, rfl, SqT.of etd, rfl, _, _, rfl, _, _, rfl, rfl, ?_⟩
      have hc9 := hc8.but hp8 n1 n2 b9
      have num9 := num8.but hp8 b9
      have hz9 := hc9.ok z (by simp)
      refine ⟨_, rfl, _, rfl, _, rfl, lm, _, _, _, rfl, rfl, SqL.of hc9.ml, lastm, two, fun l' nl' => ?_⟩
      have s10 := same_new (o := .lst [v, .ref z.a]) nl'
      refine ⟨l', _, [t1, t2], rfl, upd_same, by simp, rfl, rep2_ok (i1 _ (num9.same s10)) (i2 _ (Num.ofR (hz9.ra.same s10))), rep2_len l1 l2, ?_⟩
      refine ⟨_, rfl, rfl, _, rfl, ite2 (fun h => ?_) (fun _ => ?_)⟩
      · simp at h
      have hp10 := hp9.same s10
      have hc10 := hc9.same s10
      have b10 := (b8.trans b9).trans (But.of s10)
      have res10 : Res K (upd H9 l' (.lst [v, .ref z.a])) v' u' := by
        rcases res with r | ⟨y, tq, e, f, r1, r2, r3, r4, r5⟩
        · exact .inl r
        · exact .inr ⟨y, tq, e, f, r1, r2, r3.same s10, s10 _ _ r4, r5⟩
      generalize upd H9 l' (.lst [v, .ref z.a]) = H10 at hp10 hc10 b10 res10 ⊢
      refine ⟨fun σ' H' => ∃ (c' : List It1) (z' : It1) (v7 v8 : Option V), σ' = [some (.ref p), some (.ref lp), some (.ref lm), some (.int (0 + (i : Nat))), some v, some (.ref to), some (.str (listText [t1, t2])), v7, v8, none, none] ∧ PotAt H' p ∧ Chain K H' lp lm (c' ++ [z']) ∧ But p H H' ∧ c'.length ≤ i + 1, ?_, ?_⟩
      · rcases res10 with ⟨rfl, rfl⟩ | ⟨y, tq, e, g, rfl, rfl, ry, htq, loq, be, bg⟩
        · exact ⟨_, rfl, rfl, _, rfl, iteT ⟨_, rfl, rfl, _, rfl, iteF ⟨c, z, _, _, rfl, hp10, hc10, b10, by omega⟩⟩⟩
        · refine ⟨_, rfl, rfl, _, rfl, iteF ?_⟩
          refine ⟨_, rfl, _, rfl, y, tq, e, g, rfl, ry, htq, bd_up be (by decide), bd_up bg (by decide), fun H11 s11 => ⟨true, rfl, iteF ?_⟩⟩
          have hp11 := hp10.same s11
          have hc11 := hc10.same s11
          have ry11 := ry.same s11
          have htq11 := s11 _ _ htq
          have b11 := b10.trans (But.of s11)
          refine ⟨fun σ' H' => ∃ (tq' y' : Addr) (e' g' : Int), σ' = [some (.ref p), some (.ref lp), some (.ref lm), some (.int (0 + (i : Nat))), some v, some (.ref to), some (.str (listText [t1, t2])), some (.ref y'), some (.ref tq'), none, none] ∧ PotAt H' p ∧ Chain K H' lp lm (c ++ [z]) ∧ But p H H' ∧
            RatAt K H' y' e' g' ∧ H' tq' = some (.tup [.int e', .int g']) ∧ Low e' g' ∧ Bd 84 e' ∧ Bd 84 g', ?_, ?_⟩
          · refine ⟨_, rfl, tq, _, _, _, rfl, rfl, SqT.of htq11, atI_nat (j := 0) rfl, _, rfl, _, rfl, tq, _, _, _, rfl, rfl, SqT.of htq11, atI_nat (j := 1) rfl, _, _, rfl, _, _, rfl, rfl, ⟨by decide, by decide, by decide⟩, _, _, rfl, rfl, _, rfl, ite2 (fun h => ?_) (fun h => ?_)⟩
            · refine ⟨_, rfl, p, rfl, hp11, fun t4 a4 b4 H12 lo4 ba4 bb4 hp12 b12 e4 => ?_⟩
              have hc12 := hc11.but hp11 n1 n2 b12
              refine ⟨_, rfl, t4, _, _, _, rfl, rfl, SqT.of e4, atI_nat (j := 0) rfl, _, rfl, _, rfl, t4, _, _, _, rfl, rfl, SqT.of e4, atI_nat (j := 1) rfl, _, rfl, fun x4 dx4 nx4 nd4 ne4 => made_at nx4 nd4 ne4 (by have := lo4.1; omega) (bd_up (bd_neg ba4) (by decide)) (bd_up (bd_neg bb4) (by decide)) fun H13 s13 r13 => ⟨rfl, ?_⟩⟩
              rw [(low_flip lo4).1, (low_flip lo4).2] at r13
              exact ⟨t4, x4, a4, b4, rfl, hp12.same s13, hc12.same s13, (b11.trans b12).trans (But.of s13), r13, s13 _ _ e4, lo4, bd_up ba4 (by decide), bd_up bb4 (by decide)⟩
            · have z1 : ¬ (if g > (if e < 0 then -e else e) then g else (if e < 0 then -e else e)) > (10 : Int) ^ (25 : Int).toNat := fun y => h (decide_eq_true y)
              have z2 : (10 : Int) ^ (25 : Int).toNat = 10000000000000000000000000 := by decide
              rw [z2] at z1
              have g1 := loq.1
              have z3 : e.natAbs ≤ 10000000000000000000000000 ∧ g.natAbs ≤ 10000000000000000000000000 := by
                split at z1 <;> split at z1 <;> omega
              have z4 : (10000000000000000000000000 : Nat) < 2 ^ 84 := by decide
              exact ⟨tq, y, e, g, rfl, hp11, hc11, b11, ry11, htq11, loq, Nat.lt_of_le_of_lt z3.1 z4, Nat.lt_of_le_of_lt z3.2 z4⟩
          · rintro σ' H12 ⟨tq', y', e', g', rfl, hp12, hc12, b12, ry12, htq12, lo12, be12, bg12⟩
            have sz : (c ++ [z]).length < sizeLine := by rw [sizeLine_eq]; omega
            have push := chain_push (x := ⟨tq', y', (e', g')⟩) hc12 ⟨htq12, ry12⟩ ⟨lo12, be12, bg12⟩ nlpm
            refine ⟨_, rfl, .inl ⟨rfl, _, SqL.of hc12.pl⟩, _, rfl, lp, _, _, rfl, rfl, hc12.pl, by rw [List.length_map]; exact sz, ?_⟩
            have hml : (upd H12 lp (.lst (((c ++ [z]).map fun x => V.ref x.t) ++ [.ref tq']))) lm = some (.lst ((c ++ [z]).map fun x => V.ref x.a)) := by
              rw [upd_ne (Ne.symm nlpm)]
              exact hc12.ml
            refine ⟨_, rfl, .inl ⟨rfl, _, SqL.of hml⟩, _, rfl, lm, _, _, rfl, rfl, hml, by rw [List.length_map]; exact sz, ?_⟩
            refine ⟨c ++ [z], _, _, _, rfl, ?_, push, (b12.push hlp).push hlm, by rw [List.length_append]; show c.length + 1 ≤ i + 1; omega⟩
            obtain ⟨px, py, pe, pr⟩ := hp12
            exact ⟨px, py, by rw [upd_ne (Ne.symm n2), upd_ne (Ne.symm n1)]; exact pe, pr⟩
      rintro σ' H11 ⟨c', z', w7, w8, rfl, hp11, hc11, b11, lc11⟩
      refine ⟨_, rfl, _, rfl, lm, lp, c', z', rfl, hc11, fun H12 s12 => ⟨true, rfl, iteF ?_⟩⟩
      have hc12 := hc11.same s12
      refine ⟨_, rfl, _, rfl, lm, lp, c' ++ [z'], rfl, hc12, by simp, by rw [List.length_append]; show c'.length + 1 < 1000; omega, fun H13 s13 => ⟨true, rfl, iteF ?_⟩⟩
      exact ⟨c', z', _, _, _, _, _, _, rfl, (hp11.same s12).same s13, hc12.same s13, (b11.trans (But.of s12)).trans (But.of s13), lc11⟩
    · rintro σ H6 ⟨c, z, v3, v4, v5, v6, v7, v8, rfl, hp6, hc, b6, lc⟩
      have lcz : (c ++ [z]).length < 1000 := by
        rw [List.length_append]
        show c.length + 1 < 1000
        omega
      refine ⟨_, rfl, _, rfl, lm, lp, _, _, rfl, SqL.of hc.ml, SqL.of hc.pl, fun D hD => ?_⟩
      have s0 := same_new (o := .lst []) hD
      refine lc_it (walk_zip (xs := (c ++ [z]).map fun x => V.ref x.a) (ys := (c ++ [z]).map fun x => V.ref x.t) (n := (c ++ [z]).length) (by simp)) (fun i H' => Same H6 H' ∧ H' D = some (.lst ((List.replicate i true).map V.bl))) ⟨s0, upd_same⟩ (fun i H' _ pv => ⟨SqL.of (pv.1 _ _ hc.ml), SqL.of (pv.1 _ _ hc.pl)⟩) ?_ ?_
      · rintro i x H7 H8 hi ⟨s7, e7⟩ ⟨t, y1, y2, rfl, nt, rfl, hx, hy⟩
        have hi' : (c ++ [z])[i]? = some (c ++ [z])[i] := List.getElem?_eq_getElem hi
        dsimp only at hx hy
        rw [List.getElem?_map, hi'] at hx hy
        obtain rfl := (Option.some.inj hx).symm
        obtain rfl := (Option.some.inj hy).symm
        have m : (c ++ [z])[i] ∈ c ++ [z] := List.getElem_mem hi
        generalize (c ++ [z])[i] = it at m nt ⊢
        have s8 := s7.trans (same_new (o := .tup [.ref it.a, .ref it.t]) nt)
        have e8 : (upd H7 t (.tup [.ref it.a, .ref it.t])) D = some (.lst ((List.replicate i true).map V.bl)) := same_new nt _ _ e7
        have o := hc.ok it m
        have n := hc.nm it m
        refine ⟨t, _, rfl, SqT.of upd_same, rfl, _, _, rfl, _, _, rfl, rfl, rfl, ?_⟩
        refine ⟨_, rfl, _, rfl, it.a, it.t, it.p.1, it.p.2, rfl, o.ra.same s8, s8 _ _ o.tp, bd_up n.b1 (by decide), bd_up n.b2 (by decide), fun H9 s9 => ⟨_, s9 _ _ e8, ?_, ?_, ?_⟩⟩
        · rw [List.length_map, List.length_replicate, sizeLine_eq]
          omega
        · intro b' o' e'
          rw [upd_ne (ne_of_none e' hD)]
          exact s9 _ _ (s8 _ _ e')
        · rw [upd_same, List.replicate_succ', List.map_append]
          rfl
      · rintro H7 ⟨s7, e7⟩
        refine ⟨D, List.replicate (c ++ [z]).length true, rfl, SqL.of e7, ?_⟩
        rw [show (List.replicate (c ++ [z]).length true).all id = true by simp]
        exact q _ (b6.trans (But.of s7))
end
end K15

set_option maxHeartbeats 4000000
namespace K15
open PySem PySem.Spec PyProof.Rows L2 RtL ErL
theorem sq_keep {K : Fr} {H H' : Hp} {a : Addr} {xs : List V} (h : SqL K H a xs) (k : ∀ o, H a = some o → H' a = some o) : SqL K H' a xs := by
  rcases h with h | h
  · rcases h with h | ⟨o, h⟩
    · exact .inl (.inl (k _ h))
    · exact .inl (.inr ⟨o, k _ h⟩)
  · exact .inr h
section
variable {P : Program} {w : World} {K : Fr} {mg : Str → Option Value} {base : Heap} {f : Addr} {fd : FuncData}
abbrev PotG (P : Program) (w : World) (K : Fr) (mg : Str → Option Value) (base : Heap) : Prop := ∃ f d, Gd P w K mg base 1 "_law_pot" f d ["_law_script", "_law_k"] (spPot K)
abbrev RightG (P : Program) (w : World) (K : Fr) (mg : Str → Option Value) (base : Heap) : Prop := ∃ f d, GdG P w K mg base 9 "_law_right" f d ["_law_pot_here"] spRight
abbrev sLaw : Stmt := top 26
abbrev NL : List Str := ["_law_script", "_law_k"]
theorem scLaw : FnScope NL ["_law_script"] (defScope sLaw) := ⟨rfl, rfl, rfl, by decide +kernel, rfl, by decide +kernel, by decide +kernel⟩
def spLaw (K : Fr) : SpG := fun vs H Q => ∃ (a : Addr) (ns : List Int), vs = [.ref a] ∧ SqL K H a (ns.map V.int) ∧ ns.length ≤ 63 ∧ ∀ H', Q (.bl true) H'
theorem ok_law (F : FunD K "law" "law" (defArgs sLaw) (defBody sLaw) (defScope sLaw) [] [] f fd) (T : TT K mg) (CR : RightG P w K mg base) (CP : PotG P w K mg base) : FnG P w K mg base 10 f fd ["_law_script"] (spLaw K) := by
  obtain ⟨fR, dR, GR⟩ := CR
  obtain ⟨fP, dP, GP⟩ := CP
  refine fnG_D F scLaw (fun vs H Q h => ?_) (fun cdv A outer s H vs Q hr hG h => ?_)
  · obtain ⟨a, ns, rfl, _⟩ := h
    rfl
  · obtain ⟨a, ns, rfl, hS, hl, q⟩ := h
    refine ⟨_, PSs.nox (pss_one (ps_ret (pe_callB (cr_all (by rfl)) (by rfl) T.fre (by decide +kernel) (pa_cons (pe_lc (own := [("_law_k", 1)]) (g := gName 1) (tt := tYes) (by rfl) scLaw.nd
      (pi_range1 (by rfl) T.fre (pa_cons (pe_callB (call_max2 rfl) (by rfl) T.fre (by decide +kernel) (pa_cons pe_int (pa_cons (pe_callB (call_min2 rfl) (by rfl) T.fre (by decide +kernel) (pa_cons (pe_callB call_len_seq (by rfl) T.fre PySem.boot_len (pa_cons (pv 0) pa_nil)) (pa_cons pe_int pa_nil))) pa_nil))) pa_nil))
      (blkOk_by (N := NL) (sc := defScope sLaw) (by decide +kernel)) (fun _ _ _ _ _ => pg_name (i := 1) scLaw.nd rfl (Or.inl rfl)) (fun _ _ _ _ _ => pts_nil)
      (fun _ _ _ _ _ => pe_gg GR hr hG (by rfl) (pa_cons (pe_gd GP (hr.mono (by decide)) (by rfl) (pa_cons (pv 0) (pa_cons (pv 1) pa_nil))) pa_nil))) pa_nil)))), ?_⟩
    refine ⟨_, rfl, a, _, rfl, .inl hS, ?_⟩
    refine ⟨_, _, rfl, _, _, rfl, ?_⟩
    obtain ⟨j, hj, j0, j3⟩ : ∃ j : Int, (if (if (4 : Int) < ((ns.map V.int).length : Int) then (4 : Int) else ((ns.map V.int).length : Int)) > 1 then (if (4 : Int) < ((ns.map V.int).length : Int) then (4 : Int) else ((ns.map V.int).length : Int)) else (1 : Int)) = j ∧ 0 ≤ j ∧ j ≤ 4 := ⟨_, rfl, by split <;> split <;> omega, by split <;> split <;> omega⟩
    rw [hj]
    refine ⟨j, rfl, by omega, by omega, fun D hD => ?_⟩
    refine lc_range (lo := 0) (n := j.toNat) (fun i H' => (∀ o, H a = some o → H' a = some o) ∧ H' D = some (.lst ((List.replicate i true).map V.bl))) ⟨fun o e => same_new hD _ _ e, upd_same⟩ (fun i H' hi pv => ?_) (fun H' pv => ?_)
    · obtain ⟨kS, eD⟩ := pv
      refine ⟨rfl, _, rfl, _, rfl, a, ns, (0 : Int) + (i : Nat), rfl, sq_keep hS kS, hl, by omega, by omega, fun p H1 np s1 hp => ⟨p, rfl, hp, fun H2 b2 => ?_⟩⟩
      have eD2 : H2 D = some (.lst ((List.replicate i true).map V.bl)) := b2 _ _ (s1 _ _ eD) (ne_of_none eD np)
      refine ⟨_, eD2, ?_, fun o e => ?_, ?_⟩
      · rw [List.length_map, List.length_replicate, sizeLine_eq]
        omega
      · rw [upd_ne (ne_of_none e hD)]
        exact b2 _ _ (s1 _ _ (kS o e)) (ne_of_none (kS o e) np)
      · rw [upd_same, List.replicate_succ', List.map_append]
        rfl
    · exact ⟨D, List.replicate j.toNat true, rfl, SqL.of pv.2, by rw [show (List.replicate j.toNat true).all id = true by simp]; exact q _⟩
end
end K15

set_option maxHeartbeats 4000000
namespace K15
open PySem PySem.Spec PyProof.Rows L2 RtL ErL
/-- the script as an object of the heap -/
abbrev scO (us : List Value) : Obj := { cls := .type "list", data := .seq us.toArray }
/-- a def of one parameter, called on a script where nothing is being shown -/
theorem lawG {P : Program} {w : World} {K : Fr} {mg mb : Str → Option Value} {k : Nat} {fl sc : Addr} {fd : FuncData} {x : Str} {sp : SpG} {st : Shared} {us : List Value} {zs : List Int}
    (kin : K.In st.heap) (n1 : st.heap.Ns mainGlobals mg) (n2 : st.heap.Ns builtinsNs mb) (n3 : ∀ y : Str, y ≠ "__name__" → mb y = bootBuiltins y) (nl : st.heap.NoLimit) (ng : st.gens = #[])
    (here : st.heap.get? sc = some (scO us)) (iz : IntsAre us zs) (lz : zs.length ≤ sizeLine) (rm : Room k callerA) (F : ∀ b : Heap, K.In b → b.Ns mainGlobals mg → FnG P w K mg b k fl fd [x] sp) (bd : Binds K fd [x] [])
    (pr : ∀ H : Hp, SqL K H sc (zs.map V.int) → sp [.ref sc] H (fun v _ => v = .bl true)) :
    codeAny (model P w) callerA (.call (.ref fl) ⟨[.ref sc], []⟩) (fun r s' => r = .ok (.ret (.bool true)) ∧ OldK st.heap s'.heap ∧ s'.os = st.os ∧ AllBare s'.gens) st := by
  have vz := vals_ints iz
  have lu : (zs.map V.int).length ≤ sizeLine := by
    rw [List.length_map]
    exact lz
  -- nothing is tracked but the script, and that only if it is no object of the written part
  obtain ⟨H, on, sq⟩ : ∃ H : Hp, (∀ b y, H b = some y → b = sc ∧ K.lookup sc = none ∧ y = .frz (scO us) (.lst (zs.map V.int))) ∧ SqL K H sc (zs.map V.int) := by
    cases own : K.lookup sc with
    | some y =>
      have e := kin sc y own
      rw [here] at e
      cases e
      refine ⟨fun _ => none, fun b y z => (nomatch (show (none : Option HO) = some y from z)), .inr ⟨_, us.toArray, _, own, rfl, rfl, rfl, ?_, by simpa using vz⟩⟩
      rw [List.size_toArray, iz.length]
      exact lz
    | none =>
      refine ⟨fun b => if b = sc then some (.frz (scO us) (.lst (zs.map V.int))) else none, fun b y z => ?_, .inl (.inr ⟨_, if_pos rfl⟩)⟩
      by_cases hb : b = sc
      · exact ⟨hb, rfl, Option.some.inj (z.symm.trans (if_pos hb))⟩
      · exact (nomatch (show (none : Option HO) = some y from (if_neg hb).symm.trans z))
  have ok : HOk P w H st.heap := fun b y z => by
    obtain ⟨rfl, _, rfl⟩ := on b y z
    exact ⟨here, lu, us, _, vz, here⟩
  have out : ∀ {b : Addr} {o : Obj} {es : Array DictEntry} {ep : Nat}, st.heap.get? b = some o → o.data = .dict es ep → H b = none := fun {b o es ep} e d => by
    cases q : H b with
    | none => rfl
    | some y =>
      obtain ⟨rfl, _, _⟩ := on b y q
      rw [here] at e
      cases e
      exact (nomatch (show Data.seq us.toArray _ = Data.dict es ep from d))
  have ns : ∀ {b : Addr} {m : Str → Option Value}, st.heap.Ns b m → (hidT st.heap H).Ns b m := by
    rintro b m ⟨o, es, ep, e, d, r⟩
    exact ⟨o, es, ep, hidT_get e (out e d), d, r⟩
  have kb : K.In (hidT st.heap H) := fun b o e => hidT_get (kin b o e) (by
    cases q : H b with
    | none => rfl
    | some y =>
      obtain ⟨rfl, z, _⟩ := on b y q
      rw [z] at e
      cases e)
  obtain ⟨ml, l1, l2⟩ := nl
  have env : Env0 P w K mg (hidT st.heap H) callerA [] st H :=
    { frames := rfl, mod := { kin := kb, glob := ns n1, blt := ⟨mb, ns n2, n3⟩, nolimit := ⟨ml, ns l1, l2⟩ }, bs := fun b o e => of_hidT e, bsz := Nat.le_of_eq (hidT_size _ _), funs := trivial, frf := fun b hb => (nomatch (show b ∈ ([] : List Addr) from hb)), hok := ok, bare := .of_eq ng }
  refine codeAny_mono ((F _ kb (ns n1)).run callerA [] st H ⟨[.ref sc], []⟩ [.ref sc] [.ref sc] _ rm rfl env (bd st [.ref sc] kin rfl) (.cons rfl .nil) (pr H sq)) ?_
  intro r s' h
  match r, h with
  | .ok (.ret u), h =>
    obtain ⟨v, H', os, ba, un, ok', rv, q⟩ := h
    cases (show v = .bl true from q)
    cases (show u = Value.bool true from rv)
    refine ⟨rfl, OldK.of_keep fun b o e => ?_, os, ba⟩
    cases q : H b with
    | none => exact un.keep b o e q (fun z => (nomatch (show b ∈ ([] : List Addr) from z))) (by simp)
    | some y =>
      obtain ⟨rfl, _, rfl⟩ := on b y q
      rw [here] at e
      cases e
      exact (ok' _ _ (un.frzs _ _ _ q)).1
  | .ok .next, h => exact False.elim h
  | .ok .brk, h => exact False.elim h
  | .ok .cont, h => exact False.elim h
  | .error e, h => exact False.elim h

end K15

set_option maxHeartbeats 4000000
namespace K15
open PySem PySem.Spec PyProof.Rows L2 RtL ErL
section
variable {P : Program} {w : World} {K : Fr} {mg : Str → Option Value}
theorem TT.df (T : TT K mg) (i : Nat) (h : i < fn.length := by decide) : ∃ fd, FunD K fn[i].name fn[i].qual fn[i].params fn[i].body fn[i].scope (fn[i].dvs K) (fn[i].kws K) (He.fAd K fn[i].at_) fd := T.dfs _ (List.getElem_mem h)
theorem TT.rd (T : TT K mg) (i : Nat) (h : i < rc.length := by decide) : ∃ fd, FunD K rc[i].1 ("Ratio." ++ rc[i].1) (defArgs (inR rc[i].2.2)) (defBody (inR rc[i].2.2)) (defScope (inR rc[i].2.2)) [] [] (recA K (RC K) rc[i].1 rc[i].2.1) fd := T.rcs _ (List.getElem_mem h)
/-- the package's defs together -/
theorem pk (T : TT K mg) (base : Heap) : IsintG P w K mg base ∧ IsnumG P w K mg base ∧ Pr P w K mg base ∧ Ops P w K mg base ∧ OverG P w K mg base ∧ Gt P w K mg base ∧ Cmps P w K mg base ∧ TotR P w K mg base := by
  obtain ⟨d0, F0⟩ := T.df 0
  obtain ⟨d1, F1⟩ := T.df 1
  obtain ⟨d2, F2⟩ := T.df 2
  obtain ⟨d3, F3⟩ := T.df 3
  obtain ⟨d4, F4⟩ := T.df 4
  obtain ⟨d5, F5⟩ := T.df 5
  obtain ⟨d6, F6⟩ := T.df 6
  obtain ⟨d7, F7⟩ := T.df 7
  obtain ⟨d8, F8⟩ := T.df 8
  obtain ⟨d9, F9⟩ := T.df 9
  obtain ⟨d10, F10⟩ := T.df 10
  obtain ⟨d11, F11⟩ := T.df 11
  obtain ⟨d12, F12⟩ := T.df 12
  obtain ⟨e0, G0⟩ := T.rd 0
  obtain ⟨e1, G1⟩ := T.rd 1
  obtain ⟨e2, G2⟩ := T.rd 2
  obtain ⟨e3, G3⟩ := T.rd 3
  have b1 : ∀ {x q : Str} {ar : Arguments} {bd : List Stmt} {sc : Scope} {f : Addr} {fd : FuncData} {p : Str}, FunD K x q ar bd sc [] [] f fd → (∀ (kV doc pm : Value) (an : Option Addr) (cdv ct a : Value), bindArgs (PySem.W.fnOf x q ar bd sc .none kV doc pm an cdv ct) ⟨[a], []⟩ = pure [(p, a)]) → Binds K fd [p] [] :=
    fun F h => F.bindsN fun kV doc pm an cdv ct us hl => match us, hl with | [a], _ => h kV doc pm an cdv ct a
  have b2 : ∀ {x q : Str} {ar : Arguments} {bd : List Stmt} {sc : Scope} {f : Addr} {fd : FuncData} {p p' : Str}, FunD K x q ar bd sc [] [] f fd → (∀ (kV doc pm : Value) (an : Option Addr) (cdv ct a b : Value), bindArgs (PySem.W.fnOf x q ar bd sc .none kV doc pm an cdv ct) ⟨[a, b], []⟩ = pure [(p, a), (p', b)]) → Binds K fd [p, p'] [] :=
    fun F h => F.bindsN fun kV doc pm an cdv ct us hl => match us, hl with | [a, b], _ => h kV doc pm an cdv ct a b
  have GI : Gd P w K mg base 1 "is_an_integer" _ d0 ["value"] (spIsint K) := ⟨ok_isint F0 T, T.gl "is_an_integer" (by decide), F0.kp, b1 F0 fun _ _ _ _ _ _ _ => rfl⟩
  have ini : Id P w K mg base d3 := by
    refine ⟨ok_init F3 T GI.ok GI.gl GI.kp GI.bd, ?_, ?_⟩
    · obtain ⟨ds, hv, hb⟩ := FunD.binds1 (ps := ["self", "top", "bottom"]) F3 3 1 (by intro z; cases z) rfl fun T kV doc pm an cdv ct us its h1 h2 => match us, its, h1, h2 with | [a, b, c], [d], _, _ => ⟨_, rfl, rfl⟩
      cases hv
      exact hb
    · exact FunD.binds1 (ps := ["self", "top", "bottom"]) F3 2 0 (by intro z; cases z) rfl fun T kV doc pm an cdv ct us its h1 h2 => match us, its, h1, h2 with | [a, b], [d], _, _ => ⟨_, rfl, rfl⟩
  have GR : Gd P w K mg base 4 "as_ratio" _ d2 ["number"] (spAsr K) := ⟨ok_asr F2 T ini, T.gl "as_ratio" (by decide), F2.kp, b1 F2 fun _ _ _ _ _ _ _ => rfl⟩
  have pr : Pr P w K mg base := ⟨⟨e0, ok_top G0 T, b1 G0 fun _ _ _ _ _ _ _ => rfl⟩, ⟨e1, ok_bot G1 T, b1 G1 fun _ _ _ _ _ _ _ => rfl⟩, ⟨_, d2, GR⟩, ⟨d3, ini⟩⟩
  have add : Md P w K mg base 5 (rm K "__add__") d6 ["self", "other"] _ := ⟨ok_add F6 T pr, b2 F6 fun _ _ _ _ _ _ _ _ => rfl⟩
  have mst : Md P w K mg base 1 (rm K "__str__") d11 ["self"] (spTxt K rtxt) := ⟨ok_str F11 T, b1 F11 fun _ _ _ _ _ _ _ => rfl⟩
  exact ⟨⟨_, d0, GI⟩, ⟨_, d1, ok_isnum F1 T ⟨_, d0, GI⟩, T.gl "is_number" (by decide), F1.kp, b1 F1 fun _ _ _ _ _ _ _ => rfl⟩, pr,
    ⟨⟨d6, add⟩, ⟨d7, ok_sub F7 T pr, b2 F7 fun _ _ _ _ _ _ _ _ => rfl⟩, ⟨d8, ok_mul F8 T pr, b2 F8 fun _ _ _ _ _ _ _ _ => rfl⟩, ⟨d9, ok_neg F9 T pr, b1 F9 fun _ _ _ _ _ _ _ => rfl⟩⟩,
    ⟨d4, ok_over F4 T pr, b2 F4 fun _ _ _ _ _ _ _ _ => rfl⟩,
    ⟨⟨e0, ok_top G0 T, b1 G0 fun _ _ _ _ _ _ _ => rfl⟩, ⟨e1, ok_bot G1 T, b1 G1 fun _ _ _ _ _ _ _ => rfl⟩, ⟨e2, ok_sign G2 T, b1 G2 fun _ _ _ _ _ _ _ => rfl⟩, ⟨d11, mst⟩, ⟨d12, ok_rep F12 T, b1 F12 fun _ _ _ _ _ _ _ => rfl⟩⟩,
    ⟨⟨d5, ok_below F5 T pr, b2 F5 fun _ _ _ _ _ _ _ _ => rfl⟩, ⟨d10, ok_eq F10 T, b2 F10 fun _ _ _ _ _ _ _ _ => rfl⟩, ⟨d11, mst⟩⟩,
    ok_total G3 T ⟨⟨d6, add⟩, ⟨d3, ini⟩⟩⟩
end
end K15

set_option maxHeartbeats 4000000
namespace K15
open PySem PySem.Spec PyProof.Rows L2 RtL ErL
section
variable {P : Program} {w : World} {K : Fr} {mg : Str → Option Value}
/-- all defs together -/
theorem law_G (T : TT K mg) : ∃ fd, Binds K fd ["_law_script"] [] ∧ ∀ base : Heap, FnG P w K mg base 10 (He.ga K "law") fd ["_law_script"] (spLaw K) := by
  obtain ⟨d13, F13⟩ := T.df 13
  obtain ⟨d14, F14⟩ := T.df 14
  obtain ⟨d15, F15⟩ := T.df 15
  obtain ⟨d16, F16⟩ := T.df 16
  obtain ⟨d17, F17⟩ := T.df 17
  obtain ⟨d18, F18⟩ := T.df 18
  obtain ⟨d19, F19⟩ := T.df 19
  obtain ⟨d20, F20⟩ := T.df 20
  obtain ⟨d21, F21⟩ := T.df 21
  obtain ⟨d22, F22⟩ := T.df 22
  obtain ⟨d23, F23⟩ := T.df 23
  obtain ⟨d24, F24⟩ := T.df 24
  obtain ⟨d25, F25⟩ := T.df 25
  obtain ⟨d26, F26⟩ := T.df 26
  have bN : ∀ {x q : Str} {ar : Arguments} {bd : List Stmt} {sc : Scope} {f : Addr} {fd : FuncData} {ps : List Str}, FunD K x q ar bd sc [] [] f fd →
      (∀ (kV doc pm : Value) (an : Option Addr) (cdv ct : Value) (us : List Value), us.length = ps.length → bindArgs (PySem.W.fnOf x q ar bd sc .none kV doc pm an cdv ct) ⟨us, []⟩ = pure (ps.zip us)) → Binds K fd ps [] := fun F h => F.bindsN h
  refine ⟨d26, bN F26 fun _ _ _ _ _ _ us hl => match us, hl with | [_], _ => rfl, fun base => ?_⟩
  obtain ⟨gI, gN, pr, ops, ov, gt, cm, tot⟩ := pk (P := P) (w := w) T base
  obtain ⟨dI, ini⟩ := pr.i
  have gPot : PotG P w K mg base := ⟨_, d13, ok_pot F13 T, T.gl "_law_pot" (by decide), F13.kp, bN F13 fun _ _ _ _ _ _ us hl => match us, hl with | [_, _], _ => rfl⟩
  have gDraw : DrawG P w K mg base := ⟨_, d14, ok_draw F14 T, T.gl "_law_draw" (by decide), F14.kp, bN F14 fun _ _ _ _ _ _ us hl => match us, hl with | [_, _], _ => rfl⟩
  have gPick : PickG P w K mg base := ⟨_, d15, ok_pick F15 T gDraw, T.gl "_law_pick" (by decide), F15.kp, bN F15 fun _ _ _ _ _ _ us hl => match us, hl with | [_, _], _ => rfl⟩
  have gLeast : LeastG P w K mg base := ⟨_, d16, ok_least F16 T, T.gl "_law_least" (by decide), F16.kp, bN F16 fun _ _ _ _ _ _ us hl => match us, hl with | [_, _], _ => rfl⟩
  have gWhole : WholeG P w K mg base := ⟨_, d17, ok_whole F17 T gDraw gPick, T.gl "_law_whole_number" (by decide), F17.kp, bN F17 fun _ _ _ _ _ _ us hl => match us, hl with | [_], _ => rfl⟩
  have gFresh : FreshG P w K mg base := ⟨_, d18, ok_fresh F18 gWhole gLeast, T.gl "_law_fresh" (by decide), F18.kp, bN F18 fun _ _ _ _ _ _ us hl => match us, hl with | [_], _ => rfl⟩
  have gRone : RoneG P w K mg base := ⟨_, d19, ok_rone F19 T gDraw gWhole gFresh ini, T.gl "_law_right_one" (by decide), F19.kp, bN F19 fun _ _ _ _ _ _ us hl => match us, hl with | [_, _, _], _ => rfl⟩
  have gDivd : DivdG P w K mg base := ⟨_, d20, ok_divd F20 T ov, T.gl "_law_divided" (by decide), F20.kp, bN F20 fun _ _ _ _ _ _ us hl => match us, hl with | [_, _], _ => rfl⟩
  have gDone : DoneG P w K mg base := ⟨_, d21, ok_done F21 T gDraw gLeast gDivd ops, T.gl "_law_done" (by decide), F21.kp, bN F21 fun _ _ _ _ _ _ us hl => match us, hl with | [_, _, _, _, _], _ => rfl⟩
  have gIsp : IspG P w K mg base := ⟨_, d22, ok_isp F22 T gt, T.gl "_law_is_pair" (by decide), F22.kp, bN F22 fun _ _ _ _ _ _ us hl => match us, hl with | [_, _], _ => rfl⟩
  have gComp : CompG P w K mg base := ⟨_, d23, ok_comp F23 T gN cm, T.gl "_law_compared" (by decide), F23.kp, bN F23 fun _ _ _ _ _ _ us hl => match us, hl with | [_, _], _ => rfl⟩
  have gTotd : TotdG P w K mg base := ⟨_, d24, ok_totd F24 T gLeast gIsp tot, T.gl "_law_totalled" (by decide), F24.kp, bN F24 fun _ _ _ _ _ _ us hl => match us, hl with | [_, _], _ => rfl⟩
  have gRight : RightG P w K mg base := ⟨_, d25, ok_right F25 T gDraw gFresh gRone gDone gIsp gComp gTotd ini gt.rp, T.gl "_law_right" (by decide), F25.kp, bN F25 fun _ _ _ _ _ _ us hl => match us, hl with | [_], _ => rfl⟩
  exact ok_law F26 T gRight gPot
end
end K15

set_option maxHeartbeats 0
namespace K15
open PySem PySem.Spec PyProof.Rows L2 HandSHeadRun PySem.W
theorem run_obs (w : World) : (wholeF (fun p => stepQ (denQ tabQ) p w) fenceQ 20000 R.prog).map (fun x => obsX (frX (getT x.2))) = some valX := by
  kernel_rfl
end K15

set_option maxHeartbeats 0
namespace K15
open PySem PySem.Spec PyProof.Rows L2 HandSHeadRun PySem.W
theorem run_look (w : World) : (wholeF (fun p => stepQ (denQ tabQ) p w) fenceQ 20000 R.prog).map (fun x => (looksF R.prog x.1.heap x.2.abs, seenQ (view R.prog [0, 26]) names (importedModules R.prog.main.body) (fun s => xlAt (view R.prog [0, 26]) [] s && recOk R.toRowW.records s) x.2.abs)) = some (true, openGood (view R.prog [0, 26]) names) := by
  kernel_rfl
end K15

set_option maxHeartbeats 0
namespace K15
open PySem PySem.Spec PyProof.Rows L2 RtL ErL HandSHeadRun PySem.W
theorem run (w : World) : RunEqI R (view R.prog [0, 26]) hk ob 20000 names w := by
  have a := run_look w
  have b := run_obs w
  unfold RunEqI
  cases e : wholeF (fun p => stepQ (denQ tabQ) p w) fenceQ 20000 R.prog with
  | none =>
    rw [e] at a
    cases a
  | some x =>
    rw [e] at a b
    have a' := Option.some.inj a
    have b' : ob x.2 = valX := Option.some.inj b
    show some (_, _, ob x.2) = some (true, openGood (view R.prog [0, 26]) names, valX)
    rw [b']
    have a1 := congrArg Prod.fst a'
    have a2 := congrArg Prod.snd a'
    exact congrArg some (Prod.ext a1 (Prod.ext a2 rfl))
end K15
open PySem PySem.W PySem.Calls PyProof.Rows
theorem PySem.Challenge.cw_slotsums_k15_whole_ratios_in_chains_holds : PySem.Challenge.rw_slotsums_k15_whole_ratios_in_chains.Holds := by
  w_on; o_law
  refine HandSHeadRun.head_imp (r := K15.R) (q := view K15.R.prog [0, 26]) (H := K15.hk) (ob := K15.ob) (M := 20000) (loose := K15.names) (d := HandSHeadRun.topDef K15.R.prog 26) (kwd := []) K15.ob_eq
    K15.run (by kernel_rfl) (by kernel_rfl) (by kernel_rfl) (by rfl) (by first | assumption | decide +kernel) (by decide +kernel) ⟨rfl, rfl, rfl, rfl, rfl, by decide +kernel⟩ ?hw ?hc
  case hw => w_witness2
  case hc =>
    refine Att.attach_call (l := PySem.Challenge.rw_slotsums_k15_whole_ratios_in_chains) (n := 63) rfl (by kernel_rfl) fun w s0 st mg mb fl o pm cd doc sc us zs G Y ho hd hcd hmg here iz lz ng => ?_
    obtain ⟨K, kin, c⟩ := Y
    have T := K15.tt_of kin G.T.g c
    obtain ⟨fd, bd, F⟩ := K15.law_G (P := (PySem.Challenge.rw_slotsums_k15_whole_ratios_in_chains).prog) (w := w) T
    have e1 : (HandSHeadRun.topDef K15.R.prog 26).name = ("law" : PySem.Str) := by kernel_rfl
    have e2 := (T.gl "law" (by decide)).symm.trans ((congrArg mg e1).symm.trans hmg)
    cases e2
    exact K15.lawG kin G.T.g G.T.b G.T.builtins G.T.nolimit ng here iz (Nat.le_trans lz (by decide)) ⟨rfl, by decide, by decide⟩ (fun b _ _ => F b) bd fun H q => ⟨sc, zs, rfl, q, lz, fun _ => rfl⟩

